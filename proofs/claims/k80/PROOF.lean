import PyProof.Rows.All
import Wide.All
import OpenK.AllK
import Wide.FinOn
import Lean
import PyProof.EqAt
import PyProof.EqKinds
import PyProof.TupleCall
import PyProof.NeKinds
import PyProof.WalksEnum
import PyProof.StrWalks
import PyProof.ExcAttrAll.ValueError
import PyProof.ZipIter
import KE.KRevIter
import PyProof.ListNew
import PyProof.WalksMore
import PyProof.ReprLoop
import PyProof.FactsAll.list
import PyProof.CollectIter
import PyProof.TupleOfGen
import PyProof.Draws
import PyProof.EnumMake
import PyProof.SeqI3
import KE.KMinBuiltin
import PyProof.SetRoads
import PyProof.CollectWalk
import KE.KDictSum
import PyProof.AttrMiss
import PyProof.IsiH_tuple
import KE.KDictOf
import PyProof.FitsBits
import PyProof.SliceList
import PyProof.InstFacts
import PyProof.Rows.StrNews2
import PyProof.StrBlockH
import PyProof.CallStr
import KE.KIntText
import PyProof.Rows.RuleB_pow
import KE.KSortTup
import PyProof.ReprRoads
import KE.KLam
import PyProof.MaxThree
import PyProof.DictRoadsH
import PyProof.FactsAll.dict
import PyProof.DictItems
import PyProof.DictValues
import PyProof.StrLawsRepr
import PyProof.AutoListH
import PyProof.FactsAll.list_4
import PySem.Challenge.RW_worthkinds_k80_whole_again
open PySem renaming wpAny_bind->a7,wpAny_pure->au,wpAny_truthy_bool->bi,wpAny_field->bp,wpAny_newObj_type->bw,mem_of_lookup->bz,wpAny_callSpecial?_slot->bE,wpAny_mono->bF,wpAny_Call_Name_kw->bG,wpAny_setField_rec->bH,wpAny_seqItems->bQ,codeAny_builtin->bS,wpAny_call_entry->bT,wpAny_holding->bW,wpAny_pyIter_list->cj,wpAny_specialOf->cy,wpAny_passesOwn->cz,sizeLine_eq->cC,codeAny_mono->cD,wpAny_of_eq->cF,plainId_quiet->cH,wpAny_tryCatch->cM,wpAny_execs_nil->c_,wpAny_attempt->d7,call_meets->dh,wpAny_standAt->dz,wpAny_call->dF,wpAny_letGo->dJ,wpAny_rule->dZ,Within->fR,seqSlot_of->iW,call->lC
open PySem.W renaming Frag->aa,kitOne->aV,findIn->bo,keepIn->bx,kia_one->bJ,mg_of->bK,fnOf->bL,nsIn->cf,instObj->cW,excIn->d9,emptyDict->de,callWith_K->dG,codeIn->dM,tabObj->dW,methodCall_KW->dX,plainGet->d_,codeHdIn->eB,plainGet_of->eI,lookIn->eM,hasDictIn->eZ,isFn->fT,cellsFrom_some->fU,takerIn->hJ,mroIn->im,plainOver->iC,specialIn->iE,kitx_list->iF,kitx_dict->iG,handedIn->iS,makesIn->l9,takesIn->la
open List renaming replicate->ac,mem_cons_of_mem->ae,length_map->ah,getElem?_map->aj,getElem?_eq_some_iff->ak,getElem?_eq_getElem->am,mem_cons_self->aq,getElem?_set_ne->av,length_set->aw,length_cons->ax,mem_cons->ay,length_append->aB,size_toArray->aD,getElem?_append_right->aE,getElem?_replicate->aF,getElem?_append_left->aG,getElem?_set_self->aH,all_eq_true->aI,mem_append_right->aJ,map_cons->aK,mem_map->aO,mem_singleton->aQ,lookup_cons->aR,length_replicate->aS,mem_of_getElem?->aT,getElem?_eq_none->aU,append_nil->aW,length_singleton->aX,range->aZ,map_replicate->ba,getElem?_cons_succ->bg,mem_append->bh,append_assoc->bj,mem_range->bn,map_map->bv,replicate_succ->bA,not_mem_nil->bM,length_range->bO,flatMap_cons->bP,eq_of_mem_replicate->bR,length_eq_zero_iff->bU,reverse_cons->bZ,length_reverse->c8,map_append->c9,map_nil->ce,mem_append_left->cg,eq_nil_of_length_eq_zero->ci,nil_append->ck,length_nil->cq,map_congr_left->cu,getElem?_zip_eq_some->cx,of_mem_zip->cA,getElem?_range->cI,prefix_refl->cJ,mem_flatMap->cP,range_succ_eq_map->cR,mem_replicate->cV,mem_filter->cY,nodup_cons->d0,all_cons->d6,mem_iff_getElem?->db,ext_getElem?->dg,length_drop->dq,cons_append->du,filterMap_cons->dy,getElem?_take_of_lt->dB,mem_filterMap->dE,lookup->dH,take_of_length_le->dS,length_take->eA,sum_cons->eC,foldl->eQ,drop_zero->eT,drop_eq_getElem_cons->eX,flatten_cons->f6,idxOf_lt_length_iff->fj,getElem?_set_self'->fO,getElem_mem->fP,any_eq_true->fQ,length_eq_one_iff->g7,length_zip->hU,getElem?_reverse->hV,contains_iff_mem->hW,getElem?_zipIdx->i5,getElem_toArray->i7,getElem?_of_mem->ia,reverse_reverse->ie,mem_of_mem_take->ig,take_succ_cons->ik,drop_succ_cons->il,getElem_idxOf->iu,length_zipIdx->iA,zip_cons_cons->iB,all_map->iK,getElem_inj->iR,drop_length->iX,map_reverse->k_,range'->l5,forIn_cons->lm,range_succ->lw
open PySem.Heap renaming get?_push_of_some->ag,get?_push_size->ao,lt_size->az,size_push->bX,get?_update_other->b_,SameBut->cB,FlyingW->dP,ExtBut->i6
open Bool renaming and_eq_true->ai,false_ne_true->aN,false_eq_true->a_,not_true->fo,true_and->io,eq_iff_iff->ly
open Nat renaming le_refl->ar,le_trans->aC,le_add_right->aL,ne_of_lt->aM,lt_of_lt_of_le->aP,zero_le->bu,lt_irrefl->bI,lt_of_le_of_lt->cb,one_mul->cG,le_mul_of_pos_right->cO,mul_assoc->d8,lt_succ_of_lt->df,mul_le_mul->dj,pow_le_pow_right->dk,lt_succ_self->dm,mul_comm->dr,ne_of_gt->dL,add_comm->dO,mul_le_mul_right->eD,min_eq_left->eG,add_le_add_left->eJ,pos_of_ne_zero->eV,le_succ->e_,mul_pos->f7,add_sub_cancel_left->fN,le_of_lt->fS,succ_mul->fW,sub_self->f_,pow_succ->g_,zero_add->h9,eq_zero_or_pos->ix,le_of_eq->iD,lt_or_ge->iO,lt_succ_of_le->iP,lt_of_succ_lt->iQ,succ_ne_self->iZ,succ_ne_zero->i_,add_mul->l8,not_lt_zero->lu,min_le_left->lx
open Option.some renaming inj->aA
open Ne renaming symm->aY
open PySem.F renaming excBase_ValueError->bb,plain_min_loop->bN,plainAttrs_list->bV,called_set->cU,slot_zip_next->da,args_tuple_add_2->dC,entry_tuple_add->dI,slot_tuple_add->dN,slot_tuple_iterator_next->dR,entry_min_loop->dU,slot_bool_hash->dY,slot_int_rmul->eF,slot_list_reverse->eY,slot_list_append->f9,type_list_append->fg,slot_tuple_mul->fG,attr_ValueError->fJ,args_zip_next_1->fK,slot_list_count->fL,slot_list_index->fM,entry_zip_next->fY,called_tuple->i8,args_object_init_2->i9,args_int_rmul_2->iJ,slot_tuple_rmul->iL,plain_tuple_new->iM,slot_int_index->iU,entry_int_rmul->iV,fills_int_mul->lg
open PyProof.Rows renaming callWith_type1->bc,slot_tuple_getitem->bq
open PySem.Str renaming ofString->bf
open False renaming elim->bC
open Int renaming toNat_natCast->bY,eq_ofNat_of_zero_le->cN,zero_add->eK,emod_lt_of_pos->iz,le_refl->l7,natCast_mul->ll,emod_nonneg->lq
open PySem.AutoSeq1 renaming wpAny_loadPart'->cK
open PySem.SeqAt renaming EqAt->cQ,RcNeAt->dQ,RcAt->fX
open Array renaming getElem?_eq_none->cS,length_toList->eH,append_assoc->eU,getD->lD
open PySem.Around renaming under_plainId->di,frames_deeper->hZ
open PySem.Builtin.Slice renaming slicePlaces->dw,sliceAdjust->eW
open Option renaming isSome_iff_exists->dA,some_ne_none->ij,getD_none->iT,map->lE
open PySem.Builtin.List renaming listTooLong->dD,listSameRef->fv
open PySem.Calls renaming Name_function_global->eL,spliced_cons->eN,callWith_builtin->fV,evalArgs_plain->h_,spliced_nil->iI
open PySem.Builtin.Tuple renaming tupleItemsOf->eO,tupleTooMany->eR,tupleExact->fA
open PySem.Walks renaming list->eS
open PySem.PassesOwn renaming leaving->f8,never->lA
open PyProof.Rows.KeyOrd renaming klt_of_klt_of_kle->fB,kle_of_klt->iN
open PySem.Builtin.Range renaming rangeSize->fE
open PyProof.Rows.F renaming entry_set_update_loop->fH
open Nat.succ renaming inj->fZ
open PySem.Heap.SameBut renaming update->ii
open PySem.SeqAt.EqAt renaming of_refs->ip,same->lh
open PySem.Code renaming quiet_builtin->iq,isFrame->iH
open PySem.Obj renaming data_mapFields->ir,mapSeq->lB
open PySem.WalksT renaming enumerate->iY
open Classical renaming skolem->j_
open PySem.Shared renaming heap->l6
set_option hygiene false
local macro_rules|`(00)=>`(by lia)|`(01)=>`(cE (.int 1))|`(02)=>`(zd i3 (vE 0) (cE (.int 0)))|`(03)=>`(by decide)|`(04)=>`(vE 0)|`(05)=>`(model X.prog X.w)|`(06)=>`(z9 (vE 1) (zj))|`(07)=>`(tx.z _ (by kernel_rfl))|`(08)=>`(cE (.int 2))|`(09)=>`(by rfl)|`(000)=>`(Addr×Obj)|`(001)=>`(model prog w)
noncomputable section
set_option maxHeartbeats 4000000
set_option Elab.async false
set_option linter.all false
set_option compiler.extract_closed false
set_option maxRecDepth 100000
namespace L2
open PySem PySem.Spec PyProof.Rows
noncomputable abbrev mF:=Sum Bool Str
def KW:mF->Value->Bool
 |.inl k,.bool b=>b==k
 |.inl _,_=>false
 |.inr x,v=>Value.isStrOf x v
def AR (w:World):mF->Int
 |.inl k=>hashInt (if k then 1 else 0)
 |.inr x=>hashStr w x
def Z5:∀{k:mF} {v:Value},KW k v=true->(∃(i:Bool) (t:Tok),k=Sum.inl i/\v=Value.bool i)\/(∃x t,k=Sum.inr x/\v=Value.str x t)
 |.inl i,v,h=>by
  cases v<;>first|exact .inl ⟨i,0,rfl,congrArg _ (eq_of_beq h)⟩|cases h
 |.inr x,v,h=>by
  obtain⟨t,e⟩:=Value.isStrOf_shape h;exact .inr ⟨x,t,rfl,e⟩
def KY (a b:Bool):decide ((Sum.inl a:mF)=Sum.inl b)=(a==b):=by
 by_cases e:a=b
 ·subst e;simp
 ·have h:¬(Sum.inl a:mF)=Sum.inl b:=λq=>e (Sum.inl.inj q);rw[decide_eq_false h];exact(beq_eq_false_iff_ne.mpr e).symm
def KZ (a b:Str):decide ((Sum.inr a:mF)=Sum.inr b)=decide (a=b):=by
 by_cases e:a=b
 ·simp
 ·have h:¬(Sum.inr a:mF)=Sum.inr b:=λq=>e (Sum.inr.inj q);rw[decide_eq_false h,decide_eq_false e]
def g6 (a:Bool)(b:Str):decide ((Sum.inl a:mF)=Sum.inr b)=false:=decide_eq_false (λq=>nomatch q)
def g9 (a:Str)(b:Bool):decide ((Sum.inr a:mF)=Sum.inl b)=false:=decide_eq_false (λq=>nomatch q)
def Y8 {prog:Program}{w:World}{A:Around}{E:Value->Shared->Prop}{s:Shared}{b:Bool}{Q:Int->Shared->Prop}(h:Q (hashInt (if b then 1 else 0)) {s with toks:=s.toks+1}):wpAny 001 A (pyHash (.bool b)) Q E s:=by
 have hT:s.TypeIs (.bool b) "bool":=rfl;unfold pyHash;have a:[Value.bool b].any Value.onHeap=false:=rfl;refine a7 ?_;rw[cRoomFor,if_neg (by rw[a];exact aN)];refine au ?_
 refine a7 (cy hT dY.lookup ?_);show wpAny _ _ (if (some (Value.builtin "int.__hash__")==some Value.none)=true then _ else _) Q E s
 rw[if_neg (by rw[beq_builtin_none];exact aN)]
 refine a7 (cy hT dY.lookup ?_);show wpAny _ _ (callSpecialIfBoundUnlessNone? (.bool b) "__hash__" _>>=_) Q E s;refine a7 (wpAny_callSpecialIfBoundUnlessNone?_slot hT dY
  (bT dY hT F.entry_int_hash
   (show wpAny _ _ (do ret (←mkInt (rawHash (if b then 1 else 0)))) _ _ s from by cases b<;>refine wpAny_ret_mkInt ?_<;>exact au h) (F.args_int_hash_1 _)))
def Y9 (prog:Program)(w:World):PySem.KeyKind prog w mF where
 is:=KW
 hash:=AR w
 inj:=λv a b o f=>by
  rcases Z5 o with ⟨i,t,rfl,rfl⟩|⟨x,t,rfl,rfl⟩
  ·rcases Z5 f with ⟨j,u,rfl,e⟩|⟨y,u,rfl,e⟩
   ·injection e with e1;rw[e1]
   ·exact nomatch e
  ·rcases Z5 f with ⟨j,u,rfl,e⟩|⟨y,u,rfl,e⟩
   ·exact nomatch e
   ·injection e with e1 _;rw[e1]
 byValue:=λk v h=>by
  rcases Z5 h with ⟨i,t,rfl,rfl⟩|⟨x,t,rfl,rfl⟩<;>rfl
 pyHash:=λd h=>by
  rcases Z5 d with ⟨i,t,rfl,rfl⟩|⟨x,t,rfl,rfl⟩
  ·exact Y8 h
  ·exact wpAny_pyHash_str h
 eqBool:=λl d h=>by
  rcases Z5 l with ⟨i,t,rfl,rfl⟩|⟨x,t,rfl,rfl⟩
  ·rcases Z5 d with ⟨j,u,rfl,rfl⟩|⟨y,u,rfl,rfl⟩
   ·rw[KY]at h;exact cQ.bool_bool i j _ _ _ _ h
   ·rw[g6]at h;exact cQ.bool_str i y u _ _ _ _ h
  ·rcases Z5 d with ⟨j,u,rfl,rfl⟩|⟨y,u,rfl,rfl⟩
   ·rw[g9]at h;exact cQ.str_bool x t j _ _ _ _ h
   ·rw[KZ]at h;exact wpAny_eqBool_str h
 «strs»:=λk x t v h=>by
  rcases Z5 h with ⟨i,u,rfl,e⟩|⟨y,u,rfl,e⟩
  ·exact nomatch e
  ·injection e with e1 _;subst e1;cases v<;>rfl
end L2
namespace L2
open PySem PySem.Spec PyProof.Rows
inductive V where
 |non|bl (b:Bool)|int (i:Int)|str (x:Str)|byt (b:Array UInt8)|flt (b:UInt64)|ref (a:Addr)|ty (n:String)
 deriving DecidableEq
noncomputable def Z8:V->Value->Prop
 |.non,u=>u=Value.none
 |.bl b,u=>u=Value.bool b
 |.int i,u=>∃t,u=Value.int i t
 |.str x,u=>∃t,u=Value.str x t
 |.byt b,u=>∃t,u=Value.bytes b t
 |.flt b,u=>∃t,u=Value.float b t
 |.ref a,u=>u=Value.ref a
 |.ty n,u=>u=Value.type n
abbrev zZ:List V->List Value->Prop:=Paired Z8
theorem zZ.length {xs:List V}{a:List Value}(r:zZ xs a):xs.length=a.length:=Paired.length r
theorem zZ.get:∀{xs:List V} {a:List Value} {i:Nat} {x:V},zZ xs a->xs[i]?=some x->∃u,a[i]?=some u/\Z8 x u
 |_,_,_,_,.nil,e=>by simp at e
 |_,_,0,_,.cons r _,e=>by simp at e;subst e;exact⟨_,rfl,r⟩
 |_,_,i+1,x,.cons _ t,e=>by
  obtain⟨u,f,d⟩:=zZ.get t (by simpa using e)
  exact⟨u,by simpa using f,d⟩
theorem zZ.append:∀{xs d:List V} {a f:List Value},zZ xs a->zZ d f->zZ (xs++d) (a++f)
 |_,_,_,_,.nil,s=>s
 |_,_,_,_,.cons r t,s=>.cons r (zZ.append t s)
theorem zZ.take:∀{xs:List V} {a:List Value} (n:Nat),zZ xs a->zZ (xs.take n) (a.take n)
 |_,_,0,_=>.nil
 |_,_,_+1,.nil=>.nil
 |_,_,n+1,.cons r t=>.cons r (zZ.take n t)
theorem zZ.drop:∀{xs:List V} {a:List Value} (n:Nat),zZ xs a->zZ (xs.drop n) (a.drop n)
 |_,_,0,r=>r
 |_,_,_+1,.nil=>.nil
 |_,_,n+1,.cons _ t=>zZ.drop n t
def vw:Option V->Option Value->Prop
 |some v,some u=>Z8 v u
 |none,none=>True
 |_,_=>False
def KV {a:Type}:List (a×V)->List (a×Value)->Prop:=Paired λ(p:a×V) (q:a×Value)=>p.1=q.1/\Z8 p.2 q.2
def kV:mF->V
 |.inl i=>.bl i
 |.inr x=>.str x
inductive HO where
 |lst (xs:List V)
 |tup (xs:List V)
 |dK (kvs:List (mF×V))|dT (kvs:List (List mF×Addr×V))
 |set (S:Int->Bool) (n:Nat)
 |ins (C dx:Addr) (fs:List (Str×V))
 |own (x:Addr)
 |xd (fs:List (Str×V))
 |met (f x:Addr)
 |rng (lo hi:Int)
 |frz (o:Obj) (u:HO)
 |tbl (ps:Array Value) (q:Str)
 |ext (φ:Heap->Prop)
noncomputable abbrev Hp:=Addr->Option HO
def lf (H:Hp)(a:Addr)(o:HO):Hp:=λb=>if b=a then some o else H b
def zw {H:Hp}{a:Addr}{o:HO}:lf H a o a=some o:=by unfold lf;rw[if_pos rfl]
def zu {H:Hp}{a b:Addr}{o:HO}(h:b≠a):lf H a o b=H b:=by unfold lf;rw[if_neg h]
def zG {H:Hp}{a b:Addr}{o:HO}(h:H a=some o)(h':H b=none):a≠b:=by
 intro e;subst e;rw[h]at h';cases h'
noncomputable def ITN (h:Heap)(a:Addr)(d:Array Value):Prop:=IsTup h a d/\((∃i t,d[0]?=some (Value.int i t))\/∃o,h.get? a=some o/\o.dict=none)
theorem ITN.new (h:Heap)(a:Array Value):ITN (h.push {cls:=.type "tuple",data:=.seq a}) h.objs.size a:=⟨IsTup.new h a,.inr ⟨_,ao _ rfl,rfl⟩⟩
section
variable (P:Program)(w:World)
def Zd (H:Hp)(h:Heap)(a:Addr):HO->Prop
 |.lst xs=>xs.length<=sizeLine/\∃(d:List Value) (n:Nat),zZ xs d/\h.get? a=some {cls:=.type "list",data:=.seq d.toArray n}
 |.tup xs=>xs.length<=sizeLine/\∃d:List Value,zZ xs d/\ITN h a d.toArray
 |.dK j=>j.length<=sizeLine/\(a==sysModules)=false/\∃vs,KV j vs/\h.DictOf (Y9 P w) a vs
 |.dT j=>j.length<=sizeLine/\(a==sysModules)=false/\∃xs:List (List mF×Addr×Value),
   Paired (λ(p:List mF×Addr×V) (q:List mF×Addr×Value)=>p.1=q.1/\H q.2.1=some (.tup (p.1.map kV))/\Z8 p.2.2 q.2.2/\p.2.1=q.2.1) j xs/\
   ∃o I Q,h.get? a=some o/\o.ExactDict/\o.data=.dict I Q/\I.toList=xs.map (entryOfKey (tupleKind (Y9 P w)))/\(xs.map (·.1)).Nodup
 |.set S n=>h.SetOf (intKind P w) a S n
 |.ins C l fs=>H l=some (.own a)/\fs.length<=1000/\l≠a/\h.get? a=some (cW C l)/\
   ∃k,h.Ns1 l k/\(∀f,vw (fs.lookup f) (k f))/\fR k (fs.map (·.1))
 |.own _=>∃o,h.get? a=some o
 |.xd fs=>∃k,h.Ns1 a k/\∀f,vw (fs.lookup f) (k f)
 |.rng lo hi=>∃t u v,h.get? a=some {cls:=.type "range",data:=.fields #[.int lo t,.int hi u,.int 1 v]}
 |.frz o u=>h.get? a=some o/\Zd H h a u
 |.tbl B q=>∃i:Array Value,h.get? a=some {cls:=.none,data:=.fields (B++i)}/\TriplesOk (B++i).toList/\∀p D,codeAmong p (B++i).toList=some D->∃c J vs t,D=.ref c/\H c=some (.frz J (.own c))/\J.data=.fields vs/\vs[1]?=some (.str q t)
 |.met f x=>h.get? a=some (PySem.W.methodObj (.ref f) (.ref x))
 |.ext y=>y h/\(∃o,h.get? a=some o)/\∀N G:Heap,y N->(∀o,N.get? a=some o->G.get? a=some o)->y G
def HOk (H:Hp)(h:Heap):Prop:=∀a o,H a=some o->Zd P w H h a o
end
section
variable {P:Program}{w:World}{H H':Hp}{h h':Heap}{a:Addr}{o:HO}
theorem Zd.lt (x:Zd P w H h a o):a<h.objs.size:=by
 cases o with
 |lst xs=>obtain⟨_,_,_,_,e⟩:=x;exact az e
 |tup xs=>obtain⟨_,_,_,p,_⟩:=x;exact p.lt
 |dK d=>obtain⟨_,_,_,_,o,_,_,e,_⟩:=x;exact az e
 |dT d=>obtain⟨_,_,_,_,o,_,_,e,_⟩:=x;exact az e
 |set S n=>obtain⟨o,_,_,_,e,_⟩:=x;exact az e
 |ins C j fs=>obtain⟨_,_,_,e,_⟩:=x;exact az e
 |own y=>obtain⟨_,e⟩:=x;exact az e
 |xd fs=>obtain⟨_,⟨_,_,_,e,_⟩,_⟩:=x;exact az e
 |rng lo hi=>obtain⟨_,_,_,e⟩:=x;exact az e
 |frz ob u=>obtain⟨e,_⟩:=x;exact az e
 |tbl k q=>obtain⟨_,e,_⟩:=x;exact az e
 |met f y=>exact az (x)
 |ext i=>obtain⟨_,⟨_,e⟩,_⟩:=x;exact az e
theorem Paired.mapP {k j:Type}{F G:k->j->Prop}:∀{d:List k} {i:List j},Paired F d i->(∀a b,F a b->G a b)->Paired G d i
 |_,_,.nil,_=>.nil
 |_,_,.cons r t,f=>.cons (f _ _ r) (Paired.mapP t f)
def Zd.stay (x:Zd P w H h a o)(k:∀b u,(b=a\/H b=some (.own a))->h.get? b=some u->h'.get? b=some u)
  (N:∀b,H b=some (.own a)->H' b=some (.own a)) (Q:∀b xs,H b=some (.tup xs)->H' b=some (.tup xs)) (X:∀b o u,H b=some (.frz o u)->H' b=some (.frz o u):=by exact λ_ _ _ q=>q):Zd P w H' h' a o:=by
 induction o with
 |lst xs=>obtain⟨z,l,n,r,e⟩:=x;exact⟨z,l,n,r,k _ _ (.inl rfl) e⟩
 |tup xs=>obtain⟨z,l,r,⟨ob,e,c⟩,q⟩:=x;exact⟨z,l,r,⟨ob,k _ _ (.inl rfl) e,c⟩,q.imp id λ⟨o2,B,J⟩=>⟨o2,k _ _ (.inl rfl) B,J⟩⟩
 |dK G=>obtain⟨z,y,vs,r,ob,i,j,e,c⟩:=x;exact⟨z,y,vs,r,ob,i,j,k _ _ (.inl rfl) e,c⟩
 |dT G=>
  obtain⟨z,y,xs,r,ob,i,j,e,c⟩:=x;exact⟨z,y,xs,Paired.mapP r λp q z=>⟨z.1,Q _ _ z.2.1,z.2.2⟩,ob,i,j,k _ _ (.inl rfl) e,c⟩
 |set S n=>obtain⟨ob,i,j,t,e,c⟩:=x;exact⟨ob,i,j,t,k _ _ (.inl rfl) e,c⟩
 |ins C dx fs=>
  obtain⟨d,z,Z,e,D,⟨od,i,j,B,c⟩,r⟩:=x;exact⟨N _ d,z,Z,k _ _ (.inl rfl) e,D,⟨od,i,j,k _ _ (.inr d) B,c⟩,r⟩
 |own y=>obtain⟨ob,e⟩:=x;exact⟨ob,k _ _ (.inl rfl) e⟩
 |xd fs=>obtain⟨D,⟨od,i,j,e,c⟩,r⟩:=x;exact⟨D,⟨od,i,j,k _ _ (.inl rfl) e,c⟩,r⟩
 |rng lo hi=>obtain⟨t,u,v,e⟩:=x;exact⟨t,u,v,k _ _ (.inl rfl) e⟩
 |frz ob u U=>obtain⟨e,q⟩:=x;exact⟨k _ _ (.inl rfl) e,U q⟩
 |tbl ps q=>
  obtain⟨m,e,tr,al⟩:=x;exact⟨m,k a _ (.inl rfl) e,tr,λp I z=>let ⟨c,oc,vs,t,e1,B,e3⟩:=al p I z;⟨c,oc,vs,t,e1,X _ _ _ B,e3⟩⟩
 |met f y=>
  have e:=x;exact k a _ (.inl rfl) e
 |ext φ=>obtain⟨p,⟨o,e⟩,st⟩:=x;exact⟨st _ _ p λo q=>k _ _ (.inl rfl) q,⟨o,k _ _ (.inl rfl) e⟩,st⟩
theorem HOk.lt (x:HOk P w H h)(e:H a=some o):a<h.objs.size:=(x a o e).lt
def HOk.fresh (x:HOk P w H h)(e:h.objs.size<=a):H a=none:=by
 cases q:H a with
 |none=>rfl
 |some u=>exact absurd (aP (x.lt q) e) (bI _)
def HOk.kept (x:HOk P w H h)(k:∀b u,h.get? b=some u->h'.get? b=some u):HOk P w H h':=λa o e=>
 (x a o e).stay (λb u _ q=>k b u q) (λ_ q=>q) λ_ _ q=>q
def HOk.laid (x:HOk P w H h)(k:∀b u,h.get? b=some u->h'.get? b=some u)(hp:h.objs.size<=a)(new:Zd P w (lf H a o) h' a o):HOk P w (lf H a o) h':=λb u e=>by
 have hn:=x.fresh hp
 by_cases d:b=a
 ·subst d;rw[zw]at e;cases e;exact new
 ·rw[zu d]at e;exact(x b u e).stay (λc v _ q=>k c v q) (λc q=>by rw[zu (zG q hn)];exact q) (λc xs q=>by rw[zu (zG q hn)];exact q) λc o u q=>by rw[zu (zG q hn)];exact q
end
def Rd (H:Hp)(a:Addr)(u:HO):Prop:=H a=some u\/∃o,H a=some (.frz o u)
def Rd.ok {P:Program}{w:World}{H:Hp}{h:Heap}{a:Addr}{u:HO}(r:Rd H a u)(x:HOk P w H h):Zd P w H h a u:=by
 rcases r with r|⟨o,r⟩
 ·exact x a u r
 ·obtain⟨_,q⟩:=x a _ r;exact q
noncomputable def tR:Option HO->Prop
 |some (.lst _)=>True
 |some (.dK _)=>True
 |some (.dT _)=>True
 |some (.set _ _)=>True
 |some (.ins _ _ _)=>True
 |some (.ext _)=>True
 |_=>False
section
variable {P:Program}{w:World}{H:Hp}{h h':Heap}{x e:Addr}{o':HO}
def HOk.write (ok:HOk P w H h)(f:tR (H x))(B:e=x\/H e=some (.own x))(k:∀b u,b≠e->h.get? b=some u->h'.get? b=some u)(p:∃u,h'.get? e=some u)
  (new:Zd P w (lf H x o') h' x o'):HOk P w (lf H x o') h':=λb u q=>by
 have d:∀c y,H c=some (.own y)->c≠x:=λc y r z=>by subst z;rw[r]at f;exact f
 have i:∀c xs,H c=some (.tup xs)->c≠x:=λc xs r z=>by subst z;rw[r]at f;exact f
 by_cases l:b=x
 ·subst l;rw[zw]at q;cases q;exact new
 ·rw[zu l]at q
  by_cases a:b=e
  ·have D:H b=some (.own x):=by
    rcases B with z|z
    ·exact absurd (a.trans z) l
    ·rw[a];exact z
   rw[q]at D;cases D;obtain⟨v,G⟩:=p;exact⟨v,by rw[a];exact G⟩
  ·refine(ok b u q).stay (λc v j r=>k c v ?_ r) (λc r=>by rw[zu (d c b r)];exact r) (λc xs r=>by rw[zu (i c xs r)];exact r) λc o u r=>by rw[zu (λz=>by subst z;rw[r]at f;exact f)];exact r
   rcases j with rfl|j
   ·exact a
   ·rintro rfl
    rcases B with z|z
    ·exact d c b j z
    ·rw[j]at z;cases z;exact l rfl
end
structure Un (fs ex:List Addr) (H H':Hp) (h h':Heap):Prop where
 keep:∀b o,h.get? b=some o->H b=none->b∉fs->b∉ex->h'.get? b=some o
 slot:∀b o,h.get? b=some o->H b=none->b∈fs->b∉ex->∃sl,h'.get? b=some {o with slots:=sl}
 free:∀b o,h.get? b=some o->H b=none->b∉ex->H' b=none
 there:∀b o,h.get? b=some o->b∉ex->∃o',h'.get? b=some o'
 tups:∀b xs,H b=some (.tup xs)->H' b=some (.tup xs)
 frzs:∀b o u,H b=some (.frz o u)->H' b=some (.frz o u)
 tbls:∀b ps q,H b=some (.tbl ps q)->H' b=some (.tbl ps q)
section
variable {fs fs' ex ex':List Addr}{H H1 H2:Hp}{h h1 h2 h':Heap}{a x e:Addr}{o:HO}
def Un.any (u:Un fs ex H H1 h h1){b:Addr}{ob:Obj}(q:h.get? b=some ob)(n:H b=none)(d:b∉ex):∃i,h1.get? b=some {ob with slots:=i}:=by
 by_cases f:b∈fs
 ·exact u.slot b ob q n f d
 ·exact⟨ob.slots,u.keep b ob q n f d⟩
def Un.kept (k:∀b u,h.get? b=some u->h'.get? b=some u):Un fs ex H H h h':=
 ⟨λb ob q _ _ _=>k b ob q,λb ob q _ _ _=>⟨ob.slots,k b ob q⟩,λ_ _ _ n _=>n,λb ob q _=>⟨ob,k b ob q⟩,λ_ _ q=>q,λ_ _ _ q=>q,λ_ _ _ q=>q⟩
def Un.refl:Un fs ex H H h h:=Un.kept λ_ _ q=>q
def Un.laid (k:∀b u,h.get? b=some u->h'.get? b=some u)(hp:h.objs.size<=a)(hn:H a=none):Un fs ex H (lf H a o) h h' where
 keep:=λb u q _ _ _=>k b u q
 slot:=λb u q _ _ _=>⟨u.slots,k b u q⟩
 free:=λb u q n _=>by rw[zu (aM (aP (az q) hp))];exact n
 there:=λb u q _=>⟨u,k b u q⟩
 tups:=λb xs q=>by rw[zu (zG q hn)];exact q
 frzs:=λb u xs q=>by rw[zu (zG q hn)];exact q
 tbls:=λb d q e=>by rw[zu (zG e hn)];exact e
def Un.write (f:tR (H x))(v:e=x\/H e=some (.own x))(k:∀b u,b≠e->h.get? b=some u->h'.get? b=some u)(j:∃u,h'.get? e=some u):Un fs ex H (lf H x o) h h':=by
 have l:∀b,H b=none->b≠x:=λb n z=>by subst z;rw[n]at f;exact f
 have p:∀b,H b=none->b≠e:=λb n z=>by
  subst z;rcases v with r|r
  ·exact l b n r
  ·rw[n]at r;cases r
 have i:∀b u,H b=some u->¬tR (some u)->b≠x:=λb u q nm z=>by subst z;rw[q]at f;exact nm f
 refine⟨λb u q n _ _=>k b u (p b n) q,λb u q n _ _=>⟨u.slots,k b u (p b n) q⟩,λb u q n _=>by rw[zu (l b n)];exact n,λb u q _=>?_,
  λb xs q=>by rw[zu (i b _ q λz=>z)];exact q,λb u xs q=>by rw[zu (i b _ q λz=>z)];exact q,λb y q e=>by rw[zu (i b _ e λz=>z)];exact e⟩
 by_cases d:b=e
 ·subst d;exact j
 ·exact⟨u,k b u d q⟩
end
def tY (h:Heap)(H:Hp):List Addr:=(aZ h.objs.size).filter λa=>(H a).isSome
def KI (h:Heap)(H:Hp):Heap:=PySem.W.hideAll h (tY h H)
def Ya (h:Heap)(H:Hp):(KI h H).objs.size=h.objs.size:=PySem.W.hideAll_size _ _
def Wn {h:Heap}{H:Hp}{b:Addr}{o:Obj}(e:h.get? b=some o)(n:H b=none):(KI h H).get? b=some o:=
 PySem.W.hideAll_get _ e λa=>by
  have q:=(cY.mp a).2;rw[n]at q;simp at q
def Xc {h:Heap}{H:Hp}{b:Addr}{o:Obj}(e:(KI h H).get? b=some o):h.get? b=some o/\H b=none:=by
 have a:=PySem.W.of_hideAll _ e;refine⟨a,?_⟩;cases q:H b with
 |none=>rfl
 |some x=>
  have d:b∈tY h H:=cY.mpr ⟨bn.mpr (az a),by simp[q]⟩
  have z:(KI h H).get? b=none:=PySem.W.hideAll_none _ d;rw[z]at e;cases e
end L2
namespace L2
open PySem PySem.Spec PyProof.Rows
structure Mod (K:aa) (mg:Str->Option Value) (base:Heap):Prop where
 kin:K.In base
 glob:base.Ns mainGlobals mg
 blt:∃mb,base.Ns builtinsNs mb/\∀x:Str,x≠"__name__"->mb x=bootBuiltins x
 nolimit:base.NoLimit
structure Cx where
 prog:Program
 w:World
 K:aa
 mg:Str->Option Value
 base:Heap
 A:Around
 N:List Str
 s₀:Shared
 H₀:Hp
 env:Env
 outer:List Env
 stack:List Env
 ex:List Addr
 fn:Str->Bool
 calm:Bool
 pn:List 000
 xe:Value->Shared->Prop
noncomputable def lV (l:List Env):List Addr:=l.filterMap (·.frame)
abbrev Cx.fs (X:Cx):List Addr:=lV X.outer
noncomputable def oJ (a:Scope)(x:Str):Prop:=a.names.lookup x=some .local\/a.names.lookup x=some .cell\/a.names.lookup x=some .free
noncomputable def Loc (a:Scope)(x:Str):Prop:=a.names.lookup x=some .local\/a.names.lookup x=some .cell
noncomputable def B4 (env:Env)(h:Heap)(m:Str->Option Value)(x:Str)(u:Value):Prop:=
 (env.kindOf x=some .local/\m x=some u)\/((env.kindOf x=some .cell\/env.kindOf x=some .free)/\∃c,env.cells.lookup x=some c/\h.IsCell c (some u))
structure Cx.Ok (X:Cx):Prop where
 mod:Mod X.K X.mg X.base
 kind:X.env.scope.kind=.function
 glob:X.env.globals=mainGlobals
 blt:X.env.builtins=builtinsNs
 above:X.s₀.1.1.size<=X.env.locals
 inj:∀x y c,X.env.cells.lookup x=some c->X.env.cells.lookup y=some c->x=y
 has:∀x,(X.env.kindOf x=some .cell\/X.env.kindOf x=some .free)->∃c,X.env.cells.lookup x=some c
 cab:∀x c,X.fn x=true->X.env.cells.lookup x=some c->X.s₀.1.1.size<=c
 hd:X.calm=true->X.A.handled=none
 frames:X.A.frames=some X.stack
 stk:X.stack=X.outer\/(X.stack=X.env::X.outer/\X.env.frame=some X.env.locals)
 exf:∀b∈X.ex,b≠X.env.locals/\∀x c,X.env.cells.lookup x=some c->c≠b
 bs:∀b o,X.base.get? b=some o->X.s₀.heap.get? b=some o/\X.H₀ b=none
 bsz:X.base.objs.size<=X.s₀.1.1.size
 noex:∀b o,X.base.get? b=some o->b∉X.ex
 exfs:∀b∈X.ex,b∉X.fs
 funs:X.s₀.heap.FunFrames X.base X.outer
 frf:∀b∈X.fs,X.H₀ b=none
structure Inv (X:Cx) (pins:List 000) (σ:List (Option V)) (H:Hp) (s:Shared):Prop where
 ok:X.Ok
 os:s.os=X.s₀.os
 bare:AllBare s.gens
 base:Un X.fs X.ex X.H₀ H X.s₀.heap s.heap
 loc:∃m,s.heap.Ns X.env.locals m/\∀(i:Nat) (x:Str) (v:V),X.N[i]?=some x->σ[i]?=some (some v)->oJ X.env.scope x->∃u,Z8 v u/\B4 X.env s.heap m x u
 cell:∀x c,X.env.cells.lookup x=some c->∃v,s.heap.IsCell c v
 free:H X.env.locals=none
 freeC:∀x c,X.env.cells.lookup x=some c->H c=none
 pin:∀p∈X.pn++pins,s.heap.get? p.1=some p.2/\H p.1=none/\p.1≠X.env.locals/\p.1∉X.fs/\∀v,p.2.data≠.cell v
 hok:HOk X.prog X.w H s.heap
 len:σ.length=X.N.length
section
variable {X:Cx}{pins:List 000}{σ:List (Option V)}{H H':Hp}{s:Shared}{h':Heap}
def Cx.Ok.nofr (ok:X.Ok){b:Addr}{o:Obj}(e:X.base.get? b=some o):b∉X.fs:=λa=>by
 have:=(ok.funs.mem a).1;rw[e]at this;cases this
theorem Inv.bs (I:Inv X pins σ H s):∀b o,X.base.get? b=some o->s.heap.get? b=some o/\H b=none:=λb o e=>
 ⟨I.base.keep b o (I.ok.bs b o e).1 (I.ok.bs b o e).2 (I.ok.nofr e) (I.ok.noex b o e),I.base.free b o (I.ok.bs b o e).1 (I.ok.bs b o e).2 (I.ok.noex b o e)⟩
def Inv.bk (I:Inv X pins σ H s):∀b o,X.base.get? b=some o->s.heap.get? b=some o:=λb o e=>(I.bs b o e).1
theorem Inv.mod (I:Inv X pins σ H s):Mod X.K X.mg X.base:=I.ok.mod
def Inv.kIn (I:Inv X pins σ H s):X.K.In s.heap:=I.ok.mod.kin.keeps I.bk
theorem Inv.lt (I:Inv X pins σ H s):X.env.locals<s.1.1.size:=let ⟨_,hn,_⟩:=I.loc;hn.lt
def Inv.sz (I:Inv X pins σ H s):X.s₀.1.1.size<=s.1.1.size:=aC I.ok.above (fS I.lt)
def Inv.nofs (I:Inv X pins σ H s){a:Addr}(h:s.1.1.size<=a):a∉X.fs:=λf=>by
 obtain⟨_,o,d,_⟩:=I.ok.funs.mem f;exact absurd (aP (az d) (aC I.sz h)) (bI _)
def Inv.cne (I:Inv X pins σ H s):∀x c,X.env.cells.lookup x=some c->c≠X.env.locals:=λx c e z=>by
 obtain⟨v,o,f,hd⟩:=I.cell x c e;obtain⟨m,⟨j,k,i,d,a,_⟩,_⟩:=I.loc;rw[z,d]at f;cases f;rw[a]at hd;cases hd
theorem Inv.funs (I:Inv X pins σ H s):s.heap.FunFrames X.base X.outer:=by
 have all:∀(l:List Env),(∀b∈lV l,b∈X.fs)->X.s₀.heap.FunFrames X.base l->s.heap.FunFrames X.base l:=by
  intro l
  induction l with
  |nil=>intro _ _;trivial
  |cons env r u=>
   intro i k;obtain⟨j,⟨L,o,f,hn,p,hd⟩,hr⟩:=k;have a:=i L (by unfold lV;rw[dy,f];exact aq)
   obtain⟨v,e⟩:=I.base.slot L o p (I.ok.frf L a) a λz=>I.ok.exfs L z a;exact⟨j,⟨L,_,f,hn,e,hd⟩,u (λb d=>i b (by unfold lV;rw[dy,f];exact ae _ d)) hr⟩
 exact all _ (λ_ d=>d) I.ok.funs
theorem Inv.stack (I:Inv X pins σ H s):s.heap.FunFrames X.base X.stack:=by
 rcases I.ok.stk with e|⟨e,a⟩
 ·rw[e];exact I.funs
 ·rw[e];obtain⟨m,hn,_⟩:=I.loc;refine .cons (by rw[I.ok.kind];decide) a hn ?_ I.funs
  exact Heap.get?_none_of_le (aC I.ok.bsz I.ok.above)
def Inv.stkSub (I:Inv X pins σ H s):∀b∈lV X.stack,b∈X.env.locals::X.fs:=λb a=>by
 rcases I.ok.stk with e|⟨e,d⟩
 ·rw[e]at a;exact ae _ a
 ·rw[e]at a;unfold lV at a;rw[dy,d]at a;exact a
def Inv.stkFree (I:Inv X pins σ H s):∀b∈lV X.stack,H b=none:=λb a=>by
 rcases ay.mp (I.stkSub b a)with e|a
 ·rw[e];exact I.free
 ·obtain⟨_,o,d,_⟩:=I.ok.funs.mem a;exact I.base.free b o d (I.ok.frf b a) λz=>I.ok.exfs b z a
def Inv.step {g':Array GenState}{t':Nat}{d':Drawn}{ch:List Addr}(I:Inv X pins σ H s)
  (j:∀b∈ch,(b∈X.ex\/X.s₀.1.1.size<=b)/\b≠X.env.locals/\(∀x c,X.env.cells.lookup x=some c->c≠b)/\∀p∈X.pn++pins,p.1≠b)
  (B:∀b o,b≠X.env.locals->b∉X.fs->b∉ch->s.heap.get? b=some o->H b=none->h'.get? b=some o)
  (D:∀b o,b≠X.env.locals->b∈X.fs->b∉ch->s.heap.get? b=some o->H b=none->∃sl,h'.get? b=some {o with slots:=sl}) (free:∀b o,b∉ch->s.heap.get? b=some o->H b=none->H' b=none)
  (there:∀b o,b∉ch->s.heap.get? b=some o->∃S,h'.get? b=some S)
  (P:∀b xs,H b=some (.tup xs)->H' b=some (.tup xs)) (Q:∀b o u,H b=some (.frz o u)->H' b=some (.frz o u)) (tbls:∀b U q,H b=some (.tbl U q)->H' b=some (.tbl U q))
  (ns:∀m,s.heap.Ns X.env.locals m->h'.Ns X.env.locals m) (hok:HOk X.prog X.w H' h') (hg:AllBare g'):
  Inv X pins σ H' {s with heap:=h',gens:=g',drawn:=d',toks:=t'}:=by
 have Z:∀b o,X.s₀.heap.get? b=some o->b≠X.env.locals:=λb o e=>aM (aP (az e) I.ok.above);have lX:∀b o,X.s₀.heap.get? b=some o->b∉X.ex->b∉ch:=λb o e a J=>by
  rcases(j b J).1 with z|z
  ·exact a z
  ·exact absurd (aP (az e) z) (bI _)
 have f:∀x c,X.env.cells.lookup x=some c->∀v,s.heap.IsCell c v->h'.IsCell c v:=λx c e v zz=>by
  obtain⟨o,N,hd⟩:=zz;have y:=λz=>(j c z).2.2.1 x c e rfl
  by_cases hc:c∈X.fs
  ·obtain⟨sl,q⟩:=D c o (I.cne x c e) hc y N (I.freeC x c e);exact⟨_,q,hd⟩
  ·exact⟨o,B c o (I.cne x c e) hc y N (I.freeC x c e),hd⟩
 refine⟨I.ok,I.os,hg,⟨λb o e n J a=>?_,λb o e n J a=>?_,λb o e n a=>?_,λb o e a=>?_,λb xs e=>P b xs (I.base.tups b xs e),λb o xs e=>Q b o xs (I.base.frzs b o xs e),λb U q e=>tbls b U q (I.base.tbls b U q e)⟩,?_,λx c e=>?_,?_,λx c e=>?_,λp hp=>?_,hok,I.len⟩
 ·exact B b o (Z b o e) J (lX b o e a) (I.base.keep b o e n J a) (I.base.free b o e n a)
 ·obtain⟨sl,G⟩:=I.base.slot b o e n J a;obtain⟨sl',e2⟩:=D b _ (Z b o e) J (lX b o e a) G (I.base.free b o e n a);exact⟨sl',e2⟩
 ·obtain⟨S,G⟩:=I.base.there b o e a;exact free b S (lX b o e a) G (I.base.free b o e n a)
 ·obtain⟨S,G⟩:=I.base.there b o e a;exact there b S (lX b o e a) G
 ·obtain⟨m,hn,hl⟩:=I.loc;refine⟨m,ns m hn,λi x v G e2 e3=>?_⟩;obtain⟨u,r,l⟩:=hl i x v G e2 e3;refine⟨u,r,?_⟩;rcases l with l|⟨k,c,e,z⟩
  ·exact .inl l
  ·exact .inr ⟨k,c,e,f x c e _ z⟩
 ·obtain⟨v,z⟩:=I.cell x c e;exact⟨v,f x c e v z⟩
 ·obtain⟨m,⟨o,_,_,N,_⟩,_⟩:=I.loc;exact free _ o (λz=>(j _ z).2.1 rfl) N I.free
 ·obtain⟨v,o,N,hd⟩:=I.cell x c e;exact free c o (λz=>(j c z).2.2.1 x c e rfl) N (I.freeC x c e)
 ·obtain⟨e,n,ne,nf,d⟩:=I.pin p hp;have y:=λz=>(j p.1 z).2.2.2 p hp rfl;exact⟨B p.1 p.2 ne nf y e n,free p.1 p.2 y e n,ne,nf,d⟩
def Inv.un {t':Nat}(I:Inv X pins σ H s)(u:Un X.fs [] H H' s.heap h')(j:HOk X.prog X.w H' h'):Inv X pins σ H' {s with heap:=h',toks:=t'}:=by
 obtain⟨m,⟨o,G,x,k,r⟩,_⟩:=id I.loc;obtain⟨D,p⟩:=u.any k I.free (by simp)
 exact I.step (ch:=[]) (λ_ z=>nomatch z) (λb o _ i _ e n=>u.keep b o e n i (by simp)) (λb o _ i _ e n=>u.slot b o e n i (by simp)) (λb o _ e n=>u.free b o e n (by simp)) (λb o _ e=>u.there b o e (by simp)) u.tups u.frzs u.tbls (λy l=>by
  obtain⟨B,f,d,a,v⟩:=l;rw[k]at a;cases a;exact⟨_,f,d,p,v⟩) j I.bare
def Inv.call {y:Array GenState}{t':Nat}{G:Drawn}{ch:List Addr}(I:Inv X pins σ H s)(u:Un (lV X.stack) ch H H' s.heap h')(l:HOk X.prog X.w H' h')(B:AllBare y)
  (d:∀b∈ch,(b∈X.ex\/X.s₀.1.1.size<=b)/\b≠X.env.locals/\(∀x c,X.env.cells.lookup x=some c->c≠b)/\∀p∈X.pn++pins,p.1≠b):
  Inv X pins σ H' {s with heap:=h',gens:=y,drawn:=G,toks:=t'}:=by
 obtain⟨m,⟨o,S,U,v,r⟩,_⟩:=id I.loc;obtain⟨Z,j⟩:=u.any v I.free λz=>(d _ z).2.1 rfl;exact I.step d (λb o j N a e n=>u.keep b o e n (λz=>(ay.mp (I.stkSub b z)).elim j N) a) (λb o _ _ a e n=>u.any e n a) (λb o a e n=>u.free b o e n a) (λb o a e=>u.there b o e a) u.tups u.frzs u.tbls (λP D=>by
  obtain⟨Q,i,k,f,J⟩:=D;rw[v]at f;cases f;exact⟨_,i,k,j,J⟩) l B
def Inv.turned {t':Nat}{it:Addr}(I:Inv X pins σ H s)(k:∀b o,b≠it->s.heap.get? b=some o->h'.get? b=some o)(hn:H it=none)(f:it≠X.env.locals)
  (B:it∈X.ex\/X.s₀.1.1.size<=it) (l:∀x c,X.env.cells.lookup x=some c->c≠it) (j:∀p∈X.pn++pins,p.1≠it):Inv X pins σ H {s with heap:=h',toks:=t'}:=by
 have d:∀b u,H b=some u->b≠it:=λb u e z=>by rw[z,hn]at e;cases e
 refine I.step (ch:=[it]) (λb G=>?_) (λb o _ _ a e _=>k b o (λz=>a (by simp[z])) e) (λb o _ _ a e _=>⟨o.slots,k b o (λz=>a (by simp[z])) e⟩) (λ_ _ _ _ n=>n)
  (λb o a e=>⟨o,k b o (λz=>a (by simp[z])) e⟩) (λ_ _ e=>e) (λ_ _ _ e=>e) (λ_ _ _ e=>e) (λm y=>?_) (λb u e=>?_) I.bare
 ·have e:=by simpa using G
  subst e;exact⟨B,f,l,j⟩
 ·obtain⟨o,J,i,D,r⟩:=y;exact⟨o,J,i,k _ o (aY f) D,r⟩
 ·refine(I.hok b u e).stay (λc v a q=>k c v ?_ q) (λ_ q=>q) λ_ _ q=>q;rcases a with z|z
  ·rw[z];exact d b u e
  ·exact d c _ z
def Inv.tok (I:Inv X pins σ H s)(t:Nat):Inv X pins σ H {s with toks:=t}:=I.un Un.refl I.hok
theorem Inv.kept {t':Nat}(I:Inv X pins σ H s)(k:∀b u,s.heap.get? b=some u->h'.get? b=some u):Inv X pins σ H {s with heap:=h',toks:=t'}:=I.un (Un.kept k) (I.hok.kept k)
theorem Inv.laid {a:Addr}{o:HO}{t':Nat}(I:Inv X pins σ H s)(k:∀b u,s.heap.get? b=some u->h'.get? b=some u)(hp:s.1.1.size<=a)(new:Zd X.prog X.w (lf H a o) h' a o):
  Inv X pins σ (lf H a o) {s with heap:=h',toks:=t'}:=I.un (Un.laid k hp (I.hok.fresh hp)) (I.hok.laid k hp new)
theorem Inv.write {x e:Addr}{o:HO}{t':Nat}(I:Inv X pins σ H s)(d:tR (H x))(f:e=x\/H e=some (.own x))(k:∀b u,b≠e->s.heap.get? b=some u->h'.get? b=some u)(a:∃u,h'.get? e=some u)
  (new:Zd X.prog X.w (lf H x o) h' x o):Inv X pins σ (lf H x o) {s with heap:=h',toks:=t'}:=I.un (Un.write d f k a) (I.hok.write d f k a new)
def Inv.pins_of {a:List 000}(I:Inv X pins σ H s)(h:∀p∈a,s.heap.get? p.1=some p.2/\H p.1=none/\p.1≠X.env.locals/\p.1∉X.fs/\∀v,p.2.data≠.cell v):Inv X a σ H s:=
 ⟨I.ok,I.os,I.bare,I.base,I.loc,I.cell,I.free,I.freeC,λp hp=>(bh.mp hp).elim (λz=>I.pin p (cg _ z)) (h p),I.hok,I.len⟩
def Wo {N:List Str}(k:N.Nodup){i j:Nat}{x:Str}(a:N[i]?=some x)(b:N[j]?=some x):i=j:=by
 obtain⟨o,f⟩:=ak.mp a;obtain⟨l,d⟩:=ak.mp b;exact(iR k).mp (f.trans d.symm)
def we {M:Model}{A:Around}{E:Value->Shared->Prop}{i:Nat}{x:Str}{v:V}{u:Value}{Q:Unit->Shared->Prop}(I:Inv X pins σ H s)(hN:X.N.Nodup)(hi:X.N[i]?=some x)(G:Loc X.env.scope x)(r:Z8 v u)
  (h:∀s',Inv X pins (σ.set i (some v)) H s'->(∃a,cB a s.heap s'.heap/\(a=X.env.locals\/X.env.cells.lookup x=some a))->Q () s') (hf:X.fn x=true\/X.env.scope.names.lookup x=some .local:=by first|exact .inl rfl|exact .inr rfl|assumption):wpAny M A (storeName X.env x u) Q E s:=by
 obtain⟨m,hn,hl⟩:=id I.loc;have hcls:(X.env.scope.kind==.class||(X.env.scope.kind==.module&&X.env.locals !=X.env.globals))=false:=by rw[I.ok.kind];rfl
 have S:i<σ.length:=by rw[I.len];exact(ak.mp hi).1
 have cne:=I.cne;have B:∀{a:Addr} {h':Heap},(∃o,s.heap.get? a=some o/\H a=none)->cB a _ h'->HOk _ X.w H h':=λ{a h'} ha f b ob e=>by
  obtain⟨_,_,J⟩:=ha;refine(I.hok b ob e).stay (λc w' D q=>(f.2 c ?_).trans q) (λ_ q=>q) λ_ _ q=>q
  rintro rfl
  rcases D with rfl|D
  ·rw[J]at e;cases e
  ·rw[J]at D;cases D
 rcases G with U|U
 ·refine wpAny_storeName_local U hn (λh' hn' f=>?_) hcls;obtain⟨oL,_,_,hoL,_⟩:=id hn;refine h _ ⟨I.ok,I.os,I.bare,⟨λb o e n hb G=>?_,λb o e n hb G=>?_,I.base.free,λb o e G=>?_,I.base.tups,I.base.frzs,I.base.tbls⟩,⟨_,hn',λj y v' l P e3=>?_⟩,λy c e=>?_,I.free,I.freeC,λp hp=>?_,B ⟨oL,hoL,I.free⟩ f,by simpa using I.len⟩ ⟨_,f,.inl rfl⟩
  ·exact(f.2 b (aM (aP (az e) I.ok.above))).trans (I.base.keep b o e n hb G)
  ·obtain⟨sl,l⟩:=I.base.slot b o e n hb G;exact⟨sl,(f.2 b (aM (aP (az e) I.ok.above))).trans l⟩
  ·obtain⟨o',l⟩:=I.base.there b o e G;exact⟨o',(f.2 b (aM (aP (az e) I.ok.above))).trans l⟩
  ·by_cases hj:j=i
   ·subst hj;rw[hi]at l;cases l;rw[aH S]at P;cases P;exact⟨u,r,.inl ⟨U,by simp⟩⟩
   ·rw[av (aY hj)]at P;obtain⟨u',r',q⟩:=hl j y v' l P e3;refine⟨u',r',?_⟩;rcases q with ⟨k,e⟩|⟨k,c,e,z⟩
    ·refine .inl ⟨k,?_⟩;have:y≠x:=λe=>hj (Wo hN l (e▸hi));simp[this,e]
    ·exact .inr ⟨k,c,e,z.sameBut f (cne y c e)⟩
  ·obtain⟨w',z⟩:=I.cell y c e;exact⟨w',z.sameBut f (cne y c e)⟩
  ·obtain⟨e,n,ne,nf,d⟩:=I.pin p hp;exact⟨(f.2 p.1 ne).trans e,n,ne,nf,d⟩
 ·have Z:X.fn x=true:=by
   rcases hf with z|z
   ·exact z
   ·rw[z]at U;cases U
  obtain⟨c,D⟩:=I.ok.has x (.inl U);obtain⟨w',z⟩:=I.cell x c D;refine wpAny_storeName_cell I.ok.kind U D z (λh' hc' f=>?_);obtain⟨oc,hoc,hocd⟩:=id z;refine h _ ⟨I.ok,I.os,I.bare,⟨λb o e n hb G=>?_,λb o e n hb G=>?_,I.base.free,λb o e G=>?_,I.base.tups,I.base.frzs,I.base.tbls⟩,⟨m,hn.sameBut f (aY (cne x c D)),λj y v' l P e3=>?_⟩,λy c' e=>?_,I.free,I.freeC,λp hp=>?_,B ⟨oc,hoc,I.freeC x c D⟩ f,by simpa using I.len⟩ ⟨c,f,.inr D⟩
  ·exact(f.2 b (aM (aP (az e) (I.ok.cab x c Z D)))).trans (I.base.keep b o e n hb G)
  ·obtain⟨sl,l⟩:=I.base.slot b o e n hb G;exact⟨sl,(f.2 b (aM (aP (az e) (I.ok.cab x c Z D)))).trans l⟩
  ·obtain⟨o',l⟩:=I.base.there b o e G;exact⟨o',(f.2 b (aM (aP (az e) (I.ok.cab x c Z D)))).trans l⟩
  ·by_cases hj:j=i
   ·subst hj;rw[hi]at l;cases l;rw[aH S]at P;cases P;exact⟨u,r,.inr ⟨.inl U,c,D,hc'⟩⟩
   ·rw[av (aY hj)]at P;obtain⟨u',r',q⟩:=hl j y v' l P e3;refine⟨u',r',?_⟩;rcases q with q|⟨k,c',e,z'⟩
    ·exact .inl q
    ·refine .inr ⟨k,c',e,z'.sameBut f ?_⟩
     rintro rfl
     exact hj (Wo hN l (I.ok.inj _ _ _ e D▸hi))
  ·by_cases hcc:c'=c
   ·subst hcc;exact⟨_,hc'⟩
   ·obtain⟨w2,z2⟩:=I.cell y c' e;exact⟨w2,z2.sameBut f hcc⟩
  ·obtain⟨e,n,ne,nf,d⟩:=I.pin p hp;refine⟨(f.2 p.1 ?_).trans e,n,ne,nf,d⟩;intro q;rw[q,hoc]at e;have q':=aA e;exact d w' (by rw[←q'];exact hocd)
def jx {M:Model}{A:Around}{E:Value->Shared->Prop}{i:Nat}{x:Str}{v:V}{u:Value}{Q:Unit->Shared->Prop}(I:Inv X pins σ H s)(j:X.N.Nodup)(hi:X.N[i]?=some x)(f:Loc X.env.scope x)(r:Z8 v u)
  (h:∀a,Inv X pins (σ.set i (some v)) H a->Q () a) (k:X.fn x=true\/X.env.scope.names.lookup x=some .local:=by first|exact .inl rfl|exact .inr rfl|assumption):wpAny M A (storeName X.env x u) Q E s:=
 we I j hi f r (λa d _=>h a d) k
def Inv.call' {a:Shared}{ch:List Addr}(I:Inv X pins σ H s)(j:a.os=s.os)(u:Un (lV X.stack) ch H H' s.heap a.heap)(f:HOk X.prog X.w H' a.heap)(i:AllBare a.gens)
  (d:∀b∈ch,(b∈X.ex\/X.s₀.1.1.size<=b)/\b≠X.env.locals/\(∀x c,X.env.cells.lookup x=some c->c≠b)/\∀p∈X.pn++pins,p.1≠b):Inv X pins σ H' a:=by
 obtain⟨h',k,l,t',o⟩:=a;have e:=j;subst e;exact I.call u f i d
end
abbrev XK:=Value->Option Addr->Hp->Prop
noncomputable abbrev St:=List (Option V)
abbrev VK:=V->Hp->Prop
abbrev TE:=St->Hp->VK->Prop
abbrev TT:=St->Hp->(Bool->Hp->Prop)->Prop
abbrev TA:=St->Hp->(List V->Hp->Prop)->Prop
structure Uq where
 nx:St->Hp->Prop
 rt:VK
 bk:St->Hp->Prop:=λ_ _=>False
 ct:St->Hp->Prop:=λ_ _=>False
abbrev TS:=Uq->St->Hp->Prop
def EP (X:Cx)(a:List 000)(i:St)(Q:VK)(u:Value)(f:Shared):Prop:=∃v d,Inv X a i d f/\Z8 v u/\Q v d
def EP.on {X:Cx}{a:List 000}{d:St}{Q:VK}{v:Value}{s:Shared}{G:Prop}(k:∀x H,Inv X a d H s->Z8 x v->Q x H->G):EP X a d Q v s->G:=by
 rintro⟨x,H,I,r,q⟩;exact k x H I r q
def TP (X:Cx)(a:List 000)(i:St)(Q:Bool->Hp->Prop)(b:Bool)(f:Shared):Prop:=∃d,Inv X a i d f/\Q b d
def AP (X:Cx)(a:List 000)(j:St)(Q:List V->Hp->Prop)(f:List Value)(i:Shared):Prop:=∃vs d,Inv X a j d i/\zZ vs f/\Q vs d
def SP (X:Cx)(a:List 000)(D:Uq)(f:Flow)(i:Shared):Prop:=
 match f with
 |.next=>∃σ' d,Inv X a σ' d i/\D.nx σ' d
 |.brk=>∃σ' d,Inv X a σ' d i/\D.bk σ' d
 |.cont=>∃σ' d,Inv X a σ' d i/\D.ct σ' d
 |.ret u=>∃v σ' d,Inv X a σ' d i/\Z8 v u/\D.rt v d
def PE (X:Cx)(e:Expr)(t:TE):Prop:=
 ∀(a:List 000) (s:Shared) (d:St) (H:Hp) (Q:VK),Inv X a d H s->t d H Q->wpAny 05 X.A (eval e X.env) (EP X a d Q) X.xe s
def PT (X:Cx)(e:Expr)(t:TT):Prop:=
 ∀(a:List 000) (s:Shared) (d:St) (H:Hp) (Q:Bool->Hp->Prop),Inv X a d H s->t d H Q->wpAny 05 X.A (isTrue e X.env (eval e X.env)) (TP X a d Q) X.xe s
def PW (X:Cx)(e:Expr)(t:TT):Prop:=
 ∀(d:Sem Value) (a:List 000) (s:Shared) (f:St) (H:Hp) (Q:Bool->Hp->Prop),Inv X a f H s->t f H Q->wpAny 05 X.A (isTrue e X.env d) (TP X a f Q) X.xe s
def PW.pt {X:Cx}{e:Expr}{t:TT}(h:PW X e t):PT X e t:=h _
def PA (X:Cx)(f:List Expr)(t:TA):Prop:=
 ∀(pos:Pos) (a:List _) (s:Shared) (d:St) (H:Hp) (Q:List V->Hp->Prop),Inv X a d H s->t d H Q->wpAny 05 X.A (spliced (backTo pos (starEach f X.env))) (AP X a d Q) X.xe s
def PS (X:Cx)(st:Stmt)(t:TS):Prop:=
 ∀(a:List 000) (s:Shared) (d:St) (H:Hp) (D:Uq),Inv X a d H s->t D d H->wpAny 05 X.A (exec st X.env) (SP X a D) X.xe s
def PSs (X:Cx)(st:List Stmt)(t:TS):Prop:=
 ∀(a:List 000) (s:Shared) (d:St) (H:Hp) (D:Uq),Inv X a d H s->t D d H->wpAny 05 X.A (execs st X.env) (SP X a D) X.xe s
def lF {d:Type}{t:Sem d}{Q f:d->Shared->Prop}{M:Model}{A:Around}{E:Value->Shared->Prop}{s:Shared}(h:wpAny M A t Q E s)(i:∀a s,Q a s->f a s):wpAny M A t f E s:=bF h i λ_ _ x=>x
end L2
namespace L2
open PySem PySem.Spec PyProof.Rows
section
variable {X:Cx}
def Jg (i:Nat):TE:=λa H Q=>∃v,a[i]?=some (some v)/\Q v H
def tC (v:V):TE:=λ_ H Q=>Q v H
def WX {i:Nat}{x:Str}{pos:Pos}(G:X.N[i]?=some x)(p:oJ X.env.scope x)(hd:(x==("__debug__":Str))=false:=by decide)(j:(x==("__classdict__":Str))=false:=by decide):PE X (.Name x pos) (Jg i):=by
 intro k s D H Q I h;obtain⟨v,e,h⟩:=h;obtain⟨m,hn,y⟩:=I.loc;obtain⟨u,r,l⟩:=y i x v G e p;have f:EP X _ D Q u s:=⟨v,H,I,r,h⟩;rcases l with ⟨d,B⟩|⟨d,c,o,a⟩
 ·exact wpAny_Name (wpAny_loadName_local I.ok.kind d hn B f) hd
 ·rcases d with d|d
  ·exact wpAny_Name (wpAny_loadName_cell I.ok.kind d o a f) hd
  ·exact wpAny_Name (wpAny_loadName_free I.ok.kind d o a f j) hd
def gc {i j pos}:PE X (.Constant (.int i) j pos) (tC (.int i)):=λ_ _ _ H _ I h=>wpAny_Constant_int ⟨.int i,H,I.tok _,⟨_,rfl⟩,h⟩
def Fl {b j pos}:PE X (.Constant (.bool b) j pos) (tC (.bl b)):=λ_ _ _ H _ I h=>Constant_bool ⟨.bl b,H,I,rfl,h⟩
def Yb {j pos}:PE X (.Constant .none j pos) (tC .non):=λ_ _ _ H _ I h=>Constant_none ⟨.non,H,I,rfl,h⟩
def xf {x j pos}:PE X (.Constant (.str x) j pos) (tC (.str x)):=λ_ _ _ H _ I h=>Calls.Constant_str ⟨.str x,H,I.tok _,⟨_,rfl⟩,h⟩
noncomputable def Gl (X:Cx)(x:Str):Prop:=X.env.kindOf x=some .globalImplicit
def jQ {E:Value->Shared->Prop}{a:List 000}{s:Shared}{i:St}{H:Hp}{x:Str}{u:Value}{pos:Pos}{Q:Value->Shared->Prop}(I:Inv X a i H s)(d:Gl X x)(f:X.mg x=some u)(h:Q u s)
  (hd:(x==("__debug__":Str))=false:=by decide):wpAny 05 X.A (eval (.Name x pos) X.env) Q E s:=
 eL I.ok.kind d (Calls.loadGlobal_global (by rw[I.ok.glob];exact I.mod.glob.keeps I.bk) f h) hd
def ja {E:Value->Shared->Prop}{a:List 000}{s:Shared}{l:St}{H:Hp}{x:Str}{u:Value}{pos:Pos}{Q:Value->Shared->Prop}(I:Inv X a l H s)(f:Gl X x)(j:X.mg x=none)(d:bootBuiltins x=some u)(h:Q u s)
  (hn:x≠"__name__":=by decide) (hd:(x==("__debug__":Str))=false:=by decide):wpAny 05 X.A (eval (.Name x pos) X.env) Q E s:=by
 obtain⟨o,k,i⟩:=I.mod.blt;exact eL I.ok.kind f (Calls.loadGlobal_builtin (by rw[I.ok.glob];exact I.mod.glob.keeps I.bk) j (by rw[I.ok.blt];exact k.keeps I.bk) ((i x hn).trans d) h) hd
def Wp {x:Str}{v:V}{u:Value}{pos:Pos}(a:Gl X x)(d:X.mg x=some u)(r:Z8 v u)(hd:(x==("__debug__":Str))=false:=by decide):PE X (.Name x pos) (tC v):=
 λ_ _ _ H _ I h=>jQ I a d ⟨v,H,I,r,h⟩ hd
def Yc {x:Str}{v:V}{u:Value}{pos:Pos}(d:Gl X x)(f:X.mg x=none)(a:bootBuiltins x=some u)(r:Z8 v u)(hn:x≠"__name__":=by decide)(hd:(x==("__debug__":Str))=false:=by decide):PE X (.Name x pos) (tC v):=
 λ_ _ _ H _ I h=>ja I d f a ⟨v,H,I,r,h⟩ hn hd
variable {a b:Expr}{ta tb:TE}{pos:Pos}
variable {tA tB':TT}{rest:List Expr}
def Ch (t u:TT):TT:=λd H Q=>t d H λc f=>if c=true then u d f Q else Q false f
def Ee (t u:TT):TT:=λd H Q=>t d H λc f=>if c=true then Q true f else u d f Q
def Am (t:TT):TT:=λd H Q=>t d H λc f=>Q (!c) f
def Xd (f:PT X a tA):PW X (.BoolOp .And [a] pos) tA:=by
 intro j d s i H Q I h;refine isTrue_and (lF (f _ s i H Q I h) λc k e=>?_);cases c with
 |true=>exact isTrue_and_nil e
 |false=>exact e
def gf (f:PT X a tA):PW X (.BoolOp .Or [a] pos) tA:=by
 intro j d s i H Q I h;refine isTrue_or (lF (f _ s i H Q I h) λc k e=>?_);cases c with
 |false=>exact isTrue_or_nil e
 |true=>exact e
def gh (u:PT X a tA)(p:PW X (.BoolOp .And (b::rest) pos) tB'):PW X (.BoolOp .And (a::b::rest) pos) (Ch tA tB'):=by
 intro l f s i H Q I h;refine isTrue_and (lF (u _ s i H _ I h) λc v o=>?_);obtain⟨d,j,k⟩:=o;cases c with
 |true=>exact p l _ v i d Q j k
 |false=>exact⟨d,j,k⟩
def Em (u:PT X a tA)(p:PW X (.BoolOp .Or (b::rest) pos) tB'):PW X (.BoolOp .Or (a::b::rest) pos) (Ee tA tB'):=by
 intro l f s i H Q I h;refine isTrue_or (lF (u _ s i H _ I h) λc v o=>?_);obtain⟨d,j,k⟩:=o;cases c with
 |true=>exact⟨d,j,k⟩
 |false=>exact p l _ v i d Q j k
def gi (i:PT X a tA):PT X (.UnaryOp .Not a pos) (Am tA):=by
 intro d s j H Q I h;exact isTrue_not (i _ s j H (λc f=>Q _ f) I h)
def E1 (ta tb:TE):TE:=λf H Q=>ta f H λx d=>∃c,x=.bl c/\if c=true then tb f d Q else Q (.bl false) d
def AC (ta tb:TE):TE:=λf H Q=>ta f H λx d=>∃c,x=.bl c/\if c=true then Q (.bl true) d else tb f d Q
def Eb (ta:TE):TE:=λf H Q=>ta f H λx d=>∃c,x=.bl c/\Q (.bl (!c)) d
def gj {op}{t:TE}(h:PE X a t):PE X (.BoolOp op [a] pos) t:=λd s i H Q I f=>BoolOp_one (h _ s i H Q I f)
def gm (p:PE X a ta)(o:PE X (.BoolOp .And (b::rest) pos) tb):PE X (.BoolOp .And (a::b::rest) pos) (E1 ta tb):=by
 intro i s j H Q I h;refine BoolOp_and (lF (p _ s j H _ I h) λv u=>EP.on λx f k l d=>?_);obtain⟨c,rfl,d⟩:=d;cases l;refine bi ?_;cases c with
 |true=>exact o _ u j f Q k d
 |false=>exact⟨.bl _,f,k,rfl,d⟩
def FR (p:PE X a ta)(o:PE X (.BoolOp .Or (b::rest) pos) tb):PE X (.BoolOp .Or (a::b::rest) pos) (AC ta tb):=by
 intro i s j H Q I h;refine BoolOp_or (lF (p _ s j H _ I h) λv u=>EP.on λx f k l d=>?_);obtain⟨c,rfl,d⟩:=d;cases l;refine bi ?_;cases c with
 |false=>exact o _ u j f Q k d
 |true=>exact⟨.bl _,f,k,rfl,d⟩
def gq (o:PE X a ta):PE X (.UnaryOp .Not a pos) (Eb ta):=by
 intro f s k H Q I h;refine UnaryOp_ (lF (o _ s k H _ I h) λv p=>EP.on λx j l i d=>?_);obtain⟨c,rfl,d⟩:=d;cases i;exact not_of (bi ⟨.bl _,j,l,rfl,d⟩)
def Fz (t:TT)(ta tb:TE):TE:=λd H Q=>t d H λc f=>if c=true then ta d f Q else tb d f Q
def Ur {c:Expr}(p:PT X c tA)(x:PE X a ta)(v:PE X b tb):PE X (.IfExp c a b pos) (Fz tA ta tb):=by
 intro j s f H Q I h;refine wpAny_IfExp (lF (p _ s f H _ I h) λd l u=>?_);obtain⟨i,k,o⟩:=u;cases d with
 |true=>exact x _ l f i Q k o
 |false=>exact v _ l f i Q k o
end
end L2
namespace L2
open PySem PySem.Spec PyProof.Rows
def SqL (K:aa)(H:Hp)(a:Addr)(xs:List V):Prop:=
 Rd H a (.lst xs)\/
  ∃(o:Obj) (d:Array Value) (n:Nat),K.lookup a=some o/\o.cls=.type "list"/\o.dict=none/\o.data=.seq d n/\d.size<=sizeLine/\zZ xs d.toList
def SqT (K:aa)(H:Hp)(a:Addr)(xs:List V):Prop:=
 Rd H a (.tup xs)\/
  ∃(o:Obj) (d:Array Value) (n:Nat),K.lookup a=some o/\o.cls=.type "tuple"/\o.data=.seq d n/\d.size<=sizeLine/\zZ xs d.toList
noncomputable def A4:Value->Option V
 |.none=>some .non
 |.bool b=>some (.bl b)
 |.int i _=>some (.int i)
 |.str x _=>some (.str x)
 |.bytes b _=>some (.byt b)
 |.float b _=>some (.flt b)
 |.ref a=>some (.ref a)
 |.type n=>some (.ty n)
 |_=>none
def Z8.abs {x:V}{u:Value}(r:Z8 x u):A4 u=some x:=by
 cases x with
 |non=>cases r;rfl
 |bl _=>cases r;rfl
 |int _=>obtain⟨t,rfl⟩:=r;rfl
 |str _=>obtain⟨t,rfl⟩:=r;rfl
 |byt _=>obtain⟨t,rfl⟩:=r;rfl
 |flt _=>obtain⟨t,rfl⟩:=r;rfl
 |ref _=>cases r;rfl
 |ty _=>cases r;rfl
def Z8.inj {x y:V}{u:Value}(r:Z8 x u)(q:Z8 y u):x=y:=aA (r.abs.symm.trans q.abs)
theorem zZ.inj {xs a:List V}{d:List Value}(h:zZ xs d)(h':zZ a d):xs=a:=by
 induction h generalizing a with
 |nil=>cases h';rfl
 |cons r t i=>
 cases h' with
 |cons f t'=>rw[r.inj f,i t']
section
variable {X:Cx}{pins:List 000}{σ:St}{H:Hp}{s:Shared}{a:Addr}{xs ys:List V}
def SqL.of {K:aa}(h:H a=some (.lst xs)):SqL K H a xs:=.inl (.inl h)
def SqT.of {K:aa}(h:H a=some (.tup xs)):SqT K H a xs:=.inl (.inl h)
def Inv.list (I:Inv X pins σ H s)(h:SqL X.K H a xs):∃d:List Value,zZ xs d/\PlainL s.heap a d.toArray/\xs.length<=sizeLine:=by
 rcases h with h|⟨o,d,n,f,j,hd,i,k,r⟩
 ·obtain⟨z,d,n,r,e⟩:=h.ok I.hok;exact⟨d,r,⟨_,n,e,rfl,rfl,rfl⟩,z⟩
 ·refine⟨d.toList,r,⟨o,n,I.kIn a o f,j,hd,by simpa using i⟩,?_⟩
  have e:=r.length;simp only[eH]at e;omega
def Inv.tuple (I:Inv X pins σ H s)(h:SqT X.K H a xs):∃d:List Value,zZ xs d/\IsTup s.heap a d.toArray/\xs.length<=sizeLine:=by
 rcases h with h|⟨o,d,n,f,j,i,k,r⟩
 ·obtain⟨z,d,r,p,_⟩:=h.ok I.hok;exact⟨d,r,p,z⟩
 ·refine⟨d.toList,r,⟨o,I.kIn a o f,j,n,by simpa using i⟩,?_⟩
  have e:=r.length;simp only[eH]at e;omega
def Inv.list_inj (I:Inv X pins σ H s)(h:SqL X.K H a xs)(h':SqL X.K H a ys):xs=ys:=by
 obtain⟨k,r,⟨o,n,e,_,_,d⟩,_⟩:=I.list h;obtain⟨f,l,⟨u,p,j,_,_,i⟩,_⟩:=I.list h';rw[e]at j;cases j;rw[d]at i;injection i with d1 _;have:=by simpa using congrArg Array.toList d1
 subst this;exact r.inj l
def Inv.tuple_inj (I:Inv X pins σ H s)(h:SqT X.K H a xs)(h':SqT X.K H a ys):xs=ys:=by
 obtain⟨k,r,⟨o,e,_,n,d⟩,_⟩:=I.tuple h;obtain⟨f,l,⟨u,j,_,p,i⟩,_⟩:=I.tuple h';rw[e]at j;cases j;rw[d]at i;injection i with d1 _;have:=by simpa using congrArg Array.toList d1
 subst this;exact r.inj l
end
noncomputable abbrev Cx.wish (X:Cx)(E:Value->Shared->Prop):Cx:={X with xe:=E}
abbrev Cx.nox (X:Cx):Cx:=X.wish λ_ _=>False
theorem Cx.Ok.wish {X:Cx}(ok:X.Ok)(E:Value->Shared->Prop):(X.wish E).Ok:=
 ⟨ok.mod,ok.kind,ok.glob,ok.blt,ok.above,ok.inj,ok.has,ok.cab,ok.hd,ok.frames,ok.stk,ok.exf,ok.bs,ok.bsz,ok.noex,ok.exfs,ok.funs,ok.frf⟩
def Cx.Ok.unwish {X:Cx}{E:Value->Shared->Prop}(ok:(X.wish E).Ok):X.Ok:=
 ⟨ok.mod,ok.kind,ok.glob,ok.blt,ok.above,ok.inj,ok.has,ok.cab,ok.hd,ok.frames,ok.stk,ok.exf,ok.bs,ok.bsz,ok.noex,ok.exfs,ok.funs,ok.frf⟩
section
variable {X:Cx}{pins:List 000}{σ:St}{H:Hp}{s:Shared}{E:Value->Shared->Prop}
theorem Inv.wish (I:Inv X pins σ H s)(E:Value->Shared->Prop):Inv (X.wish E) pins σ H s:=⟨I.ok.wish E,I.os,I.bare,I.base,I.loc,I.cell,I.free,I.freeC,I.pin,I.hok,I.len⟩
theorem Inv.unwish (I:Inv (X.wish E) pins σ H s):Inv X pins σ H s:=⟨I.ok.unwish,I.os,I.bare,I.base,I.loc,I.cell,I.free,I.freeC,I.pin,I.hok,I.len⟩
theorem SP.unwish {D:Uq}{f:Flow}{d:Shared}(h:SP (X.wish E) pins D f d):SP X pins D f d:=by
 cases f with
 |next=>obtain⟨σ',a,I,q⟩:=h;exact⟨σ',a,I.unwish,q⟩
 |brk=>obtain⟨σ',a,I,q⟩:=h;exact⟨σ',a,I.unwish,q⟩
 |cont=>obtain⟨σ',a,I,q⟩:=h;exact⟨σ',a,I.unwish,q⟩
 |ret u=>obtain⟨v,σ',a,I,r,q⟩:=h;exact⟨v,σ',a,I.unwish,r,q⟩
theorem PSs.nox {st:List Stmt}{t:TS}(h:PSs X.nox st t):PSs X st t:=λpins s σ H D I a=>
 bF (h _ s σ H D (I.wish _) a) (λ_ _ q=>q.unwish) λ_ _ z=>bC z
end
section
variable {X:Cx}{st:Stmt}{rest:List Stmt}{t u:TS}{e:Expr}{te:TE}{pos:Pos}
def HZ:TS:=λD a H=>D.nx a H
def Au (t u:TS):TS:=λD a H=>t {D with nx:=u D} a H
def Yd:PSs X [] HZ:=λ_ _ a H _ I h=>c_ ⟨a,H,I,h⟩
def jy (j:PS X st t)(i:PSs X rest u):PSs X (st::rest) (Au t u):=by
 intro a s d H D I h;refine wpAny_execs_cons (lF (j _ s d H _ I h) λf o q=>?_);cases f with
 |next=>
  obtain⟨σ',k,l,q⟩:=q;exact i _ o σ' k D l q
 |ret v=>exact q
 |brk=>exact q
 |cont=>exact q
def jR (i:PS X st t):PSs X [st] t:=by
 intro a s d H D I h;refine wpAny_execs_cons (lF (i _ s d H D I h) λf j q=>?_);cases f with
 |next=>exact c_ q
 |ret v=>exact q
 |brk=>exact q
 |cont=>exact q
def Inv.quiet {a:List 000}{d:St}{H:Hp}{s:Shared}(I:Inv X a d H s):interactive X.env=false:=by simp[interactive,I.ok.kind]
def ER (te:TE):TS:=λD a H=>te a H λ_ d=>D.nx a d
def Jh (j:PE X e te)(f:swapsWith e none pos.line X.env=pure false:=by rfl):PS X (.Expr e pos) (ER te):=by
 intro a s d H D I h;exact wpAny_Expr_any (lF (j _ s d H _ I h) λv p=>EP.on λx i k o l=>⟨d,i,k,l⟩) I.quiet f
def rA (te:TE):TS:=λD a H=>te a H D.rt
def JC (k:PE X e te):PS X (.Return (some e) pos) (rA te):=by
 intro a s d H D I h;exact wpAny_Return_some (lF (k _ s d H _ I h) λv o=>EP.on λx i j f l=>⟨x,d,i,j,f,l⟩)
def Ca (c:TT)(t u:TS):TS:=λD a H=>c a H λb d=>if b=true then t D a d else u D a d
def Hx {c:Expr}{a b:List Stmt}{tc:TT}(p:PT X c tc)(y:PSs X a t)(x:PSs X b u):PS X (.If c a b pos) (Ca tc t u):=by
 intro j s f H D I h;refine wpAny_If (lF (p _ s f H _ I h) λd l v=>?_);obtain⟨i,k,o⟩:=v;cases d with
 |true=>exact y _ l f i D k o
 |false=>exact x _ l f i D k o
end
abbrev TG:=V->St->Hp->(St->Hp->Prop)->Prop
abbrev oB:=List V->St->Hp->(St->Hp->Prop)->Prop
def PG (X:Cx)(a:Expr)(t:TG):Prop:=
 ∀(d:List 000) (s:Shared) (i:St) (H:Hp) (v:V) (u:Value) (Q:St->Hp->Prop),Inv X d i H s->Z8 v u->t v i H Q->
  wpAny 05 X.A (assign a X.env u) (λ_ j=>∃σ' f,Inv X d σ' f j/\Q σ' f) X.xe s
def sJ (X:Cx)(ts:List Expr)(t:oB):Prop:=
 ∀(a:List 000) (s:Shared) (i:St) (H:Hp) (vs:List V) (d:List Value) (Q:St->Hp->Prop),Inv X a i H s->zZ vs d->t vs i H Q->
  wpAny 05 X.A (assignInOrder ((assignEach ts X.env).map (·.2)) d) (λ_ j=>∃σ' f,Inv X a σ' f j/\Q σ' f) X.xe s
section
variable {X:Cx}{pos:Pos}
def wf (i:Nat):TG:=λv a H Q=>Q (a.set i (some v)) H
def jd {i:Nat}{x:Str}(j:X.N.Nodup)(hi:X.N[i]?=some x)(f:Loc X.env.scope x)(k:X.fn x=true\/X.env.scope.names.lookup x=some .local:=by first|exact .inl rfl|exact .inr rfl|assumption):PG X (.Name x pos) (wf i):=by
 intro a s l H v u Q I r h;exact wpAny_assign_Name (jx I j hi f r (λo d=>⟨_,H,d,h⟩) k)
def Cz:oB:=λvs a H Q=>vs=[]/\Q a H
def Ye (t:TG)(u:oB):oB:=λvs d H Q=>∃v r,vs=v::r/\t v d H λσ' a=>u r σ' a Q
def Yf:sJ X [] Cz:=by
 intro a s d H vs f Q I r h;obtain⟨e,h⟩:=h;exact assignInOrder_nil ⟨d,H,I,h⟩
def JR {e:Expr}{a:List Expr}{t:TG}{u:oB}(o:PG X e t)(j:sJ X a u)
  (i:(assignEach (e::a) X.env).map (·.2)=assign e X.env::(assignEach a X.env).map (·.2):=by rfl):sJ X (e::a) (Ye t u):=by
 intro f s x H vs J Q I r h;obtain⟨v,N,p,h⟩:=h;subst p;cases r with
 |cons r k=>
  rw[i];refine assignInOrder_cons (lF (o _ s x H _ _ _ I r h) λ_ D y=>?_);obtain⟨d,l,B,G⟩:=y;exact j _ D d l _ _ Q B k G
def tP (K:aa)(n:Nat)(t:oB):TG:=λv d H Q=>∃a xs,v=.ref a/\SqT K H a xs/\xs.length=n/\t xs d H Q
def xg {d:List Expr}{k:Nat}{t:oB}{n:Nat}(B:X.calm=true)(h:sJ X d t)
  (hn:(assignEach d X.env).length=n:=by rfl) (i:(assignEach d X.env).findIdx? (·.1)=none:=by rfl):PG X (.Tuple d k pos) (tP X.K n t):=by
 intro j s l H v u Q I r f;obtain⟨a,xs,D,y,N,f⟩:=f;subst D;cases r;obtain⟨x,p,J,S⟩:=I.tuple y;refine assign_Tuple_tuple (I.ok.hd B) J (by simp[hn,←N,p.length]) i λh' G=>?_
 have P:Inv X _ l H {s with heap:=h'}:=I.kept λb o e=>G b o (aM (az e)) e;exact h _ _ l H xs _ Q P (by simpa using p) f
def pX (te:TE)(g:TG):TS:=λD a H=>te a H λx d=>g x a d D.nx
def gs {a e:Expr}{te:TE}{g:TG}(p:PE X e te)(j:PG X a g)(k:swapsWithSole [a] e pos.line X.env=pure false:=by rfl)(u:swappedStores [a] e X.env=pure none:=by rfl)
  (o:(assignEach [a] X.env).map (·.2)=[assign a X.env]:=by rfl):PS X (.Assign [a] e pos) (pX te g):=by
 intro d s f H D I h;refine wpAny_Assign_stores (lF (p _ s f H _ I h) λv B=>EP.on λx l y i G=>?_) k u;rw[o];exact lF (j _ B f l x v _ y i G) λ_ J q=>q
def WY {i:Nat}{x:Str}{e:Expr}{te:TE}{a:Pos}(G:X.N.Nodup)(hi:X.N[i]?=some x)(p:Loc X.env.scope x)(l:PE X e te)(j:swapsWith e (some (.Name x a)) pos.line X.env=pure false:=by rfl)(J:X.fn x=true\/X.env.scope.names.lookup x=some .local:=by first|exact .inl rfl|exact .inr rfl|assumption):
  PS X (.Assign [.Name x a] e pos) (pX te (wf i)):=by
 intro d s o H D I h;refine wpAny_Assign_Name (lF (l _ s o H _ I h) λv Q=>EP.on λy k u f P=>?_) j;exact jx u G hi p f (λS B=>⟨_,k,B,P⟩) J
def Cr (i j:Nat)(d:TA):TS:=λD a H=>d a H λvs f=>∃v w,vs=[v,w]/\D.nx ((a.set i (some v)).set j (some w)) f
def xh {i j:Nat}{x y:Str}{a b:Expr}{ta:TA}{B k pt:Pos}{kt k2 pt2}(hc:X.calm=true)(hN:X.N.Nodup)(hi:X.N[i]?=some x)(hj:X.N[j]?=some y)(J:i≠j)
  (Z:X.env.scope.names.lookup x=some .local) (hy:X.env.scope.names.lookup y=some .local) (ha:PA X [a,b] ta)
  (hw:swappedStores [.Tuple [.Name x B,.Name y k] kt pt] (.Tuple [a,b] k2 pt2) X.env=pure (some [x,y]))
  (hs:swapsWithSole [.Tuple [.Name x B,.Name y k] kt pt] (.Tuple [a,b] k2 pt2) pos.line X.env=pure false:=by rfl):
  PS X (.Assign [.Tuple [.Name x B,.Name y k] kt pt] (.Tuple [a,b] k2 pt2) pos) (Cr i j ta):=by
 intro S s U H D I h;refine a7 (dz ?_);refine a7 (au ?_);refine a7 (Tuple_ (lF (ha _ _ s U H _ I h) λus P zz=>?_));obtain⟨vs,Q,I1,r1,l⟩:=zz;obtain⟨v,w,e1,l⟩:=l;subst e1;obtain⟨f,d,rfl,rv,u⟩:∃f d,us=[f,d]/\Z8 v f/\Z8 w d:=by
  cases r1 with
  |cons p q=>
   cases q with
   |cons p' q'=>
    cases q';exact⟨_,_,rfl,p,p'⟩
 refine bw ?_ (by show 2<=sizeLine;decide)
 have I2:Inv X _ U Q {P with heap:=P.heap.push {cls:=.type "tuple",data:=.seq [f,d].toArray} }:=I1.kept λb o e=>ag _ e;rw[hw];refine a7 (au ?_);refine a7 (dZ (a7 (unpackItems_tuple (items:=#[f,d]) (I.ok.hd hc) (IsTup.new _ _) λh' G=>?_)));have I3:=I2.kept (t':=P.toks) λb o e=>G b o (aM (az e)) e;refine a7 (assignInOrder_cons (wpAny_bindName (jx I3 hN hj (.inl hy) u (λs2 I4=>?_) (.inr hy))));refine assignInOrder_cons (wpAny_bindName (jx I4 hN hi (.inl Z) rv (λs3 I5=>assignInOrder_nil (au ?_)) (.inr Z)));rw[List.set_comm _ _ (aY J)]at I5;exact⟨_,Q,I5,l⟩
end
section
variable {X:Cx}{pos:Pos}
def gu (c:TT)(tb:TS):TS:=λD a H=>∃W:Nat->St->Hp->Prop,(∃m,W m a H)/\∀m a H,W m a H->
 c a H λb d=>if b=true then ∃N:St->Hp->Prop,(∀σ' i,N σ' i->∃f,f<m/\W f σ' i)/\tb {D with nx:=N,ct:=N,bk:=D.nx} a d else D.nx a d
def vy {c:Expr}{body:List Stmt}{tc:TT}{tb:TS}(hp:PassesOwn 05 X.A X.env X.xe)(Q:PT X c tc)(hb:PSs X body tb):PS X (.While c body [] pos) (gu tc tb):=by
 intro y s S H D I h;obtain⟨W,⟨Z,w0⟩,i⟩:=h;refine wpAny_While (codeAny_whileLoop (λn U=>∃σ' B,Inv X _ σ' B U/\W n σ' B) ?_ Z ⟨S,H,I,w0⟩)
 rintro n s1 ⟨d,x,I1,w1⟩
 refine cz hp (lF (Q _ s1 d x _ I1 (i n d x w1)) λb s2 zz=>?_);obtain⟨J,P,k⟩:=zz;cases b with
 |true=>
  obtain⟨N,G,k⟩:=k;refine cz hp (lF (hb _ s2 d J _ P k) λf s3 j=>?_);cases f with
  |next=>
   obtain⟨a,H3,u,p⟩:=j;obtain⟨l,o,w3⟩:=G a H3 p;exact⟨l,o,a,H3,u,w3⟩
  |cont=>
   obtain⟨a,H3,u,p⟩:=j;obtain⟨l,o,w3⟩:=G a H3 p;exact⟨l,o,a,H3,u,w3⟩
  |brk=>exact j
  |ret v=>exact j
 |false=>
  exact c_ ⟨d,J,P,k⟩
end
structure It where
 go:Nat->Hp->Prop
 yld:Nat->Hp->V->Hp->Prop
 stop:Nat->Hp->Prop
def wU (X:Cx)(a:List 000)(H:Hp)(b:Addr):Prop:=
 H b=none/\b≠X.env.locals/\b∉X.fs/\(b∈X.ex\/X.s₀.1.1.size<=b)/\(∀x c,X.env.cells.lookup x=some c->c≠b)/\∀p∈X.pn++a,p.1≠b
def Inv.fpOk {X:Cx}{a:List 000}{i:St}{H f:Hp}{s:Shared}{b:Addr}(I:Inv X a i H s)(d:s.1.1.size<=b)(hn:f b=none):wU X a f b:=by
 refine⟨hn,dL (aP I.lt d),I.nofs d,.inr (aC I.sz d),λx c e z=>?_,λp hp z=>?_⟩
 ·obtain⟨v,q⟩:=I.cell x c e;exact absurd (aP q.lt (by rw[z];exact d)) (bI _)
 ·exact absurd (aP (az (I.pin p hp).1) (by rw[z];exact d)) (bI _)
structure Y2 (P:Program) (w:World) (K:aa) (tg:Expr) (J:It) (fp:List Addr) (it:Addr) (tn:Nat->Heap->Prop):Prop where
 mem:it∈fp
 obj:∀i h,tn i h->∀b∈fp,∃o,h.get? b=some o/\∀v,o.data≠.cell v
 keep:∀i h h',tn i h->(∀b∈fp,∀o,h.get? b=some o->h'.get? b=some o)->tn i h'
 item:∀(X:Cx),X.prog=P->X.w=w->X.K=K->X.calm=true->∀(i:Nat) (pins:List 000) (s:Shared) (σ:St) (H:Hp) (E:Value->Shared->Prop),Inv X pins σ H s->(∀b∈fp,wU X pins H b)->tn i s.heap->J.go i H->
  wpAny (model P w) X.A (pyNext (.ref it)) (λr s1=>∃u,r=some u/\
   wpAny (model P w) X.A (letOwnedTupleGo tg (.ref it) u) (λ_ s2=>∃x H',Inv X pins σ H' s2/\Z8 x u/\J.yld i H x H'/\tn (i+1) s2.heap/\∀b∈fp,H' b=none) E s1) E s
 done:∀(X:Cx),X.prog=P->X.w=w->X.K=K->X.calm=true->∀(i:Nat) (pins:List 000) (s:Shared) (σ:St) (H:Hp) (E:Value->Shared->Prop),Inv X pins σ H s->(∀b∈fp,wU X pins H b)->tn i s.heap->J.stop i H->
  wpAny (model P w) X.A (pyNext (.ref it)) (λr s1=>r=none/\Inv X pins σ H s1) E s
 self:∀(A:Around) (i:Nat) (s:Shared) (Q:Value->Shared->Prop) (E:Value->Shared->Prop),tn i s.heap->Q (.ref it) s->wpAny (model P w) A (pyIter (.ref it)) Q E s
abbrev TI:=St->Hp->(It->Hp->Prop)->Prop
def CW (X:Cx)(a:List 000)(l:St)(k:Expr)(R:It->Hp->Prop)(f:Value)(j:Shared):Prop:=
 ∃(it:Addr) (fp:List Addr) (i:Nat->Heap->Prop) (J:It) (d:Hp),f=.ref it/\Inv X a l d j/\Y2 X.prog X.w X.K k J fp it i/\i 0 j.heap/\(∀b∈fp,wU X a d b)/\R J d
def PI (X:Cx)(f iter:Expr)(i:TI):Prop:=
 ∀(a:List 000) (s:Shared) (d:St) (H:Hp) (R:It->Hp->Prop),Inv X a d H s->i d H R->
  wpAny 05 X.A (eval iter X.env) (λv j=>wpAny 05 X.A (pyIter v) (CW X a d f R) X.xe j) X.xe s
def yq {M:Model}{A:Around}{E:Value->Shared->Prop}{s:Shared}{d:Expr}{it:Addr}{u:Value}{o:Obj}{n:String}{vs:Array Value}{Q:Unit->Shared->Prop}(f:s.heap.get? it=some o)(i:o.cls=.type n)(hd:o.data=.fields vs)
  (hn:["enumerate","zip","dict_itemiterator","dict_reverseitemiterator","odict_iterator","itertools.zip_longest","itertools.pairwise"].contains n=false) (a:Q () s):wpAny M A (letOwnedTupleGo d (.ref it) u) Q E s:=by
 cases d<;>first
  |exact au a
  |(cases u<;>first
    |exact au a
    |(refine a7 (wpAny_load f ?_);rw[i,hd];show wpAny M A (if (["enumerate","zip","dict_itemiterator","dict_reverseitemiterator","odict_iterator","itertools.zip_longest","itertools.pairwise"].contains n&&vs[0]?==some _)=true then _ else _) Q E s;rw[if_neg (by intro h;rw[hn]at h;cases h)];exact au a))
def tT (K:aa)(a:Addr):It:=
 ⟨λi H=>∃xs x,SqL K H a xs/\xs[i]?=some x,λi H x d=>d=H/\∀xs,SqL K H a xs->xs[i]?=some x,λi H=>∃xs,SqL K H a xs/\xs.length<=i⟩
def Bo (K:aa)(a:Addr):It:=
 ⟨λi H=>∃xs x,SqT K H a xs/\xs[i]?=some x,λi H x d=>d=H/\∀xs,SqT K H a xs->xs[i]?=some x,λi H=>∃xs,SqT K H a xs/\xs.length<=i⟩
noncomputable def pK (lo:Int)(n:Nat):It:=⟨λi _=>i<n,λi H x a=>a=H/\x=.int (lo+i),λi _=>n<=i⟩
def WZ {P:Program}{w:World}{K:aa}{tg:Expr}(a it:Addr):Y2 P w K tg (tT K a) [it] it (λi h=>h.IsListIter it a i) where
 mem:=by simp
 obj:=λi h st b j=>by
  have e:b=it:=by simpa using j
  subst e;obtain⟨o,e,c,d⟩:=st;exact⟨o,e,λv z=>by rw[d]at z;cases z⟩
 keep:=λi h h' st k=>st.at λo e=>k it (by simp) o e
 item:=by
  intro X hP N Z hc i f s σ H E I B st G;subst hP N Z;obtain⟨xs,x,y,hx⟩:=G;obtain⟨J,U,p,hz⟩:=I.list y;obtain⟨u,hu,ru⟩:=U.get hx;obtain⟨Q,D,f2,f3,S,f5⟩:=B it (by simp)
  refine wpAny_pyNext_list_item st p.isList (x:=u) (by simpa using hu) λh' l sb=>?_
  have I1:Inv X f σ H {s with heap:=h'}:=I.turned (t':=s.toks) (λb o j e=>(sb.2 b j).trans e) Q D f3 S f5;obtain⟨o,e,c,d⟩:=id l;exact⟨u,rfl,yq (s:={s with heap:=h'}) e c d 03 ⟨x,H,I1,ru,⟨rfl,λys hy=>by rw[I.list_inj hy y];exact hx⟩,l,λb j=>(B b j).1⟩⟩
 done:=by
  intro X hP N Z hc i f s σ H E I B st G;subst hP N Z;obtain⟨xs,y,hx⟩:=G;obtain⟨J,U,p,hz⟩:=I.list y;obtain⟨Q,D,f2,f3,S,f5⟩:=B it (by simp)
  have hl:=U.length;exact wpAny_pyNext_list_end (I.ok.hd hc) st p.isList (by simp;omega) λh' eb=>⟨rfl,I.turned (t':=s.toks) (λb o j e=>eb b o j e) Q D f3 S f5⟩
 self:=λ_ _ _ _ _ st h=>wpAny_pyIter_listiter st h
def yr {P:Program}{w:World}{K:aa}{tg:Expr}(a it:Addr):Y2 P w K tg (Bo K a) [it] it (λi h=>h.IsTupleIter it a i) where
 mem:=by simp
 obj:=λi h st b l=>by
  have e:b=it:=by simpa using l
  subst e;obtain⟨o,e,c,d⟩:=st;exact⟨o,e,λv z=>by rw[d]at z;cases z⟩
 keep:=λi h h' st k=>st.at λo e=>k it (by simp) o e
 item:=by
  intro X hP N Z hc i f s σ H E I D st J;subst hP N Z;obtain⟨xs,x,B,hx⟩:=J;obtain⟨j,U,p,hz⟩:=I.tuple B;obtain⟨u,hu,ru⟩:=U.get hx;obtain⟨Q,G,f2,f3,S,f5⟩:=D it (by simp)
  refine wpAny_pyNext_tuple_item st (show s.heap.IsTuple a j.toArray from p) (x:=u) (by simpa using hu) λh' y sb=>?_
  have I1:Inv X f σ H {s with heap:=h'}:=I.turned (t':=s.toks) (λb o l e=>(sb.2 b l).trans e) Q G f3 S f5;obtain⟨o,e,c,d⟩:=id y;exact⟨u,rfl,yq (s:={s with heap:=h'}) e c d 03 ⟨x,H,I1,ru,⟨rfl,λys hy=>by rw[I.tuple_inj hy B];exact hx⟩,y,λb l=>(D b l).1⟩⟩
 done:=by
  intro X hP N Z hc i f s σ H E I D st J;subst hP N Z;obtain⟨xs,B,hx⟩:=J;obtain⟨j,U,p,hz⟩:=I.tuple B;obtain⟨Q,G,f2,f3,S,f5⟩:=D it (by simp)
  have hl:=U.length;exact wpAny_pyNext_tuple_end (I.ok.hd hc) st (show s.heap.IsTuple a j.toArray from p) (by simp;omega) λh' eb=>⟨rfl,I.turned (t':=s.toks) (λb o l e=>eb b o l e) Q G f3 S f5⟩
 self:=λ_ _ _ _ _ st h=>wpAny_pyIter_tupleiter st h
def yt {P:Program}{w:World}{K:aa}{tg:Expr}(it:Addr)(lo:Int)(n:Nat):Y2 P w K tg (pK lo n) [it] it (λi h=>IsRangeIter h it (lo+(i:Nat)*1) ((n:Int)-(i:Nat)) 1) where
 mem:=by simp
 obj:=λi h st b d=>by
  have e:b=it:=by simpa using d
  subst e;exact⟨_,st,λv z=>by
   have Z:Data.fields _=Data.cell v:=z;cases Z⟩
 keep:=λi h h' st k=>k it (by simp) _ st
 item:=by
  intro X G x D u i a s Q H E I j st p;subst G x D;obtain⟨B,l,f2,N,y,J⟩:=j it (by simp)
  have W:=Walks.range (prog:=X.prog) (w:=X.w) (I.ok.hd u) it lo 1 n;refine W.item i s _ _ p st λv h' tk S f kk=>?_;obtain⟨t,rfl⟩:=S;have I1:Inv X a Q H {s with heap:=h',toks:=tk}:=I.turned (λb o d e=>kk b o (by simpa using d) e) B l N y J
  refine⟨_,rfl,yq (s:={s with heap:=h',toks:=tk}) (n:="range_iterator") f rfl rfl 03 ⟨.int (lo+i),H,I1,⟨t,?_⟩,⟨rfl,rfl⟩,f,λb d=>(j b d).1⟩⟩
  rw[Int.mul_one]
 done:=by
  intro X G x D u i a s Q H E I j st p;subst G x D;obtain⟨B,l,f2,N,y,J⟩:=j it (by simp)
  exact wpAny_pyNext_range_end (I.ok.hd u) st (by have:n<=i:=p;omega) λh' U=>⟨rfl,I.turned (t':=s.toks) (λb o d e=>U b o d e) B l N y J⟩
 self:=λ_ _ _ _ _ st h=>wpAny_pyIter_rangeiter st h
end L2
namespace L2
open PySem PySem.Spec PyProof.Rows
section
variable {X:Cx}{tg:Expr}
def Fm (K:aa)(f:TE):TI:=λi H R=>f i H λx d=>∃a,x=.ref a/\(∃xs,SqL K d a xs)/\R (tT K a) d
def Yg {l:Expr}{i:TE}(u:PE X l i):PI X tg l (Fm X.K i):=by
 intro f s G H R I h;refine lF (u _ s G H _ I h) λv j=>EP.on λx B d k N=>?_;obtain⟨a,e,⟨xs,D⟩,q⟩:=N;subst e;cases k;obtain⟨y,P,p,Q⟩:=d.list D;refine cj p.isList ?_;refine⟨j.1.1.size,[j.1.1.size],_,_,B,rfl,d.kept λb o e=>ag _ e,WZ a _,⟨_,ao _ rfl,rfl,rfl⟩,λb J=>?_,q⟩;have e:=by simpa using J
 subst e;exact d.fpOk (ar _) (d.hok.fresh (ar _))
def Us {a:List 000}{d:St}{H:Hp}{s:Shared}{R:It->Hp->Prop}{E:Value->Shared->Prop}{lo hi:Int}{t u v:Tok}{tk:Nat}(I:Inv X a d H s)(l: -(2^62)<=lo)(k:lo<2^62)(i: -(2^62)<=hi)(j:hi<2^62)
  (q:R (pK lo (hi-lo).toNat) H):wpAny 05 X.A (pyIter (.ref s.1.1.size)) (CW X a d tg R) E {s with heap:=s.heap.push {cls:=.type "range",data:=.fields #[.int lo t,.int hi u,.int 1 v]},toks:=tk}:=by
 refine wpAny_pyIter_range (IsRange.new ..) (small_one l k i j) ?_;have f:Inv X _ d H {s with heap:=s.heap.push {cls:=.type "range",data:=.fields #[.int lo t,.int hi u,.int 1 v]},toks:=tk}:=I.kept λb o e=>ag _ e;refine⟨(s.heap.push _).objs.size,[(s.heap.push _).objs.size],_,_,H,rfl,
  f.kept λb o e=>ag _ e,yt _ lo _,?_,λb y=>?_,q⟩
 ·have p:lo+((0:Nat))*1=lo:=by simp
  have x:(((hi-lo).toNat):Int)-((0:Nat))=fE lo hi 1:=by rw[rangeSize_one];split<;>omega
  rw[p,x];exact ao _ rfl
 ·have e:b=(s.heap.push {cls:=.type "range",data:=.fields #[.int lo t,.int hi u,.int 1 v]}).objs.size:=by simpa using y
  subst e;exact f.fpOk (ar _) (f.hok.fresh (ar _))
def Fo (a:TA):TI:=λd H R=>a d H λvs f=>∃j:Int,vs=[.int j]/\ -(2^62)<=j/\j<2^62/\R (pK 0 j.toNat) f
def FV (d:TA):TI:=λf H R=>d f H λvs a=>∃i j:Int,vs=[.int i,.int j]/\(-(2^62)<=i/\i<2^62/\ -(2^62)<=j/\j<2^62)/\R (pK i (j-i).toNat) a
def Yh {a:Expr}{i:TA}{p pos:Pos}(l:Gl X "range")(u:X.mg "range"=none)(G:PA X [a] i)(o:starEach [a] X.env=[(false,eval a X.env)]:=by rfl):PI X tg (.Call (.Name "range" p) [a] [] pos) (Fo i):=by
 intro f s y H R I h;refine Call_ (ja I l u boot_range (bc (lF (G pos _ s y H _ I h) λN P B=>?_) o rfl));obtain⟨vs,J,D,k,d⟩:=B;obtain⟨j,e,d,x,q⟩:=d;subst e;cases k with
 |cons r v=>
  cases v;obtain⟨t,rfl⟩:=r;exact call_range_1 (Us D (by omega) (by omega) d x (by simpa using q))
def Yi {a b:Expr}{o:TA}{p pos:Pos}(v:Gl X "range")(y:X.mg "range"=none)(G:PA X [a,b] o)(x:starEach [a,b] X.env=[(false,eval a X.env),(false,eval b X.env)]:=by rfl)(d:starEach [b] X.env=[(false,eval b X.env)]:=by rfl):
  PI X tg (.Call (.Name "range" p) [a,b] [] pos) (FV o):=by
 intro l s B H R I h;refine Call_ (ja I v y boot_range (bc (lF (G pos _ s B H _ I h) λZ s1 P=>?_) (by rw[x,d]) (by rw[d];rfl)))
 obtain⟨vs,U,Q,u,f⟩:=P;obtain⟨i,j,e,⟨f,N,J,S⟩,q⟩:=f;subst e;cases u with
 |cons r k=>
  cases k with
  |cons D k=>
   cases k;obtain⟨t,rfl⟩:=r;obtain⟨t',rfl⟩:=D;exact call_range_2 (Us Q f N J S q)
def BE (o:TI)(g:TG)(tb:TS):TS:=λD a H=>o a H λJ k=>∃W:Nat->Nat->St->Hp->Prop,(∃m,W 0 m a k)/\∀i m a H,W i m a H->
 (J.stop i H/\D.nx a H)\/(J.go i H/\∃N:St->Hp->Prop,(∀σ' d,N σ' d->∃j,j<m/\W (i+1) j σ' d)/\∀x d,J.yld i H x d->g x a d λf l=>tb {D with nx:=N,ct:=N,bk:=D.nx} f l)
noncomputable def Ut (fp:List Addr)(h:Heap):List 000:=fp.filterMap λb=>(h.get? b).map λo=>(b,o)
def jz {fp:List Addr}{h:Heap}{b:Addr}{o:Obj}(a:b∈fp)(e:h.get? b=some o):(b,o)∈Ut fp h:=dE.mpr ⟨b,a,by rw[e];rfl⟩
def Yj {fp:List Addr}{h:Heap}{p:Addr×Obj}(hp:p∈Ut fp h):p.1∈fp/\h.get? p.1=some p.2:=by
 obtain⟨b,d,e⟩:=dE.mp hp;cases q:h.get? b with
 |none=>rw[q]at e;cases e
 |some o=>
  rw[q]at e;have a:=aA e;subst a;exact⟨d,q⟩
def Inv.pinned {a:List 000}{f:St}{H:Hp}{s:Shared}{fp:List Addr}(I:Inv X a f H s)(y:∀b∈fp,wU X a H b)(l:∀b∈fp,∃o,s.heap.get? b=some o/\∀v,o.data≠.cell v):Inv X (a++Ut fp s.heap) f H s:=
 I.pins_of λp hp=>(bh.mp hp).elim (λz=>I.pin p (aJ _ z)) λz=>by
  obtain⟨j,e⟩:=Yj z;obtain⟨u,k,x,_⟩:=y p.1 j;obtain⟨o,i,d⟩:=l p.1 j;rw[e]at i;cases i;exact⟨e,u,k,x,d⟩
def Inv.unpinned {a pl:List 000}{d:St}{H:Hp}{s:Shared}(I:Inv X (a++pl) d H s):Inv X a d H s:=I.pins_of λp hp=>I.pin p (aJ _ (cg _ hp))
def xi {iter:Expr}{body:List Stmt}{wi:TI}{g:TG}{tb:TS}{pos:Pos}(hp:PassesOwn 05 X.A X.env X.xe)(hc:X.calm=true)(hi:PI X tg iter wi)(hg:PG X tg g)(l:PSs X body tb)
  (hs:∀x,foldedSetIterable iter X.env x=pure x:=by intro _;rfl):PS X (.For tg iter body [] pos) (BE wi g tb):=by
 intro S s σ H D I h;refine wpAny_For (lF (hi _ s σ H _ I h) λv s1 h1=>lF h1 λitv s2 h2=>?_) hs;obtain⟨it,fp,tn,J,H2,e,I2,T,mJ,f2,W,⟨m0,w0⟩,turn⟩:=h2;subst e;have k:∀{B:Hp},(∀b∈fp,B b=none)->∀b∈fp,wU X _ B b:=λhn b l=>⟨hn b l,(f2 b l).2⟩;refine codeAny_forLoop_any (λn s'=>∃i σ' B,Inv X _ σ' B s'/\tn i s'.heap/\(∀b∈fp,B b=none)/\W i n σ' B) ?_ m0 ⟨0,σ,H2,I2,mJ,λb l=>(f2 b l).1,w0⟩
 rintro n s3 ⟨i,p,H3,I3,st3,fr3,w3⟩
 rcases turn i n p H3 w3 with ⟨Z,qn⟩|⟨go,N,hN,step⟩
 ·refine cz hp (lF (T.done X rfl rfl rfl hc i _ s3 p H3 _ I3 (k fr3) st3 Z) λr s4 Q=>?_);obtain⟨hr,I4⟩:=Q;subst hr;exact c_ ⟨p,H3,I4,qn⟩
 ·refine cz hp (lF (T.item X rfl rfl rfl hc i _ s3 p H3 _ I3 (k fr3) st3 go) λr s4 Q=>?_);obtain⟨u,hr,h4⟩:=Q;subst hr;refine cz hp (lF h4 λ_ s5 Q=>?_);obtain⟨x,H5,I5,r5,y5,P,fr5⟩:=Q;have I5':=I5.pinned (k fr5) (T.obj _ _ P);refine cz hp (lF (hg _ s5 p H5 x u _ I5' r5 (step x H5 y5)) λ_ s6 Q=>?_);obtain⟨σ6,H6,I6,q6⟩:=Q;refine cz hp (lF (l _ s6 σ6 H6 _ I6 q6) λf s7 G=>?_);have again:∀{a:St} {j:Hp},Inv X (S++Ut fp _) a j s7->N a j->∃m,m<n/\∃i σ' B,Inv X _ σ' B s7/\tn i _/\(∀b∈fp,B b=none)/\W i m σ' B:=λ{a j} y U=>by
   obtain⟨m',hm,w7⟩:=hN a j U;refine⟨m',hm,i+1,a,j,y.unpinned,T.keep _ _ _ P λb l o e=>(y.pin _ (aJ _ (aJ _ (jz l e)))).1,λb l=>?_,w7⟩;obtain⟨o,e,d⟩:=T.obj _ _ P b l;exact(y.pin _ (aJ _ (aJ _ (jz l e)))).2.1
  cases f with
  |next=>obtain⟨a,j,y,U⟩:=G;exact again y U
  |cont=>obtain⟨a,j,y,U⟩:=G;exact again y U
  |brk=>obtain⟨a,j,y,G⟩:=G;exact⟨a,j,y.unpinned,G⟩
  |ret v=>obtain⟨x7,a,j,y,r7,G⟩:=G;exact⟨x7,a,j,y.unpinned,r7,G⟩
end
end L2
namespace L2
open PySem PySem.Spec PyProof.Rows
abbrev R2:=V->V->Hp->VK->Prop
def lR (X:Cx)(f:Value->Value->Sem Value)(r:R2):Prop:=
 ∀(a:List 000) (s:Shared) (d:St) (H:Hp) (x y:V) (v u:Value) (Q:VK),Inv X a d H s->Z8 x v->Z8 y u->r x y H Q->
  wpAny 05 X.A (f v u) (EP X a d Q) X.xe s
def BC (X:Cx)(f:Value->Sem Value)(r:V->Hp->VK->Prop):Prop:=
 ∀(a:List 000) (s:Shared) (d:St) (H:Hp) (x:V) (v:Value) (Q:VK),Inv X a d H s->Z8 x v->r x H Q->
  wpAny 05 X.A (f v) (EP X a d Q) X.xe s
def Zt (X:Cx)(f:Value)(r:List V->Hp->VK->Prop):Prop:=
 ∀(a:List 000) (s:Shared) (i:St) (H:Hp) (xs:List V) (d:List Value) (Q:VK),Inv X a i H s->zZ xs d->r xs H Q->
  wpAny 05 X.A (call f d) (EP X a i Q) X.xe s
def BS (X:Cx)(r:V->Hp->(Bool->Hp->Prop)->Prop):Prop:=
 ∀(a:List _) (s:Shared) (d:St) (H:Hp) (x:V) (v:Value) (Q:Bool->Hp->Prop),Inv X a d H s->Z8 x v->r x H Q->
  wpAny 05 X.A (truthy v) (TP X a d Q) X.xe s
def tf (r:R2)(i tb:TE):TE:=λa H Q=>i a H λx d=>tb a d λy f=>r x y f Q
def Hn (r:V->Hp->VK->Prop)(a:TE):TE:=λf H Q=>a f H λx d=>r x d Q
def rI (C:Int->Int->Prop)(g:Int->Int->V):R2:=λx y H Q=>∃i j,x=.int i/\y=.int j/\C i j/\Q (g i j) H
def oj (g:Int->Int->V):R2:=λx y H Q=>∃i j,x=.int i/\y=.int j/\Q (g i j) H
def rU (g:Int->V):V->Hp->VK->Prop:=λx H Q=>∃i,x=.int i/\Q (g i) H
section
variable {X:Cx}{a b c:Expr}{ta tb tc:TE}{pos:Pos}
def Cn (S:PE X a ta)(N:PE X b tb){d:List 000}{s:Shared}{i:St}{H:Hp}{R:V->V->Hp->Prop}(I:Inv X d i H s)
  (h:ta i H λx p=>tb i p λy j=>R x y j) {Q:Value->Shared->Prop} {f:Value->Value->Sem Value}
  (Z:∀v u o x y j,Inv X d i j o->Z8 x v->Z8 y u->R x y j->wpAny 05 X.A (f v u) Q X.xe o):
  wpAny 05 X.A (eval a X.env) (λv l=>wpAny 05 X.A (eval b X.env) (λu k=>wpAny 05 X.A (f v u) Q X.xe k) X.xe l) X.xe s:=by
 refine lF (S _ s i H _ I h) λv D=>EP.on λx p P B q1=>?_;refine lF (N _ D i p _ P q1) λu o=>EP.on λy j U J G=>?_;exact Z v u o x y j U B J G
def gv {f:Operator}{r:R2}(i:lR X (binaryOp f) r)(o:PE X a ta)(l:PE X b tb):PE X (.BinOp a f b pos) (tf r ta tb):=by
 intro d s k H Q I h;exact wpAny_BinOp (Cn o l I h λv u p x y B D j G q=>i _ p k B x y v u Q D j G q)
def HG {i:UnaryOp}{r:V->Hp->VK->Prop}(l:BC X (unaryOp i) r)(p:PE X a ta):PE X (.UnaryOp i a pos) (Hn r ta):=by
 intro d s f H Q I h;exact UnaryOp_ (lF (p _ s f H _ I h) λv u=>EP.on λx k o j y=>l _ u f k x v Q o j y)
def By {f:Value->Value->Sem Value}{C:Int->Int->Prop}{g:Int->Int->Int}
  (rule:∀(i j:Int) (t u:Tok) (s:Shared) (Q:Value->Shared->Prop) (E:Value->Shared->Prop),C i j->Q (.int (g i j) s.toks) {s with toks:=s.toks+1}->wpAny 05 X.A (f (.int i t) (.int j u)) Q E s):
  lR X f (rI C λi j=>.int (g i j)):=by
 intro d s p H x y v u Q I l o h;obtain⟨i,j,rfl,rfl,k,q⟩:=h;obtain⟨t,rfl⟩:=l;obtain⟨t',rfl⟩:=o;exact rule i j t t' s _ _ k ⟨.int _,H,I.tok _,⟨_,rfl⟩,q⟩
def r9 {f:Value->Value->Sem Value}{g:Int->Int->Int}
  (rule:∀(i j:Int) (t u:Tok) (s:Shared) (Q:Value->Shared->Prop) (E:Value->Shared->Prop),Q (.int (g i j) s.toks) {s with toks:=s.toks+1}->wpAny 05 X.A (f (.int i t) (.int j u)) Q E s):
  lR X f (oj λi j=>.int (g i j)):=by
 intro d s o H x y v u Q I k l h;obtain⟨i,j,rfl,rfl,q⟩:=h;obtain⟨t,rfl⟩:=k;obtain⟨t',rfl⟩:=l;exact rule i j t t' s _ _ ⟨.int _,H,I.tok _,⟨_,rfl⟩,q⟩
def BR {f:Value->Value->Sem Value}{g:Int->Int->Bool}
  (rule:∀(i j:Int) (t u:Tok) (s:Shared) (Q:Value->Shared->Prop) (E:Value->Shared->Prop),Q (.bool (g i j)) s->wpAny 05 X.A (f (.int i t) (.int j u)) Q E s):
  lR X f (oj λi j=>.bl (g i j)):=by
 intro d s o H x y v u Q I k l h;obtain⟨i,j,rfl,rfl,q⟩:=h;obtain⟨t,rfl⟩:=k;obtain⟨t',rfl⟩:=l;exact rule i j t t' s _ _ ⟨.bl _,H,I,rfl,q⟩
noncomputable def CI (i j:Int):Prop:=0<j/\j<1073741824
noncomputable def uV (i j:Int):Prop:=(-(2^64)<i/\i<2^64)\/(-(2^64)<j/\j<2^64)
def uV.ok {i j:Int}(h:uV i j):IntMulOk i j:=by
 rcases h with ⟨d,f⟩|⟨d,f⟩
 ·exact .of_left (intBits_le_64 d f)
 ·exact .of_right (intBits_le_64 d f)
def gw:lR X (binaryOp .Add) (oj λi j=>.int (i+j)):=r9 λ_ _ _ _ _ _ _ q=>add_int q
def gy:lR X (binaryOp .Sub) (oj λi j=>.int (i-j)):=r9 λ_ _ _ _ _ _ _ q=>sub_int q
def gz:lR X (binaryOp .Mult) (rI uV λi j=>.int (i*j)):=By λ_ _ _ _ _ _ _ d q=>mul_int q d.ok
def Xe:lR X (binaryOp .FloorDiv) (rI CI λi j=>.int (i/j)):=By λi j _ _ _ _ _ d q=>by
 have f:=d.1;have k:=d.2;exact floordiv_int (by omega) (by rw[Int.fdiv_eq_ediv_of_nonneg i (by omega)];exact q) (.inl (PyProof.noPylong_small (by omega)))
def gA:lR X (binaryOp .Mod) (rI (λ_ j=>0<j) λi j=>.int (i%j)):=By λi j _ _ _ _ _ d q=>by
 exact mod_int' (by omega) (by rw[Int.fmod_eq_emod_of_nonneg i (by omega)];exact q)
def Ek {f:Value->Sem Value}{g:Int->Int}
  (rule:∀(i:Int) (t:Tok) (s:Shared) (Q:Value->Shared->Prop) (E:Value->Shared->Prop),Q (.int (g i) s.toks) {s with toks:=s.toks+1}->wpAny 05 X.A (f (.int i t)) Q E s):
  BC X f (rU λi=>.int (g i)):=by
 intro d s k H x v Q I j h;obtain⟨i,rfl,q⟩:=h;obtain⟨t,rfl⟩:=j;exact rule i t s _ _ ⟨.int _,H,I.tok _,⟨_,rfl⟩,q⟩
def gB:BC X (unaryOp .USub) (rU λi=>.int (-i)):=Ek λ_ _ _ _ _ q=>neg_int q
def Yk:lR X (binaryOp .Add) (λx y H Q=>∃i k,x=.int i/\y=.bl k/\Q (.int (i+b2i k)) H):=by
 intro d s l H x y v u Q I f j h;obtain⟨i,k,rfl,rfl,q⟩:=h;obtain⟨t,rfl⟩:=f;cases j;exact add_int_bool ⟨.int _,H,I.tok _,⟨_,rfl⟩,q⟩
end
section
variable {X:Cx}{a b c:Expr}{ta tb tc:TE}{pos:Pos}
def Hv:lR X (compareOp .Lt) (oj λi j=>.bl (decide (i<j))):=BR λ_ _ _ _ _ _ _ q=>lt_int q
def Ej:lR X (compareOp .LtE) (oj λi j=>.bl (decide (i<=j))):=BR λ_ _ _ _ _ _ _ q=>le_int q
def Eu:lR X (compareOp .Gt) (oj λi j=>.bl (decide (j<i))):=BR λ_ _ _ _ _ _ _ q=>gt_int q
def wg (b:Expr){d:CmpOp}(h:d≠.In:=by decide)(j:d≠.NotIn:=by decide):behindInMarks d b=false:=by
 have f:(d==CmpOp.In)=false:=by cases d<;>first|rfl|exact absurd rfl h
 have i:(d==CmpOp.NotIn)=false:=by cases d<;>first|rfl|exact absurd rfl j
 cases b<;>simp[behindInMarks,f,i]
def Xf {d:CmpOp}{r:R2}(j:lR X (compareOp d) r)(p:PE X a ta)(o:PE X b tb)(i:behindInMarks d b=false):PE X (.Compare a [d] [b] pos) (tf r ta tb):=by
 intro f s l H Q I h;exact wpAny_Compare1 (Cn p o I h λv u B x y D G k J q=>j _ B l D x y v u Q G k J q) i
def gC (t:TE):TT:=λf H Q=>t f H λx d=>∃k,x=.bl k/\Q k d
def Yl {f:CmpOp}{r:R2}(p:lR X (compareOp f) r)(G:PE X a ta)(U:PE X b tb)(o:behindInMarks f b=false):PT X (.Compare a [f] [b] pos) (gC (tf r ta tb)):=by
 intro i s d H Q I h;refine wpAny_isTrue_Compare1 (lF (G _ s d H _ I h) λv s1=>EP.on λx l Z j J=>lF (U _ s1 d l _ Z J) λu s2=>EP.on λy H2 I2 D S=>
  lF (p _ s2 d H2 x y v u _ I2 j D S) λc s3 ⟨z,H3,N,B,k,e,P⟩=>?_) o
 subst e;cases B;exact bi ⟨H3,N,P⟩
def xj (r i:R2)(ta tb tc:TE):TE:=λd H Q=>ta d H λx f=>tb d f λy j=>r x y j λz H3=>∃k,z=.bl k/\
 (if k=true then tc d H3 λo l=>i y o l Q else Q (.bl false) H3)
def vz {l f:CmpOp}{r B:R2}(U:lR X (compareOp l) r)(j:lR X (compareOp f) B)(ha:PE X a ta)(hb:PE X b tb)(Z:PE X c tc)
  (S:lastMarks [l,f] [b,c]=false:=by with_unfolding_all rfl):PE X (.Compare a [l,f] [b,c] pos) (xj r B ta tb tc):=by
 intro o s i H Q I h;refine Compare_chain (lF (ha _ s i H _ I h) λv s1=>EP.on λx N I1 J q1=>chain_link (lF (hb _ s1 i N _ I1 q1) λu s2=>EP.on λy H2 I2 p q2=>
  lF (U _ s2 i H2 x y v u _ I2 J p q2) λd s3 ⟨z,H3,D,r3,k,e,G⟩=>?_)) S
 subst e;cases r3;refine bi ?_;cases k with
 |false=>exact ite_ff ⟨.bl _,H3,D,rfl,G⟩
 |true=>exact ite_tt (chain_last (lF (Z _ s3 i H3 _ D G) λw' s4=>EP.on λP H4 I4 r4 q4=>j _ s4 i H4 y P u w' Q I4 p r4 q4))
def vA {l f:CmpOp}{r B:R2}(U:lR X (compareOp l) r)(j:lR X (compareOp f) B)(ha:PE X a ta)(hb:PE X b tb)(Z:PE X c tc)
  (S:lastMarks [l,f] [b,c]=false:=by with_unfolding_all rfl):PT X (.Compare a [l,f] [b,c] pos) (gC (xj r B ta tb tc)):=by
 intro o s i H Q I h;refine isTrue_chain (lF (ha _ s i H _ I h) λv s1=>EP.on λx N I1 J q1=>test_link (lF (hb _ s1 i N _ I1 q1) λu s2=>EP.on λy H2 I2 p q2=>
  lF (U _ s2 i H2 x y v u _ I2 J p q2) λd s3 ⟨z,H3,D,r3,k,e,G⟩=>?_)) S
 subst e;cases r3;refine bi ?_;cases k with
 |false=>
  obtain⟨k',e',q'⟩:=G;cases e';exact ite_ff ⟨H3,D,q'⟩
 |true=>
  refine ite_tt (test_last (lF (Z _ s3 i H3 _ D G) λw' s4=>EP.on λP H4 I4 r4 q4=>lF (j _ s4 i H4 y P u w' _ I4 p r4 q4) λd' s5 zz=>?_));obtain⟨z2,H5,I5,r5,k2,e2,q5⟩:=zz;subst e2;cases r5;exact bi ⟨H5,I5,q5⟩
def pZ (K:aa)(x:V)(H:Hp)(k:Bool):Prop:=
 match x with
 |.non=>k=false
 |.bl b=>k=b
 |.int i=>k=(i !=0)
 |.str y=>y.length<=sizeLine/\k=((y.length:Int) !=0)
 |.byt y=>y.size<=sizeLine/\k=((y.size:Int) !=0)
 |.ref p=>(∃xs,SqL K H p xs/\k= !xs.isEmpty)\/(∃xs,SqT K H p xs/\k= !xs.isEmpty)\/∃d,H p=some (.dK d)/\k= !d.isEmpty
 |_=>False
def yu {f:Type}{d:List (f×V)}{vs:List (f×Value)}(r:KV d vs):(!vs.isEmpty)= !d.isEmpty:=by
 cases r<;>rfl
def W4 {xs:List V}{d:List Value}(r:zZ xs d):(!d.toArray.isEmpty)= !xs.isEmpty:=by
 cases r<;>simp
def u3:(sizeLine:Nat)<2^63:=by decide
def gE:BS X (λx H Q=>∃k,pZ X.K x H k/\Q k H):=by
 intro B s N H x v Q I j h;obtain⟨k,e,q⟩:=h;have J:=cC;cases x with
 |non=>
  cases j;have d:k=false:=e;subst d;exact truthy_none ⟨H,I,q⟩
 |bl b=>
  cases j;have d:k=b:=e;subst d;exact bi ⟨H,I,q⟩
 |int i=>
  obtain⟨t,rfl⟩:=j;have d:k=(i !=0):=e;subst d;exact PySem.P.truthy_int ⟨H,I,q⟩
 |str y=>
  obtain⟨t,rfl⟩:=j;obtain⟨hy,d⟩:y.length<=sizeLine/\k=((y.length:Int) !=0):=e;subst d;exact PySem.P.truthy_str (by omega) ⟨H,I.tok _,q⟩
 |byt y=>
  obtain⟨t,rfl⟩:=j;obtain⟨hy,d⟩:y.size<=sizeLine/\k=((y.size:Int) !=0):=e;subst d;exact PySem.W.truthy_bytes (by omega) ⟨H,I.tok _,q⟩
 |ref p=>
  cases j;have d:=e;rcases d with ⟨xs,l,d⟩|⟨xs,l,d⟩|⟨o,l,d⟩
  ·subst d;obtain⟨u,r,pl,D⟩:=I.list l;have f:=r.length;exact wpAny_truthy_list pl.isList (by simp only[aD];omega) ⟨H,I.tok _,by rw[W4 r];exact q⟩
  ·subst d;obtain⟨u,r,pl,D⟩:=I.tuple l;have f:=r.length;exact truthy_tuple pl (by simp only[aD];omega) ⟨H,I.tok _,by rw[W4 r];exact q⟩
  ·subst d;obtain⟨D,G,vs,r,m⟩:o.length<=sizeLine/\(p==sysModules)=false/\∃vs,KV o vs/\s.heap.DictOf _ p vs:=I.hok p _ l;have f:=Paired.length r;exact wpAny_truthy_dict G m (by omega) ⟨H,I.tok _,by rw[yu r];exact q⟩
 |_=>exact(e).elim
def vC (y:PE X a ta)(p:∀d,isTrue a X.env d=(do let v ←d;standAt a.pos;holding [v] (truthy v))):
  PT X a (λf H Q=>ta f H λx j=>∃k,pZ X.K x j k/\Q k j):=by
 intro i s f H Q I h;exact isTrue_plain (lF (y _ s f H _ I h) λv B=>EP.on λx o u l D=>gE _ B f o x v Q u l D) (p _)
def yv:lR X (binaryOp .Add) (λx y H Q=>∃i j,x=.str i/\y=.str j/\i.length+j.length<=sizeLine/\Q (.str (i++j)) H):=by
 intro d s o H x y v u Q I f l h;obtain⟨i,j,rfl,rfl,k,q⟩:=h;obtain⟨t,rfl⟩:=f;obtain⟨t',rfl⟩:=l;exact add_str (λt' tk=>⟨.str _,H,I.tok _,⟨_,rfl⟩,q⟩) k
def ZP {x:V}{d:List Value}(r:zZ [x] d):∃u,d=[u]/\Z8 x u:=by
 cases r with
 |cons f i=>cases i;exact⟨_,rfl,f⟩
def yw {x y:V}{d:List Value}(r:zZ [x,y] d):∃u f,d=[u,f]/\Z8 x u/\Z8 y f:=by
 cases r with
 |cons i l=>
  cases l with
  |cons k j=>cases j;exact⟨_,_,rfl,i,k⟩
def vD:Zt X (.builtin "abs") (λxs H Q=>∃i,xs=[.int i]/\Q (.int (if i<0 then-i else i)) H):=by
 intro d s f H xs j Q I r h;obtain⟨i,rfl,q⟩:=h;obtain⟨u,rfl,t,rfl⟩:=ZP r;exact call_abs_int λu tk=>⟨.int _,H,I.tok _,⟨_,rfl⟩,q⟩
def Ym (l:X.calm=true):Zt X (.builtin "max") (λxs H Q=>∃i j,xs=[.int i,.int j]/\Q (.int (if j>i then j else i)) H):=by
 intro f s o H xs p Q I r h;obtain⟨i,j,rfl,q⟩:=h;obtain⟨u,v,rfl,⟨t,rfl⟩,⟨t',rfl⟩⟩:=yw r;refine max_two_ints (I.ok.hd l) λh' tk k=>⟨_,H,I.kept k,?_,q⟩
 by_cases d:j>i
 ·rw[if_pos d,if_pos d];exact⟨_,rfl⟩
 ·rw[if_neg d,if_neg d];exact⟨_,rfl⟩
def Yn (l:X.calm=true):Zt X (.builtin "min") (λxs H Q=>∃i j,xs=[.int i,.int j]/\Q (.int (if j<i then j else i)) H):=by
 intro f s o H xs p Q I r h;obtain⟨i,j,rfl,q⟩:=h;obtain⟨u,v,rfl,⟨t,rfl⟩,⟨t',rfl⟩⟩:=yw r;refine min_two_ints (I.ok.hd l) λh' tk k=>⟨_,H,I.kept k,?_,q⟩
 by_cases d:j<i
 ·rw[if_pos d,if_pos d];exact⟨_,rfl⟩
 ·rw[if_neg d,if_neg d];exact⟨_,rfl⟩
def Yo:Zt X (.type "int") (λxs H Q=>(∃i,xs=[.int i]/\Q (.int i) H)\/∃k,xs=[.bl k]/\Q (.int (if k then 1 else 0)) H):=by
 intro d s j H xs l Q I r h;rcases h with ⟨i,rfl,q⟩|⟨k,rfl,q⟩
 ·obtain⟨u,rfl,t,rfl⟩:=ZP r;exact call_int_int ⟨.int i,H,I,⟨_,rfl⟩,q⟩
 ·obtain⟨u,rfl,f⟩:=ZP r;cases f;exact call_int_bool ⟨.int _,H,I.tok _,⟨_,rfl⟩,q⟩
end
end L2
namespace L2
open PySem PySem.Spec PyProof.Rows
structure Xg (h:Heap) (x dx C:Addr) (mA:Str->Option Value):Prop where
 obj:h.get? x=some (cW C dx)
 ns:h.Ns1 dx mA
 ne:dx≠x
def Yp {h:Heap}{i:Addr}{f:Str->Option Value}(n:h.Ns1 i f):∃od,h.get? i=some od/\∀name,eM name od=some (f name):=by
 obtain⟨o,j,v,u,hd,k,_,p⟩:=n;refine⟨o,u,λname=>?_⟩;have e:=p name;unfold nsFind findBy at e;rw[←Array.find?_toList]at e;unfold eM;rw[hd];dsimp only;split
 ·rename_i y q;rw[q]at e;exact congrArg _ e
 ·rename_i q;rw[q]at e;have a:j.toList.any (·.refKey)=false:=by
   rw[List.any_eq_false];intro y hy;obtain⟨z,t,d⟩:=k y (Array.mem_toList_iff.mp hy);simp[DictEntry.refKey,d]
  have l:¬j.toList.any (·.refKey)=true:=by rw[a];exact aN
  rw[if_neg l];exact congrArg _ e
def Xg.look {h:Heap}{x d C:Addr}{a:Str->Option Value}(I:Xg h x d C a):∃od,PySem.W.InstAt h x (cW C d) C (some od)/\∀name,eM name od=some (a name):=
 let ⟨od,ho,hl⟩:=Yp I.ns
 ⟨od,⟨I.obj,rfl,rfl,ho⟩,hl⟩
section
variable {prog:Program}{w:World}{A:Around}{E:Value->Shared->Prop}{s:Shared}{K:aa}{x dx C f:Addr}{mA:Str->Option Value}{name:Str}{v:Value}
def Xh {a:Bool}{Q:Value->Shared->Prop}(X:K.In s.heap)(I:Xg s.heap x dx C mA)(k:d_ K C name=true)(o:eZ K C=true)
  (l:bo K (.ref C) name=some none) (i:mA name=some v) (d:iS v=true) (h:Q v {s with toks:=s.toks+1}):
  wpAny 001 A (getAttr (.ref x) name a) Q E s:=by
 obtain⟨od,J,j⟩:=I.look;exact PySem.W.get_value X J (eI k).1 (PySem.W.findObj_own o l rfl (by rw[j,i])) d h
def vF {pl:Sem Bool}{Q:Value×List Value->Shared->Prop}(X:K.In s.heap)(I:Xg s.heap x dx C mA)(a:d_ K C name=true)
  (k:bo K (.ref C) name=some (some (.ref f))) (j:fT K (.ref f)=true) (d:mA name=none) (h:Q (.ref f,[.ref x]) s):
  wpAny 001 A (getMethod (.ref x) name pl) Q E s:=by
 obtain⟨od,J,i⟩:=I.look;exact PySem.W.method_fn X J (eI a).1 (eI a).2 k (beq_iff_eq.mp j) (by show (eM _ od).map _=some _;rw[i,d];rfl) h
def Xi {ns:List Str}{Q:Unit->Shared->Prop}(X:K.In s.heap)(I:Xg s.heap x dx C mA)
  (o:bo K (.ref C) "__setattr__"=some (some (.builtin "object.__setattr__"))) (hp:iC K C=true) (N:hJ K C name=some none) (B:eZ K C=true)
  (u:fR mA ns) (hsz:ns.length<=sizeLine)
  (h:∀h',Xg h' x dx C (λy=>if y=name then some v else mA y)->cB dx s.heap h'->Q () {s with heap:=h',toks:=s.toks+2}):
  wpAny 001 A (setAttr (.ref x) name v) Q E s:=by
 obtain⟨od,J,S⟩:=I.look;refine PySem.W.set_plain X J o (PySem.W.osa_open X J hp N λb=>?_);obtain⟨cd,p,k⟩:=PySem.W.any_some B;have G:=I.obj;refine a7 (au (a7 (a7 (wpAny_loadPart G (a7 (PySem.W.Looks.here (PySem.W.looks_clsIn X p) ?_))))));rw[k];refine au (a7 (au (a7 ?_)));refine wpAny_nsSet1 I.ns λh' a d=>?_;obtain⟨U,P,D,l,j,i⟩:=a.count (fR.cons _ v u);refine a7 (wpAny_lookBehind l (by rw[j];exact pastItsLine_dict (aC i (by rw[ax];omega))) ?_)
 exact au (h _ ⟨(d.2 _ (aY I.ne)).trans I.obj,a,I.ne⟩ d)
def vG {R:Result->Shared->Prop}{vs:List Value}{a:List (Str×Value)}(X:K.In s.heap)(d:l9 K C=true)
  (hi:bo K (.ref C) "__init__"=some (some (.ref f))) (i:PySem.W.typeIn K (.ref f)=some (.type "function"))
  (h:codeAny 001 (A.under (.builtin "type.__call__" ⟨.ref C::vs,a⟩)) (.call (.ref f) ⟨.ref (s.1.1.size+1)::vs,a⟩) (PySem.W.InitBack (s.1.1.size+1) R)
   {s with heap:=(s.heap.push de).push (cW C s.1.1.size)}):
  codeAny 001 A (.call (.ref C) ⟨vs,a⟩) R s:=by
 exact PySem.W.make_core (PySem.W.makes_of X d) (PySem.W.looks_findIn X hi) (λself=>PySem.W.bind_fn X _ i) (.inl rfl) h
end
noncomputable def putF (f:Str)(v:V):List (Str×V)->List (Str×V)
 |[]=>[(f,v)]
 |(g,x)::r=>if g=f then (g,v)::r else (g,x)::putF f v r
theorem lookup_putF (f g:Str)(v:V):∀fs:List (Str×V),(putF f v fs).lookup g=if g=f then some v else fs.lookup g
 |[]=>by
  show dH g [(f,v)]=_
  by_cases h:g=f
  ·have a:=beq_iff_eq.mpr h;simp only[dH,a,if_pos h]
  ·have a:=beq_eq_false_iff_ne.mpr h;simp only[dH,a,if_neg h]
 |(k,x)::r=>by
  have i:=lookup_putF f g v r;rw[show putF f v _=(if k=f then (k,v)::r else (k,x)::putF f v r) from rfl]
  by_cases d:k=f
  ·rw[if_pos d]
   by_cases h:g=k
   ·have a:=beq_iff_eq.mpr h;simp only[dH,a,if_pos (h.trans d)]
   ·have a:=beq_eq_false_iff_ne.mpr h;simp only[dH,a,if_neg (λe:g=f=>h (e.trans d.symm))]
  ·rw[if_neg d]
   by_cases h:g=k
   ·have a:=beq_iff_eq.mpr h;simp only[dH,a,if_neg (λe=>d (h.symm.trans e))]
   ·have a:=beq_eq_false_iff_ne.mpr h;simp only[dH,a];exact i
theorem wj (f:Str)(v:V):∀fs:List (Str×V),f∈(putF f v fs).map (·.1)/\∀g,g∈fs.map (·.1)->g∈(putF f v fs).map (·.1)
 |[]=>⟨by simp[putF],λg h=>by simp at h⟩
 |(k,x)::r=>by
  obtain⟨i,d⟩:=wj f v r;rw[show putF f v _=(if k=f then (k,v)::r else (k,x)::putF f v r) from rfl]
  by_cases a:k=f
  ·subst a;exact⟨by simp,λg h=>by simpa using h⟩
  ·rw[if_neg a];refine⟨?_,λg h=>?_⟩
   ·exact ae _ i
   ·rcases ay.mp h with e|e
    ·exact ay.mpr (.inl e)
    ·exact ae _ (d g e)
theorem wk (f:Str)(v:V):∀fs:List (Str×V),(putF f v fs).length<=fs.length+1
 |[]=>by simp[putF]
 |(k,x)::r=>by
  have d:=wk f v r;rw[show putF f v _=(if k=f then (k,v)::r else (k,x)::putF f v r) from rfl]
  by_cases a:k=f
  ·rw[if_pos a,ax,ax];omega
  ·rw[if_neg a,ax,ax];omega
def vw.some_of {v:V}{o:Option Value}(r:vw (some v) o):∃u,o=some u/\Z8 v u:=by
 cases o with
 |none=>exact(r).elim
 |some u=>exact⟨u,rfl,r⟩
def vw.none_of {o:Option Value}(r:vw none o):o=none:=by
 cases o with
 |none=>rfl
 |some u=>exact(r).elim
def Yq {v:V}{u:Value}(r:Z8 v u):iS u=true:=by
 cases v with
 |non=>cases (r);rfl
 |bl b=>cases (r);rfl
 |int i=>obtain⟨t,e⟩:=(r);cases e;rfl
 |str x=>obtain⟨t,e⟩:=(r);cases e;rfl
 |byt b=>obtain⟨t,e⟩:=(r);cases e;rfl
 |flt b=>obtain⟨t,e⟩:=(r);cases e;rfl
 |ref a=>cases (r);rfl
 |ty n=>cases (r);rfl
section
variable {P:Program}{w:World}{H H':Hp}{h h':Heap}{a C dx:Addr}{fs fs':List (Str×V)}
def Wq (j:HOk P w H h)(e:H a=some (.ins C dx fs)):∃i,Xg h a dx C i/\(∀f,vw (fs.lookup f) (i f))/\fR i (fs.map (·.1))/\fs.length<=1000/\H dx=some (.own a):=by
 obtain⟨d,z,k,ob,i,n,r,q⟩:=(show Zd P w H h a _ from j a _ e);exact⟨i,⟨ob,n,k⟩,r,q,z,d⟩
end
structure Cls (K:aa) (C:Addr):Prop where
 pg:d_ K C Str.empty=true
 hd:eZ K C=true
 po:iC K C=true
 sa:bo K (.ref C) "__setattr__"=some (some (.builtin "object.__setattr__"))
def Cls.get {K:aa}{C:Addr}(c:Cls K C)(f:Str):d_ K C f=true:=c.pg
noncomputable def NoAttr (K:aa)(C:Addr)(f:Str):Prop:=bo K (.ref C) f=some none
def NoAttr.taker {K:aa}{C:Addr}{f:Str}(n:NoAttr K C f):hJ K C f=some none:=by
 unfold hJ;rw[show bo K _ f=some _ from n];rfl
structure Meth (K:aa) (C:Addr) (m:Str) (f:Addr):Prop where
 at_:bo K (.ref C) m=some (some (.ref f))
 fn:fT K (.ref f)=true
 kp:bx K (.ref f)=true
section
variable {X:Cx}{pins:List 000}{σ:St}{H:Hp}{s:Shared}{a C dx:Addr}{fs:List (Str×V)}{f:Str}{v:V}{A:Around}{E:Value->Shared->Prop}
def yx {b:Bool}{Q:Value->Shared->Prop}(I:Inv X pins σ H s)(e:H a=some (.ins C dx fs))(c:Cls X.K C)(n:NoAttr X.K C f)(l:fs.lookup f=some v)
  (h:∀u i,Inv X pins σ H i->Z8 v u->Q u i):wpAny 05 A (getAttr (.ref a) f b) Q E s:=by
 obtain⟨k,O,r,_,_,_⟩:=Wq I.hok e;obtain⟨u,j,d⟩:=vw.some_of (by rw[←l];exact r f)
 exact Xh I.kIn O (c.get f) c.hd n j (Yq d) (h u _ (I.tok _) d)
def Ji {m:Str}{g:Addr}{pl:Sem Bool}{Q:Value×List Value->Shared->Prop}(I:Inv X pins σ H s)(e:H a=some (.ins C dx fs))(c:Cls X.K C)(k:Meth X.K C m g)(l:fs.lookup m=none)
  (h:Q (.ref g,[.ref a]) s):wpAny 05 A (getMethod (.ref a) m pl) Q E s:=by
 obtain⟨d,O,r,_,_,_⟩:=Wq I.hok e;have hn:=vw.none_of (by rw[←l];exact r m)
 exact vF I.kIn O (c.get m) k.at_ k.fn hn h
def yy {y:V}{u:Value}{Q:Unit->Shared->Prop}(I:Inv X pins σ H s)(e:H a=some (.ins C dx fs))(c:Cls X.K C)(n:NoAttr X.K C f)(J:fs.length<1000)(G:Z8 y u)
  (h:∀k,Inv X pins σ (lf H a (.ins C dx (putF f y fs))) k->Q () k):wpAny 05 A (setAttr (.ref a) f u) Q E s:=by
 obtain⟨p,O,r,i,_,j⟩:=Wq I.hok e;have D:(fs.map (·.1)).length<=sizeLine:=by rw[ah,cC];omega
 refine Xi I.kIn O c.sa c.po n.taker c.hd i D λh' d x=>h _ ?_;have hd:∃o,h'.get? dx=some o:=let ⟨o,_,_,e',_⟩:=d.ns;⟨o,e'⟩;refine I.write (by rw[e];exact True.intro) (.inr j) (λb q B z=>(x.2 b B).trans z) hd ?_
 refine⟨by rw[zu O.ne];exact j,?_,O.ne,d.obj,_,d.ns,λg=>?_,λg l=>?_⟩
 ·have:=wk f y fs;omega
 ·rw[lookup_putF]
  by_cases q:g=f
  ·rw[if_pos q,if_pos q];exact G
  ·rw[if_neg q,if_neg q];exact r g
 ·by_cases q:g=f
  ·rw[q];exact(wj f y fs).1
  ·refine(wj f y fs).2 g (i g λz=>l ?_);show (if g=f then some u else p g)=none
   rw[if_neg q];exact z
def Inv.made (I:Inv X pins σ H s):Inv X pins σ (lf (lf H s.1.1.size (.own (s.1.1.size+1))) (s.1.1.size+1) (.ins C s.1.1.size []))
  {s with heap:=(s.heap.push de).push (cW C s.1.1.size)}:=by
 have i:(s.heap.push de).get? _=some _:=ao _ rfl;have j:=by
  have:=ao (s.heap.push de) (o:=cW C s.1.1.size) rfl;rwa[bX]at this
 have p:(s.heap.push _).Ns _ (λ_=>none):=⟨de,#[],_,i,rfl,(λe l=>absurd l (by simp)),λ_=>rfl⟩
 have k:=I.laid (o:=.own (s.1.1.size+1)) (t':=s.toks) (λb u q=>ag _ q) (ar _) ⟨_,i⟩;refine k.laid (λb u q=>ag _ q) (iD (bX _ _)) ?_;have d:s.1.1.size≠s.1.1.size+1:=aM (dm _);refine⟨by rw[zu d,zw],bu _,d,j,λ_=>none,(Heap.Ns1.of_empty p).at λo q=>ag _ q,λ_=>True.intro,λy hy=>absurd rfl hy⟩
def Xj {prog:Program}{w:World}{env:Env}{e:Expr}{f:Str}{pos:Pos}{s:Shared}{Q:Value->Shared->Prop}(i:attributeBase e f env (eval e env)=eval e env)
  (h:wpAny 001 A (eval e env) (λo d=>wpAny 001 A (getAttr o f true) Q E d) E s):wpAny 001 A (eval (.Attribute e f pos) env) Q E s:=
 Attribute_any_ h (by rw[arm_eval_Attribute,i])
end
def Cg (K:aa)(k:TE)(f:Str):TE:=λi H Q=>k i H λx d=>∃a C j fs v,x=.ref a/\d a=some (.ins C j fs)/\Cls K C/\NoAttr K C f/\fs.lookup f=some v/\Q v d
def Cv (K:aa)(o l:TE)(f:Str):TS:=λD d H=>l d H λy k=>o d k λx i=>∃a C j fs,x=.ref a/\i a=some (.ins C j fs)/\Cls K C/\NoAttr K C f/\fs.length<1000/\
 D.nx d (lf i a (.ins C j (putF f y fs)))
section
variable {X:Cx}{o e value:Expr}{f:Str}{pos pos' tpos:Pos}{ta tv:TE}
def gF (j:PE X e ta)(G:attributeBase e f X.env (eval e X.env)=eval e X.env):PE X (.Attribute e f pos) (Cg X.K ta f):=by
 intro d s k H Q I h;refine Xj G (lF (j _ s k H _ I h) λu Z D=>?_);obtain⟨x,i,J,y,a,C,P,fs,v,ex,B,c,n,l,q⟩:=D;subst ex;obtain rfl:u=Value.ref a:=y;exact yx J B c n l λS U N p=>⟨v,i,N,p,q⟩
def gG (B:PE X o ta)(j:PE X value tv)(k:swapsWith value (some (.Attribute o f pos')) pos.line X.env=pure false):PS X (.Assign [.Attribute o f pos'] value pos) (Cv X.K ta tv f):=by
 intro i s d H D I h;refine plainObj_wpAny_Assign_Attribute (lF (j _ s d H _ I h) λu s1=>EP.on λy p U G q=>lF (B _ s1 d p _ U q) λv s2 S=>?_) k;obtain⟨x,H2,Z,P,a,C,dx,fs,ex,Q,c,n,l,N⟩:=S;subst ex;obtain rfl:v=Value.ref a:=P;exact yy Z Q c n l G λs3 J=>⟨d,_,J,N⟩
def Xk {pl:Sem Bool}{m:Str}{d:Pos}{args:List Expr}{i:List 000}{s:Shared}{j:St}{H:Hp}{Q:Value->Shared->Prop}{te:TE}(D:PE X e te)(I:Inv X i j H s)
  (h:te j H λx v=>∃a C y fs g,x=.ref a/\v a=some (.ins C y fs)/\Cls X.K C/\Meth X.K C m g/\fs.lookup m=none/\
   ∀p,Inv X i j v p->wpAny 05 X.A (callWith pos (.ref g) [.ref a] (backTo pos (starEach args X.env)) (backToKw pos (keywordEach [] X.env))) Q X.xe p)
  (G:eval (.Call (.Attribute e m d) args [] pos) X.env=(do
   let ov ←eval e X.env
   standAt d.atName
   let (f,first) ←holding [ov] (getMethod ov m pl)
   callWith pos f first (backTo pos (starEach args X.env)) (backToKw pos (keywordEach [] X.env)))):
  wpAny 05 X.A (eval (.Call (.Attribute e m d) args [] pos) X.env) Q X.xe s:=by
 refine dX (lF (D _ s j H _ I h) λu p P=>?_) G;obtain⟨x,v,B,J,a,C,y,fs,g,ex,N,c,k,l,q⟩:=P;subst ex;obtain rfl:u=Value.ref a:=J;exact Ji B N c k l (q p B)
end
section
variable {X:Cx}{pins:List 000}{σ:St}{H:Hp}{s:Shared}{A:Around}{E:Value->Shared->Prop}{Q:Value->Shared->Prop}{c:Value}{b:Bool}
inductive yz (K:aa) (H:Hp):V->Value->Prop where
 |non:yz K H .non (.type "NoneType")
 |bl (x:Bool):yz K H (.bl x) (.type "bool")
 |int (i:Int):yz K H (.int i) (.type "int")
 |str (x:Str):yz K H (.str x) (.type "str")
 |flt (x:UInt64):yz K H (.flt x) (.type "float")
 |lst {a:Addr} {xs:List V} (e:H a=some (.lst xs)):yz K H (.ref a) (.type "list")
 |frz {a:Addr} {o:Obj} {xs:List V} (e:H a=some (.frz o (.lst xs))):yz K H (.ref a) (.type "list")
 |tup {a:Addr} {xs:List V} (e:H a=some (.tup xs)):yz K H (.ref a) (.type "tuple")
 |dK {a:Addr} {kvs:List (mF×V)} (e:H a=some (.dK kvs)):yz K H (.ref a) (.type "dict")
 |dT {a:Addr} {kvs:List (List mF×Addr×V)} (e:H a=some (.dT kvs)):yz K H (.ref a) (.type "dict")
 |ins {a C dx:Addr} {fs:List (Str×V)} (e:H a=some (.ins C dx fs)) (cl:Cls K C) (ha:bo K (.ref C) "__class__"=some (some (.builtin "object.__class__")))
   (hn:iE K (.builtin "object.__class__") "__get__"=some (some (.builtin "getset_descriptor.__get__"))) (htk:la K (.builtin "object.__class__")=some true)
   (hm:im K C (.type "object")=some true):yz K H (.ref a) (.ref C)
def Yr {x:V}{u t:Value}(I:Inv X pins σ H s)(d:Z8 x u)(P:yz X.K H x t)(e:aV X.K t c=some b)(h:∀tk,Q (.bool b) {s with toks:=tk}):
  wpAny 05 A (call (.builtin "isinstance") [u,c]) Q E s:=by
 cases P with
 |non=>cases (d);exact bJ PySem.W.kitx_none I.kIn True.intro e (λz=>nomatch z) h
 |bl y=>cases (d);exact bJ PySem.W.kitx_bool I.kIn True.intro e (λz=>nomatch z) h
 |int i=>obtain⟨t,q⟩:=(d);cases q;exact bJ PySem.W.kitx_int I.kIn True.intro e (λz=>nomatch z) h
 |str y=>obtain⟨t,q⟩:=(d);cases q;exact bJ PySem.W.kitx_str I.kIn True.intro e (λz=>nomatch z) h
 |flt y=>obtain⟨t,q⟩:=(d);cases q;exact bJ PySem.W.kitx_float I.kIn True.intro e (λz=>nomatch z) h
 |@lst a xs f=>
  cases (d);obtain⟨_,_,n,_,j⟩:=(show Zd _ X.w H _ a _ from I.hok a _ f);exact bJ iF I.kIn ⟨_,j,rfl⟩ e (λz=>nomatch z) h
 |@frz a ob xs f=>
  cases (d);obtain⟨_,_,_,n,_,j⟩:=(show Zd _ X.w H _ a _ from I.hok a _ f);exact bJ iF I.kIn ⟨_,j,rfl⟩ e (λz=>nomatch z) h
 |@tup a xs f=>
  cases (d);obtain⟨_,_,_,p,_⟩:=(show Zd _ X.w H _ a _ from I.hok a _ f);obtain⟨o,j,k,_⟩:=p;exact bJ PySem.W.kitx_tuple I.kIn ⟨o,j,k⟩ e (λz=>nomatch z) h
 |@dK a v f=>
  cases (d);obtain⟨_,_,vs,_,p⟩:=(show Zd _ X.w H _ a _ from I.hok a _ f);obtain⟨o,G,N,j,k,_⟩:=p;exact bJ iG I.kIn ⟨o,j,k.1⟩ e (λz=>nomatch z) h
 |@dT a v f=>
  cases (d);obtain⟨_,_,xs,_,o,G,N,j,k,_⟩:=(show Zd _ X.w H _ a _ from I.hok a _ f);exact bJ iG I.kIn ⟨o,j,k.1⟩ e (λz=>nomatch z) h
 |@ins a C U fs f cl D hn l B=>
  cases (d);obtain⟨S,O,_⟩:=Wq I.hok f;obtain⟨od,J,_⟩:=O.look;exact bJ (PySem.W.kitx_own (cl.get _) cl.hd D hn l B) I.kIn J e (λz=>nomatch z) h
end
end L2
namespace L2
open PySem PySem.Spec PyProof.Rows
structure Ze (k:Nat) (A:Around):Prop where
 hd:A.handled=none
 dp:A.depth+3*k+5<recursionLimit
 un:A.units+16*k+200<cLine
 gd:A.guards=some []
def Ze.mono {j k:Nat}{A:Around}(r:Ze k A)(h:j<=k):Ze j A:=⟨r.hd,by have:=r.dp;omega,by have:=r.un;omega,r.gd⟩
theorem Ze.deeper {k:Nat}{A:Around}(r:Ze (k+1) A)(env:Env):Ze k (A.deeper env):=
 ⟨r.hd,by have:=r.dp;show A.depth+1+3*k+5<_;omega,by have:=r.un;show A.units+3+16*k+200<_;omega,r.gd⟩
def yA {A:Around}{C:Addr}{a:List Value}{d:List (Str×Value)}:(A.under (.builtin "type.__call__" ⟨.ref C::a,d⟩)).depth=A.depth+1:=by
 first|rfl|simp[Around.under,Code.weight,Code.isCreation,Code.isGuard,Code.isCaller,Code.frames,iH,guardIds]
def yB {A:Around}{C:Addr}{a:List Value}{d:List (Str×Value)}:(A.under (.builtin "type.__call__" ⟨.ref C::a,d⟩)).units=A.units+1:=by
 first|rfl|simp[Around.under,Code.cUnits,Code.frames,iH]
def Ze.make {k:Nat}{A:Around}(r:Ze (k+1) A)(C:Addr)(a:List Value)(d:List (Str×Value)):Ze k (A.under (.builtin "type.__call__" ⟨.ref C::a,d⟩)):=
 ⟨r.hd,by have:=r.dp;rw[yA];omega,by have:=r.un;rw[yB];omega,by first|exact r.gd|simpa[pushGuards]using r.gd⟩
theorem Ze.depth {k:Nat}{A:Around}(r:Ze k A):A.depth<recursionLimit:=by have:=r.dp;omega
theorem Ze.units {k:Nat}{A:Around}(r:Ze k A):A.units+64<cLine:=by have:=r.un;omega
def gH:TA:=λ_ H Q=>Q [] H
def vH (i:TE)(tr:TA):TA:=λa H Q=>i a H λx d=>tr a d λxs f=>Q (x::xs) f
section
variable {X:Cx}{e:Expr}{es:List Expr}{te:TE}{t:TA}{pos:Pos}
def zT:PA X [] gH:=λ_ _ _ _ H Q I h=>iI ⟨[],H,I,.nil,h⟩
def zB (v:PE X e te)(hr:PA X es t)(i:starEach (e::es) X.env=(false,eval e X.env)::starEach es X.env:=by rfl):PA X (e::es) (vH te t):=by
 intro pos a s d H Q I h;rw[i];refine eN (lF (v _ s d H _ I h) λu D o=>?_);obtain⟨x,j,p,f,G⟩:=o;exact lF (hr pos _ D d j _ p G) λJ N ⟨xs,y,B,l,k⟩=>⟨x::xs,y,B,.cons f l,k⟩
def AL (t:TA):TE:=λd H Q=>t d H λxs a=>xs.length<=sizeLine/\∀p,a p=none->Q (.ref p) (lf a p (.tup xs))
def B6 (t:TA):TE:=λd H Q=>t d H λxs a=>xs.length<=sizeLine/\∀p,a p=none->Q (.ref p) (lf a p (.lst xs))
def gJ {x1}(h:PA X es t):PE X (.Tuple es x1 pos) (AL t):=by
 intro a s j H Q I i;refine wpAny_Tuple_spliced (lF (h pos _ s j H _ I i) λk o ⟨xs,f,d,r,z,q⟩=>⟨by rw[←r.length];exact z,?_⟩)
 have l:=d.hok.fresh (ar _);refine⟨.ref _,lf f _ _,d.laid (λb u e=>ag _ e) (ar _) ?_,rfl,q _ l⟩;exact⟨z,k,r,⟨_,ao _ rfl,rfl,_,rfl⟩,.inr ⟨_,ao _ rfl,rfl⟩⟩
def u6 (h:PA X es t):PE X (.List es pos) (B6 t):=by
 intro a s j H Q I i;refine wpAny_List_spliced (lF (h pos _ s j H _ I i) λk o ⟨xs,f,d,r,z,q⟩=>⟨by rw[←r.length];exact z,?_⟩)
 have l:=d.hok.fresh (ar _);refine⟨.ref _,lf f _ _,d.laid (λb u e=>ag _ e) (ar _) ?_,rfl,q _ l⟩;exact⟨z,k,0,r,ao _ rfl⟩
end
abbrev Sp:=List V->Hp->VK->XK->Prop
abbrev mP:=List Env->Hp->Shared->XK->Value->Shared->Prop
structure Uu (P:Program) (w:World) (K:aa) (mg:Str->Option Value) (base:Heap) (A:Around) (outer:List Env) (s:Shared) (H:Hp):Prop where
 frames:A.frames=some outer
 mod:Mod K mg base
 bs:∀b o,base.get? b=some o->s.heap.get? b=some o/\H b=none
 bsz:base.objs.size<=s.1.1.size
 funs:s.heap.FunFrames base outer
 frf:∀b∈lV outer,H b=none
 hok:HOk P w H s.heap
 bare:AllBare s.gens
def CE (outer:List Env)(P:Program)(w:World)(H:Hp)(s:Shared)(Q:VK)(u:Value)(a:Shared):Prop:=
 ∃v d,a.os=s.os/\AllBare a.gens/\Un (lV outer) [] H d s.heap a.heap/\HOk P w d a.heap/\Z8 v u/\Q v d
def CR (CX:mP)(outer:List Env)(P:Program)(w:World)(H:Hp)(s:Shared)(Q:VK)(E:XK)(r:Result)(a:Shared):Prop:=
 match r with
 |.ok (.ret u)=>CE outer P w H s Q u a
 |.ok _=>False
 |.error e=>CX outer H s E e a
structure ZX (P:Program) (w:World) (K:aa) (mg:Str->Option Value) (base:Heap) (CX:mP) (k:Nat) (f:Addr) (fd:FuncData) (ps:List Str) (sp:Sp):Prop where
 len:∀vs H Q E,sp vs H Q E->vs.length=ps.length
 run:∀(A:Around) (outer:List Env) (s:Shared) (H:Hp) (args:Args) (us:List Value) (vs:List V) (Q:VK) (E:XK),Ze k A->Uu P w K mg base A outer s H->BindsTo s fd args (ps.zip us)->zZ vs us->sp vs H Q E->
  codeAny (model P w) A (.call (.ref f) args) (CR CX outer P w H s Q E) s
def Uu.make {P:Program}{w:World}{K:aa}{a:Str->Option Value}{base:Heap}{A:Around}{outer:List Env}{s:Shared}{H:Hp}(e:Uu P w K a base A outer s H)(C:Addr)(d:List Value)(f:List (Str×Value)):
  Uu P w K a base (A.under (.builtin "type.__call__" ⟨.ref C::d,f⟩)) outer s H:=⟨by first|exact e.frames|(simpa[iH]using e.frames),e.mod,e.bs,e.bsz,e.funs,e.frf,e.hok,e.bare⟩
section
variable {X:Cx}{pins:List 000}{σ:St}{H:Hp}{s s':Shared}
def Inv.env0 (I:Inv X pins σ H s):Uu X.prog X.w X.K X.mg X.base X.A X.stack s H:=
 ⟨I.ok.frames,I.ok.mod,I.bs,aC I.ok.bsz I.sz,I.stack,I.stkFree,I.hok,I.bare⟩
def Inv.after {Q:VK}{u:Value}(I:Inv X pins σ H s)(h:CE X.stack X.prog X.w H s Q u s'):EP X pins σ Q u s':=by
 obtain⟨v,j,os,a,un,i,r,q⟩:=h;obtain⟨k,g,d,t,f⟩:=s';obtain rfl:f=s.os:=os;exact⟨v,j,I.call un i a (λb z=>absurd z (by simp)),r,q⟩
end
def Fq (sp:Sp)(a:List V)(E:XK)(t:TA):TE:=λd H Q=>t d H λvs f=>sp (vs++a) f Q E
def gK (C:Addr)(m:Str)(sp:Sp)(d:List V)(E:XK)(j:TE)(t:TA):TE:=λi H Q=>j i H λx f=>∃a l fs,x=.ref a/\f a=some (.ins C l fs)/\fs.lookup m=none/\
 t i f λvs k=>sp (x::(vs++d)) k Q E
def HX (C:Addr)(sp:Sp)(f:List V)(E:XK)(t:TA):TE:=λi H Q=>t i H λvs d=>∀x a,d x=none->d a=none->a≠x->
 sp (.ref x::(vs++f)) (lf (lf d a (.own x)) x (.ins C a [])) (λv j=>v=.non/\Q (.ref x) j) E
noncomputable def Binds (K:aa)(i:FuncData)(f:List Str)(d:List Value):Prop:=
 ∀(s:Shared) (a:List Value),K.In s.heap->(a++d).length=f.length->BindsTo s i ⟨a,[]⟩ (f.zip (a++d))
def Binds.all {K:aa}{i:FuncData}{d:List Str}(h:∀a:List Value,a.length=d.length->bindArgs i ⟨a,[]⟩=pure (d.zip a)):Binds K i d []:=λs a _ f=>by
 rw[aW]at f⊢;exact .of_eq (h a f)
def zS (CX:mP)(X:Cx)(E:XK):Prop:=∀(a:List 000) (f:St) (H:Hp) (s:Shared) (e:Value) (d:Shared),Inv X a f H s->CX X.stack H s E e d->X.xe e d
section
variable {X:Cx}{CX:mP}{k:Nat}{f C:Addr}{fd:FuncData}{ps:List Str}{sp:Sp}{dvs:List V}{ds:List Value}{E:XK}{x m:Str}{p pos apos:Pos}{e o:Expr}{es:List Expr}{ta:TE}{t:TA}
def Uv {a:List 000}{j:St}{H:Hp}{s:Shared}{Q:VK}{i:List Value}{vs:List V}(F:ZX X.prog X.w X.K X.mg X.base CX k f fd ps sp)(hr:Ze k X.A)(G:Binds X.K fd ps ds)(hd:zZ dvs ds)(v:zS CX X E)
  (I:Inv X a j H s) (r:zZ vs i) (h:sp (vs++dvs) H Q E):wpAny 05 X.A (call (.ref f) i) (EP X a j Q) X.xe s:=by
 have l:=r.append hd;have B:(i++ds).length=ps.length:=by rw[←l.length];exact F.len _ _ _ _ h
 refine dF (cD (F.run X.A _ s H _ _ _ Q E hr I.env0 (G s i I.kIn B) l h) λr y d=>?_);cases r with
 |error e=>exact v _ j H s e y I d
 |ok D=>
  cases D with
  |ret u=>exact I.after d
  |next=>exact bC d
  |brk=>exact bC d
  |cont=>exact bC d
def Jj (F:ZX X.prog X.w X.K X.mg X.base CX k f fd ps sp)(hr:Ze k X.A)(u:Gl X x)(v:X.mg x=some (.ref f))(l:bx X.K (.ref f)=true)(G:Binds X.K fd ps ds)(hd:zZ dvs ds)(D:zS CX X E)
  (J:PA X (e::es) t) (a:(x==("__debug__":Str))=false:=by decide) (y:starEach (e::es) X.env=(false,eval e X.env)::starEach es X.env:=by rfl) (d:(backTo pos (starEach es X.env)).any (·.1)=false:=by rfl):
  PE X (.Call (.Name x p) (e::es) [] pos) (Fq sp dvs E t):=by
 intro i s B H Q I h;refine bG (jQ I u v ?_ a);refine dG I.ok.mod.kin l (lF (J pos _ s B H _ I h) λP S ⟨vs,N,j,r,q⟩=>⟨j.kIn,?_⟩) y d;exact Uv F hr G hd D j r q
def Ys {pl:Sem Bool}(J:PE X o ta)(c:Cls X.K C)(v:Meth X.K C m f)(F:ZX X.prog X.w X.K X.mg X.base CX k f fd ps sp)(hr:Ze k X.A)(hb:Binds X.K fd ps ds)(hd:zZ dvs ds)(N:zS CX X E)(S:PA X (e::es) t)
  (i:starEach (e::es) X.env=(false,eval e X.env)::starEach es X.env:=by rfl) (d:(backTo pos (starEach es X.env)).any (·.1)=false:=by rfl)
  (P:eval (.Call (.Attribute o m apos) (e::es) [] pos) X.env=(do
   let ov ←eval o X.env
   standAt apos.atName
   let (f,first) ←holding [ov] (getMethod ov m pl)
   callWith pos f first (backTo pos (starEach (e::es) X.env)) (backToKw pos (keywordEach [] X.env))):=by rfl):
  PE X (.Call (.Attribute o m apos) (e::es) [] pos) (gK C m sp dvs E ta t):=by
 intro j s y H Q I h;refine dX (lF (J _ s y H _ I h) λu s1 zz=>?_) P;obtain⟨x,G,B,Z,a,dx,fs,ex,ea,l,q⟩:=zz;subst ex;obtain rfl:u=Value.ref a:=Z;refine Ji B ea c v l ?_;refine dG I.ok.mod.kin v.kp (lF (S pos _ s1 y G _ B q) λus s2 ⟨vs,H2,D,r,U⟩=>⟨D.kIn,?_⟩) i d;exact Uv (vs:=.ref a::vs) F hr hb hd N D (.cons rfl r) U
def vI {pl:Sem Bool}(v:PE X o ta)(c:Cls X.K C)(j:Meth X.K C m f)(F:ZX X.prog X.w X.K X.mg X.base CX k f fd ps sp)(hr:Ze k X.A)(P:Binds X.K fd ps ds)(hd:zZ dvs ds)(B:zS CX X E)
  (D:eval (.Call (.Attribute o m apos) [] [] pos) X.env=(do
   let ov ←eval o X.env
   standAt apos.atName
   let (f,first) ←holding [ov] (getMethod ov m pl)
   callWith pos f first (backTo pos (starEach [] X.env)) (backToKw pos (keywordEach [] X.env))):=by rfl):
  PE X (.Call (.Attribute o m apos) [] [] pos) (gK C m sp dvs E ta gH):=by
 intro i s y H Q I h;refine dX (lF (v _ s y H _ I h) λu Z N=>?_) D;obtain⟨x,S,d,G,a,U,fs,ex,J,l,q⟩:=N;subst ex;obtain rfl:u=Value.ref a:=G;refine Ji d J c j l ?_;exact PySem.W.callWith_K0 d.kIn j.kp (Uv (vs:=[.ref a]) F hr P hd B d (.cons rfl .nil) q)
structure Mk (K:aa) (C f:Addr):Prop where
 makes:l9 K C=true
 init:bo K (.ref C) "__init__"=some (some (.ref f))
 fn:fT K (.ref f)=true
 kp:bx K (.ref C)=true
def vJ {d:List 000}{y:St}{H:Hp}{s:Shared}{Q:VK}{j:List Value}{vs:List V}(M:Mk X.K C f)(F:ZX X.prog X.w X.K X.mg X.base CX k f fd ps sp)(hr:Ze (k+1) X.A)(hb:Binds X.K fd ps ds)(hd:zZ dvs ds)
  (J:zS CX X E) (I:Inv X d y H s) (r:zZ vs j)
  (h:∀x i,H x=none->H i=none->i≠x->sp (.ref x::(vs++dvs)) (lf (lf H i (.own x)) x (.ins C i [])) (λv H2=>v=.non/\Q (.ref x) H2) E):
  wpAny 05 X.A (call (.ref C) j) (EP X d y Q) X.xe s:=by
 have B:=h _ _ (I.hok.fresh (e_ _)) (I.hok.fresh (ar _)) (aM (dm _));have l:=Inv.made (C:=C) I;have D:zZ (V.ref (s.1.1.size+1)::(vs++dvs)) _:=.cons rfl (r.append hd);have U:=by
  have e:=D.length;rw[F.len _ _ _ _ B]at e;exact e.symm
 refine dF (vG I.kIn M.makes M.init (beq_iff_eq.mp M.fn) (cD (F.run _ _ _ _ _ _ _ _ E (hr.make C j [])
  (l.env0.make C j []) (hb _ _ l.kIn U) D B) λr P a=>?_))
 cases r with
 |error e=>exact J _ y _ _ e P l a
 |ok Z=>
  cases Z with
  |ret u=>
   obtain⟨v,N,I3,G,S,q3⟩:=l.after a;subst S;exact⟨G,⟨V.ref _,N,I3,rfl,q3⟩⟩
  |next=>exact bC a
  |brk=>exact bC a
  |cont=>exact bC a
def Xl (M:Mk X.K C f)(F:ZX X.prog X.w X.K X.mg X.base CX k f fd ps sp)(hr:Ze (k+1) X.A)(l:Gl X x)(u:X.mg x=some (.ref C))(D:Binds X.K fd ps ds)(hd:zZ dvs ds)(B:zS CX X E)
  (G:PA X (e::es) t) (a:(x==("__debug__":Str))=false:=by decide) (v:starEach (e::es) X.env=(false,eval e X.env)::starEach es X.env:=by rfl) (d:(backTo pos (starEach es X.env)).any (·.1)=false:=by rfl):
  PE X (.Call (.Name x p) (e::es) [] pos) (HX C sp dvs E t):=by
 intro i s y H Q I h;refine bG (jQ I l u ?_ a);refine dG I.ok.mod.kin M.kp (lF (G pos _ s y H _ I h) λN P ⟨vs,J,j,r,q⟩=>⟨j.kIn,?_⟩) v d;exact vJ M F hr D hd B j r q
end
def PK (X:Cx)(d:List Keyword)(t:TA):Prop:=
 ∀(pos:Pos) (a:List 000) (s:Shared) (f:St) (H:Hp) (Q:List V->Hp->Prop),Inv X a f H s->t f H Q->wpAny 05 X.A (evalAll ((backToKw pos (keywordEach d X.env)).map (·.2))) (AP X a f Q) X.xe s
section
variable {X:Cx}{CX:mP}{k:Nat}{f C:Addr}{fd:FuncData}{ps ks:List Str}{sp:Sp}{E:XK}{x m:Str}{p pos apos kpos:Pos}{e o:Expr}{es:List Expr}{kws:List Keyword}{te ta:TE}{t tk:TA}{nm:Option Str}
def gL:PK X [] gH:=λ_ _ _ _ H Q I h=>wpAny_evalAll_nil ⟨[],H,I,.nil,h⟩
def Yt (B:PE X e te)(hr:PK X kws t):PK X (⟨nm,e,kpos⟩::kws) (vH te t):=by
 intro pos a s d H Q I h;refine wpAny_evalAll_cons (a7 (lF (B _ s d H _ I h) λu J ⟨x,j,y,i,N⟩=>a7 (dz (au ?_))));exact lF (hr pos _ J d j _ y N) λP S ⟨xs,D,G,v,l⟩=>⟨x::xs,D,G,.cons i v,l⟩
variable {g:List Value->List Value->List Value}{gV:List V->List V->List V}
end
structure Zk (N P:List Str) (sc:Scope):Prop where
 kind:sc.kind=.function
 co:sc.isCoroutine=false
 gen:sc.isGenerator=false
 nd:N.Nodup
 pre:N.take P.length=P
 par:∀x∈P,sc.names.lookup x=some .local\/sc.names.lookup x=some .cell
 nofree:∀y∈sc.names,y.2≠.free
theorem u7 {kindOf:Str->Option NameKind}{x:Str}:∀{binds:List (Str×Value)} {m:Str->Option Value},(∀v,(x,v)∉binds)->bindL kindOf binds m x=m x
 |[],_,_=>rfl
 |(n,v)::r,m,h=>by
  unfold bindL;rw[u7 λw a=>h w (ae _ a)];split
  ·have:x≠n:=by rintro rfl;exact h v aq
   simp[this]
  ·rfl
theorem u8 {kindOf:Str->Option NameKind}{x:Str}:∀{binds:List (Str×Value)} {m:Str->Option Value},(∀v,(x,v)∉binds)->bindC kindOf binds m x=m x
 |[],_,_=>rfl
 |(n,v)::r,m,h=>by
  unfold bindC;rw[u8 λw a=>h w (ae _ a)];split
  ·rfl
  ·have:x≠n:=by rintro rfl;exact h v aq
   simp[this]
theorem u9 {kindOf:Str->Option NameKind}{x:Str}{v:Value}:∀{P:List Str} {vs:List Value} {i:Nat} {m:Str->Option Value},P.Nodup->P[i]?=some x->vs[i]?=some v->kindOf x=some .local->
  bindL kindOf (P.zip vs) m x=some v
 |[],_,_,_,_,h,_,_=>by simp at h
 |_::_,[],_,_,_,_,h,_=>by simp at h
 |p::P,w::vs,0,m,nd,d,a,f=>by
  simp at d a;subst d;subst a;show bindL _ ((p,w)::P.zip vs) m p=_;unfold bindL;rw[u7 λv j=>(d0.mp nd).1 (cA j).1,if_pos f];simp
 |p::P,w::vs,i+1,m,nd,d,a,f=>by
  show bindL _ ((p,w)::P.zip vs) m x=_;exact u9 (d0.mp nd).2 (by simpa using d) (by simpa using a) f
theorem ua {kindOf:Str->Option NameKind}{x:Str}{v:Value}:∀{P:List Str} {vs:List Value} {i:Nat} {m:Str->Option Value},P.Nodup->P[i]?=some x->vs[i]?=some v->kindOf x≠some .local->
  bindC kindOf (P.zip vs) m x=some v
 |[],_,_,_,_,h,_,_=>by simp at h
 |_::_,[],_,_,_,_,h,_=>by simp at h
 |p::P,w::vs,0,m,nd,d,a,f=>by
  simp at d a;subst d;subst a;show bindC _ ((p,w)::P.zip vs) m p=_;unfold bindC;rw[u8 λv j=>(d0.mp nd).1 (cA j).1,if_neg f];simp
 |p::P,w::vs,i+1,m,nd,d,a,f=>by
  show bindC _ ((p,w)::P.zip vs) m x=_;exact ua (d0.mp nd).2 (by simpa using d) (by simpa using a) f
def start (N:List Str)(vs:List V):St:=vs.map some++ac (N.length-vs.length) none
def jc (CX:mP)(P:Program)(w:World)(K:aa)(mg:Str->Option Value)(base:Heap)(N:List Str)(a:Str)(scope:Scope)(f:Addr)(cd:Value)(A:Around)(outer:List Env)(s:Shared)(H:Hp)(E:XK):Cx where
 prog:=P
 w:=w
 K:=K
 mg:=mg
 base:=base
 A:=A.deeper (envOfC a scope s.1.1.size f cd)
 N:=N
 s₀:=s
 H₀:=H
 env:=envOfC a scope s.1.1.size f cd
 outer:=outer
 stack:=envOfC a scope s.1.1.size f cd::outer
 ex:=[]
 calm:=true
 fn:=λ_=>true
 pn:=[]
 xe:=λe j=>wpAny (model P w) (A.deeper (envOfC a scope s.1.1.size f cd)) (leaving (envOfC a scope s.1.1.size f cd) e) (λ_ d=>CX outer H s E e d) (λi d=>CX outer H s E i d) j
def Uw {a:Scope}{n:Nat}{x:Str}(h:a.names.lookup x=some .cell):∃c,(cellsFrom n a.names []).lookup x=some c:=by
 have q:=fU _ n [] (.inl h);exact dA.mp q
def Yu {CX:mP}{P:Program}{w:World}{K:aa}{I:Str->Option Value}{base:Heap}{N B:List Str}{d:Str}{scope:Scope}{f:Addr}{cd:Value}{A:Around}{outer:List Env}{s X:Shared}{H:Hp}{E:XK}{J:List Value}{vs:List V}
  (S:Zk N B scope) (hd:A.handled=none) (l:Uu P w K I base A outer s H) (hl:vs.length=B.length) (r:zZ vs J)
  (x:InCallC s s.1.1.size (bindL (envOfC d scope s.1.1.size f cd).kindOf (B.zip J) λ_=>none) (cellsFrom (s.1.1.size+1) scope.names []) (bindC (envOfC d scope s.1.1.size f cd).kindOf (B.zip J) λ_=>none) X):
  Inv (jc CX P w K I base N d scope f cd A outer s H E) [] (start N vs) H X:=by
 have hpl:=by have:=congrArg List.length S.pre;rw[eA]at this;omega
 obtain⟨G,tk,rfl,Q⟩:=x.done;have o:∀b,b∉(jc CX P w K I base N d scope f cd A outer s H E).ex:=λb z=>absurd (show b∈([]:List _) from z) (by simp)
 refine⟨⟨l.mod,S.kind,rfl,rfl,ar _,λy z c G j=>?_,λy hy=>?_,λy c _ h=>?_,λ_=>hd,hZ l.frames,.inr ⟨rfl,rfl⟩,λb z=>absurd z (o b),l.bs,l.bsz,λb _ _=>o b,λb z=>absurd z (o b),l.funs,l.frf⟩,
  rfl,l.bare,Un.kept Q,⟨_,x.toInCall.ns,λi y v G j h3=>?_⟩,λy c h=>⟨_,x.cell y c h⟩,l.hok.fresh (ar _),λy c h=>?_,λp hp=>absurd (show p∈([]:List _) from hp) (by simp),l.hok.kept Q,?_⟩
 ·exact name_of_addr x.apart (bz G) (bz j)
 ·rcases hy with hy|hy
  ·exact Uw hy
  ·exact absurd rfl (S.nofree _ (bz hy))
 ·exact fS (x.above y c (bz h))
 ·have hi:i<vs.length:=by
   unfold start at j
   by_cases hi:i<vs.length
   ·exact hi
   ·rw[aE (by simpa using hi)]at j
    rw[aF]at j;split at j<;>cases j
  have ha:vs[i]?=some v:=by
   unfold start at j;rw[aG (by simpa using hi),aj]at j
   cases e:vs[i]? with
   |none=>rw[e]at j;cases j
   |some a=>rw[e]at j;cases j;rfl
  obtain⟨u,U,Z⟩:=r.get ha;have hp:B[i]?=some y:=by
   rw[←S.pre,dB (by omega)];exact G
  have D:B.Nodup:=by rw[←S.pre];exact S.nd.sublist (List.take_sublist _ _)
  refine⟨u,Z,?_⟩;rcases S.par y (aT hp)with k|k
  ·exact .inl ⟨k,u9 D hp U k⟩
  ·obtain⟨c,e⟩:=Uw k;refine .inr ⟨.inl k,c,e,?_⟩;have q:=x.cell y c e;rw[ua D hp U (by show scope.names.lookup y≠_;rw[k];decide)]at q
   exact q
 ·exact l.hok.fresh (fS (x.above y c (bz h)))
 ·unfold start;show _=N.length;rw[aB,ah,aS];omega
def vK {CX:mP}{P:Program}{w:World}{K:aa}{X:Str->Option Value}{base:Heap}{k:Nat}{f:Addr}{name a:Str}{params:Arguments}{body:List Stmt}{scope:Scope}{dV kV p pm cdv ct oc:Value}{an od:Option Addr}
  {Z:Array (Option Value)} {N U:List Str} {sp:Sp} (lk:K.lookup f=some ⟨oc,od,.func (bL name a params body scope dV kV p pm an cdv ct),Z⟩) (hcd:dM K cdv a=true) (S:Zk N U scope)
  (len:∀vs H Q E,sp vs H Q E->vs.length=U.length)
  (j:∀(A:Around) (outer:List Env) (s:Shared) (H:Hp) (vs:List V) (Q:VK) (E:XK),Ze k (A.deeper (envOfC a scope s.1.1.size f cdv))->sp vs H Q E->
   ∃t,PSs (jc CX P w K X base N a scope f cdv A outer s H E) body t/\t {nx:=λ_ d=>Q .non d,rt:=Q} (start N vs) H):
  ZX P w K X base CX (k+1) f (bL name a params body scope dV kV p pm an cdv ct) U sp:=by
 refine⟨len,λA outer s H args us vs Q E hr B hb r G=>?_⟩;have hl:=len _ _ _ _ G;have KX:=B.mod.kin.keeps λb o e=>(B.bs b o e).1;have lim:=B.mod.nolimit.keeps λb o e=>(B.bs b o e).1;have i:∀y∈U.zip us,scope.names.lookup y.1=some _\/(scope.names.lookup y.1=some _/\((cellsFrom (s.1.1.size+1) _ []).lookup y.1).isSome=true):=λ⟨n,v⟩ hy=>by
  rcases S.par n (cA hy).1 with q|q
  ·exact .inl q
  ·exact .inr ⟨q,fU _ _ _ (.inl q)⟩
 refine codeAny_call_function hr.depth (KX _ _ lk) rfl S.co S.gen rfl (PySem.W.codeRec_of KX hcd) (hb _ _ _ _ ?_);refine wpAny_newFunctionEnv_cells S.kind i λenv he s1 x=>?_;subst he;refine⟨lim.keeps x.toInCall.keep,codeAny_func ?_⟩;obtain⟨t,ht,hq⟩:=j A _ s H vs Q E (hr.deeper _) G;have I:Inv (jc CX P w K X _ N _ _ f cdv A _ s H E) [] _ H s1:=Yu S hr.hd B hl r x;refine bF (ht [] s1 _ H _ I hq) (λfl s' l=>?_) λe s' l=>l;have D:∀{σ':St} {d:Hp} {v:V} {u:Value},Inv (jc CX P w K X base N a scope f cdv A outer s H E) [] σ' d s'->Z8 v u->Q v d->CE _ P w H s Q u s':=
  λ{σ' d v u} J rv q=>⟨v,d,J.os,J.bare,J.base,J.hok,rv,q⟩
 cases fl with
 |ret u=>
  obtain⟨v,σ',d,J,rv,q⟩:=l;exact D J rv q
 |next=>
  obtain⟨σ',d,J,q⟩:=l;exact D (v:=V.non) J rfl q
 |brk=>
  obtain⟨_,_,_,q⟩:=l;exact bC q
 |cont=>
  obtain⟨_,_,_,q⟩:=l;exact bC q
end L2
namespace L2
open PySem PySem.Spec PyProof.Rows
section
variable {X:Cx}{x:Str}{p pos:Pos}{e:Expr}{es:List Expr}{t:TA}{id T:String}{r:List V->Hp->VK->Prop}
def tm (r:List V->Hp->VK->Prop)(t:TA):TE:=λa H Q=>t a H λvs d=>r vs d Q
def ZY (v:Zt X (.builtin id) r)(l:Gl X x)(u:X.mg x=none)(k:bootBuiltins x=some (.builtin id))(G:PA X (e::es) t)(hn:x≠"__name__":=by decide)(a:(x==("__debug__":Str))=false:=by decide)
  (y:starEach (e::es) X.env=(false,eval e X.env)::starEach es X.env:=by rfl) (d:(backTo pos (starEach es X.env)).any (·.1)=false:=by rfl):PE X (.Call (.Name x p) (e::es) [] pos) (tm r t):=by
 intro f s i H Q I h;refine bG (ja I l u k ?_ hn a);exact PyProof.Rows.callWith_builtin1 (lF (G pos _ s i H _ I h) λB J ⟨vs,o,D,j,N⟩=>v _ J i o vs B Q D j N) y d
def je (v:Zt X (.type T) r)(l:Gl X x)(u:X.mg x=none)(k:bootBuiltins x=some (.type T))(G:PA X (e::es) t)(hn:x≠"__name__":=by decide)(a:(x==("__debug__":Str))=false:=by decide)
  (y:starEach (e::es) X.env=(false,eval e X.env)::starEach es X.env:=by rfl) (d:(backTo pos (starEach es X.env)).any (·.1)=false:=by rfl):PE X (.Call (.Name x p) (e::es) [] pos) (tm r t):=by
 intro f s i H Q I h;refine bG (ja I l u k ?_ hn a);exact bc (lF (G pos _ s i H _ I h) λB J ⟨vs,o,D,j,N⟩=>v _ J i o vs B Q D j N) y d
end
end L2
namespace HT
open PySem PyProof.Rows
section
open PySem.SeqAt
open PySem.AutoSeq1 (wpAny_loadPart')
open PySem.MeetsSeq PySem.MeetsSeq2 PySem.MeetsSeq3
end
section
variable {prog:Program}{w:World}{A:Around}{E:Value->Shared->Prop}{s:Shared}
def cat_tup {t b:Addr}{vs d:List Value}{Q:Value->Shared->Prop}(G:IsTup s.heap t vs.toArray)(I:IsTup s.heap b d.toArray)(p:vs≠[])
  (B:d=[]->Q (.ref t) s) (y:d≠[]->Q (.ref s.1.1.size) {s with heap:=s.heap.push {cls:=.type "tuple",data:=.seq (vs++d).toArray} })
  (hsz:vs.length+d.length<=sizeLine):wpAny 001 A (binaryOp .Add (.ref t) (.ref b)) Q E s:=by
 obtain⟨⟨cls,dd,data,x⟩,j,D,n,hd⟩:=id G;obtain⟨⟨v,i,data2,f⟩,a,o,u,l⟩:=id I;subst D hd o l;have e:vs.toArray++d.toArray=(vs++d).toArray:=by simp
 by_cases k:d=[]
 ·exact concat_meets ⟨_,j,rfl⟩ ⟨_,a,rfl⟩ noFill_tuple_add seq_tuple_add dN dI (dC _ _)
   (tuple_addW1 t b _ _ n u dd i x f (by simpa using p) (by simp[k])) ⟨j,a,B k⟩
 ·refine concat_meets ⟨_,j,rfl⟩ ⟨_,a,rfl⟩ noFill_tuple_add seq_tuple_add dN dI (dC _ _)
   (tuple_addW2 t b _ _ n u dd i x f (by simpa using p) (by simpa using k) (by exact hsz)) ⟨j,a,?_⟩
  rw[e];exact y k
noncomputable def sIx (n d:Nat):Option Int->Nat
 |none=>d
 |some v=>if v<0 then (v+(n:Int)).toNat else min v.toNat n
def sIx_none (n d:Nat):sIx n d none=d:=rfl
def sIx_nat (n d k:Nat):sIx n d (some (k:Int))=min k n:=by
 show (if (k)<0 then ((k:Int)+(n)).toNat else min _ n)=min k n
 rw[if_neg (by omega),bY]
def Yv (v:Int)(n d:Nat):(if v<0 then max (v+(n:Int)) 0 else min v (n:Int))=((sIx n d (some v):Nat):Int):=by
 show (if v<0 then max _ 0 else min v (n))=(((if v<0 then (v+(n)).toNat else min _ n):Nat):Int)
 by_cases a:v<0
 ·simp only[if_pos a];omega
 ·simp only[if_neg a];omega
def yC (lo hi:Option Int)(n:Nat):eW lo hi 1 (n:Int)=(((sIx n 0 lo:Nat):Int),((sIx n n hi:Nat):Int)):=by
 refine Prod.ext ?_ ?_
 ·cases lo with
  |none=>rfl
  |some v=>exact Yv v n 0
 ·cases hi with
  |none=>rfl
  |some v=>exact Yv v n n
def yD (i j:Nat):dw (i:Int) (j:Int) 1=j-i:=by
 unfold dw;split<;>omega
def W5 {v:Value}{o:Option Int}{Q:Option Int->Shared->Prop}(p:IsPart v o)(h:Q o s):wpAny 001 A (Builtin.Slice.slicePartIndex v) Q E s:=by
 cases p with
 |none=>exact slicePart_none h
 |int i t=>exact slicePart_int h
def sliceApplied_gen {i:Addr}{vl f:Value}{lo hi:Option Int}{n:Nat}{Q:Int×Int×Nat->Shared->Prop}(k:s.heap.IsSliceOf i vl f .none)(pl:IsPart vl lo)(l:IsPart f hi)
  (h:Q (((sIx n 0 lo:Nat):Int),1,sIx n n hi-sIx n 0 lo) s):wpAny 001 A (Builtin.Slice.sliceApplied (.ref i) (pure (n:Int))) Q E s:=by
 obtain⟨os,a,j,d⟩:=id k;refine a7 (a7 (bp a d rfl (a7 (bp a d rfl (a7 (bp a d rfl (au ?_)))))));refine a7 (slicePart_none ?_);refine a7 (W5 pl (a7 (W5 l (a7 (au ?_)))));show wpAny _ _ (match eW lo hi 1 _ with|(lo,hi)=>pure (lo,(1:Int),dw lo hi 1)) _ _ s
 rw[yC lo hi n];show wpAny _ _ (pure _) _ _ s;rw[yD];exact au h
def vL (xs:Array Value)(i k:Nat):((aZ k).filterMap λ(m:Nat)=>xs[((i:Int)+(m:Int)*1).toNat]?).toArray=((xs.toList.drop i).take k).toArray:=by
 have e:(λ(m:Nat)=>xs[((i:Int)+(m)*1).toNat]?)=λm=>xs[i+m]?:=by
  funext m
  have:((i:Int)+(m)*1).toNat=i+m:=by omega
  rw[this]
 rw[e];have:=pick_run xs i k;rw[List.filterMap_map]at this;have a:((λx=>xs[x]?) ∘λx=>i+x)=λm=>xs[i+m]?:=rfl;rw[a]at this;rw[this]
def getItem_tuple_cut {t j:Addr}{items:Array Value}{vl o:Value}{lo hi:Option Int}{Q:Value->Shared->Prop}(d:IsTup s.heap t items)(p:s.heap.IsSliceOf j vl o .none)(pl:IsPart vl lo)(u:IsPart o hi)
  (v:¬(sIx items.size 0 lo=0/\sIx items.size items.size hi=items.size))
  (h:Q (.ref s.1.1.size) {s with heap:=s.heap.push {cls:=.type "tuple",data:=.seq ((items.toList.drop (sIx items.size 0 lo)).take (sIx items.size items.size hi-sIx items.size 0 lo)).toArray} })
  (hsz:items.size<=sizeLine):wpAny 001 A (getItem (.ref t) (.ref j)) Q E s:=by
 have a:sizeOk (.seq ((items.toList.drop (sIx items.size 0 lo)).take (sIx items.size items.size hi-sIx items.size 0 lo)).toArray):=by
  show ((items.toList.drop _).take _).toArray.size<=sizeLine;rw[aD,eA,dq,eH];omega
 obtain⟨os,k,f,x⟩:=id p;have i:s.TypeIs (.ref j) _:=⟨os,k,f⟩;unfold getItem
 try with_reducible refine bW ?_
 refine a7 (wpAny_sequenceKey d.typeIs 03 ?_)
 refine a7 (bE d.typeIs bq
  (bT bq d.typeIs entry_tuple_getitem ?_ (args_tuple_getitem _ _)))
 show wpAny _ _ (eO _>>=_) _ _ s;refine a7 (tupleItemsOf_ d ?_);refine a7 (wpAny_typeOf i ?_);refine a7 (sliceApplied_gen p pl u ?_);have l:¬((((sIx items.size 0 lo):Int)==0&&(1:Int)==1&&(sIx items.size items.size hi-sIx items.size 0 lo)==items.size)=true):=by
  intro q;rw[ai,ai]at q;have B:=eq_of_beq q.1.1;have y:=eq_of_beq q.2;exact v ⟨by omega,by omega⟩
 show wpAny _ _ (if (((sIx _ 0 lo:Nat):Int)==0&&(1)==1&&(sIx _ _ hi-sIx _ 0 lo)==items.size)=true then _ else _) _ _ s
 rw[if_neg l,vL]
 first
  |exact a7 (bw (au ⟨_,rfl,au h⟩) a)
  |exact a7 _
  |exact a7 _
  |exact a7 _
end
end HT
namespace L2
open PySem PySem.Spec PyProof.Rows
abbrev TO:=St->Hp->(Option Int->Hp->Prop)->Prop
def PO (X:Cx)(e:Option Expr)(t:TO):Prop:=
 ∀(a:List 000) (s:Shared) (d:St) (H:Hp) (Q:Option Int->Hp->Prop),Inv X a d H s->t d H Q->
  wpAny 05 X.A (evalPart e X.env) (λu i=>∃o f,Inv X a d f i/\IsPart u o/\Q o f) X.xe s
def Xm:TO:=λ_ H Q=>Q none H
def EL (t:TE):TO:=λa H Q=>t a H λx d=>∃i,x=.int i/\Q (some i) d
section
variable {X:Cx}{e:Expr}{te:TE}{lo hi:Option Expr}{tl th:TO}{pos p2:Pos}
def Xn:PO X none Xm:=by
 intro a s d H Q I h;exact au ⟨none,H,I,.none,h⟩
def Xo (h:PE X e te):PO X (some e) (EL te):=by
 intro a s k H Q I j;refine lF (h _ s k H _ I j) λu p=>EP.on λx f l d o=>?_;obtain⟨i,rfl,q⟩:=o;obtain⟨t,rfl⟩:=d;exact⟨some i,f,l,.int i t,q⟩
def SlR (X:Cx)(r:V->Option Int->Option Int->Hp->VK->Prop):Prop:=
 ∀(a:List 000) (s:Shared) (f:St) (H:Hp) (x:V) (v vl d:Value) (lo hi:Option Int) (i:Addr) (Q:VK),Inv X a f H s->Z8 x v->s.heap.IsSliceOf i vl d .none->IsPart vl lo->IsPart d hi->r x lo hi H Q->
  ∃T id,typeLookup (.type T) "__getitem__"=pure (some (.builtin id))/\s.TypeIs v T/\wpAny 05 X.A (getItem v (.ref i)) (EP X a f Q) X.xe s
def SlR.or {r l:V->Option Int->Option Int->Hp->VK->Prop}(h:SlR X r)(h':SlR X l):SlR X (λx lo hi H Q=>r x lo hi H Q\/l x lo hi H Q):=by
 intro f s k H x v vl a lo hi o Q I j d pl i q;rcases q with q|q
 ·exact h _ s k H x v vl a lo hi o Q I j d pl i q
 ·exact h' _ s k H x v vl a lo hi o Q I j d pl i q
def F9 (r:V->Option Int->Option Int->Hp->VK->Prop)(te:TE)(tl th:TO):TE:=λa H Q=>te a H λx d=>tl a d λl f=>th a f λu H3=>r x l u H3 Q
def vM {r:V->Option Int->Option Int->Hp->VK->Prop}(hr:SlR X r)(y:PE X e te)(J:PO X lo tl)(B:PO X hi th):PE X (.Subscript e (.Slice lo hi none p2) pos) (F9 r te tl th):=by
 intro i s a H Q I h;refine Subscript_ (lF (y _ s a H _ I h) λv s1 d=>?_);obtain⟨x,p,I1,k,G⟩:=d;refine wpAny_Slice (lF (J _ s1 a p _ I1 G) λvl s2 ⟨l,H2,I2,pl,S⟩=>lF (B _ s2 a H2 _ I2 S) λf j d=>?_);obtain⟨u,H3,N,P,U⟩:=d;refine au ?_;have Z:Inv X _ a H3 {j with heap:=j.heap.push {cls:=.type "slice",data:=.fields #[vl,f,.none]} }:=N.kept λb ob q=>ag _ q;obtain⟨T,id,hT,D,o⟩:=hr _ _ a H3 x v vl f l u _ Q Z k (Heap.IsSliceOf.new ..) pl P U;exact tail_any D hT o (by with_unfolding_all rfl)
noncomputable def KJ (xs:List V)(lo hi:Option Int):List V:=(xs.drop (HT.sIx xs.length 0 lo)).take (HT.sIx xs.length xs.length hi-HT.sIx xs.length 0 lo)
def wl (xs:List V)(lo hi:Option Int):(KJ xs lo hi).length<=xs.length:=by
 unfold KJ;rw[eA,dq];omega
def Ak (K:aa):V->Option Int->Option Int->Hp->VK->Prop:=λx lo hi H Q=>∃a xs,x=.ref a/\SqT K H a xs/\
 ¬(HT.sIx xs.length 0 lo=0/\HT.sIx xs.length xs.length hi=xs.length)/\∀p,H p=none->Q (.ref p) (lf H p (.tup (KJ xs lo hi)))
def gM:SlR X (Ak X.K):=by
 intro i s D H x v vl B lo hi G Q I u l pl o h;obtain⟨a,xs,rfl,y,p,q⟩:=h;cases u;obtain⟨f,r,j,k⟩:=I.tuple y;have d:f.toArray.size=xs.length:=by exact r.length.symm
 refine⟨"tuple",_,bq.lookup,j.typeIs,?_⟩;refine HT.getItem_tuple_cut j l pl o (by rw[d];exact p) ?_ (by rw[d];exact k)
 rw[d];refine⟨.ref _,_,I.laid (λb ob q=>ag _ q) (ar _) ?_,rfl,q _ (I.hok.fresh (ar _))⟩;exact⟨aC (wl xs lo hi) k,_,(r.drop _).take _,ITN.new _ _⟩
def Hd (K:aa):R2:=λx y H Q=>∃a b xs d,x=.ref a/\y=.ref b/\SqT K H a xs/\SqT K H b d/\xs≠[]/\xs.length+d.length<=sizeLine/\
 (d=[]->Q (.ref a) H)/\(d≠[]->∀p,H p=none->Q (.ref p) (lf H p (.tup (xs++d))))
def zZ.nil_iff {xs:List V}{a:List Value}(r:zZ xs a):a=[]↔xs=[]:=by
 cases r with
 |nil=>simp
 |cons _ _=>simp
def Xp:lR X (binaryOp .Add) (Hd X.K):=by
 intro i s S H x y v u Q I N B h;obtain⟨a,b,xs,U,rfl,rfl,D,P,o,k,G,J⟩:=h;cases N;cases B;obtain⟨l,f,p,_⟩:=I.tuple D;obtain⟨j,d,p2,_⟩:=I.tuple P;refine HT.cat_tup p p2 (λz=>o (f.nil_iff.mp z)) (λz=>⟨.ref a,H,I,rfl,G (d.nil_iff.mp z)⟩) (λz=>?_) (by rw[←f.length,←d.length];exact k)
 refine⟨.ref _,_,I.laid (λb ob q=>ag _ q) (ar _) ?_,rfl,J (λw=>z (d.nil_iff.mpr w)) _ (I.hok.fresh (ar _))⟩;exact⟨by rw[aB];exact k,_,f.append d,ITN.new _ _⟩
end
end L2
namespace L2
open PySem PySem.Spec PyProof.Rows
noncomputable def oA (n:Nat)(i:Int):Option Nat:=if 0<=i then (if i<n then some i.toNat else none)else if -(n:Int)<=i then some (i+n).toNat else none
def mv {a:Type}(xs:List a)(i:Int):Option a:=(oA xs.length i).bind λj=>xs[j]?
def Xq {n:Nat}{i:Int}{j:Nat}(h:oA n i=some j):seqIndex? i n=some j/\j<n/\ -(n:Int)<=i/\i<n:=by
 unfold oA at h
 by_cases d:0<=i
 ·rw[if_pos d]at h
  by_cases a:i<n
  ·rw[if_pos a]at h;have e:=aA h;exact⟨by rw[seqIndex_of d a,e],by omega,by omega,a⟩
  ·rw[if_neg a]at h;cases h
 ·rw[if_neg d]at h
  by_cases a: -(n)<=i
  ·rw[if_pos a]at h;have e:=aA h;exact⟨by rw[seqIndex_neg (by omega) a,e],by omega,a,by omega⟩
  ·rw[if_neg a]at h;cases h
def uW {a:Type}{xs:List a}{i:Int}{v:a}(h:mv xs i=some v):∃j,seqIndex? i xs.length=some j/\xs[j]?=some v/\j<xs.length/\ -(xs.length:Int)<=i/\i<xs.length:=by
 unfold mv at h;cases e:oA _ i with
 |none=>rw[e]at h;cases h
 |some j=>
  rw[e]at h;obtain⟨l,k,d,f⟩:=Xq e;exact⟨j,l,h,k,d,f⟩
def ZZ {a:Type}{xs:List a}{j:Nat}{v:a}(h:xs[j]?=some v):mv xs (j:Int)=some v:=by
 have d:=(ak.mp h).1;have e:oA xs.length (j)=some j:=by
  unfold oA;rw[if_pos (by omega),if_pos (by omega)];simp
 unfold mv;rw[e];exact h
noncomputable def uX (b:Expr):Prop:=∀o i,subscripted b false o i=operate [o,i] (getItem o i)
def IxR (X:Cx)(r:R2):Prop:=
 ∀(f a:Expr) (d:List 000) (s:Shared) (i:St) (H:Hp) (x y:V) (v u:Value) (Q:VK),Inv X d i H s->Z8 x v->Z8 y u->r x y H Q->
  subscripted a false v u=operate [v,u] (getItem v u)->wpAny 05 X.A (subscriptTail f a v u) (EP X d i Q) X.xe s
def o4 (X:Cx)(id:String)(r:V->List V->Hp->VK->Prop):Prop:=
 ∀(a:List 000) (s:Shared) (f:St) (H:Hp) (x:V) (xs:List V) (v:Value) (d:List Value) (Q:VK),Inv X a f H s->Z8 x v->zZ xs d->r x xs H Q->
  wpAny 05 X.A (call (.builtin id) (v::d)) (EP X a f Q) X.xe s
section
variable {X:Cx}{a b:Expr}{ta tb:TE}{pos:Pos}
def IxR.or {r o:R2}(h:IxR X r)(h':IxR X o):IxR X (λx y H Q=>r x y H Q\/o x y H Q):=by
 intro f d j s l H x y v u Q I k p q i;rcases q with q|q
 ·exact h _ _ _ s l H x y v u Q I k p q i
 ·exact h' _ _ _ s l H x y v u Q I k p q i
def gN {r:R2}(hr:IxR X r)(l:PE X a ta)(k:PE X b tb)(f:uX b):PE X (.Subscript a b pos) (tf r ta tb):=by
 intro d s j H Q I h;exact Subscript_ (Cn l k I h λv u o x y p B i D q=>hr a b _ o j p x y v u Q B i D q (f _ _))
def pr (K:aa):R2:=λx y H Q=>∃p xs i v,x=.ref p/\y=.int i/\SqL K H p xs/\mv xs i=some v/\Q v H
def rH (K:aa):R2:=λx y H Q=>∃p xs i v,x=.ref p/\y=.int i/\SqT K H p xs/\mv xs i=some v/\Q v H
def rN:R2:=λx y H Q=>∃z i c,x=.str z/\y=.int i/\z.length<=sizeLine/\mv z.cps.toList i=some c/\Q (.str ⟨#[c]⟩) H
def Yw:IxR X (pr X.K):=by
 intro D l J s σ H x y v u Q I rx ry h G;obtain⟨p,xs,i,z,rfl,rfl,Z,he,q⟩:=h;cases rx;obtain⟨t,rfl⟩:=ry;obtain⟨k,r,pl,hz⟩:=I.list Z;obtain⟨j,f,U,h3,h4,S⟩:=uW he;obtain⟨w,N,B⟩:=r.get U;have hl:=r.length;have hn:=u3;have d:EP X _ σ Q w s:=⟨z,H,I,B,q⟩
 by_cases P:0<=i
 ·have o:=by
   rw[seqIndex_of P S]at f;exact aA f
  exact item_listR pl.isList P (by omega) (by rw[o];simpa using N) d G
 ·have o:(i+(k.toArray.size)).toNat=j:=by
   rw[seqIndex_neg (by omega) h4]at f
   rw[aD,←hl];exact aA f
  exact subscriptTail_builtinR pl.isList.typeIs slot_list_getitem.lookup
   (wpAny_getItem_list_neg pl.isList (by omega) (by rw[aD]<;>omega) (by omega) (by rw[o];simpa using N) ⟨rfl,d⟩) G
def gO:IxR X (rH X.K):=by
 intro l d o s P H x y v u Q I rx S h D;obtain⟨p,xs,i,z,rfl,rfl,J,N,q⟩:=h;cases rx;obtain⟨t,rfl⟩:=S;obtain⟨B,r,pl,hz⟩:=I.tuple J;obtain⟨j,Z,G,h3,h4,h5⟩:=uW N;obtain⟨w,ew,f⟩:=r.get G;have U:=r.length;have hn:=u3;have k:EP X _ P Q w s:=⟨z,H,I,f,q⟩;exact subscriptTail_builtinR pl.typeIs slot_tuple_getitem.lookup
  (getItem_tuple pl (by omega) (by omega) (by rw[aD,←U];exact Z) (by simpa using ew) ⟨rfl,k⟩) D
def gP:IxR X rN:=by
 intro f d k s σ H x y v u Q I U N h p;obtain⟨z,i,c,rfl,rfl,hz,D,q⟩:=h;obtain⟨t,rfl⟩:=U;obtain⟨t',rfl⟩:=N;obtain⟨j,l,B,Z,S,o⟩:=uW D;have P:z.cps.toList.length=z.length:=by simp[Str.length]
 rw[P]at l S o;have hn:=u3;exact tail_any (typeIs_str s z t) slot_str_getitem.lookup (getItem_str (by
  have G:decide (i< -(2^63))=false:=decide_eq_false (by omega)
  have J:decide (i≥2^63)=false:=decide_eq_false (by omega)
  rw[G,J,Bool.or_false]) (by rw[l];simpa using B) ⟨.str _,H,I.tok _,⟨_,rfl⟩,q⟩) p
def DP (K:aa):R2:=λx y H Q=>pr K x y H Q\/rH K x y H Q\/rN x y H Q
def gQ:IxR X (DP X.K):=Yw.or (gO.or gP)
def ub (lo hi:Option Int)(n:Nat):(sliceBounds lo hi none n).1=((HT.sIx n 0 lo:Nat):Int)/\(sliceBounds lo hi none n).2.1=((HT.sIx n n hi:Nat):Int)/\(sliceBounds lo hi none n).2.2=1:=by
 refine⟨?_,?_,rfl⟩
 ·cases lo with
  |none=>simp[sliceBounds,HT.sIx]
  |some i=>
   simp only[sliceBounds,HT.sIx,iT,show (1)>0 by decide,if_true]
   by_cases h:i<0
   ·simp only[h,if_true]<;>omega
   ·simp only[h,if_false]<;>omega
 ·cases hi with
  |none=>simp[sliceBounds,HT.sIx]
  |some i=>
   simp only[sliceBounds,HT.sIx,iT,show (1)>0 by decide,if_true]
   by_cases h:i<0
   ·simp only[h,if_true]<;>omega
   ·simp only[h,if_false]<;>omega
def Wr (d:List Value)(lo hi:Option Int):slicePick d.toArray lo hi none=((d.drop (HT.sIx d.length 0 lo)).take (HT.sIx d.length d.length hi-HT.sIx d.length 0 lo)).toArray:=by
 obtain⟨f,j,i⟩:=ub lo hi _;unfold slicePick;rw[f,j,i];simp only[sliceRange_one,pick_run,aD]<;>rfl
def Cd (K:aa):V->Option Int->Option Int->Hp->VK->Prop:=λx lo hi H Q=>∃a xs,x=.ref a/\SqL K H a xs/\∀p,H p=none->Q (.ref p) (lf H p (.lst (KJ xs lo hi)))
def Xr:SlR X (Cd X.K):=by
 intro f s B H x v vl y lo hi D Q I o k pl l h;obtain⟨a,xs,rfl,p,q⟩:=h;cases o;obtain⟨j,r,i,u⟩:=I.list p;have d:=r.length;refine⟨"list",_,slot_list_getitem.lookup,i.isList.typeIs,?_⟩;refine wpAny_getItem_list_slice i.isList k pl l .none (by simp) ?_ (by rw[aD]<;>omega)
 rw[Wr,←d];refine⟨.ref _,_,I.laid (λb ob q=>ag _ q) (ar _) ?_,rfl,q _ (I.hok.fresh (ar _))⟩;exact⟨aC (wl xs lo hi) u,_,0,(r.drop _).take _,ao _ rfl⟩
def uc:Zt X (.builtin "len") (λxs H Q=>∃p i,xs=[.ref p]/\(SqL X.K H p i\/SqT X.K H p i)/\Q (.int i.length) H):=by
 intro l s x H xs y Q I r h;obtain⟨p,i,rfl,f,q⟩:=h;obtain⟨u,rfl,o⟩:=ZP r;cases o;have hn:=u3;rcases f with f|f
 ·obtain⟨j,k,pl,v⟩:=I.list f;have d:=k.length;exact Calls.call_len_list pl.isList (by simp only[aD]<;>omega) ⟨.int _,H,I.tok _,⟨s.toks+1,by rw[aD,d]⟩,q⟩
 ·obtain⟨j,k,pl,v⟩:=I.tuple f;have d:=k.length;exact len_tuple pl (by simp only[aD]<;>omega) ⟨.int _,H,I.tok _,⟨s.toks+1,by rw[aD,d]⟩,q⟩
def ud:Zt X (.builtin "len") (λxs H Q=>∃z,xs=[.str z]/\z.length<=sizeLine/\Q (.int z.length) H):=by
 intro d s f H xs i Q I r h;obtain⟨z,rfl,j,q⟩:=h;obtain⟨u,rfl,t,rfl⟩:=ZP r;have hn:=u3;exact len_str (by omega) ⟨.int _,H,I.tok _,⟨_,rfl⟩,q⟩
def Zt.or {f:Value}{r k:List V->Hp->VK->Prop}(h:Zt X f r)(h':Zt X f k):Zt X f (λxs H Q=>r xs H Q\/k xs H Q):=by
 intro d s i H xs j Q I l q;rcases q with q|q
 ·exact h _ s i H xs j Q I l q
 ·exact h' _ s i H xs j Q I l q
def ue:Zt X (.type "list") (λxs H Q=>∃p i,xs=[.ref p]/\(SqL X.K H p i\/SqT X.K H p i)/\∀l,H l=none->Q (.ref l) (lf H l (.lst i))):=by
 intro D s J H xs P Q I r h;obtain⟨p,i,rfl,j,q⟩:=h;obtain⟨u,rfl,N⟩:=ZP r;cases N;have x:∀(d:List _),zZ i d->i.length<=sizeLine->∀(h':Heap) (c':Nat),(∀b G,s.heap.get? b=some G->h'.get? b=some G)->
   h'.get? _=some _->EP X _ J Q _ {s with heap:=h'}:=λd f v h' c' kp e=>
  ⟨.ref _,_,I.laid kp (ar _) (show Zd _ X.w _ h' _ (.lst i) from ⟨v,d,c',f,e⟩),rfl,q _ (I.hok.fresh (ar _))⟩
 rcases j with j|j
 ·obtain⟨d,f,pl,v⟩:=I.list j;have k:=f.length;obtain⟨o,y,B,n,hd⟩:=pl.isList;exact call_list_seq p (.inl rfl) y B hd (λh' c' kp e=>x d f v h' c' kp e) (by simp only[aD]<;>omega)
 ·obtain⟨d,f,pl,v⟩:=I.tuple j;have k:=f.length;obtain⟨o,y,B,n,hd⟩:=pl;exact call_list_seq p (.inr rfl) y B hd (λh' c' kp e=>x d f v h' c' kp e) (by simp only[aD]<;>omega)
def Ws:Zt X (.type "tuple") (λxs H Q=>∃p f,xs=[.ref p]/\((SqL X.K H p f/\∀l,H l=none->Q (.ref l) (lf H l (.tup f)))\/(SqT X.K H p f/\Q (.ref p) H))):=by
 intro k s v H xs J Q I r h;obtain⟨p,f,rfl,h⟩:=h;obtain⟨u,rfl,D⟩:=ZP r;cases D;rcases h with ⟨i,q⟩|⟨i,q⟩
 ·obtain⟨d,j,pl,y⟩:=I.list i;have x:=j.length;refine call_tuple_list pl.isList (λh' kp=>?_) (by simp only[aD]<;>omega)
  have B:Inv X _ v H {s with heap:=h'}:=I.kept kp;have G:Inv X _ v (lf H _ (.tup f)) {s with heap:=h'.push _}:=
   B.laid (λb o e=>ag _ e) (ar _) (show Zd _ X.w _ _ _ _ from ⟨y,d,j,ITN.new _ _⟩)
  exact⟨.ref _,_,G,rfl,q _ (B.hok.fresh (ar _))⟩
 ·obtain⟨d,j,pl,y⟩:=I.tuple i;exact call_tuple_same pl ⟨.ref p,H,I,rfl,q⟩
def A5 (K:aa)(T:String)(x:V)(H:Hp):Prop:=match x with
 |.str _=>T="str"
 |.int _=>T="int"
 |.ref p=>(T="list"/\∃xs,SqL K H p xs)\/(T="tuple"/\∃o,K.lookup p=some o/\o.cls=.type "tuple"/\o.dict=none)\/
   (T="dict"/\((∃d,H p=some (.dK d))\/∃d,H p=some (.dT d)))\/(T="set"/\∃S n,H p=some (.set S n))
 |_=>False
def xk {f:List 000}{D:St}{H:Hp}{s:Shared}{T:String}{x:V}{v:Value}(I:Inv X f D H s)(r:Z8 x v)(j:A5 X.K T x H):
  s.TypeIs v T/\∀a,v=.ref a->∃ob,s.heap.get? a=some ob/\ob.dict=none:=by
 cases x with
 |str z=>
  obtain⟨t,rfl⟩:=r;cases (j);exact⟨typeIs_str s z t,λ_ e=>nomatch e⟩
 |int i=>
  obtain⟨t,rfl⟩:=r;cases (j);exact⟨typeIs_int s i t,λ_ e=>nomatch e⟩
 |ref p=>
  cases r;rcases j with ⟨rfl,xs,y⟩|⟨rfl,o,d,B,hd⟩|⟨rfl,d⟩|⟨rfl,S,n,d⟩
  ·obtain⟨u,_,pl,_⟩:=I.list y;refine⟨pl.isList.typeIs,λa e=>?_⟩;cases e;obtain⟨o,n,e,c,hd,_⟩:=pl;exact⟨o,e,hd⟩
  ·refine⟨⟨o,I.kIn p o d,B⟩,λa e=>?_⟩;cases e;exact⟨o,I.kIn _ o d,hd⟩
  ·have z:∃o,s.heap.get? p=some o/\o.ExactDict:=by
    rcases d with ⟨l,d⟩|⟨l,d⟩
    ·obtain⟨_,_,_,_,o,_,_,e,ex,_⟩:=I.hok p _ d;exact⟨o,e,ex⟩
    ·obtain⟨_,_,_,_,o,_,_,e,ex,_⟩:=I.hok p _ d;exact⟨o,e,ex⟩
   obtain⟨o,e,ex⟩:=z;refine⟨⟨o,e,ex.1⟩,λa k=>?_⟩;cases k;exact⟨o,e,ex.2.1⟩
  ·obtain⟨o,_,_,_,e,ex,_⟩:=I.hok p _ d;refine⟨⟨o,e,ex.1⟩,λa k=>?_⟩;cases k;exact⟨o,e,ex.2.1⟩
 |_=>exact bC j
def BQ (K:aa)(T:String)(r:V->List V->Hp->VK->Prop)(f:TE):TE:=λi H Q=>f i H λx d=>A5 K T x d/\r x [] d Q
def DD (K:aa)(T:String)(r:V->List V->Hp->VK->Prop)(i:TE)(t:TA):TE:=λf H Q=>i f H λx d=>A5 K T x d/\t f d λxs j=>r x xs j Q
variable {o e:Expr}{es:List Expr}{to:TE}{t:TA}{name:Str}{apos cpos:Pos}{T id:String}{r:V->List V->Hp->VK->Prop}
def gR (S:PlainAttrs T)(i:Slot T name id)(j:typeOf (.builtin id)=pure (.type "method_descriptor"))(B:o4 X id r)(J:PE X o to)
  (d:attributeBase o name X.env (eval o X.env)=eval o X.env:=by rfl) (f:(apos.endLine==cpos.line)=true:=by rfl):PE X (.Call (.Attribute o name apos) [] [] cpos) (BQ X.K T r to):=by
 intro l s p H Q I h;refine wpAny_Call_method0_late d f (lF (J _ s p H _ I h) λv U P=>?_);obtain⟨x,y,u,k,N,Z⟩:=P;obtain⟨G,D⟩:=xk u k N;exact⟨T,id,S,i,j,G,D,fV rfl (PySem.evalArgs_none (B _ U p y x [] v [] Q u k .nil Z))⟩
def yE (pa:PlainAttrs T)(k:Slot T name id)(p:typeOf (.builtin id)=pure (.type "method_descriptor"))(N:o4 X id r)(S:PE X o to)(Z:PA X (e::es) t)
  (f:attributeBase o name X.env (eval o X.env)=eval o X.env:=by rfl)
  (j:((backTo cpos (starEach (e::es) X.env)).all (λx=> !x.1)&&(backToKw cpos (keywordEach [] X.env)).all (λx=>x.1.isSome)
   &&decide ((e::es).length+([]:List Keyword).length+(if ([]:List Keyword).isEmpty then 0 else 1)<30))=true:=by rfl)
  (i:(apos.endLine==cpos.line)=true:=by rfl) (G:starEach (e::es) X.env=(false,eval e X.env)::starEach es X.env:=by rfl) (d:(backTo cpos (starEach es X.env)).any (·.1)=false:=by rfl):
  PE X (.Call (.Attribute o name apos) (e::es) [] cpos) (DD X.K T r to t):=by
 intro y s l H Q I h;refine wpAny_Call_method_late f j i rfl (lF (S _ s l H _ I h) λv s1 zz=>?_);obtain⟨x,J,D,u,ty,q1⟩:=zz;obtain⟨h1,P⟩:=xk D u ty;refine⟨T,id,pa,k,p,h1,P,?_⟩;have B:=Z cpos _ s1 l J _ D q1;rw[G]at B⊢;refine fV (by show (false||(backTo _ _).any _)=false;rw[d]<;>rfl) (h_ ?_)
 exact lF B λus s2 ⟨vs,H2,I2,U,q2⟩=>N _ s2 l H2 x vs v us Q I2 u U q2
end
end L2
namespace L2
open PySem PySem.Spec PyProof.Rows
def Aw (X:Cx)(id:String)(r:V->List V->Hp->VK->Prop):Prop:=
 ∀(a:List 000) (s:Shared) (f:St) (H:Hp) (x:V) (xs:List V) (v:Value) (d:List Value) (Q:VK),Inv X a f H s->Z8 x v->zZ xs d->r x xs H Q->
  wpAny 05 X.A (call (.builtin id) (v::d)) (EP X a f Q) X.xe s
def zZ.one {x:V}{a:List Value}(h:zZ [x] a):∃u,a=[u]/\Z8 x u:=by
 cases h with
 |cons r t=>cases t;exact⟨_,rfl,r⟩
theorem zZ.reverse {xs:List V}{a:List Value}(h:zZ xs a):zZ xs.reverse a.reverse:=by
 induction h with
 |nil=>exact .nil
 |cons r t d=>rw[bZ,bZ];exact zZ.append d (.cons r .nil)
theorem zZ.rep {xs:List V}{a:List Value}(h:zZ xs a):∀k:Nat,zZ (ac k xs).flatten (ac k a).flatten
 |0=>.nil
 |k+1=>by
  exact zZ.append h (zZ.rep h k)
theorem jX (a:List Value):∀(k:Nat) (acc:List Value),
  eQ (λf d=>f++d) acc.toArray (ac k a.toArray)=(acc++(ac k a).flatten).toArray
 |0,acc=>by simp
 |k+1,acc=>by
  have e:acc.toArray++a.toArray=(acc++a).toArray:=by simp
  have i:(acc++a)++(ac k a).flatten=acc++(ac (k+1) a).flatten:=by
   rw[bA,f6,bj]
  rw[←i,←jX a k _,←e,bA,List.foldl_cons]
section
variable {X:Cx}{pins:List 000}{σ:St}{H:Hp}{s:Shared}{l b:Addr}{xs ys zs:List V}
def Inv.lset {d a:List Value}{n:Nat}{f:Array Value->Array Value}{t':Nat}(I:Inv X pins σ H s)(p:H l=some (.lst xs))
  (e:s.heap.get? l=some {cls:=.type "list",data:=.seq d.toArray n}) (v:f d.toArray=a.toArray) (i:zZ ys a) (o:ys.length<=sizeLine):
  Inv X pins σ (lf H l (.lst ys)) {s with heap:=s.heap.update l (lB f),toks:=t'}:=by
 have q:=PySem.IsL.update e f;rw[v]at q;refine I.write (by rw[p];exact trivial) (.inl rfl) (λx u k j=>(b_ _ _ (aY k)).trans j) ⟨_,q⟩ ?_
 exact⟨o,a,_,i,q⟩
def Inv.lnew {a:List Value}{t':Nat}(I:Inv X pins σ H s)(f:zZ ys a)(d:ys.length<=sizeLine):
  Inv X pins σ (lf H s.1.1.size (.lst ys)) {s with heap:=s.heap.push {cls:=.type "list",data:=.seq a.toArray},toks:=t'}:=
 I.laid (λ_ _ q=>ag _ q) (ar _) ⟨d,a,0,f,ao _ rfl⟩
theorem Inv.fresh (I:Inv X pins σ H s):H s.1.1.size=none:=I.hok.fresh (ar _)
def Inv.lstM (I:Inv X pins σ H s)(d:H l=some (.lst xs)):xs.length<=sizeLine/\∃(a:List Value) (n:Nat),zZ xs a/\xs.length=a.length/\s.heap.get? l=some {cls:=.type "list",data:=.seq a.toArray n}:=by
 obtain⟨z,a,n,r,e⟩:=I.hok l _ d;exact⟨z,a,n,r,r.length,e⟩
def Ux {n:Nat}(h:n<=sizeLine):dD n=false:=by
 exact decide_eq_false (by omega)
end
section
variable {X:Cx}
def Xs:V->List V->Hp->VK->Prop:=λx vs H Q=>∃l xs y,x=.ref l/\vs=[y]/\H l=some (.lst xs)/\xs.length<sizeLine/\Q .non (lf H l (.lst (xs++[y])))
def wm:Aw X "list.append" Xs:=by
 intro a s p H x vs v B Q I j k h;obtain⟨l,xs,y,rfl,rfl,d,D,q⟩:=h;cases j;obtain⟨u,rfl,i⟩:=k.one;obtain⟨z,f,n,r,o,e⟩:=I.lstM d;refine dh F.slot_list_append ⟨_,e,rfl⟩ F.entry_list_append (F.args_list_append_2 _ _) (PySem.list_append l _ n u (by rw[aD];omega)) ⟨e,?_⟩
 refine⟨.non,_,I.lset d e (by simp) (r.append (.cons i .nil)) ?_,rfl,q⟩
 rw[aB,aX];omega
def Xt:V->List V->Hp->VK->Prop:=λx vs H Q=>∃l b xs a,x=.ref l/\vs=[.ref b]/\H l=some (.lst xs)/\H b=some (.lst a)/\xs.length+a.length<=sizeLine/\Q .non (lf H l (.lst (xs++a)))
def Yx:Aw X "list.extend" Xt:=by
 intro i s N H x vs v us Q I G p h;obtain⟨l,b,xs,S,rfl,rfl,j,y,P,q⟩:=h;cases G;obtain⟨u,rfl,D⟩:=p.one;cases D;obtain⟨z,d,n,r,U,e⟩:=I.lstM j;obtain⟨Z,a,k,o,J,B⟩:=I.lstM y;have hsz:d.toArray.size+a.toArray.size<=sizeLine:=by rw[aD,aD];omega
 have f:¬(!d.toArray.isEmpty&&dD (d.toArray.size+a.toArray.size))=true:=by
  rw[Ux hsz,Bool.and_false];exact aN
 refine dh F.slot_list_extend ⟨_,e,rfl⟩ F.entry_list_extend (F.args_list_extend_2 _ _)
  (AutoSeq1.list_extend_list_list_0 l _ n b _ k f (by omega) (by omega)) ⟨e,B,?_⟩
 refine⟨.non,_,I.lset j e (by simp) (r.append o) ?_,rfl,q⟩
 rw[aB];omega
def AT:R2:=λx y H Q=>∃l b xs a,x=.ref l/\y=.ref b/\H l=some (.lst xs)/\H b=some (.lst a)/\xs.length+a.length<=sizeLine/\∀p,H p=none->Q (.ref p) (lf H p (.lst (xs++a)))
def xl:lR X (binaryOp .Add) AT:=by
 intro f s N H x y v u Q I B o h;obtain⟨l,b,xs,U,rfl,rfl,p,j,S,q⟩:=h;cases B;cases o;obtain⟨z,d,n,r,Z,e⟩:=I.lstM p;obtain⟨z2,a,J,i,G,k⟩:=I.lstM j;refine PySem.P.add_list e k ?_ (by rw[aD,aD];omega)
 have D:d.toArray++a.toArray=(d++a).toArray:=by simp
 rw[D];exact⟨.ref _,_,I.lnew (r.append i) (by rw[aB];omega),rfl,q _ I.fresh⟩
def Bz:R2:=λx y H Q=>∃l k xs,x=.ref l/\y=.int k/\H l=some (.lst xs)/\ -(2^63)<=k/\k<2^63/\xs.length*k.toNat<=sizeLine/\
 ∀p,H p=none->Q (.ref p) (lf H p (.lst (ac k.toNat xs).flatten))
def Jk {a:Type}(xs:List a)(k:Nat):(ac k xs).flatten.length=k*xs.length:=by
 induction k with
 |zero=>simp
 |succ k d=>rw[bA,f6,aB,d,fW,dO]
def gS:lR X (binaryOp .Mult) Bz:=by
 intro G s σ H x y v u Q I rx S h;obtain⟨l,k,xs,rfl,rfl,U,h1,N,J,q⟩:=h;cases rx;obtain⟨t,rfl⟩:=S;obtain⟨z,d,n,r,hl,e⟩:=I.lstM U;have j:d.toArray.size*k.toNat<=sizeLine:=by rw[aD,←hl];exact J
 have p:¬d.toArray.size*k.toNat>(2^63-1)/8:=by
  have:(sizeLine)<=(2^63-1)/8:=by decide
  omega
 have i:¬(!Builtin.List.listFitsIndex k)=true:=by
  rw[fitsIndex_both h1 N];exact aN
 have f:¬dD (d.toArray.size*k.toNat)=true:=by
  rw[Ux j];exact aN
 have o:eQ (λD B=>D++B) #[] (ac (if d.toArray.isEmpty=true then 0 else k.toNat) d.toArray)=(ac k.toNat d).flatten.toArray:=by
  have P:∀m,eQ (λD B=>D++B) #[] _=(ac m d).flatten.toArray:=λm=>by
   have:=jX d m [];exact this
  rw[P];cases d with
  |nil=>simp
  |cons a r'=>rw[if_neg (by simp)]
 refine wpAny_binaryOp_repeat_ref 03 ⟨_,e,rfl⟩ (λZ=>typeIs_int Z k t) noFill_list_mul lg eF repeat_list iU.lookup
  (dh eF (typeIs_int s k t) iV (iJ _ _) (int___rmul___int_list k t l _ n)
   ⟨e,rfl,⟨_,e,rfl⟩,dh F.slot_list_mul ⟨_,e,rfl⟩ F.entry_list_mul (F.args_list_mul_2 _ _) (AutoListH.list___mul___list_int_3 l _ n k t i p f) ⟨e,?_⟩⟩)
 rw[o];exact⟨.ref _,_,I.lnew (r.rep _) (by rw[Jk,dr];exact J),rfl,q _ I.fresh⟩
end
end L2
namespace Att
open PySem PySem.W PySem.Calls PyProof.Rows
def wn {P:Params}{h:Heap}:∀(ns:List Int) (vs:List Value),WellAll P h vs (ns.map WData.int)->IntsAre vs ns:=by
 intro ns
 induction ns with
 |nil=>
  intro vs w;cases w;exact .nil
 |cons n ns d=>
  intro vs w;cases w with
  |cons a b=>
   cases a;exact .cons _ _ (d _ b)
def Yy {l:OpenLaw}{n:Nat}(hn:l.most=some n){P:Params}{h:Heap}{args:List WData}{f:List Value}
  (i:l.row.toRowW.claim.pre args=true) (v:WellAll P h f args):
  ∃a vs ns,f=[Value.ref a]/\args=[WData.list (ns.map WData.int)]/\h.get? a=some {cls:=.type "list",data:=.seq vs.toArray}/\IntsAre vs ns/\ns.length<=n:=by
 have u:=(pre_splitW i).1;have I:=(pre_splitW i).2;obtain⟨d,r,rfl,D,y⟩:=hasAllW_cons u;obtain rfl:=hasAllW_nil y;obtain⟨xs,rfl,x⟩:=hasW_list D;obtain⟨ns,rfl⟩:=items_int x;have k:ns.length<=n:=by
  have p:=by
   have p:=(holds_andW I).1;rw[hn]at p;exact p
  have o:=condW_of p (w_not (w_lt w_lit (w_len_list (w_arg rfl))));rw[ah]at o;refine Nat.le_of_not_lt λq=>?_;have B:(n)<((ns.length):Int):=by omega
  first
   |(rw[decide_eq_true B]at o;exact absurd o 03)
   |(simp at o)
 cases v with
 |cons w1 w2=>
  cases w2;cases w1 with
  |list G j=>exact⟨_,_,ns,rfl,rfl,G,wn ns _ j,k⟩
def Yz (l:OpenLaw)(args:List WData):l.row.toRowW.claim.post args (.bool true) args=true:=
 postW_of
  (show WShape.has [] _ _=true by first|rfl|decide|simp[WShape.has,WShape.arms,WShape.armsAll])
  (show (WTm.eq _ _).value [] _=some _ from w_eq_bool (w_res rfl) w_lit) rfl
def attach_call {l:OpenLaw}{n:Nat}{q:Program}{j:List Str}{XP:(Str->Option Value)->Heap->Prop}{U:World->Heap->Prop}{d:DefRec}
  (hn:l.most=some n) (J:d.params.defaults=[])
  (call:∀(w:World) (s₀ i:Shared) (y N:Str->Option Value) (fa:Addr) (o:Obj) (pm cd k:Value) (a:Addr) (vs:List Value) (ns:List Int),
   Ground q j [] XP w s₀ y N i.heap->U w i.heap->
   i.heap.get? fa=some o->o.data=.func (docDef d.name d.params d.body d.scope pm cd k)->i.heap.CodeRec cd d.name->y d.name=some (.ref fa)->
   i.heap.get? a=some {cls:=.type "list",data:=.seq vs.toArray}->IntsAre vs ns->ns.length<=n->i.gens=#[]->
   codeAny (model l.prog w) callerA (.call (.ref fa) ⟨[.ref a],[]⟩) (λr B=>r=.ok (.ret (.bool true))/\OldK i.heap B.heap/\B.os=i.os/\AllBare B.gens) i):
  WalkO q j XP U l.row.toRowW d [] (λf vs=>lC f vs):=by
 intro w s₀ i y N G Y fa o pm cd k dV kV ho hd P S D hg args X as v Q hrd I hlo;obtain rfl:dV=.none:=Dflts.none S J;obtain rfl:kV=.none:=Dflts.noKw S;obtain⟨a,vs,ns,rfl,rfl,x,p,u⟩:=Yy hn v I;refine enter_call (cD (call w _ _ y N fa o pm cd k a vs ns G Y ho (fd_plain hd) P D x p u hg) λr B hq=>?_);obtain⟨rfl,h2,Z,h4⟩:=hq;exact⟨.inl ⟨.bool _,.bool _,[],rfl,λ_=>rfl,.bool _,Yz l _,λ_=>⟨List.Pairwise.nil,λ_ hm=>(nomatch hm)⟩⟩,h2,Z,h4⟩
end Att
namespace L2
open PySem PySem.Spec PyProof.Rows
theorem uf:∀{vs:List Value} {ns:List Int},IntsAre vs ns->zZ (ns.map V.int) vs
 |_,_,.nil=>.nil
 |_,_,.cons n t h=>.cons ⟨t,rfl⟩ (uf h)
end L2
namespace L2
open PySem PySem.Spec PyProof.Rows
end L2
namespace L2
open PySem PySem.Spec PyProof.Rows
noncomputable def Zu (s:Stmt):Arguments:=match s with
 |.FunctionDef _ a _ _ _ _ _ _ _ _=>a
 |_=>{posonlyargs:=[],args:=[],vararg:=none,kwonlyargs:=[],kw_defaults:=[],kwarg:=none,defaults:=[]}
noncomputable def zH (s:Stmt):List Stmt:=match s with
 |.FunctionDef _ _ b _ _ _ _ _ _ _=>b
 |_=>[]
noncomputable def zq (s:Stmt):Scope:=match s with
 |.FunctionDef _ _ _ _ _ _ a _ _ _=>a
 |_=>{kind:=.function,names:=[],isGenerator:=false,isCoroutine:=false}
abbrev mM:mP:=λ_ _ _ _ _ _=>False
structure Fun (K:aa) (x qual:Str) (st:Stmt) (f:Addr) (fd:FuncData):Prop where
 ex:∃(oc:Value) (od:Option Addr) (kV doc pm:Value) (an:Option Addr) (cdv ct:Value) (osl:Array (Option Value)),
  fd=bL x qual (Zu st) (zH st) (zq st) .none kV doc pm an cdv ct/\K.lookup f=some ⟨oc,od,.func fd,osl⟩/\dM K cdv qual=true
 kp:bx K (.ref f)=true
section
variable {P:Program}{w:World}{K:aa}{mg:Str->Option Value}{base:Heap}
def Fun.ok {x a:Str}{st:Stmt}{f:Addr}{o:FuncData}{N j:List Str}{k:Nat}{sp:Sp}(F:Fun K x a st f o)(S:Zk N j (zq st))(len:∀vs H Q E,sp vs H Q E->vs.length=j.length)
  (d:∀(cdv:Value) (A:Around) (outer:List Env) (s:Shared) (H:Hp) (vs:List V) (Q:VK) (E:XK),Ze k (A.deeper (envOfC a (zq st) s.1.1.size f cdv))->sp vs H Q E->
   ∃t,PSs (jc mM P w K mg base N a (zq st) f cdv A outer s H E).nox (zH st) t/\t {nx:=λ_ y=>Q .non y,rt:=Q} (start N vs) H):ZX P w K mg base mM (k+1) f o j sp:=by
 obtain⟨D,od,kV,p,pm,B,cdv,ct,v,rfl,u,l⟩:=F.ex;refine vK u l S len λA outer s H vs Q E hr i=>?_;obtain⟨t,h,q⟩:=d cdv A _ s H vs Q E hr i;exact⟨t,h.nox,q⟩
def Fun.binds {x a:Str}{st:Stmt}{f:Addr}{l:FuncData}{j:List Str}(F:Fun K x a st f l)
  (h:∀(kV d pm:Value) (i:Option Addr) (cdv ct:Value) (k:List Value),k.length=j.length->bindArgs (bL x a (Zu st) (zH st) (zq st) .none kV d pm i cdv ct) ⟨k,[]⟩=pure (j.zip k)):Binds K l j []:=by
 obtain⟨u,od,kV,d,pm,i,cdv,ct,o,rfl,v,p⟩:=F.ex;exact .all (h kV d pm i cdv ct)
def xm {x a:Str}{st:Stmt}{f:Addr}{o:Value}{od j:Option Addr}{i:Array (Option Value)}{kV d pm cdv ct:Value}(l:K.lookup f=some ⟨o,od,.func (bL x a (Zu st) (zH st) (zq st) .none kV d pm j cdv ct),i⟩)
  (c:dM K cdv a=true) (k:bx K (.ref f)=true):Fun K x a st f (bL x a (Zu st) (zH st) (zq st) .none kV d pm j cdv ct):=⟨⟨o,od,kV,d,pm,j,cdv,ct,i,rfl,l,c⟩,k⟩
end
section
variable {X:Cx}
def pv (i:Nat){x:Str}{pos:Pos}(f:X.N[i]?=some x:=by rfl)(d:oJ X.env.scope x:=by first|exact Or.inl rfl|exact Or.inr (Or.inl rfl)|exact Or.inr (Or.inr rfl))(hd:(x==("__debug__":Str))=false:=by decide)
  (a:(x==("__classdict__":Str))=false:=by decide):PE X (.Name x pos) (Jg i):=WX f d hd a
end
def zr (H a:Hp):Prop:=∀b o,H b=some o->a b=some o
def zr.refl (H:Hp):zr H H:=λ_ _ h=>h
def zr.trans {H d f:Hp}(a:zr H d)(b:zr d f):zr H f:=λc o h=>b c o (a c o h)
def zr.free {H a:Hp}(e:zr H a){l:Addr}(h:a l=Option.none):H l=Option.none:=by
 cases q:H l with
 |none=>rfl
 |some o=>
  rw[e l o q]at h;cases h
end L2
namespace L2
open PySem PySem.Spec PyProof.Rows PySem.W
def Uy {env:Env}{outer:List Env}{L:Addr}(h:env.frame=some L):lV (env::outer)=L::lV outer:=by
 unfold lV;rw[dy,h]
structure Uz (P:Program) (w:World) (outer:List Env) (H:Hp) (s s':Shared) (ea:Addr) (cls a0:Value) (B:Heap) (H':Hp):Prop where
 os:s'.os=s.os
 bare:AllBare s'.gens
 fly:dP B outer ea cls a0 s'.heap
 hok:HOk P w H' B
 un:Un (lV outer) [] H H' s.heap s'.heap
 inB:∀b o,s.heap.get? b=some o->b∉lV outer->(H b=none->B.get? b=some o)/\∃o',B.get? b=some o'
def lH (P:Program)(w:World):mP:=λouter H s E e i=>∃a cls f B d,e=.ref a/\Uz P w outer H s i a cls f B d/\E cls none d
section
variable {X:Cx}{pins:List 000}{σ:St}{H H':Hp}{s s':Shared}{ea:Addr}{cls a0:Value}{B:Heap}{h' h'':Heap}
def Inv.frNf (I:Inv X pins σ H s):∀b∈lV X.stack,H b=none/\∃o,s.heap.get? b=some o/\∀vs,o.data≠.fields vs:=λb a=>⟨I.stkFree b a,(I.stack.mem a).2⟩
def Uz.on {P:Program}{w:World}{outer:List Env}(L:Uz P w outer H s s' ea cls a0 B H')(ff:∀b∈lV outer,H b=none/\∃o,s.heap.get? b=some o/\∀vs,o.data≠.fields vs)
  (f:dP B outer ea cls a0 h') (k:s'.heap.UpToSlots h'):Uz P w outer H s {s' with heap:=h'} ea cls a0 B H' where
 os:=L.os
 bare:=L.bare
 fly:=f
 hok:=L.hok
 inB:=L.inB
 un:=by
  have d:∀b o,s.heap.get? b=some o->H b=none->b∈lV outer->∃k,h'.get? b=some {o with slots:=k}:=λb o e n a=>by
   obtain⟨l,j⟩:=L.un.slot b o e n a (by simp)
   obtain⟨_,D,u,x⟩:=ff b a;rw[e]at u;cases u;obtain⟨i,v⟩:=k b _ j x;exact⟨i,v⟩
  exact⟨λb o e n a _=>f.1 b o ((L.inB b o e a).1 n),λb o e n a _=>d b o e n a,L.un.free,λb o e _=>by
   by_cases a:b∈lV outer
   ·obtain⟨l,j⟩:=d b o e (ff b a).1 a;exact⟨_,j⟩
   ·obtain⟨p,y⟩:=(L.inB b o e a).2;exact⟨p,f.1 b p y⟩,L.un.tups,L.un.frzs,L.un.tbls⟩
def Inv.old (I:Inv X pins σ H s){b:Addr}{o:Obj}(d:X.stack=X.env::X.outer)(f:X.env.frame=some X.env.locals)(e:X.s₀.heap.get? b=some o)(a:b∉lV X.outer):b∉lV X.stack:=by
 rw[d,Uy f];intro z;rcases ay.mp z with z|z
 ·exact absurd (aP (az e) I.ok.above) (by rw[z];exact bI _)
 ·exact a z
def uY {X:Cx}(a:X.stack=X.env::X.outer)(d:X.env.frame=some X.env.locals){b:Addr}(f:b∈lV X.outer):b∈lV X.stack:=by
 rw[a,Uy d];exact ae _ f
def Uz.out (I:Inv X pins σ H s)(k:X.stack=X.env::X.outer)(i:X.env.frame=some X.env.locals)(hex:X.ex=[])(L:Uz X.prog X.w X.stack H s s' ea cls a0 B H')
  (u:dP B X.outer ea cls a0 h') (x:s'.heap.UpToSlots h'):Uz X.prog X.w X.outer X.H₀ X.s₀ {s' with heap:=h'} ea cls a0 B H' where
 os:=L.os.trans I.os
 bare:=L.bare
 fly:=u
 hok:=L.hok
 inB:=λb o e a=>by
  have nx:b∉X.ex:=by rw[hex];simp
  obtain⟨l,d⟩:=I.base.there b o e nx;have j:=I.old k i e a;exact⟨λn=>(L.inB b o (I.base.keep b o e n a nx) j).1 (I.base.free b o e n nx),(L.inB b l d j).2⟩
 un:=by
  have nx:∀b,b∉X.ex:=λb=>by rw[hex];simp
  have f:∀b o,X.s₀.heap.get? b=some o->X.H₀ b=none->b∈lV X.outer->∃x,h'.get? b=some {o with slots:=x}:=λb o e n a=>by
   obtain⟨p,d⟩:=I.base.slot b o e n a (nx b);have S:=I.base.free b o e n (nx b);obtain⟨Q,N⟩:=L.un.slot b _ d S (uY k i a) (by simp)
   obtain⟨_,Z,G,J⟩:=I.frNf b (uY k i a);rw[d]at G;cases G;obtain⟨v,U⟩:=x b _ N J;exact⟨v,U⟩
  refine⟨λb o e n a _=>?_,λb o e n a _=>f b o e n a,λb o e n _=>?_,λb o e _=>?_,λb xs e=>L.un.tups b xs (I.base.tups b xs e),λb o xs e=>L.un.frzs b o xs (I.base.frzs b o xs e),λb D q e=>L.un.tbls b D q (I.base.tbls b D q e)⟩
  ·exact u.1 b o ((L.inB b o (I.base.keep b o e n a (nx b)) (I.old k i e a)).1 (I.base.free b o e n (nx b)))
  ·obtain⟨l,d⟩:=I.base.there b o e (nx b);exact L.un.free b l d (I.base.free b o e n (nx b)) (by simp)
  ·by_cases a:b∈lV X.outer
   ·obtain⟨p,d⟩:=f b o e (I.ok.frf b a) a;exact⟨_,d⟩
   ·obtain⟨l,d⟩:=I.base.there b o e (nx b);obtain⟨y,P⟩:=(L.inB b l d (I.old k i e a)).2;exact⟨y,u.1 b y P⟩
def Uz.made (I:Inv X pins σ H s)(l:X.stack=X.env::X.outer)(p:X.env.frame=some X.env.locals)(hex:X.ex=[]){vs:List Value}(P:Heap.MadeExcOf s.heap h' ea cls vs)
  (v:dP (hideAll s.heap (lV X.stack)) X.outer ea cls a0 h'') (y:h'.UpToSlots h''):Uz X.prog X.w X.outer X.H₀ X.s₀ {s with heap:=h''} ea cls a0 (hideAll s.heap (lV X.stack)) H where
 os:=I.os
 bare:=I.bare
 fly:=v
 hok:=λa o e=>(I.hok a o e).stay (λb u d q=>hideAll_get _ q λz=>by
   have:=I.stkFree b z;rcases d with rfl|d
   ·rw[e]at this;cases this
   ·rw[d]at this;cases this) (λ_ q=>q) λ_ _ q=>q
 inB:=λb o e d=>by
  have nx:b∉X.ex:=by rw[hex];simp
  obtain⟨k,i⟩:=I.base.there b o e nx;have j:=I.old l p e d;exact⟨λn=>hideAll_get _ (I.base.keep b o e n d nx) j,k,hideAll_get _ i j⟩
 un:=by
  have nx:∀b,b∉X.ex:=λb=>by rw[hex];simp
  have f:∀b o,X.s₀.heap.get? b=some o->X.H₀ b=none->b∈lV X.outer->∃y,h''.get? b=some {o with slots:=y}:=λb o e n d=>by
   obtain⟨D,i⟩:=I.base.slot b o e n d (nx b);obtain⟨_,Q,G,N⟩:=I.frNf b (uY l p d);rw[i]at G;cases G;obtain⟨x,J⟩:=y b _ (P.keeps b _ i) N;exact⟨x,J⟩
  refine⟨λb o e n d _=>?_,λb o e n d _=>f b o e n d,λb o e n _=>I.base.free b o e n (nx b),λb o e _=>?_,I.base.tups,I.base.frzs,I.base.tbls⟩
  ·exact v.1 b o (hideAll_get _ (I.base.keep b o e n d (nx b)) (I.old l p e d))
  ·by_cases d:b∈lV X.outer
   ·obtain⟨D,i⟩:=f b o e (I.ok.frf b d) d;exact⟨_,i⟩
   ·obtain⟨k,i⟩:=I.base.there b o e (nx b);exact⟨k,v.1 b k (hideAll_get _ i (I.old l p e d))⟩
end
section
variable {P:Program}{w:World}{K:Frag}{mg:Str->Option Value}{base:Heap}{N:List Str}{qual:Str}{scope:Scope}{f:Addr}{cd:Value}{A:Around}{outer:List Env}{s:Shared}{H:Hp}{E:XK}
def ug:zS (lH P w) (jc (lH P w) P w K mg base N qual scope f cd A outer s H E) E:=by
 rintro a u p x e v I ⟨j,cls,k,B,l,i,L,hE⟩
 subst i;exact wpAny_leaves_onW I.ok.frames rfl L.fly λh' d o=>⟨j,cls,k,B,l,rfl,L.out I rfl rfl rfl d o,hE⟩
def YA {x:Str}{C:Addr}{v U:List Value}{Bn Bb a J i B:String}{np d pos:Pos}{e:Expr}{t:TA}(O:OwnCls x C v a mg base)(Fn:ExcBaseFacts Bn a B U)(S:v.contains (.type Bn)=true)(FB:ExcBaseFacts Bb J i v)
  (hg:Gl (jc (lH P w) P w K mg base N qual scope f cd A outer s H E) x) (ha:PA (jc (lH P w) P w K mg base N qual scope f cd A outer s H E) [e] t)
  (k:starEach [e] (envOfC qual scope s.1.1.size f cd)=[(false,eval e (envOfC qual scope s.1.1.size f cd))]) (hd:(x==("__debug__":Str))=false:=by decide):
  PS (jc (lH P w) P w K mg base N qual scope f cd A outer s H E) (.Raise (some (.Call (.Name x np) [e] [] d)) none pos) (λ_ p l=>t p l λvs y=>vs.length<=sizeLine/\E (.ref C) none y):=by
 intro X s1 p l D I hw;obtain⟨tl,N',nm,q,bs,hdct,sn,sub,ab,col,dd,k0,k1,k2,k3,k5,mN,hC,hN,Q,T⟩:=O.obj;have hp:(backTo d (starEach [e] (envOfC qual scope s.1.1.size f cd))).any (·.1)=false:=by rw[k];rfl
 refine wpAny_Raise_call_subU (nm:=nm) (q:=q) (N:=N') (bs:=bs) (hdct:=hdct) (sn:=sn) (sub:=sub) (ab:=ab) (col:=col) (dd:=dd) (k0:=k0) (k1:=k1) (k2:=k2) (k3:=k3) (k5:=k5)
  Fn S FB (T.hasType FB.hasBase) (I.ok.hd rfl) hp Q (jQ I hg O.bound ⟨rfl,?_⟩ hd)
 have Z:=ha d _ s1 p l _ I hw;have G:starEach [e] (jc (lH P w) P w K mg base N _ _ f cd A outer s H E).env=[(false,eval e _)]:=k;rw[G]at Z⊢;refine h_ (lF Z λus s2 ⟨vs,y,j,r,hl,hE⟩=>⟨rfl,by rw[←r.length];exact hl,j.bk _ _ hC,hN.keeps j.bk,T.keeps j.bk,λh' ea hx=>?_⟩)
 have u:∀env∈(jc (lH P w) P w K mg base N qual scope f cd A outer s H E).stack,∀b,env.frame=some b->b∈lV _:=λenv k b hb=>dE.mpr ⟨env,k,hb⟩;exact wpAny_leaves_madeW j.ok.frames rfl (λb o q=>of_hideAll _ q) (funFrames_hide j.stack u) hx λh'' t' fl _ _ sl=>
  ⟨ea,.ref C,.ref t',_,y,rfl,Uz.made j rfl rfl rfl hx fl sl,hE⟩
end
end L2
namespace L2
open PySem PySem.Spec PyProof.Rows PySem.W
def Zd.there {P:Program}{w:World}{H:Hp}{h:Heap}{a:Addr}{o:HO}(x:Zd P w H h a o):∃ob,h.get? a=some ob:=by
 cases o with
 |lst xs=>obtain⟨_,_,_,_,e⟩:=x;exact⟨_,e⟩
 |tup xs=>obtain⟨_,_,_,⟨_,e,_⟩,_⟩:=x;exact⟨_,e⟩
 |dK d=>obtain⟨_,_,_,_,o,_,_,e,_⟩:=x;exact⟨_,e⟩
 |dT d=>obtain⟨_,_,_,_,o,_,_,e,_⟩:=x;exact⟨_,e⟩
 |set S n=>obtain⟨o,_,_,_,e,_⟩:=x;exact⟨_,e⟩
 |ins C j fs=>obtain⟨_,_,_,e,_⟩:=x;exact⟨_,e⟩
 |own y=>obtain⟨_,e⟩:=x;exact⟨_,e⟩
 |xd fs=>obtain⟨_,⟨_,_,_,e,_⟩,_⟩:=x;exact⟨_,e⟩
 |rng lo hi=>obtain⟨_,_,_,e⟩:=x;exact⟨_,e⟩
 |frz ob u=>obtain⟨e,_⟩:=x;exact⟨_,e⟩
 |tbl k q=>obtain⟨_,e,_⟩:=x;exact⟨_,e⟩
 |met f y=>exact⟨_,(x)⟩
 |ext i=>obtain⟨_,e,_⟩:=x;exact e
noncomputable def uZ (cls:Value)(a:Addr)(h:Heap):Prop:=∃o,h.get? a=some o/\o.cls=cls
def uZ.ok {P:Program}{w:World}{H:Hp}{h:Heap}{a:Addr}{cls:Value}(x:uZ cls a h):Zd P w H h a (.ext (uZ cls a)):=
 ⟨x,let ⟨o,e,_⟩:=x;⟨o,e⟩,λ_ _ ⟨o,e,c⟩ k=>⟨o,k o e,c⟩⟩
noncomputable abbrev Cx.try' (X:Cx)(pn:List 000)(xe:Value->Shared->Prop):Cx:={X with pn:=pn,xe:=xe}
noncomputable abbrev Cx.mark' (X:Cx)(e:Value):Cx:={X with A:=X.A.mark (some e),calm:=false,xe:=λ_ _=>False}
section
variable {X:Cx}{pins pins':List 000}{σ:St}{H H':Hp}{s s':Shared}{xe:Value->Shared->Prop}
theorem Cx.Ok.try' (ok:X.Ok){pn:List 000}:(X.try' pn xe).Ok:=
 ⟨ok.mod,ok.kind,ok.glob,ok.blt,ok.above,ok.inj,ok.has,ok.cab,ok.hd,ok.frames,ok.stk,ok.exf,ok.bs,ok.bsz,ok.noex,ok.exfs,ok.funs,ok.frf⟩
def Cx.Ok.untry {pn:List 000}(ok:(X.try' pn xe).Ok):X.Ok:=
 ⟨ok.mod,ok.kind,ok.glob,ok.blt,ok.above,ok.inj,ok.has,ok.cab,ok.hd,ok.frames,ok.stk,ok.exf,ok.bs,ok.bsz,ok.noex,ok.exfs,ok.funs,ok.frf⟩
theorem Inv.try' (I:Inv X pins σ H s)(xe:Value->Shared->Prop):Inv (X.try' (X.pn++pins) xe) [] σ H s:=
 ⟨I.ok.try',I.os,I.bare,I.base,I.loc,I.cell,I.free,I.freeC,λp hp=>I.pin p (by simpa using hp),I.hok,I.len⟩
theorem Inv.untry (I:Inv (X.try' (X.pn++pins) xe) pins' σ H s):Inv X pins σ H s:=
 ⟨I.ok.untry,I.os,I.bare,I.base,I.loc,I.cell,I.free,I.freeC,λp hp=>I.pin p (cg _ hp),I.hok,I.len⟩
theorem Inv.mark' (I:Inv X pins σ H s)(e:Value):Inv (X.mark' e) pins σ H s:=
 ⟨⟨I.ok.mod,I.ok.kind,I.ok.glob,I.ok.blt,I.ok.above,I.ok.inj,I.ok.has,I.ok.cab,λz=>(by cases z),I.ok.frames,I.ok.stk,I.ok.exf,I.ok.bs,I.ok.bsz,I.ok.noex,I.ok.exfs,I.ok.funs,I.ok.frf⟩,I.os,I.bare,I.base,I.loc,I.cell,I.free,I.freeC,I.pin,I.hok,I.len⟩
def Inv.unmark {e:Value}(I:Inv (X.mark' e) pins σ H s)(hd:X.calm=true->X.A.handled=none):Inv X pins σ H s:=
 ⟨⟨I.ok.mod,I.ok.kind,I.ok.glob,I.ok.blt,I.ok.above,I.ok.inj,I.ok.has,I.ok.cab,hd,I.ok.frames,I.ok.stk,I.ok.exf,I.ok.bs,I.ok.bsz,I.ok.noex,I.ok.exfs,I.ok.funs,I.ok.frf⟩,I.os,I.bare,I.base,I.loc,I.cell,I.free,I.freeC,I.pin,I.hok,I.len⟩
theorem SP.untry {D:Uq}{f:Flow}{pins':List 000}(h:SP (X.try' (X.pn++pins) xe) pins' D f s'):SP X pins D f s':=by
 cases f with
 |next=>obtain⟨σ',H',I,q⟩:=h;exact⟨σ',H',I.untry,q⟩
 |brk=>obtain⟨σ',H',I,q⟩:=h;exact⟨σ',H',I.untry,q⟩
 |cont=>obtain⟨σ',H',I,q⟩:=h;exact⟨σ',H',I.untry,q⟩
 |ret u=>obtain⟨v,σ',H',I,r,q⟩:=h;exact⟨v,σ',H',I.untry,r,q⟩
def YB {A:Around}{E:Value->Shared->Prop}{M:Model}{i:Nat}{n:Str}{pos:Pos}{Q:Unit->Shared->Prop}(I:Inv X pins σ H s)(hN:X.N.Nodup)(hi:X.N[i]?=some n)(hl:X.env.kindOf n=some .local)(h:∀s',Inv X pins (σ.set i none) H s'->Q () s'):
  wpAny M A (do bindName X.env n .none;unbindBehindTheSuite X.env n pos) Q E s:=by
 obtain⟨m,hn,J⟩:=id I.loc;have x:(X.env.scope.kind==.class||(X.env.scope.kind==.module&&X.env.locals !=X.env.globals))=false:=by rw[I.ok.kind];rfl
 refine wpAny_nameGoes_keeps hl hn x λh' v P a=>?_;refine h _ ⟨I.ok,I.os,I.bare,⟨λb o e n S u=>?_,λb o e n S u=>?_,I.base.free,λb o e u=>?_,I.base.tups,I.base.frzs,I.base.tbls⟩,⟨_,P,λj y v' f D e3=>?_⟩,λy c e=>?_,I.free,I.freeC,λp hp=>?_,λb ob e=>?_,by simpa using I.len⟩
 ·exact(a.2 b (aM (aP (az e) I.ok.above))).trans (I.base.keep b o e n S u)
 ·obtain⟨sl,f⟩:=I.base.slot b o e n S u;exact⟨sl,(a.2 b (aM (aP (az e) I.ok.above))).trans f⟩
 ·obtain⟨o',f⟩:=I.base.there b o e u;exact⟨o',(a.2 b (aM (aP (az e) I.ok.above))).trans f⟩
 ·by_cases G:j=i
  ·subst G;have l:j<σ.length:=by rw[I.len];exact(ak.mp hi).1
   rw[aH l]at D;cases D
  ·rw[av (aY G)]at D;obtain⟨u',r',q⟩:=J j y v' f D e3;refine⟨u',r',?_⟩;rcases q with ⟨k,e⟩|⟨k,c,e,z⟩
   ·refine .inl ⟨k,?_⟩;have:y≠n:=λe=>G (Wo hN f (e▸hi));simp[this,e]
   ·exact .inr ⟨k,c,e,z.sameBut a (I.cne y c e)⟩
 ·obtain⟨Z,z⟩:=I.cell y c e;exact⟨Z,z.sameBut a (I.cne y c e)⟩
 ·obtain⟨e,n,U,nf,d⟩:=I.pin p hp;exact⟨(a.2 p.1 U).trans e,n,U,nf,d⟩
 ·refine(I.hok b ob e).stay (λc Z B q=>(a.2 c ?_).trans q) (λ_ q=>q) λ_ _ q=>q
  rintro rfl
  rcases B with rfl|B
  ·rw[I.free]at e;cases e
  ·rw[I.free]at B;cases B
end
section
variable {prog:Program}{w:World}{A:Around}{E:Value->Shared->Prop}{s:Shared}{env:Env}
def W6 {K:Frag}{e:Addr}{cls c:Value}{t:Expr}{n:Str}{i:Stmt}{d:List Stmt}{pos:Pos}{rest:List ExceptHandler}{Q:Flow->Shared->Prop}(J:exmOne K cls c=some true)
  (h:wpAny 001 (A.mark (some (.ref e))) (eval t env) (λv a=>v=c/\K.In a.heap/\(∃D,a.heap.get? e=some D/\D.cls=cls)/\
   wpAny 001 (A.mark (some (.ref e))) (setFlight (.ref e) none) (λ_ j=>
     wpAny 001 (A.mark (some (.ref e))) (storeName env n (.ref e)) (λ_ k=>
      wpAny 001 (A.mark (some (.ref e))) (execs (i::d) env)
       (λf x=>wpAny 001 A (do bindName env n .none;unbindBehindTheSuite env n pos) (λ_ p=>Q f p) E x)
       (λ_ _=>False) k) (λ_ _=>False) j) (λ_ _=>False) a) (λ_ _=>False) s):
  wpAny 001 A (handleBy (.ref e) env (.ExceptHandler (some t) (some n) (i::d) pos::rest)) Q E s:=by
 refine wpAny_handleBy_cons (codeAny_handlers_test (bF h (λv a h₁=>?_) λ_ _ y=>y.elim)) (by intro q;cases q)
 obtain⟨rfl,X,⟨D,I,u⟩,G⟩:=h₁;have LT:Looks 001 a.heap (typeOf (.ref e)) cls:=by
  rw[←u];exact(Looks.ld I).andThen .now
 refine(exm_one X LT J) _ _ _ _ (λb o q=>q) (codeAny_handlers_suite_as ?_);exact bF G (λ_ j l=>bF l (λ_ k B=>bF B (λ_ _ y=>y) λ_ _ y=>y.elim) λ_ _ y=>y.elim) λ_ _ y=>y.elim
end
end L2
namespace L2
open PySem PySem.Spec PyProof.Rows PySem.W
section
variable {X:Cx}{pins:List 000}{σ:St}{H H':Hp}{s s':Shared}{ea:Addr}{cls a0:Value}{B:Heap}{h3:Heap}
def Inv.caught (I:Inv X pins σ H s)(L:Uz X.prog X.w X.stack H s s' ea cls a0 B H')(d:dP B X.stack ea cls a0 h3)(f:s'.heap.UpToSlots h3):Inv X pins σ H' {s' with heap:=h3}:=
 have a:=L.on I.frNf d f
 I.call' a.os a.un (L.hok.kept d.1) a.bare (λb z=>absurd z (by simp))
def Uz.fresh {P:Program}{w:World}{outer:List Env}(L:Uz P w outer H s s' ea cls a0 B H'):H' ea=none:=by
 cases q:H' ea with
 |none=>rfl
 |some o=>
  obtain⟨ob,e⟩:=(L.hok ea o q).there;have:=L.fly.2.1;rw[e]at this;cases this
def Inv.caughtX (I:Inv X pins σ H s)(L:Uz X.prog X.w X.stack H s s' ea cls a0 B H')(k:dP B X.stack ea cls a0 h3)(S:s'.heap.UpToSlots h3):Inv X pins σ (lf H' ea (.ext (uZ cls ea))) {s' with heap:=h3}:=by
 have a:=L.on I.frNf k S;have d:=L.fresh;obtain⟨N,vs,l,v,hd,_⟩:=k.first;have j:∀b o,s.heap.get? b=some o->b≠ea:=λb o e z=>by
  subst z
  by_cases f:b∈lV X.stack
  ·obtain⟨n,Q,D,x⟩:=I.frNf b f;obtain⟨J,p⟩:=a.un.slot b Q D n f (by simp)
   rw[l]at p;cases p;exact x vs hd
  ·obtain⟨U,G⟩:=(L.inB b o e f).2;have:=L.fly.2.1;rw[G]at this;cases this
 have i:∀b u,H' b=some u->b≠ea:=λb u e z=>by rw[z,d]at e;cases e
 refine I.call' a.os ⟨a.un.keep,a.un.slot,λb o e n y=>?_,a.un.there,λb xs e=>?_,λb o xs e=>?_,λb P q e=>?_⟩ ?_ a.bare (λb z=>absurd z (by simp))
 ·rw[zu (j b o e)];exact a.un.free b o e n y
 ·have:=a.un.tups b xs e;rw[zu (i b _ this)];exact this
 ·have:=a.un.frzs b o xs e;rw[zu (i b _ this)];exact this
 ·have:=a.un.tbls b P q e;rw[zu (i b _ this)];exact this
 ·intro b u e
  by_cases f:b=ea
  ·subst f;rw[zw]at e;cases e;exact uZ.ok ⟨N,l,v⟩
  ·rw[zu f]at e;exact((L.hok.kept k.1) b u e).stay (λ_ _ _ q=>q) (λc q=>by rw[zu (i c _ q)];exact q) (λc xs q=>by rw[zu (i c _ q)];exact q) λc o u q=>by rw[zu (i c _ q)];exact q
end
def Xu {X:Cx}{tb:XK->TS}{body:List Stmt}{c n y:Str}{C:Addr}{cp np yp hp j pos:Pos}{i k:Nat}
  (hX:X.stack=X.env::X.outer) (hf:X.env.frame=some X.env.locals) (hN:X.N.Nodup)
  (hi:X.N[i]?=some n) (hl:X.env.scope.names.lookup n=some .local) (hk:X.N[k]?=some y) (hy:X.env.scope.names.lookup y=some .local)
  (hg:Gl X c) (hm:X.mg c=some (.ref C))
  (hb:∀(x:XK) (pn:List 000) (xe:Value->Shared->Prop),zS (lH X.prog X.w) (X.try' pn xe) x->PSs (X.try' pn xe) body (tb x))
  (hs:swapsWith (.Name n np) (some (.Name y yp)) j.line X.env=pure false:=by rfl)
  (hdc:(c==("__debug__":Str))=false:=by decide) (hdn:(n==("__debug__":Str))=false:=by decide) (hcd:(n==("__classdict__":Str))=false:=by decide):
  PS X (.Try body [.ExceptHandler (some (.Name c cp)) (some n) [.Assign [.Name y yp] (.Name n np) j] hp] [] [] pos)
   (λD S H=>∃x:XK,(∀(cls:Value) (d:Option Addr) (P:Hp) (a:Addr) (σ':St),x cls d P->exmOne X.K cls (.ref C)=some true/\(P a=none->σ'.length=S.length->S.length=X.N.length->D.nx (((σ'.set i (some (.ref a))).set k (some (.ref a))).set i none) (lf P a (.ext (uZ cls a)))))/\tb x D S H):=by
 rintro o s S H D I ⟨x,hE,hw⟩
 have Z:zS (lH X.prog X.w) (X.try' (X.pn++o) λe s1=>wpAny 05 X.A (noteFrame e X.env) (λ_ s2=>wpAny 05 X.A (setFlight e none) (λ_ s3=>wpAny 05 X.A (handleBy e X.env [.ExceptHandler (some (.Name c cp)) (some n) [.Assign [.Name y yp] (.Name n np) j] hp]) (SP X o D) X.xe s3) X.xe s2) X.xe s1) x:=by
  rintro pins' σ' H1 s1 e s' I1 ⟨a,cls,a0,B,P,he,L,hw'⟩
  subst he;have I0:=I1.untry;have fr:X.A.frames=some (X.env::X.outer):=by rw[←hX];exact I0.ok.frames
  refine wpAny_looks_onW fr hf (hX▸L.fly) λJ U sl1=>?_;refine wpAny_landsW U λh2 l sl2=>?_;rw[←hX]at l;have G:=sl1.trans sl2;have I2:=I0.caught L l G;obtain⟨hm1,hD⟩:=hE cls _ P a σ' hw';refine W6 hm1 ?_;refine jQ (I2.mark' _) hg hm ⟨rfl,I2.kIn,l.there,?_⟩ hdc;refine lands_againW l λh3 fl3 sl3=>?_;have I3:=I0.caughtX L fl3 (G.trans sl3);have p:=I0.len;refine jx (X:=X.mark' (.ref a)) (I3.mark' _) hN hi (.inl hl) (v:=.ref a) rfl (λs4 I4=>?_) (.inr hl);have Q:i<σ'.length:=by rw[p];exact(ak.mp hi).1
  have hs1:=jR (WY (X:=X.mark' (.ref a)) hN hk (.inl hy) (WX hi (.inl hl) hdn hcd) hs (.inr hy));have hr:=hs1 _ s4 _ _ {nx:=λσ5 H5=>σ5=(σ'.set i _).set k _/\H5=lf P a _,rt:=λ_ _=>False} I4 ⟨.ref a,aH Q,rfl,rfl⟩;refine bF hr (λf s5 h5=>?_) λ_ _ z=>z;cases f with
  |next=>
   obtain⟨σ5,H5,I5,rfl,rfl⟩:=h5;refine YB (I5.unmark I.ok.hd) hN hi hl λs6 I6=>?_;exact⟨_,_,I6,hD L.fresh (p.trans I.len.symm) I.len⟩
  |brk=>obtain⟨_,_,_,z⟩:=h5;exact z.elim
  |cont=>obtain⟨_,_,_,z⟩:=h5;exact z.elim
  |ret u=>obtain⟨_,_,_,_,_,z⟩:=h5;exact z.elim
 have hr:=hb x _ _ Z [] s S H D (I.try' _) hw;refine wpAny_Try_except (bF hr (λf s1 J=>?_) λ_ _ z=>z);have J:=J.untry;cases f with
 |next=>exact c_ J
 |brk=>exact J
 |cont=>exact J
 |ret u=>exact J
end L2
namespace PySem
open PySem.W
end PySem
namespace L2
open PySem PySem.Spec PyProof.Rows PySem.W
section
variable {X:Cx}{pins:List 000}{σ:St}{H H':Hp}{s s':Shared}{ea C:Addr}{cls a0:Value}{B:Heap}{h':Heap}
def gT (X:Cx)(E:XK):Prop:=∀(pins:List 000) (σ:St) (H:Hp) (s:Shared) (e:Value) (s':Shared) (C:Addr) (m:Str->Option Value) (f:Value->Shared->Prop) (a:Env),Inv X pins σ H s->s.heap.Ns C m->H C=none->X.s₀.1.1.size<=C->C∉lV X.stack->a.frame=X.env.frame->lH X.prog X.w X.stack H s E e s'->
 wpAny 05 X.A (noteFrame e a) (λ_ d=>∃m,d.heap.Ns C m/\∀h',cB C d.heap h'->∀env:Env,env.locals=C->wpAny 05 X.A (passOn "comprehension.variables-let-go" e env:Sem Value) (λ_ _=>False) X.xe {d with heap:=h'}) f s'
def jA {E:XK}(h:E=λ_ _ _=>False):gT X E:=λpins σ H s e s' C m f a I _ _ _ _ _ d=>by obtain⟨_,_,_,_,_,_,_,z⟩:=d;subst h;exact z.elim
end
end L2
namespace L2
open PySem PySem.Spec PyProof.Rows
def PE.imp {X:Cx}{e:Expr}{t t':TE}(h:PE X e t)(i:∀a H Q,t' a H Q->t a H Q):PE X e t':=λd s a H Q I q=>h _ s a H Q I (i a H Q q)
def PT.imp {X:Cx}{e:Expr}{t t':TT}(h:PT X e t)(i:∀a H Q,t' a H Q->t a H Q):PT X e t':=λd s a H Q I q=>h _ s a H Q I (i a H Q q)
def PA.imp {X:Cx}{e:List Expr}{t t':TA}(h:PA X e t)(i:∀a H Q,t' a H Q->t a H Q):PA X e t':=λpos d s a H Q I q=>h pos _ s a H Q I (i a H Q q)
def PS.imp {X:Cx}{e:Stmt}{t t':TS}(h:PS X e t)(i:∀D a H,t' D a H->t D a H):PS X e t':=λd s a H D I q=>h _ s a H D I (i D a H q)
def PSs.imp {X:Cx}{e:List Stmt}{t t':TS}(h:PSs X e t)(i:∀D a H,t' D a H->t D a H):PSs X e t':=λd s a H D I q=>h _ s a H D I (i D a H q)
end L2
namespace PV
open PySem
noncomputable def uh:Expr->Bool
 |.Starred _ _=>false
 |_=>true
def zC {e:Expr}{rest:List Expr}{env:Env}(h:uh e=true):starEach (e::rest) env=(false,eval e env)::starEach rest env:=by
 cases e<;>first|rfl|cases h
def mJ {a b:Expr}{env:Env}(h:uh a=true)(h':uh b=true):starEach [a,b] env=[(false,eval a env),(false,eval b env)]:=by
 rw[zC h,zC h'];rfl
def lS {a:Expr}{env:Env}(h:uh a=true):starEach [a] env=[(false,eval a env)]:=by
 rw[zC h];rfl
theorem zX {pos:Pos}{env:Env}:∀{a:List Expr},a.all uh=true->((backTo pos (starEach a env)).any λx=>x.fst)=false
 |[],_=>rfl
 |e::a,h=>by
  rw[d6,ai]at h;rw[zC h.1];have:=zX (pos:=pos) (env:=env) h.2;show (false||((backTo pos _).any λx=>x.fst))=false
  rw[this];rfl
open PySem PySem.Spec PyProof.Rows L2
noncomputable abbrev Sg:=L2.St
inductive T where
 |non|bl (b:Bool)|int (i:Int)|str (x:Str)|tup (xs:List T)|lst (xs:List T)|fz (xs:List T)
inductive R (α:Type) where
 |ok (a:α)|ex (c:Nat)|bad
noncomputable def R.bind {d i:Type}(r:R d)(f:d->R i):R i:=match r with
 |.ok a=>f a
 |.ex c=>.ex c
 |.bad=>.bad
mutual
inductive Rep (H:Hp):V->T->Prop where
 |non:Rep H .non .non
 |bl (b:Bool):Rep H (.bl b) (.bl b)
 |int (i:Int):Rep H (.int i) (.int i)
 |str (x:Str):Rep H (.str x) (.str x)
 |tup {a:Addr} {xs:List V} {ts:List T}:H a=some (.tup xs)->zK H xs ts->Rep H (.ref a) (.tup ts)
 |lst {a:Addr} {xs:List V} {ts:List T}:H a=some (.lst xs)->zK H xs ts->Rep H (.ref a) (.lst ts)
 |fz {a:Addr} {o:Obj} {xs:List V} {ts:List T}:H a=some (.frz o (.lst xs))->zK H xs ts->Rep H (.ref a) (.fz ts)
inductive zK (H:Hp):List V->List T->Prop where
 |nil:zK H [] []
 |cons {v:V} {t:T} {vs:List V} {ts:List T}:Rep H v t->zK H vs ts->zK H (v::vs) (t::ts)
end
mutual
theorem Rep.mono {H a:Hp}(s:zr H a):∀{v:V} {t:T},Rep H v t->Rep a v t
 |_,_,.non=>.non
 |_,_,.bl b=>.bl b
 |_,_,.int i=>.int i
 |_,_,.str x=>.str x
 |_,_,.tup h r=>.tup (s _ _ h) (zK.mono s r)
 |_,_,.lst h r=>.lst (s _ _ h) (zK.mono s r)
 |_,_,.fz h r=>.fz (s _ _ h) (zK.mono s r)
theorem zK.mono {H a:Hp}(s:zr H a):∀{v:List V} {t:List T},zK H v t->zK a v t
 |_,_,.nil=>.nil
 |_,_,.cons h r=>.cons (Rep.mono s h) (zK.mono s r)
end
theorem zK.length {H:Hp}:∀{vs:List V} {ts:List T},zK H vs ts->vs.length=ts.length
 |_,_,.nil=>rfl
 |_,_,.cons _ r=>congrArg _ (zK.length r)
theorem zK.get {H:Hp}:∀{vs:List V} {ts:List T} {i:Nat} {t:T},zK H vs ts->ts[i]?=some t->∃v,vs[i]?=some v/\Rep H v t
 |_,_,_,_,.nil,e=>by simp at e
 |_,_,0,_,.cons r _,e=>by simp at e;subst e;exact⟨_,rfl,r⟩
 |_,_,i+1,t,.cons _ q,e=>by
  obtain⟨v,d,a⟩:=zK.get q (by simpa using e)
  exact⟨v,by simpa using d,a⟩
theorem zK.getV {H:Hp}:∀{vs:List V} {ts:List T} {i:Nat} {v:V},zK H vs ts->vs[i]?=some v->∃t,ts[i]?=some t/\Rep H v t
 |_,_,_,_,.nil,e=>by simp at e
 |_,_,0,_,.cons r _,e=>by simp at e;subst e;exact⟨_,rfl,r⟩
 |_,_,i+1,v,.cons _ q,e=>by
  obtain⟨t,d,a⟩:=zK.getV q (by simpa using e)
  exact⟨t,by simpa using d,a⟩
def zK.append {H:Hp}{vs d:List V}{ts a:List T}(h:zK H vs ts)(q:zK H d a):zK H (vs++d) (ts++a):=by
 induction vs generalizing ts with
 |nil=>cases h;exact q
 |cons v vs f=>
 cases h with
 |cons r t=>exact .cons r (f t)
theorem zK.take {H:Hp}:∀{vs:List V} {ts:List T} (n:Nat),zK H vs ts->zK H (vs.take n) (ts.take n)
 |_,_,0,_=>.nil
 |_,_,_+1,.nil=>.nil
 |_,_,n+1,.cons r t=>.cons r (zK.take n t)
theorem zK.drop {H:Hp}:∀{vs:List V} {ts:List T} (n:Nat),zK H vs ts->zK H (vs.drop n) (ts.drop n)
 |_,_,0,r=>r
 |_,_,_+1,.nil=>.nil
 |_,_,n+1,.cons _ t=>zK.drop n t
theorem zK.rep {H:Hp}{vs:List V}{ts:List T}(h:zK H vs ts):∀n:Nat,zK H (ac n vs).flatten (ac n ts).flatten
 |0=>.nil
 |n+1=>by
  exact h.append (zK.rep h n)
def zK.nil_iff {H:Hp}{vs:List V}{ts:List T}(h:zK H vs ts):vs=[]↔ts=[]:=by
 cases h<;>simp
def zN (B H a:Hp):Hp:=λb=>match H b with
 |none=>a b
 |some _=>B b
def zD {B H a:Hp}{b:Addr}(h:H b=none):zN B H a b=a b:=by unfold zN;rw[h]
def zL {B H a:Hp}{b:Addr}{o:HO}(h:H b=some o):zN B H a b=B b:=by unfold zN;rw[h]
def zN.ge {B H a:Hp}(s:zr B H)(d:zr H a):zr B (zN B H a):=λb o h=>by
 rw[zL (s b o h)];exact h
def zN.le {B H a:Hp}(s:zr B H)(d:zr H a):zr (zN B H a) a:=λb o h=>by
 cases q:H b with
 |none=>rw[zD q]at h;exact h
 |some u=>rw[zL q]at h;exact d b o (s b o h)
def zN.self (B H:Hp)(s:zr B H):zN B H H=B:=by
 funext b
 cases q:H b with
 |none=>
  rw[zD q,q];cases z:B b with
  |none=>rfl
  |some o=>rw[s b o z]at q;cases q
 |some u=>rw[zL q]
def zN.trans {B H a d:Hp}(i:zr H a)(f:zr a d):zN (zN B H a) a d=zN B H d:=by
 funext b
 cases q:H b with
 |none=>
  rw[zD q];cases z:a b with
  |none=>rw[zD z]
  |some o=>rw[zL z,zD q,z,f b o z]
 |some u=>rw[zL q,zL (i b u q),zL q]
inductive Fd where
 |tv (t:T)|tl (ts:List T)
noncomputable abbrev Ob:=Nat×List (Str×Fd)
noncomputable def KK:List Str:=["kind","remaining","done","undone","first","last","answered"]
def nL (vs:List (Str×V)):Prop:=∀f,f∉KK->vs.lookup f=none
inductive Sl where
 |un|vl (t:T)|ow (ts:List T)|xc (c:Nat)|ob (k n:Nat)|oc (k:Nat) (fs:List (Str×Fd))|st (os:List Ob)
noncomputable def Sl.isS:Sl->Bool
 |.ob _ _=>true
 |.st _=>true
 |_=>false
noncomputable def Sl.isO:Sl->Bool
 |.ob _ _=>true
 |.oc _ _=>true
 |.st _=>true
 |_=>false
noncomputable abbrev En:=List Sl
structure Fx where
 B0:Hp
 H0:Hp
 E:XK
 cl:Nat->Value
 as:List Addr
def yF (ρ:En)(d:Sg)(l:Addr):Prop:=∀(j:Nat) (a:List T),ρ[j]?=some (Sl.ow a)->d[j]?≠some (some (V.ref l))
def Bp (Y:Fx)(B:Hp)(ρ:En)(a:Sg)(H:Hp)(o:Addr->Prop)(v:V):Fd->Prop
 |.tv t=>Rep B v t
 |.tl ts=>∃l xs,v=.ref l/\B l=none/\Y.H0 l=none/\H l=some (.lst xs)/\zK B xs ts/\yF ρ a l/\o l
def FsO (B H:Hp)(vs:List (Str×V))(fs:List (Str×Fd)):Prop:=∀(m:Nat) (f:Str) (d:Fd),fs[m]?=some (f,d)->∃v,vs[m]?=some (f,v)/\match d with
 |.tv t=>Rep B v t
 |.tl ts=>∃l xs,v=.ref l/\H l=some (.lst xs)/\zK B xs ts
theorem FsO.mono {B i H j:Hp}{vs:List (Str×V)}{fs:List (Str×Fd)}(h:FsO B H vs fs)(s:zr B i)(o:zr H j):FsO i j vs fs:=λm f d e=>by
 obtain⟨v,k,r⟩:=h m f d e;refine⟨v,k,?_⟩;cases d with
 |tv t=>exact Rep.mono s r
 |tl ts=>obtain⟨l,xs,a,b,c⟩:=r;exact⟨l,xs,a,o _ _ b,c.mono s⟩
structure StI (Y:Fx) (B:Hp) (ρ:En) (σ:Sg) (H:Hp) (as:List Addr) (O:Addr->Option (Nat×Nat)):Prop where
 pre:Y.as<+:as
 len:∀(i:Nat) (os:List Ob),ρ[i]?=some (Sl.st os)->as.length=os.length
 one:∀(i j:Nat) (os os':List Ob),ρ[i]?=some (Sl.st os)->ρ[j]?=some (Sl.st os')->i=j
 ob:∀(i k n:Nat),ρ[i]?=some (Sl.ob k n)->∃a C dx vs,as[n]?=some a/\σ[i]?=some (some (V.ref a))/\Y.cl k=.ref C/\H a=some (.ins C dx vs)/\B a=none/\Y.H0 a=none/\nL vs
 oc:∀(i k:Nat) (fs:List (Str×Fd)),ρ[i]?=some (Sl.oc k fs)->∃a C dx vs,σ[i]?=some (some (V.ref a))/\Y.cl k=.ref C/\Y.H0 a=some (.ins C dx vs)/\nL vs/\FsO B Y.H0 vs fs
 st:∀(i:Nat) (os:List Ob),ρ[i]?=some (Sl.st os)->∀(n k:Nat) (fs:List (Str×Fd)),os[n]?=some (k,fs)->∃a C dx vs,as[n]?=some a/\Y.cl k=.ref C/\H a=some (.ins C dx vs)/\B a=none/\Y.H0 a=none/\O a=some (n,0)/\(vs.length=fs.length/\nL vs)/\
  ∀(m:Nat) (f:Str) (d:Fd),fs[m]?=some (f,d)->∃v,vs[m]?=some (f,v)/\Bp Y B ρ σ H (λl=>O l=some (n,m+1)) v d
structure SI (Y:Fx) (B:Hp) (ρ:En) (σ:Sg) (H:Hp):Prop where
 s0:zr Y.B0 Y.H0
 sH:zr Y.H0 H
 sB:zr B H
 old:∀b o,Y.H0 b=some o->B b=Y.B0 b
 len:ρ.length=σ.length
 vl:∀(i:Nat) (t:T),ρ[i]?=some (Sl.vl t)->∃v:V,σ[i]?=some (some v)/\Rep B v t
 ow:∀(i:Nat) (ts:List T),ρ[i]?=some (Sl.ow ts)->∃(a:Addr) (xs:List V),σ[i]?=some (some (V.ref a))/\B a=none/\Y.H0 a=none/\H a=some (.lst xs)/\zK B xs ts/\
  ∀(j:Nat) (us:List T),j≠i->ρ[j]?=some (Sl.ow us)->σ[j]?≠some (some (V.ref a))
 xc:∀(i:Nat) (c:Nat),ρ[i]?=some (Sl.xc c)->∃a:Addr,σ[i]?=some (some (V.ref a))/\B a=some (.ext (uZ (Y.cl c) a))
 st:∃as O,StI Y B ρ σ H as O
def StI.on {Y X:Fx}{B B':Hp}{ρ ρ':En}{Z σ':Sg}{H H':Hp}{as:List Addr}{O:Addr->Option (Nat×Nat)}(x:StI Y B ρ Z H as O)(u:∀(i:Nat) (s:Sl),s.isO=true->ρ'[i]?=some s->ρ[i]?=some s/\σ'[i]?=Z[i]?)(hB:zr B B')(hc:X.cl=Y.cl)(hA:X.as=Y.as)(h0:zr Y.H0 X.H0)
  (hH:∀b o,H b=some o->B b=none->Y.H0 b=none->((∃C p vs,o=.ins C p vs)\/yF ρ Z b)->H' b=some o/\B' b=none/\X.H0 b=none/\(yF ρ Z b->yF ρ' σ' b)):StI X B' ρ' σ' H' as O where
 pre:=by rw[hA];exact x.pre
 len:=λi os h=>x.len i os (u i _ rfl h).1
 one:=λi j os os' J Q=>x.one i j os os' (u i _ rfl J).1 (u j _ rfl Q).1
 ob:=λi k n h=>by
  obtain⟨J,Q⟩:=u i _ rfl h;obtain⟨a,C,p,vs,y,S,N,P,U,e6⟩:=x.ob i k n J;obtain⟨D,G,I,_⟩:=hH a _ P U e6.1 (.inl ⟨_,_,_,rfl⟩);rw[Q,hc];exact⟨a,C,p,vs,y,S,N,D,G,I,e6.2⟩
 oc:=λi k fs h=>by
  obtain⟨J,Q⟩:=u i _ rfl h;obtain⟨a,C,p,vs,y,S,N,P,U⟩:=x.oc i k fs J;rw[Q,hc];exact⟨a,C,p,vs,y,S,h0 _ _ N,P,U.mono hB h0⟩
 st:=λi os h n k fs e=>by
  obtain⟨a,C,p,vs,y,S,N,P,U,e6,e7,e8⟩:=x.st i os (u i _ rfl h).1 n k fs e;obtain⟨D,G,I,_⟩:=hH a _ N P U (.inl ⟨_,_,_,rfl⟩);refine⟨a,C,p,vs,y,by rw[hc];exact S,D,G,I,e6,e7,λm f d z=>?_⟩
  obtain⟨v,z1,z2⟩:=e8 m f d z;refine⟨v,z1,?_⟩;cases d with
  |tv t=>exact Rep.mono hB z2
  |tl ts=>
   obtain⟨l,xs,p1,p2,p3,p4,p5,p6,p7⟩:=z2;obtain⟨D,G,I,g4⟩:=hH l _ p4 p2 p3 (.inr p6);exact⟨l,xs,p1,G,I,D,p5.mono hB,g4 p6,p7⟩
def StI.no {Y:Fx}{B:Hp}{ρ:En}{a:Sg}{H:Hp}(h:∀(i:Nat) (s:Sl),s.isO=true->ρ[i]?≠some s):∃as O,StI Y B ρ a H as O:=⟨Y.as,λ_=>none,cJ _,λi os e=>(h i _ rfl e).elim,λi j os d e=>(h i _ rfl e).elim,λi k n e=>(h i _ rfl e).elim,λi k fs e=>(h i _ rfl e).elim,λi os e=>(h i _ rfl e).elim⟩
def SI.grow {Y:Fx}{B:Hp}{ρ:En}{k:Sg}{H j:Hp}(I:SI Y B ρ k H)(s:zr H j):SI Y (zN B H j) ρ k j where
 s0:=I.s0
 sH:=I.sH.trans s
 sB:=zN.le I.sB s
 old:=λb o h=>by rw[zL (I.sH b o h)];exact I.old b o h
 len:=I.len
 vl:=λi t h=>let ⟨v,e,r⟩:=I.vl i t h;⟨v,e,r.mono (zN.ge I.sB s)⟩
 ow:=λi ts h=>let ⟨a,xs,e,b,f,hh,r,d⟩:=I.ow i ts h;⟨a,xs,e,by rw[zL hh];exact b,f,s _ _ hh,r.mono (zN.ge I.sB s),d⟩
 xc:=λi c h=>let ⟨a,e,r⟩:=I.xc i c h;⟨a,e,zN.ge I.sB s a _ r⟩
 st:=let ⟨as,O,x⟩:=I.st;⟨as,O,x.on (λ_ _ _ h=>⟨h,rfl⟩) (zN.ge I.sB s) rfl rfl (zr.refl _) λb o h l f _=>⟨s _ _ h,by rw[zL h];exact l,f,id⟩⟩
def XP (Y:Fx)(B:Hp)(c:Nat):Prop:=∀(d:Option Addr) (a:Hp),zr Y.H0 a->zr B a->Y.E (Y.cl c) d a
def Po {j i:Type}(Y:Fx)(f:Hp->Hp->i->j->Prop)(B H:Hp)(r:R j)(Q:i->Hp->Prop):Prop:=match r with
 |.ok a=>∀b d,zr H d->f (zN B H d) d b a->Q b d
 |.ex c=>XP Y B c
 |.bad=>False
abbrev rC:Hp->Hp->V->T->Prop:=λB _ v t=>Rep B v t
abbrev rB:Hp->Hp->V->T->Prop:=λ_ H v t=>Rep H v t
abbrev AX:Hp->Hp->List V->List T->Prop:=λB _ v t=>zK B v t
abbrev rE {α:Type}:Hp->Hp->α->α->Prop:=λ_ _ a b=>a=b
def tS {i d:Type}(Y:Fx)(a:Hp->Hp->d->i->Prop)(f:En->R i)(ρ:En):Sg->Hp->(d->Hp->Prop)->Prop:=λj H Q=>∃B,SI Y B ρ j H/\Po Y a B H (f ρ) Q
def tS.on {i d:Type}{Y:Fx}{a:Hp->Hp->d->i->Prop}{f:En->R i}{ρ:En}{j:Sg}{H:Hp}{Q:d->Hp->Prop}{G:Prop}(k:∀B,SI Y B ρ j H->Po Y a B H (f ρ) Q->G):tS Y a f ρ j H Q->G:=by
 rintro⟨B,I,q⟩;exact k B I q
structure Snd (X:Cx) (Y:Fx) (e:Expr) (f:En->R T):Prop where
 mk::
 go:∀ρ,PE X e (tS Y rC f ρ)
instance {X:Cx}{Y:Fx}{e:Expr}{f:En->R T}:CoeFun (Snd X Y e f) λ_=>∀ρ,PE X e (tS Y rC f ρ):=⟨Snd.go⟩
structure jH (X:Cx) (Y:Fx) (e:Expr) (f:En->R T):Prop where
 mk::
 go:∀ρ,PE X e (tS Y rB f ρ)
instance {X:Cx}{Y:Fx}{e:Expr}{f:En->R T}:CoeFun (jH X Y e f) λ_=>∀ρ,PE X e (tS Y rB f ρ):=⟨jH.go⟩
structure Wt (X:Cx) (Y:Fx) (e:Expr) (f:En->R Bool):Prop where
 mk::
 go:∀ρ,PT X e (tS Y rE f ρ)
instance {X:Cx}{Y:Fx}{e:Expr}{f:En->R Bool}:CoeFun (Wt X Y e f) λ_=>∀ρ,PT X e (tS Y rE f ρ):=⟨Wt.go⟩
structure JN (X:Cx) (Y:Fx) (es:List Expr) (f:En->R (List T)):Prop where
 mk::
 go:∀ρ,PA X es (tS Y AX f ρ)
instance {X:Cx}{Y:Fx}{es:List Expr}{f:En->R (List T)}:CoeFun (JN X Y es f) λ_=>∀ρ,PA X es (tS Y AX f ρ):=⟨JN.go⟩
def step {x o y p:Type}{Y:Fx}{l:Hp->Hp->y->x->Prop}{j:Hp->Hp->p->o->Prop}{f:En->R x}{k:x->R o}{ρ:En}{B:Hp}{v:Sg}{H:Hp}{Q:p->Hp->Prop}{K:y->Hp->Prop}
  (I:SI Y B ρ v H) (h:Po Y j B H ((f ρ).bind k) Q)
  (n:∀a b i,f ρ=.ok a->zr H i->l (zN B H i) i b a->SI Y (zN B H i) ρ v i->Po Y j (zN B H i) i (k a) Q->K b i):tS Y l f ρ v H K:=by
 refine⟨B,I,?_⟩;cases e:f ρ with
 |bad=>rw[e]at h;exact h
 |ex c=>rw[e]at h;exact h
 |ok a=>
  rw[e]at h;intro b i s r;refine n a b i e s r (I.grow s) ?_;have h':Po Y _ B H (k a) Q:=h;revert h';cases k a with
  |bad=>exact λh'=>h'
  |ex c=>exact λh' d J N u=>h' d J N ((zN.ge I.sB s).trans u)
  |ok U=>exact λh' P S D G=>h' P S (s.trans D) (by rw[←zN.trans s D];exact G)
def ZC {i f:Type}{Y:Fx}{d:Hp->Hp->f->i->Prop}{ρ:En}{B:Hp}{j:Sg}{H:Hp}{a:i}{b:f}{Q:f->Hp->Prop}(I:SI Y B ρ j H)(h:Po Y d B H (.ok a) Q)(r:d B H b a):Q b H:=h b H (zr.refl H) (by rw[zN.self B H I.sB];exact r)
theorem Snd.b {X:Cx}{Y:Fx}{e:Expr}{f:En->R T}(h:Snd X Y e f):jH X Y e f:=.mk λρ=>PE.imp (h ρ) λi H Q=>tS.on λB I q=>⟨B,I,by
 revert q;cases f ρ with
 |bad=>exact λq=>q
 |ex c=>exact λq=>q
 |ok a=>exact λq b d s r=>q b d s (r.mono (zN.le I.sB s))⟩
section
variable {X:Cx}{Y:Fx}{a b c:Expr}{fa fb fc:En->R T}{pos:Pos}
def vE (i:Nat):En->R T:=λρ=>match ρ[i]? with
 |some (.vl t)=>.ok t
 |_=>.bad
def vB (i:Nat):En->R T:=λρ=>match ρ[i]? with
 |some (.vl t)=>.ok t
 |some (.ow ts)=>.ok (.lst ts)
 |_=>.bad
def cE (t:T):En->R T:=λ_=>.ok t
def HY (i:Nat){x:Str}(h:PE X (.Name x pos) (Jg i)):Snd X Y (.Name x pos) (vE i):=.mk λρ=>PE.imp h λf H Q=>tS.on λB I q=>by
 unfold vE at q;split at q
 ·rename_i t e;obtain⟨v,d,r⟩:=I.vl i t e;exact⟨v,d,ZC I q r⟩
 ·exact q.elim
def gU (i:Nat){x:Str}(h:PE X (.Name x pos) (Jg i)):jH X Y (.Name x pos) (vB i):=.mk λρ=>PE.imp h λj H Q=>tS.on λB I q=>by
 unfold vB at q;split at q
 ·rename_i t e;obtain⟨v,d,r⟩:=I.vl i t e;exact⟨v,d,ZC I q (r.mono I.sB)⟩
 ·rename_i ts e;obtain⟨a,xs,d,_,_,f,r,_⟩:=I.ow i ts e;exact⟨.ref a,d,ZC I q (.lst f (r.mono I.sB))⟩
 ·exact q.elim
def Ec {i j}:Snd X Y (.Constant (.int i) j pos) (cE (.int i)):=.mk λρ=>PE.imp gc λd H Q=>tS.on λB I q=>ZC I q (.int i)
def AM {i j}:Snd X Y (.Constant (.bool i) j pos) (cE (.bl i)):=.mk λρ=>PE.imp Fl λd H Q=>tS.on λB I q=>ZC I q (.bl i)
def Ev {j}:Snd X Y (.Constant .none j pos) (cE .non):=.mk λρ=>PE.imp Yb λd H Q=>tS.on λB I q=>ZC I q .non
def gW {i j}:Snd X Y (.Constant (.str i) j pos) (cE (.str i)):=.mk λρ=>PE.imp xf λd H Q=>tS.on λB I q=>ZC I q (.str i)
def zj:En->R (List T):=λ_=>.ok []
def z9 (f:En->R T)(g:En->R (List T)):En->R (List T):=λρ=>(f ρ).bind λt=>(g ρ).bind λts=>.ok (t::ts)
def gX:JN X Y [] zj:=.mk λρ=>PA.imp zT λd H Q=>tS.on λB I q=>ZC I q .nil
def xn {d:List Expr}{g:En->R (List T)}(h:Snd X Y a fa)(j:JN X Y d g)(k:starEach (a::d) X.env=(false,eval a X.env)::starEach d X.env:=by exact zC rfl):JN X Y (a::d) (z9 fa g):=.mk λρ=>
 PA.imp (zB (h ρ) (j ρ) k) λD H Q=>tS.on λB I q=>step I q λt v y _ J i f x=>step f x λts vs G _ p o u l=>ZC u l (.cons (i.mono (zN.ge f.sB p)) o)
def zr.new {H:Hp}{p:Addr}(h:H p=none)(o:HO):zr H (lf H p o):=λb u q=>by rw[zu (zG q h)];exact q
def jS {B H:Hp}{p:Addr}(h:H p=none)(o:HO):zN B H (lf H p o) p=some o:=by rw[zD h,zw]
noncomputable def lM:Nat:=16777216
def Zy {n:Nat}(h:n<=lM):n<=sizeLine:=by exact h
def Zr (g:En->R (List T)):En->R T:=λρ=>(g ρ).bind λts=>if ts.length<=lM then .ok (.tup ts)else .bad
def Zs (g:En->R (List T)):En->R T:=λρ=>(g ρ).bind λts=>if ts.length<=lM then .ok (.lst ts)else .bad
def Xv {ρ:En}{d:Sg}{B H:Hp}{xs:List V}{ts:List T}(I:SI Y B ρ d H)(r:zK B xs ts){p:Addr}(h:H p=none):Rep (zN B H (lf H p (.tup xs))) (.ref p) (.tup ts):=
 .tup (jS h _) (r.mono (zN.ge I.sB (zr.new h _)))
def Xw {ρ:En}{d:Sg}{B H:Hp}{xs:List V}{ts:List T}(I:SI Y B ρ d H)(r:zK B xs ts){p:Addr}(h:H p=none):Rep (zN B H (lf H p (.lst xs))) (.ref p) (.lst ts):=
 .lst (jS h _) (r.mono (zN.ge I.sB (zr.new h _)))
def DS {i:List Expr}{g:En->R (List T)}{x1}(h:JN X Y i g):Snd X Y (.Tuple i x1 pos) (Zr g):=.mk λρ=>PE.imp (gJ (h ρ)) λo H Q=>tS.on λB I q=>
 step I q λts vs l _ u f k d=>by
  split at d
  ·rename_i j;refine⟨by rw[f.length];exact Zy j,λp hp=>d _ _ (zr.new hp _) (Xv k f hp)⟩
  ·exact d.elim
def Ex {i:List Expr}{g:En->R (List T)}(h:JN X Y i g):Snd X Y (.List i pos) (Zs g):=.mk λρ=>PE.imp (u6 (h ρ)) λo H Q=>tS.on λB I q=>
 step I q λts vs l _ u f k d=>by
  split at d
  ·rename_i j;refine⟨by rw[f.length];exact Zy j,λp hp=>d _ _ (zr.new hp _) (Xw k f hp)⟩
  ·exact d.elim
end
end PV
namespace PV
open PySem PySem.Spec PyProof.Rows L2
noncomputable def mG (f:T->T->Option Bool):List T->List T->Option Bool
 |[],[]=>some true
 |[],_::_=>some false
 |_::_,[]=>some false
 |x::xs,y::a=>match f x y with
  |none=>none
  |some b=>match mG f xs a with
   |none=>none
   |some c=>some (b&&c)
noncomputable def b2 (b:Bool):Int:=if b then 1 else 0
def lI:Nat->T->T->Option Bool
 |_,.non,.non=>some true
 |_,.bl a,.bl b=>some (a==b)
 |_,.bl a,.int j=>some (b2 a==j)
 |_,.int i,.bl b=>some (i==b2 b)
 |_,.int i,.int j=>some (i==j)
 |_,.str x,.str y=>some (x==y)
 |n+1,.tup xs,.tup d=>mG (lI n) xs d
 |n+1,.lst xs,.lst d=>mG (lI n) xs d
 |n+1,.fz xs,.lst d=>mG (lI n) xs d
 |n+1,.lst xs,.fz d=>mG (lI n) xs d
 |n+1,.fz xs,.fz d=>mG (lI n) xs d
 |0,.tup _,.tup _=>none
 |0,.lst _,.lst _=>none
 |0,.fz _,.lst _=>none
 |0,.lst _,.fz _=>none
 |0,.fz _,.fz _=>none
 |_,.non,_=>some false
 |_,.bl _,_=>some false
 |_,.int _,_=>some false
 |_,.str _,_=>some false
 |_,.tup _,_=>some false
 |_,.lst _,_=>some false
 |_,.fz _,_=>some false
mutual
theorem Rep.fn {H:Hp}:∀{v:V} {t t':T},Rep H v t->Rep H v t'->t=t'
 |_,_,_,.non,q=>by cases q;rfl
 |_,_,_,.bl _,q=>by cases q;rfl
 |_,_,_,.int _,q=>by cases q;rfl
 |_,_,_,.str _,q=>by cases q;rfl
 |_,_,_,.tup h r,q=>by cases q<;>rename_i a h'<;>rw[h]at h'<;>cases h';rw[zK.fn r a]
 |_,_,_,.lst h r,q=>by cases q<;>rename_i a h'<;>rw[h]at h'<;>cases h';rw[zK.fn r a]
 |_,_,_,.fz h r,q=>by cases q<;>rename_i a h'<;>rw[h]at h'<;>cases h';rw[zK.fn r a]
theorem zK.fn {H:Hp}:∀{v:List V} {t t':List T},zK H v t->zK H v t'->t=t'
 |_,_,_,.nil,q=>by cases q;rfl
 |_,_,_,.cons h r,q=>by
  cases q with
  |cons h' a=>rw[Rep.fn h h',zK.fn r a]
end
theorem Zn {f:T->T->Option Bool}(i:∀x b,f x x=some b->b=true):∀(xs:List T) (b:Bool),mG f xs xs=some b->b=true
 |[],b,h=>by
  have h':=h;cases h';rfl
 |x::xs,b,h=>by
  unfold mG at h;cases e:f x x with
  |none=>rw[e]at h;cases h
  |some c=>
   rw[e]at h;cases a:mG f xs xs with
   |none=>rw[a]at h;cases h
   |some d=>
    rw[a]at h;cases h;rw[i x c e,Zn i xs d a];rfl
theorem Zc:∀(n:Nat) (t:T) (b:Bool),lI n t t=some b->b=true
 |n,.non,b,h=>by unfold lI at h;cases h;rfl
 |n,.bl x,b,h=>by unfold lI at h;cases h;simp
 |n,.int x,b,h=>by unfold lI at h;cases h;simp
 |n,.str x,b,h=>by unfold lI at h;cases h;simp
 |0,.tup x,b,h=>by cases h
 |0,.lst x,b,h=>by cases h
 |0,.fz x,b,h=>by cases h
 |n+1,.tup x,b,h=>by exact Zn (Zc n) x b h
 |n+1,.lst x,b,h=>by exact Zn (Zc n) x b h
 |n+1,.fz x,b,h=>by exact Zn (Zc n) x b h
theorem YC {f:T->T->Option Bool}:∀{xs a:List T} {b:Bool},mG f xs a=some b->
  ∃e:Nat->Bool,(∀j x y,xs[j]?=some x->a[j]?=some y->f x y=some (e j))/\((aZ (min xs.length a.length)).all e&&xs.length==a.length)=b
 |[],[],b,h=>by
  have h':=h;cases h';exact⟨λ_=>true,λj x y h=>by simp at h,by simp⟩
 |[],y::a,b,h=>by
  have h':=h;cases h';exact⟨λ_=>true,λj x y h=>by simp at h,by simp⟩
 |x::xs,[],b,h=>by
  have h':=h;cases h';exact⟨λ_=>true,λj x y h h'=>by simp at h',by simp⟩
 |x::xs,y::a,b,h=>by
  unfold mG at h;cases e:f x y with
  |none=>rw[e]at h;cases h
  |some c=>
   rw[e]at h;cases l:mG f xs a with
   |none=>rw[l]at h;cases h
   |some d=>
    rw[l]at h;cases h;obtain⟨g,p,o⟩:=YC l;refine⟨λj=>match j with|0=>c|j+1=>g j,λj u v k i=>?_,?_⟩
    ·cases j with
     |zero=>simp at k i;subst k i;exact e
     |succ j=>exact p j u v (by simpa using k) (by simpa using i)
    ·have z:min (x::xs).length (y::a).length=min xs.length a.length+1:=by simp only[ax];lia
     rw[z,cR,d6,iK];have B:((x::xs).length==(y::a).length)=(xs.length==a.length):=by simp
     rw[B,←o,Bool.and_assoc];rfl
section
variable {X:Cx}{pins:List 000}{σ:Sg}{H:Hp}{s:Shared}
def ZQ {a:Addr}{xs:List V}{ts:List T}(I:L2.Inv X pins σ H s)(h:H a=some (.tup xs))(r:zK H xs ts):∃d:List Value,zZ xs d/\s.heap.IsTuple a d.toArray/\ts.length=d.length/\xs.length<=sizeLine:=by
 obtain⟨d,f,p,z⟩:=I.tuple (SqT.of h);exact⟨d,f,p,by rw[←r.length];exact f.length,z⟩
def Z0 {a:Addr}{xs:List V}{ts:List T}(I:L2.Inv X pins σ H s)(h:Rd H a (.lst xs))(r:zK H xs ts):∃d:List Value,zZ xs d/\s.heap.IsList a d.toArray/\ts.length=d.length/\xs.length<=sizeLine:=by
 obtain⟨d,f,p,z⟩:=I.list (.inl h);exact⟨d,f,p.isList,by rw[←r.length];exact f.length,z⟩
end
noncomputable abbrev oy (A:Around)(s:Shared)(u u':Value)(b:Bool):Prop:=cQ A s u u' b/\fX A s u u' b/\dQ A s u u' (!b)
section
variable {X:Cx}{pins:List 000}{σ:Sg}{H:Hp}{s:Shared}
def YD {xs o:List V}{ts J:List T}{d a:List Value}{A:Around}{f:T->T->Option Bool}{e:Nat->Bool}(r:zK H xs ts)(S:zK H o J)(v:zZ xs d)(G:zZ o a)
  (Q:∀(j:Nat) (x y:T),ts[j]?=some x->J[j]?=some y->f x y=some (e j))
  (U:∀(x y:T) (b:Bool) (p q:V) (u w:Value),f x y=some b->Rep H p x->Rep H q y->Z8 p u->Z8 q w->oy A s u w b) (j:Nat) (I:j<d.toArray.size) (D:j<a.toArray.size):
  cQ A s d.toArray[j] a.toArray[j] (e j):=by
 have l1:=v.length;have l2:=G.length;have k1:j<xs.length:=by simp at I;lia
 have k2:j<o.length:=by simp at D;lia
 obtain⟨t,P,rt⟩:=r.getV (am k1);obtain⟨t',i,l⟩:=S.getV (am k2);obtain⟨u,N,ru⟩:=v.get (am k1);obtain⟨u',k,B⟩:=G.get (am k2);have Z:=by
  have:d[j]?=some d.toArray[j]:=by simp at I⊢
  rw[N]at this;exact(aA this).symm
 have q2:=by
  have:a[j]?=some a.toArray[j]:=by simp at D⊢
  rw[k]at this;exact(aA this).symm
 rw[Z,q2];exact(U t t' _ _ _ u u' (Q j t t' P i) rt l ru B).1
def Xx {A:Around}{a c:Addr}{xs Q:List V}{ts P:List T}{b:Bool}{f:T->T->Option Bool}(I:L2.Inv X pins σ H s)(D:A.units<cLine)(G:H a=some (.tup xs))(k:H c=some (.tup Q))(r:zK H xs ts)(o:zK H Q P)
  (S:mG f ts P=some b) (hr:∀x b,f x x=some b->b=true)
  (ih:∀(x y:T) (b:Bool) (p q:V) (u w:Value),f x y=some b->Rep H p x->Rep H q y->Z8 p u->Z8 q w->oy A.in1 s u w b):oy A s (.ref a) (.ref c) b:=by
 obtain⟨i,v,p,l,_⟩:=ZQ I G r;obtain⟨d,v',J,U,_⟩:=ZQ I k o;obtain⟨e,Z,B⟩:=YC S;have hp:=YD r o v v' Z ih;have z:((aZ (min i.toArray.size d.toArray.size)).all e&&i.toArray.size==d.toArray.size)=b:=by
  rw[←B];simp[l,U]
 have R:=fX.tuples p J D hp;have N:=dQ.tuples p J D hp;rw[z]at R;have N':dQ A s (.ref a) (.ref c) (!b):=by
  rw[←z];exact N
 refine⟨?_,R,N'⟩
 by_cases j:a=c
 ·subst j;rw[G]at k;cases k;have:=r.fn o;subst this;rw[Zn hr ts b S];exact lh _
 ·exact ip j R
def Wu {A:Around}{a c:Addr}{xs ys:List V}{ts P:List T}{b:Bool}{f:T->T->Option Bool}(I:L2.Inv X pins σ H s)(S:A.units<cLine)(B:Rd H a (.lst xs))(j:Rd H c (.lst ys))(r:zK H xs ts)(r':zK H ys P)
  (hb:mG f ts P=some b) (hr:∀x b,f x x=some b->b=true)
  (ih:∀(x y:T) (b:Bool) (p q:V) (u w:Value),f x y=some b->Rep H p x->Rep H q y->Z8 p u->Z8 q w->oy A.in1 s u w b):oy A s (.ref a) (.ref c) b:=by
 obtain⟨d,v,p,l,_⟩:=Z0 I B r;obtain⟨i,v',U,l',_⟩:=Z0 I j r';obtain⟨e,he,G⟩:=YC hb;have hp:=YD r r' v v' he ih;have Z:fX A s (.ref a) (.ref c) b/\dQ A s (.ref a) (.ref c) (!b):=by
  by_cases D:d.toArray.size=i.toArray.size
  ·have z:(aZ d.toArray.size).all e=b:=by
    rw[←G];have:ts.length=P.length:=by simp at D;lia
    rw[this];have k:d.toArray.size=P.length:=by simp;lia
    rw[k];simp
   have R:=fX.lists p U D S hp;have N:=dQ.lists p U D S hp;rw[z]at R;refine⟨R,?_⟩;rw[←z];exact N
  ·have Q:(d.toArray.size !=i.toArray.size)=true:=by simpa using D
   have z:b=false:=by
    rw[←G];have:¬ts.length=P.length:=by simp at D;lia
    simp[this]
   subst z;exact⟨fX.lists_lengths p U Q S,dQ.lists_lengths p U Q S⟩
 refine⟨?_,Z.1,Z.2⟩
 by_cases J:a=c
 ·subst J;have hxy:xs=ys:=by
   rcases B with B|⟨o,B⟩<;>rcases j with j|⟨o',j⟩<;>(rw[B]at j;cases j)<;>rfl
  subst hxy;have:=r.fn r';subst this;rw[Zn hr ts b hb];exact lh _
 ·exact ip J Z.1
end
section
variable {X:Cx}{pins:List 000}{σ:Sg}{H:Hp}{s:Shared}
def jY {A:Around}:A.in1.units=A.units+1:=rfl
set_option maxHeartbeats 2000000 in
def YE (I:L2.Inv X pins σ H s):∀(A:Around),A.units<cLine->∀(x y:T) (b:Bool) (p q:V) (u w:Value),lI 0 x y=some b->Rep H p x->Rep H q y->Z8 p u->Z8 q w->oy A s u w b:=by
 intro A J x y b p q u w h P o v f;have a:=J;cases P with
 |non=>
  obtain rfl:u=Value.none:=v;cases o with
  |non=>obtain rfl:w=Value.none:=f;unfold lI at h;cases h;exact⟨.same _,.none_none,.none_none⟩
  |bl c=>obtain rfl:w=Value.bool c:=f;unfold lI at h;cases h;exact⟨.none_bool _,.none_bool _,.none_bool _⟩
  |int c=>obtain⟨t,rfl⟩:=f;unfold lI at h;cases h;exact⟨.none_int _ _,.none_int _ _,.none_int _ _⟩
  |str c=>obtain⟨t,rfl⟩:=f;unfold lI at h;cases h;exact⟨.none_str _ _,.none_str _ _,.none_str _ _⟩
  |tup l k=>obtain rfl:w=Value.ref _:=f;unfold lI at h;cases h;obtain⟨i,_,p,_⟩:=ZQ I l k;exact⟨.none_tuple p a,.none_tuple p a,.none_tuple p a⟩
  |lst l k=>obtain rfl:w=Value.ref _:=f;unfold lI at h;cases h;obtain⟨i,_,p,_⟩:=Z0 I (.inl l) k;exact⟨.none_list p a,.none_list p a,.none_list p a⟩
  |fz l k=>obtain rfl:w=Value.ref _:=f;unfold lI at h;cases h;obtain⟨i,_,p,_⟩:=Z0 I (.inr ⟨_,l⟩) k;exact⟨.none_list p a,.none_list p a,.none_list p a⟩
 |bl d=>
  obtain rfl:u=Value.bool d:=v;cases o with
  |non=>obtain rfl:w=Value.none:=f;unfold lI at h;cases h;exact⟨.bool_none _,.bool_none _,.bool_none _⟩
  |bl c=>obtain rfl:w=Value.bool c:=f;unfold lI at h;cases h;exact⟨.bool_bool _ _,.bool_bool _ _,.bool_bool _ _⟩
  |int c=>obtain⟨t,rfl⟩:=f;unfold lI at h;cases h;exact⟨.bool_int _ _ _,.bool_int _ _ _,.bool_int _ _ _⟩
  |str c=>obtain⟨t,rfl⟩:=f;unfold lI at h;cases h;exact⟨.bool_str _ _ _,.bool_str _ _ _,.bool_str _ _ _⟩
  |tup l k=>obtain rfl:w=Value.ref _:=f;unfold lI at h;cases h;obtain⟨i,_,p,_⟩:=ZQ I l k;exact⟨.bool_tuple _ p a,.bool_tuple _ p a,.bool_tuple _ p a⟩
  |lst l k=>obtain rfl:w=Value.ref _:=f;unfold lI at h;cases h;obtain⟨i,_,p,_⟩:=Z0 I (.inl l) k;exact⟨.bool_list _ p a,.bool_list _ p a,.bool_list _ p a⟩
  |fz l k=>obtain rfl:w=Value.ref _:=f;unfold lI at h;cases h;obtain⟨i,_,p,_⟩:=Z0 I (.inr ⟨_,l⟩) k;exact⟨.bool_list _ p a,.bool_list _ p a,.bool_list _ p a⟩
 |int d=>
  obtain⟨N,rfl⟩:=v;cases o with
  |non=>obtain rfl:w=Value.none:=f;unfold lI at h;cases h;exact⟨.int_none _ _,.int_none _ _,.int_none _ _⟩
  |bl c=>obtain rfl:w=Value.bool c:=f;unfold lI at h;cases h;exact⟨.int_bool _ _ _,.int_bool _ _ _,.int_bool _ _ _⟩
  |int c=>obtain⟨t,rfl⟩:=f;unfold lI at h;cases h;exact⟨.int_int _ _ _ _,.int_int _ _ _ _,.int_int _ _ _ _⟩
  |str c=>obtain⟨t,rfl⟩:=f;unfold lI at h;cases h;exact⟨.int_str _ _ _ _,.int_str _ _ _ _,.int_str _ _ _ _⟩
  |tup l k=>obtain rfl:w=Value.ref _:=f;unfold lI at h;cases h;obtain⟨i,_,p,_⟩:=ZQ I l k;exact⟨.int_tuple _ _ p a,.int_tuple _ _ p a,.int_tuple _ _ p a⟩
  |lst l k=>obtain rfl:w=Value.ref _:=f;unfold lI at h;cases h;obtain⟨i,_,p,_⟩:=Z0 I (.inl l) k;exact⟨.int_list _ _ p a,.int_list _ _ p a,.int_list _ _ p a⟩
  |fz l k=>obtain rfl:w=Value.ref _:=f;unfold lI at h;cases h;obtain⟨i,_,p,_⟩:=Z0 I (.inr ⟨_,l⟩) k;exact⟨.int_list _ _ p a,.int_list _ _ p a,.int_list _ _ p a⟩
 |str d=>
  obtain⟨N,rfl⟩:=v;cases o with
  |non=>obtain rfl:w=Value.none:=f;unfold lI at h;cases h;exact⟨.str_none _ _,.str_none _ _,.str_none _ _⟩
  |bl c=>obtain rfl:w=Value.bool c:=f;unfold lI at h;cases h;exact⟨.str_bool _ _ _,.str_bool _ _ _,.str_bool _ _ _⟩
  |int c=>obtain⟨t,rfl⟩:=f;unfold lI at h;cases h;exact⟨.str_int _ _ _ _,.str_int _ _ _ _,.str_int _ _ _ _⟩
  |str c=>obtain⟨t,rfl⟩:=f;unfold lI at h;cases h;exact⟨.str_str _ _ _ _,.str_str _ _ _ _,.str_str _ _ _ _⟩
  |tup l k=>obtain rfl:w=Value.ref _:=f;unfold lI at h;cases h;obtain⟨i,_,p,_⟩:=ZQ I l k;exact⟨.str_tuple _ _ p a,.str_tuple _ _ p a,.str_tuple _ _ p a⟩
  |lst l k=>obtain rfl:w=Value.ref _:=f;unfold lI at h;cases h;obtain⟨i,_,p,_⟩:=Z0 I (.inl l) k;exact⟨.str_list _ _ p a,.str_list _ _ p a,.str_list _ _ p a⟩
  |fz l k=>obtain rfl:w=Value.ref _:=f;unfold lI at h;cases h;obtain⟨i,_,p,_⟩:=Z0 I (.inr ⟨_,l⟩) k;exact⟨.str_list _ _ p a,.str_list _ _ p a,.str_list _ _ p a⟩
 |tup D B=>
  obtain rfl:u=Value.ref _:=v;obtain⟨G,_,j,_⟩:=ZQ I D B;cases o with
  |non=>obtain rfl:w=Value.none:=f;unfold lI at h;cases h;exact⟨.tuple_none j a,.tuple_none j a,.tuple_none j a⟩
  |bl c=>obtain rfl:w=Value.bool c:=f;unfold lI at h;cases h;exact⟨.tuple_bool _ j a,.tuple_bool _ j a,.tuple_bool _ j a⟩
  |int c=>obtain⟨t,rfl⟩:=f;unfold lI at h;cases h;exact⟨.tuple_int _ _ j a,.tuple_int _ _ j a,.tuple_int _ _ j a⟩
  |str c=>obtain⟨t,rfl⟩:=f;unfold lI at h;cases h;exact⟨.tuple_str _ _ j a,.tuple_str _ _ j a,.tuple_str _ _ j a⟩
  |tup l k=>unfold lI at h;cases h
  |lst l k=>obtain rfl:w=Value.ref _:=f;unfold lI at h;cases h;obtain⟨i,_,p,_⟩:=Z0 I (.inl l) k;exact⟨.tuple_list j p a,.tuple_list j p a,.tuple_list j p a⟩
  |fz l k=>obtain rfl:w=Value.ref _:=f;unfold lI at h;cases h;obtain⟨i,_,p,_⟩:=Z0 I (.inr ⟨_,l⟩) k;exact⟨.tuple_list j p a,.tuple_list j p a,.tuple_list j p a⟩
 |lst D B=>
  obtain rfl:u=Value.ref _:=v;obtain⟨G,_,j,_⟩:=Z0 I (.inl D) B;cases o with
  |non=>obtain rfl:w=Value.none:=f;unfold lI at h;cases h;exact⟨.list_none j a,.list_none j a,.list_none j a⟩
  |bl c=>obtain rfl:w=Value.bool c:=f;unfold lI at h;cases h;exact⟨.list_bool _ j a,.list_bool _ j a,.list_bool _ j a⟩
  |int c=>obtain⟨t,rfl⟩:=f;unfold lI at h;cases h;exact⟨.list_int _ _ j a,.list_int _ _ j a,.list_int _ _ j a⟩
  |str c=>obtain⟨t,rfl⟩:=f;unfold lI at h;cases h;exact⟨.list_str _ _ j a,.list_str _ _ j a,.list_str _ _ j a⟩
  |tup l k=>obtain rfl:w=Value.ref _:=f;unfold lI at h;cases h;obtain⟨i,_,p,_⟩:=ZQ I l k;exact⟨.list_tuple j p a,.list_tuple j p a,.list_tuple j p a⟩
  |lst l k=>unfold lI at h;cases h
  |fz l k=>unfold lI at h;cases h
 |fz D B=>
  obtain rfl:u=Value.ref _:=v;obtain⟨G,_,j,_⟩:=Z0 I (.inr ⟨_,D⟩) B;cases o with
  |non=>obtain rfl:w=Value.none:=f;unfold lI at h;cases h;exact⟨.list_none j a,.list_none j a,.list_none j a⟩
  |bl c=>obtain rfl:w=Value.bool c:=f;unfold lI at h;cases h;exact⟨.list_bool _ j a,.list_bool _ j a,.list_bool _ j a⟩
  |int c=>obtain⟨t,rfl⟩:=f;unfold lI at h;cases h;exact⟨.list_int _ _ j a,.list_int _ _ j a,.list_int _ _ j a⟩
  |str c=>obtain⟨t,rfl⟩:=f;unfold lI at h;cases h;exact⟨.list_str _ _ j a,.list_str _ _ j a,.list_str _ _ j a⟩
  |tup l k=>obtain rfl:w=Value.ref _:=f;unfold lI at h;cases h;obtain⟨i,_,p,_⟩:=ZQ I l k;exact⟨.list_tuple j p a,.list_tuple j p a,.list_tuple j p a⟩
  |lst l k=>unfold lI at h;cases h
  |fz l k=>unfold lI at h;cases h
set_option maxHeartbeats 2000000 in
def YF (I:L2.Inv X pins σ H s):∀(n:Nat) (A:Around),A.units+n<cLine->∀(x y:T) (b:Bool) (p q:V) (u w:Value),lI n x y=some b->Rep H p x->Rep H q y->Z8 p u->Z8 q w->oy A s u w b:=by
 intro n
 induction n with
 |zero=>exact λA G x y b p q u w h=>YE I A 00 x y b p q u w h
 |succ n J=>
  intro A G x y b p q u w h D B v a;have j:=λh=>YE I A 00 x y b p q u w h D B v a
  have f:A.units<cLine:=by lia
  have d:=J A.in1 (by rw[jY];lia)
  cases D with
  |tup o l=>
   cases B with
   |tup k i=>
    obtain rfl:u=Value.ref _:=v;obtain rfl:w=Value.ref _:=a;exact Xx I f o k l i h (Zc n) d
   |_=>exact j (by exact h)
  |lst o l=>
   cases B with
   |lst k i=>
    obtain rfl:u=Value.ref _:=v;obtain rfl:w=Value.ref _:=a;exact Wu I f (.inl o) (.inl k) l i h (Zc n) d
   |fz k i=>
    obtain rfl:u=Value.ref _:=v;obtain rfl:w=Value.ref _:=a;exact Wu I f (.inl o) (.inr ⟨_,k⟩) l i h (Zc n) d
   |_=>exact j (by exact h)
  |fz o l=>
   cases B with
   |lst k i=>
    obtain rfl:u=Value.ref _:=v;obtain rfl:w=Value.ref _:=a;exact Wu I f (.inr ⟨_,o⟩) (.inl k) l i h (Zc n) d
   |fz k i=>
    obtain rfl:u=Value.ref _:=v;obtain rfl:w=Value.ref _:=a;exact Wu I f (.inr ⟨_,o⟩) (.inr ⟨_,k⟩) l i h (Zc n) d
   |_=>exact j (by exact h)
  |_=>exact j (by cases B<;>(exact h))
end
section
variable {X:Cx}{Y:Fx}{a b c d:Expr}{fa fb fc fd:En->R T}{pos:Pos}
def rG (Y:Fx)(g:T->T->R T):R2:=λx y H Q=>∃B t t',zr B H/\Rep B x t/\Rep B y t'/\Po Y rC B H (g t t') Q
def zd (g:T->T->R T)(fa fb:En->R T):En->R T:=λρ=>(fa ρ).bind λx=>(fb ρ).bind λy=>g x y
def YG {f:Operator}{g:T->T->R T}(l:lR X (binaryOp f) (rG Y g))(u:Snd X Y a fa)(p:Snd X Y b fb):Snd X Y (.BinOp a f b pos) (zd g fa fb):=.mk λρ=>
 PE.imp (gv l (u ρ) (p ρ)) λN H Q=>tS.on λB I q=>step I q λt v J _ S j i D=>step i D λt' G P _ x o y k=>
  ⟨_,t,t',y.sB,j.mono (zN.ge i.sB x),o,k⟩
def lW {g:R T}{B H:Hp}{Q:VK}{t:T}{v:V}(f:zr B H)(q:Po Y rC B H g Q)(e:g=.ok t)(r:Rep B v t):Q v H:=by
 subst e;exact q v H (zr.refl H) (by rw[zN.self B H f];exact r)
def gY {g:R T}{B H:Hp}{Q:VK}{ts:List T}{xs:List V}{p:Addr}(f:zr B H)(q:Po Y rC B H g Q)(e:g=.ok (.tup ts))(r:zK B xs ts)(h:H p=none):Q (.ref p) (lf H p (.tup xs)):=by
 subst e;exact q _ _ (zr.new h _) (.tup (jS h _) (r.mono (zN.ge f (zr.new h _))))
def Bc {g:R T}{B H:Hp}{Q:VK}{ts:List T}{xs:List V}{p:Addr}(f:zr B H)(q:Po Y rC B H g Q)(e:g=.ok (.lst ts))(r:zK B xs ts)(h:H p=none):Q (.ref p) (lf H p (.lst xs)):=by
 subst e;exact q _ _ (zr.new h _) (.lst (jS h _) (r.mono (zN.ge f (zr.new h _))))
def zE:T->T->R T
 |.int i,.int j=>.ok (.int (i+j))
 |.bl x,.int j=>.ok (.int (b2 x+j))
 |.int i,.bl y=>.ok (.int (i+b2 y))
 |.str x,.str y=>if x.length+y.length<=lM then .ok (.str (x++y))else .bad
 |.tup xs,.tup f=>if xs.length+f.length<=lM then .ok (.tup (xs++f))else .bad
 |.lst xs,.lst f=>if xs.length+f.length<=lM then .ok (.lst (xs++f))else .bad
 |_,_=>.bad
def vN {prog:Program}{w:World}{A:Around}{E:Value->Shared->Prop}{s:Shared}{t b:Addr}{vs B:List Value}{Q:Value->Shared->Prop}(D:IsTup s.heap t vs.toArray)(G:IsTup s.heap b B.toArray)(u:vs=[])
  (x:Q (.ref b) s):wpAny 001 A (binaryOp .Add (.ref t) (.ref b)) Q E s:=by
 obtain⟨⟨cls,dd,data,I⟩,o,y,n,hd⟩:=id D;obtain⟨⟨p,k,data2,i⟩,f,l,v,j⟩:=id G;subst y hd l j;exact concat_meets ⟨_,o,rfl⟩ ⟨_,f,rfl⟩ noFill_tuple_add seq_tuple_add dN dI (dC _ _)
   (tuple_addW0 t b _ _ n v dd k I i (by simp[u])) ⟨o,f,x⟩
def Xy:lR X (binaryOp .Add) (rG Y zE):=by
 intro k s Z H x y v u Q I J G h;obtain⟨B,t,t',f,r,P,q⟩:=h;cases r with
 |int i=>
  cases P with
  |int j=>exact gw k s Z H _ _ v u Q I J G ⟨i,j,rfl,rfl,lW f q rfl (.int _)⟩
  |bl y=>exact Yk k s Z H _ _ v u Q I J G ⟨i,y,rfl,rfl,lW f q rfl (.int _)⟩
  |_=>exact q.elim
 |bl x=>
  cases P with
  |int j=>
   obtain rfl:v=Value.bool x:=J;obtain⟨tk,rfl⟩:=G;exact IntBool.add_bool_int (⟨.int _,H,I.tok _,⟨_,rfl⟩,lW f q rfl (.int _)⟩)
  |_=>exact q.elim
 |str x=>
  cases P with
  |str y=>
   by_cases l:x.length+y.length<=lM
   ·exact yv k s Z H _ _ v u Q I J G ⟨x,y,rfl,rfl,Zy l,lW f q (if_pos l) (.str _)⟩
   ·rw[show zE (.str x) (.str y)=.bad from if_neg l]at q;exact q.elim
  |_=>exact q.elim
 |@tup a xs ts h1 o=>
  cases P with
  |@tup S ys N U D=>
   by_cases l:ts.length+N.length<=lM
   ·have eg:zE (.tup ts) (.tup N)=.ok _:=if_pos l;have hz:xs.length+ys.length<=sizeLine:=by rw[o.length,D.length];exact Zy l
    by_cases hx:xs=[]
    ·obtain rfl:v=Value.ref a:=J;obtain rfl:u=Value.ref S:=G;obtain⟨its,rv,p,_⟩:=I.tuple (SqT.of (f _ _ h1));obtain⟨its',rv',p',_⟩:=I.tuple (SqT.of (f _ _ U));have et:=o.nil_iff.mp hx;refine vN p p' (rv.nil_iff.mpr hx) ⟨.ref S,H,I,rfl,lW f q eg ?_⟩;rw[et];exact .tup U D
    ·refine Xp _ s Z H _ _ v u Q I J G ⟨a,S,xs,ys,rfl,rfl,SqT.of (f _ _ h1),SqT.of (f _ _ U),hx,hz,λhy=>?_,λhy p hp=>?_⟩
     ·refine lW f q eg ?_;rw[D.nil_iff.mp hy,aW];exact .tup h1 o
     ·exact gY f q eg (o.append D) hp
   ·rw[show zE (.tup ts) (.tup N)=.bad from if_neg l]at q;exact q.elim
  |_=>exact q.elim
 |@lst a xs ts h1 o=>
  cases P with
  |@lst S ys N U D=>
   by_cases l:ts.length+N.length<=lM
   ·have eg:zE (.lst ts) (.lst N)=.ok _:=if_pos l;have hz:xs.length+ys.length<=sizeLine:=by rw[o.length,D.length];exact Zy l
    exact xl _ s Z H _ _ v u Q I J G ⟨a,S,xs,ys,rfl,rfl,f _ _ h1,f _ _ U,hz,λp hp=>Bc f q eg (o.append D) hp⟩
   ·rw[show zE (.lst ts) (.lst N)=.bad from if_neg l]at q;exact q.elim
  |_=>exact q.elim
 |_=>cases P<;>exact q.elim
def HF (f:Snd X Y a fa)(i:Snd X Y b fb):Snd X Y (.BinOp a .Add b pos) (zd zE fa fb):=YG Xy f i
noncomputable def jb:T->T->R T
 |.int i,.int j=>.ok (.int (i-j))
 |_,_=>.bad
noncomputable def Jl:T->T->R T
 |.int i,.int j=>if 0<j then .ok (.int (i%j))else .bad
 |_,_=>.bad
noncomputable def wV:T->T->R T
 |.int i,.int j=>if 0<j/\j<1073741824 then .ok (.int (i/j))else .bad
 |_,_=>.bad
instance (i j:Int):Decidable (uV i j):=by unfold uV;infer_instance
def Z7:T->T->R T
 |.int i,.int j=>if uV i j then .ok (.int (i*j))else .bad
 |.lst xs,.int k=>if 0<=k/\k<1000000/\xs.length*k.toNat<=lM then .ok (.lst (ac k.toNat xs).flatten)else .bad
 |.tup xs,.int k=>if 2<=k/\k<1000000/\xs≠[]/\xs.length*k.toNat<=lM then .ok (.tup (ac k.toNat xs).flatten)else .bad
 |_,_=>.bad
def Xz:lR X (binaryOp .Sub) (rG Y jb):=by
 intro f s o H x y v u Q I l p h;obtain⟨B,t,t',D,r,k,q⟩:=h;cases r with
 |int i=>
  cases k with
  |int j=>exact gy _ s o H _ _ v u Q I l p ⟨i,j,rfl,rfl,lW D q rfl (.int _)⟩
  |_=>exact q.elim
 |_=>cases k<;>exact q.elim
def XA:lR X (binaryOp .Mod) (rG Y Jl):=by
 intro k s p H x y v u Q I o D h;obtain⟨B,t,t',G,r,l,q⟩:=h;cases r with
 |int i=>
  cases l with
  |int j=>
   by_cases f:0<j
   ·exact gA _ s p H _ _ v u Q I o D ⟨i,j,rfl,rfl,f,lW G q (if_pos f) (.int _)⟩
   ·rw[show Jl (.int i) (.int j)=.bad from if_neg f]at q;exact q.elim
  |_=>exact q.elim
 |_=>cases l<;>exact q.elim
def vO:lR X (binaryOp .FloorDiv) (rG Y wV):=by
 intro k s p H x y v u Q I o D h;obtain⟨B,t,t',G,r,l,q⟩:=h;cases r with
 |int i=>
  cases l with
  |int j=>
   by_cases f:0<j/\j<1073741824
   ·exact Xe _ s p H _ _ v u Q I o D ⟨i,j,rfl,rfl,f,lW G q (if_pos f) (.int _)⟩
   ·rw[show wV (.int i) (.int j)=.bad from if_neg f]at q;exact q.elim
  |_=>exact q.elim
 |_=>cases l<;>exact q.elim
def yG (l:Addr)(items:Array Value)(n:Nat)(dd:Option Addr)(J:Array (Option Value))(x:Int)(u:Tok)(P:2<=x)(N:x<1000000)(i:items.isEmpty=false)(hsz:items.size*x.toNat<=sizeLine):
  Meets (Builtin.«tuple.__mul__» ⟨[.ref l,.int x u],[]⟩) (λ_ R s=>s.heap.get? l=some {cls:=.type "tuple",dict:=dd,data:=.seq items n,slots:=J}/\
   R (.ok (.ret (Value.ref s.1.1.size))) {s with heap:=s.heap.push {cls:=Value.type "tuple",data:=Data.seq (eQ (λj f=>j++f) #[] (ac x.toNat items))},toks:=s.toks}):=
 .of_wp λprog w A R s h=>by
  obtain⟨o,h⟩:=h;have p:(items.size:Int)*x=((items.size*x.toNat:Nat):Int):=by
   have:x=((x.toNat:Nat):Int):=by lia
   rw[ll,←this]
  have B:(sizeLine:Nat)=16777216:=cC;have v:¬(decide (x< -(2^63))||decide (x≥2^63))=true:=by simp;lia
  have I:¬(items.isEmpty||x==1)=true:=by simp[i];lia
  have G:¬(decide (x<=0)||items.isEmpty)=true:=by simp[i];lia
  have D:¬((items.size:Int)*x>(2^63-1)/8):=by rw[p];lia
  have y:¬eR ((items.size:Int)*x)=true:=by
   unfold eR;rw[p];intro z;have:=of_decide_eq_true z;lia
  unfold Builtin.«tuple.__mul__»
  wp_walk using wpAny_loadPart' o
  rw[if_neg v]
  wp_walk using wpAny_loadPart' o
  rw[if_neg I]
  try dsimp only
  rw[if_neg G]
  try dsimp only
  rw[if_neg D]
  try dsimp only
  rw[if_neg y]
  try dsimp only
  have k:sizeOk (.seq (eQ (λj f=>j++f) #[] (ac x.toNat items))):=by
   show (eQ (λj f=>j++f) #[] _).size<=sizeLine;have:=jX items.toList x.toNat [];have q:=by
    simpa using this
   rw[q,aD,Jk,dr];exact hsz
  exact a7 (bw (au ⟨_,rfl,h⟩) k)
def ui:seqRepeat? (.type "tuple")=pure (some (.builtin "tuple.__mul__")):=by
 unfold seqRepeat?;rw[iW (name:="__mul__") fG.lookup (by decide+kernel),iW (name:="__rmul__") iL.lookup (by decide+kernel)]
 rfl
def JO:fillsNumberSlot (.type "tuple") "mul"=pure false:=
 PySem.fillsNumberSlot_seq fG.lookup (by decide+kernel) iL.lookup (by decide+kernel)
def wW (a:Int)(t:Tok)(l:Addr)(items:Array Value)(n:Nat)(dd:Option Addr)(f:Array (Option Value)):
  Meets (Builtin.«int.__rmul__» ⟨[.int a t,.ref l],[]⟩) (λ_ R s=>s.heap.get? l=some {cls:=.type "tuple",dict:=dd,data:=.seq items n,slots:=f}/\R (.ok (.ret Value.notImplemented)) s):=
 .of_wp λprog w A R s h=>by obtain⟨i,h⟩:=h;wp_walk;exact⟨_,rfl,h⟩
def XB {prog:Program}{w:World}{A:Around}{E:Value->Shared->Prop}{s:Shared}{l:Addr}{f:List Value}{k:Int}{t:Tok}{Q:Value->Shared->Prop}(p:IsTup s.heap l f.toArray)(j:f≠[])(v:2<=k)(u:k<1000000)
  (hsz:f.length*k.toNat<=sizeLine) (q:Q (.ref s.1.1.size) {s with heap:=s.heap.push {cls:=.type "tuple",data:=.seq (ac k.toNat f).flatten.toArray} }):
  wpAny 001 A (binaryOp .Mult (.ref l) (.int k t)) Q E s:=by
 obtain⟨⟨cls,dd,data,o⟩,i,x,n,hd⟩:=id p;subst x hd;refine wpAny_binaryOp_repeat_ref 03 ⟨_,i,rfl⟩ (λy=>typeIs_int y k t) JO lg eF ui iU.lookup
  (dh eF (typeIs_int s k t) iV (iJ _ _) (wW k t l _ n dd o)
   ⟨i,rfl,⟨_,i,rfl⟩,dh fG ⟨_,i,rfl⟩ F.entry_tuple_mul (F.args_tuple_mul_2 _ _) (yG l _ n dd o k t v u (by simpa using j) (by simpa using hsz)) ⟨i,?_⟩⟩)
 have:=jX f k.toNat [];rw[this];exact q
def XD:lR X (binaryOp .Mult) (rG Y Z7):=by
 intro pins s σ H x y v u Q I rx S h;obtain⟨B,t,t',G,r,J,q⟩:=h;cases r with
 |int i=>
  cases J with
  |int j=>
   by_cases P:uV i j
   ·exact gz _ s σ H _ _ v u Q I rx S ⟨i,j,rfl,rfl,P,lW G q (if_pos P) (.int _)⟩
   ·rw[show Z7 (.int i) (.int j)=.bad from if_neg P]at q;exact q.elim
  |_=>exact q.elim
 |@lst l xs ts Z o=>
  cases J with
  |int k=>
   by_cases f:0<=k/\k<1000000/\ts.length*k.toNat<=lM
   ·have N:Z7 (.lst ts) (.int k)=.ok _:=if_pos f;exact gS _ s σ H _ _ v u Q I rx S ⟨l,k,xs,rfl,rfl,G _ _ Z,by lia,by lia,by rw[o.length];exact Zy f.2.2,λp hp=>Bc G q N (o.rep _) hp⟩
   ·rw[show Z7 (.lst ts) (.int k)=.bad from if_neg f]at q;exact q.elim
  |_=>exact q.elim
 |@tup l xs ts Z o=>
  cases J with
  |int k=>
   by_cases f:2<=k/\k<1000000/\ts≠[]/\ts.length*k.toNat<=lM
   ·have N:Z7 (.tup ts) (.int k)=.ok _:=if_pos f;obtain rfl:v=Value.ref l:=rx;obtain⟨tk,rfl⟩:=S;obtain⟨D,rv,p,_⟩:=I.tuple (SqT.of (G _ _ Z));have ln:=o.length.symm.trans rv.length;have U:D≠[]:=λz=>f.2.2.1 (by rw[z]at ln;exact bU.mp ln)
    refine XB p U f.1 f.2.1 (by rw[←ln];exact Zy f.2.2.2) ⟨.ref _,lf H _ (.tup (ac k.toNat xs).flatten),I.laid (λb u e=>ag _ e) (ar _) ?_,rfl,?_⟩
    ·exact⟨by rw[Jk,o.length,dr];exact Zy f.2.2.2,(ac _ D).flatten,rv.rep _,⟨_,ao _ rfl,rfl,_,rfl⟩,.inr ⟨_,ao _ rfl,rfl⟩⟩
    ·exact gY G q N (o.rep _) (I.hok.fresh (ar _))
   ·rw[show Z7 (.tup ts) (.int k)=.bad from if_neg f]at q;exact q.elim
  |_=>exact q.elim
 |_=>cases J<;>exact q.elim
def Eh (f:Snd X Y a fa)(i:Snd X Y b fb):Snd X Y (.BinOp a .Sub b pos) (zd jb fa fb):=YG Xz f i
def FK (f:Snd X Y a fa)(i:Snd X Y b fb):Snd X Y (.BinOp a .Mod b pos) (zd Jl fa fb):=YG XA f i
def gZ (f:Snd X Y a fa)(i:Snd X Y b fb):Snd X Y (.BinOp a .FloorDiv b pos) (zd wV fa fb):=YG vO f i
def Er (f:Snd X Y a fa)(i:Snd X Y b fb):Snd X Y (.BinOp a .Mult b pos) (zd Z7 fa fb):=YG XD f i
def vP (fa:En->R T):En->R T:=λρ=>(fa ρ).bind λx=>match x with
 |.int i=>.ok (.int (-i))
 |_=>.bad
def Fi (l:Snd X Y a fa):Snd X Y (.UnaryOp .USub a pos) (vP fa):=.mk λρ=>PE.imp (HG gB (l ρ)) λp H Q=>tS.on λB I q=>step I q λt v o _ u j k f=>by
 cases j with
 |int i=>exact⟨i,rfl,lW k.sB f rfl (.int _)⟩
 |_=>exact f.elim
def Wv (g:T->T->R Bool):R2:=λx y H Q=>∃t t' b,Rep H x t/\Rep H y t'/\g t t'=.ok b/\Q (.bl b) H
def jI (g:T->T->R Bool)(fa fb:En->R T):En->R T:=λρ=>(fa ρ).bind λx=>(fb ρ).bind λy=>(g x y).bind λb=>.ok (.bl b)
def zI (g:T->T->R Bool)(fa fb:En->R T):En->R Bool:=λρ=>(fa ρ).bind λx=>(fb ρ).bind λy=>g x y
noncomputable def Nx (g:T->T->R Bool):Prop:=∀t t' c,g t t'≠.ex c
def XF {i:CmpOp}{g:T->T->R Bool}(nx:Nx g)(l:lR X (compareOp i) (Wv g))(p:jH X Y a fa)(x:jH X Y b fb)(k:behindInMarks i b=false):Snd X Y (.Compare a [i] [b] pos) (jI g fa fb):=.mk λρ=>
 PE.imp (Xf l (p ρ) (x ρ) k) λN H Q=>tS.on λB I q=>step I q λt v J _ U j y u=>step y u λt' P S _ G o D f=>by
  cases e:g t t' with
  |bad=>rw[e]at f;exact f.elim
  |ex c=>exact absurd e (nx _ _ _)
  |ok b=>rw[e]at f;exact⟨t,t',b,j.mono G,o,e,ZC D f (.bl b)⟩
def U0 {i:CmpOp}{g:T->T->R Bool}(nx:Nx g)(l:lR X (compareOp i) (Wv g))(p:jH X Y a fa)(x:jH X Y b fb)(k:behindInMarks i b=false):Wt X Y (.Compare a [i] [b] pos) (zI g fa fb):=.mk λρ=>
 PT.imp (Yl l (p ρ) (x ρ) k) λN H Q=>tS.on λB I q=>step I q λt v J _ U j y u=>step y u λt' P S _ G o D f=>by
  cases e:g t t' with
  |bad=>rw[e]at f;exact f.elim
  |ex c=>exact absurd e (nx _ _ _)
  |ok b=>rw[e]at f;exact⟨t,t',b,j.mono G,o,e,b,rfl,ZC D f rfl⟩
def ko (t t':T):R Bool:=match lI 30 t t' with
 |some b=>.ok b
 |none=>.bad
def lX (t t':T):R Bool:=match lI 30 t t' with
 |some b=>.ok (!b)
 |none=>.bad
def G1:Nx ko:=λt t' c h=>by unfold ko at h;split at h<;>cases h
def Ew:Nx lX:=λt t' c h=>by unfold lX at h;split at h<;>cases h
def xo (B:X.A.units+64<cLine):lR X (compareOp .Eq) (Wv ko):=by
 intro f s D H x y v u Q I j p h;obtain⟨t,t',b,r,l,e,q⟩:=h;unfold ko at e;split at e
 ·rename_i k i;have o:=by injection e
  subst o;exact(YF I 30 X.A 00 t t' k x y v u i r l j p).2.1 _ _ _ _ ⟨.bl k,H,I,rfl,q⟩
 ·cases e
def G2 (p:X.A.units+64<cLine):lR X (compareOp .NotEq) (Wv lX):=by
 intro f s B H x y v u Q I j o h;obtain⟨t,t',b,r,l,e,q⟩:=h;unfold lX at e;split at e
 ·rename_i k i;cases e;exact(YF I 30 X.A 00 t t' k x y v u i r l j o).2.2 _ _ _ _ ⟨.bl _,H,I,rfl,q⟩
 ·cases e
noncomputable def mH:T->T->R Bool
 |.int i,.int j=>.ok (decide (i<j))
 |_,_=>.bad
noncomputable def lQ:T->T->R Bool
 |.int i,.int j=>.ok (decide (i<=j))
 |.str x,.str y=>.ok (!decide (y.cps.toList<x.cps.toList))
 |_,_=>.bad
noncomputable def ml:T->T->R Bool
 |.int i,.int j=>.ok (decide (j<i))
 |_,_=>.bad
def G4:Nx mH:=λt t' c h=>by unfold mH at h;split at h<;>cases h
def wX:Nx lQ:=λt t' c h=>by unfold lQ at h;split at h<;>cases h
def Es:Nx ml:=λt t' c h=>by unfold ml at h;split at h<;>cases h
def xp:lR X (compareOp .Lt) (Wv mH):=by
 intro f s l H x y v u Q I k p h;obtain⟨t,t',b,r,o,e,q⟩:=h;unfold mH at e;split at e
 ·rename_i i j;cases e;cases r;cases o;exact Hv _ s l H _ _ v u Q I k p ⟨i,j,rfl,rfl,q⟩
 ·cases e
def G5:lR X (compareOp .Gt) (Wv ml):=by
 intro f s l H x y v u Q I k p h;obtain⟨t,t',b,r,o,e,q⟩:=h;unfold ml at e;split at e
 ·rename_i i j;cases e;cases r;cases o;exact Eu _ s l H _ _ v u Q I k p ⟨i,j,rfl,rfl,q⟩
 ·cases e
def jL:lR X (compareOp .LtE) (Wv lQ):=by
 intro f s p H x y v u Q I k o h;obtain⟨t,t',b,r,l,e,q⟩:=h;unfold lQ at e;split at e
 ·rename_i i j;cases e;cases r;cases l;exact Ej _ s p H _ _ v u Q I k o ⟨i,j,rfl,rfl,q⟩
 ·cases e;cases r;cases l;obtain⟨B,rfl⟩:=k;obtain⟨D,rfl⟩:=o;exact PySem.P.le_str ⟨.bl _,H,I,rfl,q⟩
 ·cases e
end
section
variable {X:Cx}{Y:Fx}{a b c d:Expr}{fa fb fc fd:En->R T}{pos:Pos}
noncomputable def wS (f:T->Option Bool):List T->Option Bool
 |[]=>some false
 |t::r=>match f t with
  |none=>none
  |some b=>match wS f r with
   |none=>none
   |some c=>some (b||c)
def ms (t t':T):R Bool:=match t' with
 |.tup f=>match wS (λy=>lI 30 y t) f with|some b=>.ok b|none=>.bad
 |.lst f=>match wS (λy=>lI 30 y t) f with|some b=>.ok b|none=>.bad
 |_=>.bad
def vQ (t t':T):R Bool:=(ms t t').bind λb=>.ok (!b)
def vR:Nx ms:=λt t' c h=>by
 unfold ms at h;split at h
 ·split at h<;>cases h
 ·split at h<;>cases h
 ·cases h
def G6:Nx vQ:=λt t' c h=>by
 unfold vQ at h;cases e:ms t t' with
 |bad=>rw[e]at h;cases h
 |ex k=>exact absurd e (vR _ _ _)
 |ok k=>rw[e]at h;cases h
open Classical in
def U1 {H:Hp}(f:T->Option Bool):∃e:Value->Bool,∀(v:V) (t:T) (u:Value) (b:Bool),Z8 v u->Rep H v t->f t=some b->e u=b:=by
 refine⟨λu=>decide (∃v t,Z8 v u/\Rep H v t/\f t=some true),λv t u b j r e=>?_⟩;cases b with
 |true=>exact decide_eq_true ⟨v,t,j,r,e⟩
 |false=>
  refine decide_eq_false ?_
  rintro⟨o,t',i,l,k⟩
  have:=j.inj i;subst this;have:=r.fn l;subst this;rw[e]at k;cases k
def xr {H:Hp}{f:T->Option Bool}{e:Value->Bool}(B:∀(v:V) (t:T) (u:Value) (b:Bool),Z8 v u->Rep H v t->f t=some b->e u=b){xs:List V}{ts:List T}{i:List Value}{b:Bool}
  (x:zZ xs i) (hr:zK H xs ts) (h:wS f ts=some b):i.any e=b/\∀u∈i,∃v t k,Z8 v u/\Rep H v t/\f t=some k:=by
 induction x generalizing ts b with
 |nil=>
  cases hr;cases h;exact⟨rfl,λu D=>by simp at D⟩
 |@cons v u p P o vs G=>
  cases hr with
  |@cons _ t _ ts r I=>
  unfold wS at h;cases q:f t with
  |none=>rw[q]at h;cases h
  |some k=>
   rw[q]at h;cases l:wS f ts with
   |none=>rw[l]at h;cases h
   |some N=>
    rw[l]at h;cases h;obtain⟨J,y⟩:=G I l;refine⟨by rw[List.any_cons,J,B v t u k o r q],λw j=>?_⟩
    rcases ay.mp j with rfl|j
    ·exact⟨v,t,k,o,r,q⟩
    ·exact y w j
def YH (hu:X.A.units+64<cLine)(i:Bool):lR X (compareOp (if i then .NotIn else .In)) (Wv (if i then vQ else ms)):=by
 intro pins s σ H x y v u Q I rx ry h;obtain⟨t,t',b,r,r',e,q⟩:=h;have hs:∃k,ms t t'=.ok k/\b=(if i then !k else k):=by
  cases i with
  |false=>exact⟨b,e,rfl⟩
  |true=>
   have P:vQ t t'=.ok b:=e;unfold vQ at P;cases z:ms t t' with
   |bad=>rw[z]at P;cases P
   |ex k=>exact absurd z (vR _ _ _)
   |ok k=>rw[z]at P;cases P;exact⟨k,rfl,rfl⟩
 obtain⟨k,o,rfl⟩:=hs;unfold ms at o;obtain⟨f,hf⟩:=U1 λy=>lI 30 y t;have j:∀w,(∃v t' k,Z8 v w/\Rep H v t'/\lI 30 t' t=some k)->cQ X.A.in1 s w v (f w):=λw zz=>by
  obtain⟨v',t',k,G,rr,ee⟩:=zz;rw[hf v' t' w k G rr ee];exact(YF I 30 _ (by rw[jY];lia) t' t k v' x w v ee rr r G rx).1
 split at o
 ·split at o
  ·rename_i k' U;cases o;cases r' with
   |@tup l xs _ h1 J=>
    obtain rfl:u=Value.ref l:=ry;obtain⟨B,G,p,_⟩:=ZQ I h1 J;obtain⟨Z,N⟩:=xr hf G J U;have S:B.toArray.any f=k:=by simpa using Z
    cases i with
    |false=>exact SeqAt.in_tupleAt f p (λw D=>j w (N w (by simpa using D))) (by rw[S];exact⟨.bl k,H,I,rfl,q⟩)
    |true=>exact SeqAt.notIn_tupleAt f p (λw D=>j w (N w (by simpa using D))) (by rw[S];exact⟨.bl _,H,I,rfl,q⟩)
  ·cases o
 ·split at o
  ·rename_i k' U;cases o;cases r' with
   |@lst l xs _ h1 J=>
    obtain rfl:u=Value.ref l:=ry;obtain⟨B,G,p,_⟩:=Z0 I (.inl h1) J;obtain⟨Z,N⟩:=xr hf G J U;have S:B.toArray.any f=k:=by simpa using Z
    cases i with
    |false=>exact SeqAt.in_listAt f p (λw D=>j w (N w (by simpa using D))) (by rw[S];exact⟨.bl k,H,I,rfl,q⟩)
    |true=>exact SeqAt.notIn_listAt f p (λw D=>j w (N w (by simpa using D))) (by rw[S];exact⟨.bl _,H,I,rfl,q⟩)
  ·cases o
 ·cases o
def xt (f:X.A.units+64<cLine):lR X (compareOp .In) (Wv ms):=YH f false
def XG (f:X.A.units+64<cLine):lR X (compareOp .NotIn) (Wv vQ):=YH f true
noncomputable def vg (t t':T):R Bool:=match t' with
 |.non=>match t with|.non=>.ok true|_=>.ok false
 |.bl k=>match t with|.bl j=>.ok (j==k)|_=>.ok false
 |_=>.bad
def XH (t t':T):R Bool:=(vg t t').bind λb=>.ok (!b)
def G7:Nx vg:=λt t' c h=>by
 unfold vg at h;split at h
 ·split at h<;>cases h
 ·split at h<;>cases h
 ·cases h
def XI (l:Bool):lR X (compareOp (if l then .IsNot else .Is)) (Wv (if l then XH else vg)):=by
 intro B s N H x y v u Q I i D h;obtain⟨t,t',b,r,J,e,q⟩:=h;have G:∃k,vg t t'=.ok k/\b=(if l then !k else k):=by
  cases l with
  |false=>exact⟨b,e,rfl⟩
  |true=>
   have o:XH t t'=.ok b:=e;unfold XH at o;cases z:vg t t' with
   |bad=>rw[z]at o;cases o
   |ex k=>exact absurd z (G7 _ _ _)
   |ok k=>rw[z]at o;cases o;exact⟨k,rfl,rfl⟩
 obtain⟨k,f,rfl⟩:=G;have go:plainIs v u=true/\(v==u)=k:=by
  cases J with
  |non=>
   obtain rfl:u=Value.none:=D;cases r with
   |non=>obtain rfl:v=Value.none:=i;cases f;exact⟨rfl,rfl⟩
   |bl j=>obtain rfl:v=Value.bool j:=i;cases f;exact⟨rfl,rfl⟩
   |int j=>obtain⟨t,rfl⟩:=i;cases f;exact⟨rfl,rfl⟩
   |str j=>obtain⟨t,rfl⟩:=i;cases f;exact⟨rfl,rfl⟩
   |tup _ _=>obtain rfl:v=Value.ref _:=i;cases f;exact⟨rfl,rfl⟩
   |lst _ _=>obtain rfl:v=Value.ref _:=i;cases f;exact⟨rfl,rfl⟩
   |fz _ _=>obtain rfl:v=Value.ref _:=i;cases f;exact⟨rfl,rfl⟩
  |bl p=>
   obtain rfl:u=Value.bool p:=D;cases r with
   |non=>obtain rfl:v=Value.none:=i;cases f;exact⟨rfl,rfl⟩
   |bl j=>obtain rfl:v=Value.bool j:=i;cases f;exact⟨rfl,by cases j<;>cases p<;>rfl⟩
   |int j=>obtain⟨t,rfl⟩:=i;cases f;exact⟨rfl,rfl⟩
   |str j=>obtain⟨t,rfl⟩:=i;cases f;exact⟨rfl,rfl⟩
   |tup _ _=>obtain rfl:v=Value.ref _:=i;cases f;exact⟨rfl,rfl⟩
   |lst _ _=>obtain rfl:v=Value.ref _:=i;cases f;exact⟨rfl,rfl⟩
   |fz _ _=>obtain rfl:v=Value.ref _:=i;cases f;exact⟨rfl,rfl⟩
  |_=>cases f
 cases l with
 |false=>exact wpAny_is_plain go.1 (by rw[go.2];exact⟨.bl k,H,I,rfl,q⟩)
 |true=>exact wpAny_isNot_plain go.1 (by rw[go.2];exact⟨.bl _,H,I,rfl,q⟩)
def G8:lR X (compareOp .Is) (Wv vg):=XI false
def mo (g f:T->T->R Bool)(fa fb fc:En->R T):En->R T:=λρ=>(fa ρ).bind λx=>(fb ρ).bind λy=>(g x y).bind λk=>if k=true then (fc ρ).bind λz=>(f y z).bind λi=>.ok (.bl i)else .ok (.bl false)
def oI (g f:T->T->R Bool)(fa fb fc:En->R T):En->R Bool:=λρ=>(fa ρ).bind λx=>(fb ρ).bind λy=>(g x y).bind λk=>if k=true then (fc ρ).bind λz=>f y z else .ok false
def XJ {u f:CmpOp}{g j:T->T->R Bool}(nx:Nx g)(o:Nx j)(N:lR X (compareOp u) (Wv g))(p:lR X (compareOp f) (Wv j))(U:jH X Y a fa)(hb:jH X Y b fb)(P:jH X Y c fc)
  (J:lastMarks [u,f] [b,c]=false:=by with_unfolding_all rfl):Snd X Y (.Compare a [u,f] [b,c] pos) (mo g j fa fb fc):=.mk λρ=>
 PE.imp (vz N p (U ρ) (hb ρ) (P ρ) J) λσ H Q=>tS.on λB I q=>step I q λt v H1 _ s1 G I1 Z=>step I1 Z λt' v' H2 _ s2 x D i=>by
  cases e:g t t' with
  |bad=>rw[e]at i;exact i.elim
  |ex c=>exact absurd e (nx _ _ _)
  |ok k=>
   rw[e]at i;refine⟨t,t',k,G.mono s2,x,e,k,rfl,?_⟩;cases k with
   |false=>exact ZC D i (.bl _)
   |true=>
    refine step D i λy v3 H3 _ s3 S I3 l=>?_
    ·cases e:j t' y with
     |bad=>rw[e]at l;exact l.elim
     |ex c=>exact absurd e (o _ _ _)
     |ok k=>rw[e]at l;exact⟨t',y,k,x.mono s3,S,e,ZC I3 l (.bl k)⟩
def YI {u f:CmpOp}{g j:T->T->R Bool}(nx:Nx g)(o:Nx j)(N:lR X (compareOp u) (Wv g))(p:lR X (compareOp f) (Wv j))(U:jH X Y a fa)(hb:jH X Y b fb)(P:jH X Y c fc)
  (J:lastMarks [u,f] [b,c]=false:=by with_unfolding_all rfl):Wt X Y (.Compare a [u,f] [b,c] pos) (oI g j fa fb fc):=.mk λρ=>
 PT.imp (vA N p (U ρ) (hb ρ) (P ρ) J) λσ H Q=>tS.on λB I q=>step I q λt v H1 _ s1 G I1 Z=>step I1 Z λt' v' H2 _ s2 x D i=>by
  cases e:g t t' with
  |bad=>rw[e]at i;exact i.elim
  |ex c=>exact absurd e (nx _ _ _)
  |ok k=>
   rw[e]at i;refine⟨t,t',k,G.mono s2,x,e,k,rfl,?_⟩;cases k with
   |false=>exact⟨false,rfl,ZC D i rfl⟩
   |true=>
    refine step D i λy v3 H3 _ s3 S I3 l=>?_
    ·cases e:j t' y with
     |bad=>rw[e]at l;exact l.elim
     |ex c=>exact absurd e (o _ _ _)
     |ok k=>rw[e]at l;exact⟨t',y,k,x.mono s3,S,e,k,rfl,ZC I3 l rfl⟩
def XL (r G i:R2)(B tb tc D:TE):TE:=λf H Q=>B f H λx u=>tb f u λy I=>r x y I λz H3=>∃k,z=.bl k/\
 (if k=true then tc f H3 λl J=>G y l J λv o=>∃j,v=.bl j/\(if j=true then D f o λw2 p=>i l w2 p Q else Q (.bl false) o)else Q (.bl false) H3)
def YJ {B j f:CmpOp}{r J o:R2}{ta tb tc G:TE}(ho:lR X (compareOp B) r)(p:lR X (compareOp j) J)(l:lR X (compareOp f) o)(ha:PE X a ta)(hb:PE X b tb)(hc:PE X c tc)(hd:PE X d G)
  (hm:lastMarks [B,j,f] [b,c,d]=false:=by with_unfolding_all rfl):PE X (.Compare a [B,j,f] [b,c,d] pos) (XL r J o ta tb tc G):=by
 intro D s i H Q I h;refine Compare_chain (lF (ha _ s i H _ I h) λv s1=>EP.on λx H1 I1 r1 q1=>chain_link (lF (hb _ s1 i H1 _ I1 q1) λu s2=>EP.on λy H2 I2 U q2=>
  lF (ho _ s2 i H2 x y v u _ I2 r1 U q2) λd' s3 ⟨z,H3,I3,r3,k,e,q3⟩=>?_)) hm
 subst e;cases r3;refine bi ?_;cases k with
 |false=>exact ite_ff ⟨.bl _,H3,I3,rfl,q3⟩
 |true=>
  refine ite_tt (chain_link (lF (hc _ s3 i H3 _ I3 q3) λN s4=>EP.on λS H4 I4 Z q4=>lF (p _ s4 i H4 y S u N _ I4 U Z q4) λd2 s5 zz=>?_));obtain⟨z5,P,I5,r5,k5,e5,q5⟩:=zz;subst e5;cases r5;refine bi ?_;cases k5 with
  |false=>exact ite_ff ⟨.bl _,P,I5,rfl,q5⟩
  |true=>exact ite_tt (chain_last (lF (hd _ s5 i P _ I5 q5) λw6 s6=>EP.on λz6 H6 I6 r6 q6=>l _ s6 i H6 S z6 N w6 Q I6 Z r6 q6))
def pi (g j i:T->T->R Bool)(fa fb fc fd:En->R T):En->R T:=λρ=>(fa ρ).bind λx=>(fb ρ).bind λy=>(g x y).bind λk=>if k=true then (fc ρ).bind λz=>(j y z).bind λl=>
 if l=true then (fd ρ).bind λw=>(i z w).bind λf=>.ok (.bl f)else .ok (.bl false)else .ok (.bl false)
def vS {N j f:CmpOp}{g y i:T->T->R Bool}(nx:Nx g)(G:Nx y)(o:Nx i)(ho:lR X (compareOp N) (Wv g))(J:lR X (compareOp j) (Wv y))(l:lR X (compareOp f) (Wv i))
  (ha:jH X Y a fa) (hb:jH X Y b fb) (hc:jH X Y c fc) (hd:jH X Y d fd)
  (hm:lastMarks [N,j,f] [b,c,d]=false:=by with_unfolding_all rfl):Snd X Y (.Compare a [N,j,f] [b,c,d] pos) (pi g y i fa fb fc fd):=.mk λρ=>
 PE.imp (YJ ho J l (ha ρ) (hb ρ) (hc ρ) (hd ρ) hm) λσ H Q=>tS.on λB I q=>step I q λt v H1 _ s1 r1 I1 q1=>step I1 q1 λt' v' H2 _ s2 S I2 u=>by
  cases e:g t t' with
  |bad=>rw[e]at u;exact u.elim
  |ex c=>exact absurd e (nx _ _ _)
  |ok k=>
   rw[e]at u;refine⟨t,t',k,r1.mono s2,S,e,k,rfl,?_⟩;cases k with
   |false=>exact ZC I2 u (.bl _)
   |true=>
    refine step I2 u λx v3 H3 _ s3 P U p=>?_
    ·cases e:y t' x with
     |bad=>rw[e]at p;exact p.elim
     |ex c=>exact absurd e (G _ _ _)
     |ok k=>
      rw[e]at p;refine⟨t',x,k,S.mono s3,P,e,k,rfl,?_⟩;cases k with
      |false=>exact ZC U p (.bl _)
      |true=>
       refine step U p λZ v4 H4 _ s4 r4 I4 D=>?_
       ·cases e:i x Z with
        |bad=>rw[e]at D;exact D.elim
        |ex c=>exact absurd e (o _ _ _)
        |ok k=>rw[e]at D;exact⟨x,Z,k,P.mono s4,r4,e,ZC I4 D (.bl k)⟩
variable {rest:List Expr}{ga gb:En->R Bool}
def jg (fa fb:En->R T):En->R T:=λρ=>(fa ρ).bind λx=>match x with
 |.bl true=>fb ρ
 |.bl false=>.ok (.bl false)
 |_=>.bad
def o9 (fa fb:En->R T):En->R T:=λρ=>(fa ρ).bind λx=>match x with
 |.bl true=>.ok (.bl true)
 |.bl false=>fb ρ
 |_=>.bad
def vT (fa:En->R T):En->R T:=λρ=>(fa ρ).bind λx=>match x with
 |.bl k=>.ok (.bl (!k))
 |_=>.bad
def HK {op}(h:Snd X Y a fa):Snd X Y (.BoolOp op [a] pos) fa:=.mk λρ=>gj (h ρ)
def EU (o:Snd X Y a fa)(l:Snd X Y (.BoolOp .And (b::rest) pos) fb):Snd X Y (.BoolOp .And (a::b::rest) pos) (jg fa fb):=.mk λρ=>
 PE.imp (gm (o ρ) (l ρ)) λu H Q=>tS.on λB I q=>step I q λt v p _ x j i f=>by
  cases j with
  |bl k=>
   refine⟨k,rfl,?_⟩;cases k with
   |true=>exact⟨_,i,f⟩
   |false=>exact ZC i f (.bl _)
  |_=>exact f.elim
def BA (o:Snd X Y a fa)(l:Snd X Y (.BoolOp .Or (b::rest) pos) fb):Snd X Y (.BoolOp .Or (a::b::rest) pos) (o9 fa fb):=.mk λρ=>
 PE.imp (FR (o ρ) (l ρ)) λu H Q=>tS.on λB I q=>step I q λt v p _ x j i f=>by
  cases j with
  |bl k=>
   refine⟨k,rfl,?_⟩;cases k with
   |false=>exact⟨_,i,f⟩
   |true=>exact ZC i f (.bl _)
  |_=>exact f.elim
def D6 (l:Snd X Y a fa):Snd X Y (.UnaryOp .Not a pos) (vT fa):=.mk λρ=>
 PE.imp (gq (l ρ)) λp H Q=>tS.on λB I q=>step I q λt v o _ u i j f=>by
  cases i with
  |bl k=>exact⟨k,rfl,ZC j f (.bl _)⟩
  |_=>exact f.elim
structure Y3 (X:Cx) (Y:Fx) (e:Expr) (f:En->R Bool):Prop where
 mk::
 go:∀ρ,PW X e (tS Y rE f ρ)
instance {X:Cx}{Y:Fx}{e:Expr}{f:En->R Bool}:CoeFun (Y3 X Y e f) λ_=>∀ρ,PW X e (tS Y rE f ρ):=⟨Y3.go⟩
def Y3.t {e:Expr}{f:En->R Bool}(h:Y3 X Y e f):Wt X Y e f:=.mk λρ=>(h ρ).pt
def PW.imp {e:Expr}{t t':TT}(h:PW X e t)(i:∀f H Q,t' f H Q->t f H Q):PW X e t':=λk j s f H Q I q=>h k _ s f H Q I (i f H Q q)
def G9 (fa fb:En->R Bool):En->R Bool:=λρ=>(fa ρ).bind λx=>if x=true then fb ρ else .ok false
def ma (fa fb:En->R Bool):En->R Bool:=λρ=>(fa ρ).bind λx=>if x=true then .ok true else fb ρ
def JD (fa:En->R Bool):En->R Bool:=λρ=>(fa ρ).bind λx=>.ok (!x)
def Ga (h:Wt X Y a ga):Y3 X Y (.BoolOp .And [a] pos) ga:=.mk λρ=>Xd (h ρ)
def He (h:Wt X Y a ga):Y3 X Y (.BoolOp .Or [a] pos) ga:=.mk λρ=>gf (h ρ)
def FJ (o:Wt X Y a ga)(l:Y3 X Y (.BoolOp .And (b::rest) pos) gb):Y3 X Y (.BoolOp .And (a::b::rest) pos) (G9 ga gb):=.mk λρ=>
 PW.imp (gh (o ρ) (l ρ)) λu H Q=>tS.on λB I q=>step I q λt v p _ x k i j=>by
  have f:=k;subst f;cases v with
  |true=>exact⟨_,i,j⟩
  |false=>exact ZC i j rfl
def AZ (o:Wt X Y a ga)(l:Y3 X Y (.BoolOp .Or (b::rest) pos) gb):Y3 X Y (.BoolOp .Or (a::b::rest) pos) (ma ga gb):=.mk λρ=>
 PW.imp (Em (o ρ) (l ρ)) λu H Q=>tS.on λB I q=>step I q λt v p _ x k i j=>by
  have f:=k;subst f;cases v with
  |false=>exact⟨_,i,j⟩
  |true=>exact ZC i j rfl
def FF (k:Wt X Y a ga):Wt X Y (.UnaryOp .Not a pos) (JD ga):=.mk λρ=>
 PT.imp (gi (k ρ)) λp H Q=>tS.on λB I q=>step I q λt v o _ u i j l=>by
  have f:=i;subst f;exact ZC j l rfl
noncomputable def Bt:T->R Bool
 |.bl k=>.ok k
 |.non=>.ok false
 |.int i=>.ok (i !=0)
 |.tup xs=>.ok (!xs.isEmpty)
 |.lst xs=>.ok (!xs.isEmpty)
 |_=>.bad
def jJ (fa:En->R T):En->R Bool:=λρ=>(fa ρ).bind Bt
def C5 {H:Hp}{xs:List V}{ts:List T}(r:zK H xs ts):(!xs.isEmpty)= !ts.isEmpty:=by cases r<;>rfl
def DX (u:jH X Y a fa)(p:∀f,isTrue a X.env f=(do let v ←f;standAt a.pos;holding [v] (truthy v)):=by intro _;rfl):Wt X Y a (jJ fa):=.mk λρ=>
 PT.imp (vC (u ρ) p) λy H Q=>tS.on λB I q=>step I q λt v x _ D o l j=>by
  cases o with
  |bl k=>exact⟨k,rfl,ZC l j rfl⟩
  |non=>exact⟨false,rfl,ZC l j rfl⟩
  |int i=>exact⟨_,rfl,ZC l j rfl⟩
  |tup h r=>exact⟨_,.inr (.inl ⟨_,SqT.of h,rfl⟩),ZC l j (C5 r)⟩
  |lst h r=>exact⟨_,.inl ⟨_,SqL.of h,rfl⟩,ZC l j (C5 r)⟩
  |_=>exact j.elim
def md (g:En->R Bool)(fa fb:En->R T):En->R T:=λρ=>(g ρ).bind λk=>if k=true then fa ρ else fb ρ
def Ah (l:Wt X Y c ga)(p:Snd X Y a fa)(o:Snd X Y b fb):Snd X Y (.IfExp c a b pos) (md ga fa fb):=.mk λρ=>
 PE.imp (Ur (l ρ) (p ρ) (o ρ)) λx H Q=>tS.on λB I q=>step I q λt v u _ y k i j=>by
  have f:=k;subst f;cases v with
  |true=>exact⟨_,i,j⟩
  |false=>exact⟨_,i,j⟩
end
end PV
namespace PV
open PySem PySem.Spec PyProof.Rows L2
section
variable {X:Cx}{Y:Fx}{a b c d:Expr}{fa fb fc fd:En->R T}{pos p:Pos}
def lG (g:T->R T)(fa:En->R T):En->R T:=λρ=>(fa ρ).bind g
noncomputable abbrev lZ (X:Cx)(a:Expr):Prop:=starEach [a] X.env=[(false,eval a X.env)]
def uj {id:String}{x:Str}{r:List V->Hp->VK->Prop}{g:T->R T}(k:Zt X (.builtin id) r)(hr:∀v t B H Q,Rep H v t->zr B H->Po Y rC B H (g t) Q->r [v] H Q)
  (l:Gl X x) (u:X.mg x=none) (o:bootBuiltins x=some (.builtin id)) (y:jH X Y a fa) (f:lZ X a:=by exact lS rfl) (hn:x≠"__name__":=by decide) (hd:(x==("__debug__":Str))=false:=by decide):Snd X Y (.Call (.Name x p) [a] [] pos) (lG g fa):=.mk λρ=>
 PE.imp (ZY k l u o (zB (y ρ) zT f) hn hd f rfl) λJ H Q=>tS.on λB I q=>step I q λt v j _ N i D G=>hr v t _ j Q i D.sB G
def xu {id:String}{x:Str}{r:List V->Hp->VK->Prop}{g:T->R T}(k:Zt X (.type id) r)(hr:∀v t B H Q,Rep B v t->zr B H->Po Y rC B H (g t) Q->r [v] H Q)
  (l:Gl X x) (u:X.mg x=none) (o:bootBuiltins x=some (.type id)) (y:Snd X Y a fa) (f:lZ X a:=by exact lS rfl) (hn:x≠"__name__":=by decide) (hd:(x==("__debug__":Str))=false:=by decide):Snd X Y (.Call (.Name x p) [a] [] pos) (lG g fa):=.mk λρ=>
 PE.imp (je k l u o (zB (y ρ) zT f) hn hd f rfl) λJ H Q=>tS.on λB I q=>step I q λt v j _ N i D G=>hr v t _ j Q i D.sB G
def Zv:T->R T
 |.tup xs=>.ok (.int xs.length)
 |.lst xs=>.ok (.int xs.length)
 |.fz xs=>.ok (.int xs.length)
 |.str x=>if x.length<=lM then .ok (.int x.length)else .bad
 |_=>.bad
def HD (v:V)(t:T)(B H:Hp)(Q:VK)(r:Rep H v t)(f:zr B H)(q:Po Y rC B H (Zv t) Q):
  (∃p i,[v]=[V.ref p]/\(SqL X.K H p i\/SqT X.K H p i)/\Q (V.int i.length) H)\/(∃z,[v]=[V.str z]/\z.length<=sizeLine/\Q (V.int z.length) H):=by
 cases r with
 |tup h r=>exact .inl ⟨_,_,rfl,.inr (SqT.of h),lW f q rfl (by rw[r.length];exact .int _)⟩
 |lst h r=>exact .inl ⟨_,_,rfl,.inl (SqL.of h),lW f q rfl (by rw[r.length];exact .int _)⟩
 |fz h r=>exact .inl ⟨_,_,rfl,.inl (.inl (.inr ⟨_,h⟩)),lW f q rfl (by rw[r.length];exact .int _)⟩
 |str x=>
  by_cases j:x.length<=lM
  ·exact .inr ⟨x,rfl,Zy j,lW f q (if_pos j) (.int _)⟩
  ·rw[show Zv (.str x)=.bad from if_neg j]at q;exact q.elim
 |_=>exact q.elim
def HU (i:Gl X "len")(f:X.mg "len"=none)(j:jH X Y a fa)(k:lZ X a:=by exact lS rfl):Snd X Y (.Call (.Name "len" p) [a] [] pos) (lG Zv fa):=
 uj (uc.or ud) HD i f PySem.boot_len j k
noncomputable def sF:T->R T
 |.tup xs=>.ok (.tup xs)
 |.lst xs=>.ok (.tup xs)
 |_=>.bad
def Ig (v:V)(t:T)(B H:Hp)(Q:VK)(r:Rep B v t)(f:zr B H)(q:Po Y rC B H (sF t) Q):
  ∃p i,[v]=[V.ref p]/\((SqL X.K H p i/\∀l,H l=none->Q (.ref l) (lf H l (.tup i)))\/(SqT X.K H p i/\Q (.ref p) H)):=by
 cases r with
 |tup h r=>exact⟨_,_,rfl,.inr ⟨SqT.of (f _ _ h),lW f q rfl (.tup h r)⟩⟩
 |lst h r=>exact⟨_,_,rfl,.inl ⟨SqL.of (f _ _ h),λl j=>gY f q rfl r j⟩⟩
 |_=>exact q.elim
def XM (i:Gl X "tuple")(f:X.mg "tuple"=none)(j:Snd X Y a fa)(k:lZ X a:=by exact lS rfl):Snd X Y (.Call (.Name "tuple" p) [a] [] pos) (lG sF fa):=
 xu Ws Ig i f (PyProof.Rows.Boot.«tuple») j k
noncomputable def nO:T->String
 |.non=>"NoneType"
 |.bl _=>"bool"
 |.int _=>"int"
 |.str _=>"str"
 |.tup _=>"tuple"
 |.lst _=>"list"
 |.fz _=>"list"
def n8 (n:String)(t:T):Bool:=nO t==n||(n=="int"&&nO t=="bool")
def Ho {H:Hp}{v:V}{t:T}(K:aa)(r:Rep H v t):yz K H v (.type (nO t)):=by
 cases r with
 |non=>exact .non
 |bl b=>exact .bl b
 |int b=>exact .int b
 |str b=>exact .str b
 |tup h _=>exact .tup h
 |lst h _=>exact .lst h
 |fz h _=>exact .frz h
def vU:Zt X (.builtin "isinstance") (λxs H Q=>∃v n t,xs=[v,.ty n]/\Rep H v t/\aV X.K (.type (nO t)) (.type n)=some (n8 n t)/\Q (.bl (n8 n t)) H):=by
 intro i s o H xs x Q I l h;obtain⟨v,n,t,rfl,r,j,q⟩:=h;obtain⟨u,w,rfl,k,f⟩:=yw l;obtain rfl:w=Value.type n:=f;exact Yr I k (Ho X.K r) j λtk=>⟨.bl _,H,I.tok tk,rfl,q⟩
def Y4 (n:String)(t:T):R T:=.ok (.bl (n8 n t))
def XN (K:aa)(t:T):aV K (.type (nO t)) (.type "int")=some (n8 "int" t):=by cases t<;>rfl
def vV (K:aa)(t:T):aV K (.type (nO t)) (.type "bool")=some (n8 "bool" t):=by cases t<;>rfl
def XO (K:aa)(t:T):aV K (.type (nO t)) (.type "str")=some (n8 "str" t):=by cases t<;>rfl
def YK (K:aa)(t:T):aV K (.type (nO t)) (.type "tuple")=some (n8 "tuple" t):=by cases t<;>rfl
def vW {n:String}{i:Pos}(u:∀t,aV X.K (.type (nO t)) (.type n)=some (n8 n t))(y:Gl X "isinstance")(G:X.mg "isinstance"=none)(k:Gl X (bf n))(j:X.mg (bf n)=none)(D:bootBuiltins (bf n)=some (.type n))(N:jH X Y a fa)
  (l:starEach [a,.Name (bf n) i] X.env=[(false,eval a X.env),(false,eval (.Name (bf n) i) X.env)]:=by exact mJ rfl rfl) (f:starEach [.Name (bf n) i] X.env=[(false,eval (.Name (bf n) i) X.env)]:=by exact lS rfl)
  (hn:bf n≠"__name__":=by decide) (hd:(bf n==("__debug__":Str))=false:=by decide) (J:((backTo pos (starEach [.Name (bf n) i] X.env)).any λx=>x.fst)=false:=by exact zX rfl):
  Snd X Y (.Call (.Name "isinstance" p) [a,.Name (bf n) i] [] pos) (lG (Y4 n) fa):=.mk λρ=>
 PE.imp (ZY vU y G PyProof.Rows.Boot.«isinstance» (zB (N ρ) (zB (Yc (v:=.ty n) k j D rfl hn hd) zT f) (by rw[l,f])) 03 03 (by rw[l,f]) J) λZ H Q=>tS.on λB I q=>
  step I q λt v U _ s1 o P S=>⟨v,n,t,rfl,o,u t,lW P.sB S rfl (.bl _)⟩
def l0 (xs:List T)(i:Int):R T:=match mv xs i with
 |some t=>.ok t
 |none=>.bad
def i3:T->T->R T
 |.tup xs,.int i=>l0 xs i
 |.lst xs,.int i=>l0 xs i
 |.fz xs,.int i=>l0 xs i
 |.str z,.int i=>if z.length<=lM then match mv z.cps.toList i with|some c=>.ok (.str ⟨#[c]⟩)|none=>.bad else .bad
 |_,_=>.bad
def YL {H:Hp}{xs:List V}{ts:List T}{i:Int}{t:T}(r:zK H xs ts)(h:mv ts i=some t):∃v,mv xs i=some v/\Rep H v t:=by
 unfold mv at h⊢;rw[r.length];cases e:oA _ i with
 |none=>rw[e]at h;cases h
 |some j=>
  rw[e]at h;obtain⟨v,k,f⟩:=r.get (h);exact⟨v,k,f⟩
def Ce (J:Snd X Y a fa)(x:Snd X Y b fb)(D:uX b:=by exact λ_ _=>rfl):Snd X Y (.Subscript a b pos) (zd i3 fa fb):=.mk λρ=>
 PE.imp (gN gQ (J ρ) (x ρ) D) λU H Q=>tS.on λB I q=>step I q λt v S _ s1 o y N=>step y N λt' Z u _ P G j f=>by
  have o:=o.mono (zN.ge y.sB P);cases G with
  |int i=>
   cases o with
   |@tup _ xs ts h r=>
    have f:Po Y rC _ u (l0 ts i) Q:=f;unfold l0 at f;split at f
    ·rename_i t' e;obtain⟨w,k,l⟩:=YL r e;exact .inr (.inl ⟨_,xs,i,w,rfl,rfl,SqT.of (j.sB _ _ h),k,lW j.sB f rfl l⟩)
    ·exact f.elim
   |@lst _ xs ts h r=>
    have f:Po Y rC _ u (l0 ts i) Q:=f;unfold l0 at f;split at f
    ·rename_i t' e;obtain⟨w,k,l⟩:=YL r e;exact .inl ⟨_,xs,i,w,rfl,rfl,SqL.of (j.sB _ _ h),k,lW j.sB f rfl l⟩
    ·exact f.elim
   |@fz _ _ xs ts h r=>
    have f:Po Y rC _ u (l0 ts i) Q:=f;unfold l0 at f;split at f
    ·rename_i t' e;obtain⟨w,k,l⟩:=YL r e;exact .inl ⟨_,xs,i,w,rfl,rfl,.inl (.inr ⟨_,j.sB _ _ h⟩),k,lW j.sB f rfl l⟩
    ·exact f.elim
   |str z=>
    have f:Po Y rC _ u (if z.length<=lM then match mv z.cps.toList i with|some c=>.ok _|none=>.bad else .bad) Q:=f
    split at f
    ·rename_i x;split at f
     ·rename_i c e;exact .inr (.inr ⟨z,i,c,rfl,rfl,Zy x,e,lW j.sB f rfl (.str _)⟩)
     ·exact f.elim
    ·exact f.elim
   |_=>exact f.elim
  |_=>cases o<;>exact f.elim
structure XQ (X:Cx) (Y:Fx) (e:Option Expr) (f:En->R (Option Int)):Prop where
 mk::
 go:∀ρ,PO X e (tS Y rE f ρ)
instance {X:Cx}{Y:Fx}{e:Option Expr}{f:En->R (Option Int)}:CoeFun (XQ X Y e f) λ_=>∀ρ,PO X e (tS Y rE f ρ):=⟨XQ.go⟩
def mI:En->R (Option Int):=λ_=>.ok none
def j0 (fa:En->R T):En->R (Option Int):=λρ=>(fa ρ).bind λt=>match t with
 |.int i=>.ok (some i)
 |_=>.bad
def PO.imp {e:Option Expr}{t t':TO}(h:PO X e t)(i:∀f H Q,t' f H Q->t f H Q):PO X e t':=λj s f H Q I q=>h _ s f H Q I (i f H Q q)
def Gb:XQ X Y none mI:=.mk λρ=>PO.imp Xn λf H Q=>tS.on λB I q=>ZC I q rfl
def Gc (l:Snd X Y a fa):XQ X Y (some a) (j0 fa):=.mk λρ=>PO.imp (Xo (l ρ)) λu H Q=>tS.on λB I q=>step I q λt v o _ x j k f=>by
 cases j with
 |int i=>exact⟨i,rfl,ZC k f rfl⟩
 |_=>exact f.elim
noncomputable def mR (xs:List T)(lo hi:Option Int):List T:=(xs.drop (HT.sIx xs.length 0 lo)).take (HT.sIx xs.length xs.length hi-HT.sIx xs.length 0 lo)
def oV (t:T)(lo hi:Option Int):R T:=match t with
 |.tup xs=>.ok (.tup (mR xs lo hi))
 |.lst xs=>.ok (.lst (mR xs lo hi))
 |_=>.bad
def mD (fa:En->R T)(i f:En->R (Option Int)):En->R T:=λρ=>(fa ρ).bind λt=>(i ρ).bind λlo=>(f ρ).bind λhi=>oV t lo hi
def YM {H:Hp}{xs:List V}{ts:List T}{lo hi:Option Int}(r:zK H xs ts):zK H (KJ xs lo hi) (mR ts lo hi):=by
 unfold KJ mR;rw[r.length];exact(r.drop _).take _
def Jm {prog:Program}{w:World}{A:Around}{E:Value->Shared->Prop}{s:Shared}{t l:Addr}{items:Array Value}{vl u:Value}{lo hi:Option Int}{Q:Value->Shared->Prop}(i:IsTup s.heap t items)(v:s.heap.IsSliceOf l vl u .none)(pl:IsPart vl lo)(y:IsPart u hi)
  (x:HT.sIx items.size 0 lo=0/\HT.sIx items.size items.size hi=items.size) (h:Q (.ref t) s):wpAny 001 A (getItem (.ref t) (.ref l)) Q E s:=by
 obtain⟨os,o,j,B⟩:=id v;have k:s.TypeIs (.ref l) _:=⟨os,o,j⟩;unfold getItem
 try with_reducible refine bW ?_
 refine a7 (wpAny_sequenceKey i.typeIs 03 ?_)
 refine a7 (bE i.typeIs bq
  (bT bq i.typeIs entry_tuple_getitem ?_ (args_tuple_getitem _ _)))
 show wpAny _ _ (eO _>>=_) _ _ s;refine a7 (tupleItemsOf_ i ?_);refine a7 (wpAny_typeOf k ?_);refine a7 (HT.sliceApplied_gen v pl y ?_);have f:(((HT.sIx items.size 0 lo):Int)==0&&(1:Int)==1&&(HT.sIx items.size items.size hi-HT.sIx items.size 0 lo)==items.size)=true:=by
  rw[x.1,x.2];simp
 show wpAny _ _ (if (((HT.sIx _ 0 lo:Nat):Int)==0&&(1)==1&&(HT.sIx _ _ hi-HT.sIx _ 0 lo)==items.size)=true then _ else _) _ _ s
 rw[if_pos f];refine a7 (a7 (wpAny_typeOf i.typeIs (au ?_)));exact a7 (dZ (au ⟨_,rfl,au h⟩))
def yH:SlR X (λx lo hi H Q=>∃a xs,x=.ref a/\SqT X.K H a xs/\(HT.sIx xs.length 0 lo=0/\HT.sIx xs.length xs.length hi=xs.length)/\Q (.ref a) H):=by
 intro j s G H x v vl D lo hi N Q I y l pl o h;obtain⟨a,xs,rfl,B,u,q⟩:=h;obtain rfl:v=Value.ref a:=y;obtain⟨i,r,k,J⟩:=I.tuple B;have f:i.toArray.size=xs.length:=by exact r.length.symm
 refine⟨"tuple",_,bq.lookup,k.typeIs,?_⟩;exact Jm k l pl o (by rw[f];exact u) ⟨.ref a,H,I,rfl,q⟩
def XR {xs:List T}{lo hi:Option Int}(i:HT.sIx xs.length 0 lo=0)(f:HT.sIx xs.length xs.length hi=xs.length):mR xs lo hi=xs:=by
 unfold mR;rw[i,f];simp
def XS {lo hi:Option Expr}{y D:En->R (Option Int)}{p2:Pos}(S:Snd X Y a fa)(Z:XQ X Y lo y)(hh:XQ X Y hi D):Snd X Y (.Subscript a (.Slice lo hi none p2) pos) (mD fa y D):=.mk λρ=>
 PE.imp (vM (gM.or (yH.or Xr)) (S ρ) (Z ρ) (hh ρ)) λσ H Q=>tS.on λB I q=>step I q λt v H1 _ s1 o G U=>step G U λl N H2 _ s2 el J q2=>step J q2 λh h' H3 _ s3 P f k=>by
  have u:=el;have x:=P;subst u x;have o:=o.mono ((zN.ge G.sB s2).trans (zN.ge J.sB s3));cases o with
  |@tup _ xs ts j r=>
   by_cases i:HT.sIx xs.length 0 N=0/\HT.sIx xs.length xs.length h'=xs.length
   ·refine .inr (.inl ⟨_,xs,rfl,SqT.of (f.sB _ _ j),i,lW f.sB k rfl ?_⟩);rw[r.length]at i;rw[XR i.1 i.2];exact .tup j r
   ·exact .inl ⟨_,xs,rfl,SqT.of (f.sB _ _ j),i,λp hp=>gY f.sB k rfl (YM r) hp⟩
  |@lst _ xs ts j r=>
   exact .inr (.inr ⟨_,xs,rfl,SqL.of (f.sB _ _ j),λp hp=>Bc f.sB k rfl (YM r) hp⟩)
  |_=>exact k.elim
noncomputable def yI (t t':T):R T:=match t,t' with
 |.int i,.int j=>.ok (.int (if j<i then j else i))
 |_,_=>.bad
def Ge (x:X.calm=true)(y:Gl X "min")(G:X.mg "min"=none)(N:Snd X Y a fa)(D:Snd X Y b fb)
  (l:starEach [a,b] X.env=[(false,eval a X.env),(false,eval b X.env)]:=by exact mJ rfl rfl) (f:starEach [b] X.env=[(false,eval b X.env)]:=by exact lS rfl):
  Snd X Y (.Call (.Name "min" p) [a,b] [] pos) (zd yI fa fb):=.mk λρ=>
 PE.imp (ZY (Yn x) y G PyProof.Rows.Boot.«min» (zB (N ρ) (zB (D ρ) zT f) (by rw[l,f])) 03 03 (by rw[l,f]) (by rw[f];rfl)) λσ H Q=>tS.on λB I q=>
  step I q λt v Z _ s1 u J S=>step J S λt' U H2 _ s2 o P k=>by
   cases u with
   |int i=>
    cases o with
    |int j=>exact⟨i,j,rfl,lW P.sB k rfl (.int _)⟩
    |_=>exact k.elim
   |_=>cases o<;>exact k.elim
noncomputable def uk:List T->Option Bool
 |[]=>some true
 |.bl k::r=>match uk r with|some j=>some (k&&j)|none=>none
 |_::_=>none
def xv:T->R T
 |.lst ts=>match uk ts with|some k=>.ok (.bl k)|none=>.bad
 |_=>.bad
def XT {H:Hp}{xs:List V}{ts:List T}{f:List Value}{k:Bool}(hr:zK H xs ts)(l:zZ xs f)(h:uk ts=some k):∃tr:Nat->Bool,(∀i v,f[i]?=some v->v=Value.bool (tr i))/\(aZ f.length).all tr=k:=by
 induction l generalizing ts k with
 |nil=>
  cases hr;cases h;exact⟨λ_=>true,λi v e=>by simp at e,rfl⟩
 |@cons _ u _ _ x vs y=>
  cases hr with
  |cons r B=>
  cases r with
  |bl b=>
   unfold uk at h;split at h
   ·rename_i j e;cases h;obtain⟨tr,D,o⟩:=y B e;obtain rfl:u=Value.bool b:=x;refine⟨λi=>Nat.casesOn i b tr,λi v e=>?_,?_⟩
    ·cases i with
     |zero=>simp at e;exact e.symm
     |succ i=>exact D i v (by simpa using e)
    ·rw[ax,cR,d6,iK,←o];rfl
   ·cases h
  |_=>cases h
def YN (U:X.A.handled=none):Zt X (.builtin "all") (λvs H Q=>∃l xs ts k,vs=[.ref l]/\H l=some (.lst xs)/\zK H xs ts/\uk ts=some k/\Q (.bl k) H):=by
 intro B s Z H vs us Q I x h;obtain⟨l,xs,ts,k,rfl,D,r,G,q⟩:=h;obtain⟨u,rfl,P⟩:=ZP x;obtain rfl:u=Value.ref l:=P;obtain⟨f,x,p,_⟩:=Z0 I (.inl D) r;obtain⟨tr,S,J⟩:=XT r x G;refine call_all_walk (cj p ?_);have j:=I.hok.lt D;have old:∀b o,s.heap.get? b=some o->(s.heap.push {cls:=.type "list_iterator",data:=.fields #[.ref l,.int 0 0]}).get? b=some o:=λb o e=>ag _ e;refine⟨s.1.1.size,_,_,_,_,_,tr,rfl,eS (A:=X.A.in1) U _ l (aM j) f.toArray,?_,?_,λh' tk y=>?_⟩
 ·refine⟨?_,p.at λo e=>old _ o e⟩;exact⟨_,ao _ rfl,rfl,rfl⟩
 ·intro i v s' Q' E' hi N;rw[S i v (by simpa using hi)]
  exact bi N
 ·rw[aD,J];refine⟨.bl k,H,I.kept (λb o e=>y b o ?_ (old b o e)),rfl,q⟩;simp;exact aM (az e)
def HN (o:X.A.handled=none)(u:Gl X "all")(i:X.mg "all"=none)(j:jH X Y a fa)(f:lZ X a:=by exact lS rfl):Snd X Y (.Call (.Name "all" p) [a] [] pos) (lG xv fa):=
 uj (YN o) (λv t B H Q r x q=>by
  cases r with
  |@lst l xs ts h r=>
   have q:Po Y rC B H (match uk ts with|some k=>.ok _|none=>.bad) Q:=q
   split at q
   ·rename_i k e;exact⟨l,xs,ts,k,rfl,h,r,e,lW x q rfl (.bl k)⟩
   ·exact q.elim
  |_=>exact q.elim) u i PyProof.Rows.Boot.«all» j f
end
inductive RS where
 |nx (ρ:En)|rt (t:T)|bk (ρ:En)|ct (ρ:En)|ex (c:Nat)|bad|rf (ts:List T)
noncomputable def R.s {d:Type}(r:R d)(k:d->RS):RS:=match r with
 |.ok a=>k a
 |.ex c=>.ex c
 |.bad=>.bad
def PoS (Y:Fx)(B:Hp)(r:RS)(D:Uq):Prop:=match r with
 |.nx ρ'=>∀σ' d f,zr B f->SI Y f ρ' σ' d->D.nx σ' d
 |.rt t=>∀v d,zr Y.H0 d->Rep (zN Y.B0 Y.H0 d) v t->D.rt v d
 |.bk ρ'=>∀σ' d f,zr B f->SI Y f ρ' σ' d->D.bk σ' d
 |.ct ρ'=>∀σ' d f,zr B f->SI Y f ρ' σ' d->D.ct σ' d
 |.ex c=>XP Y B c
 |.bad=>False
 |.rf ts=>∀a xs d f,zr Y.H0 d->Y.H0 a=none->d a=some (.lst xs)->zK f xs ts->f a=none->zr f (zN Y.B0 Y.H0 d)->D.rt (.ref a) d
def PoS.up {Y:Fx}{B j:Hp}{r:RS}{D:Uq}(s:zr B j)(h:PoS Y B r D):PoS Y j r D:=by
 cases r with
 |nx ρ=>exact λσ' a f i I=>h σ' a f (s.trans i) I
 |bk ρ=>exact λσ' a f i I=>h σ' a f (s.trans i) I
 |ct ρ=>exact λσ' a f i I=>h σ' a f (s.trans i) I
 |rt t=>exact h
 |rf t=>exact h
 |ex c=>exact λd a k l=>h d a k (s.trans l)
 |bad=>exact h
def tSS (Y:Fx)(f:En->RS)(ρ:En):TS:=λD a H=>∃B,SI Y B ρ a H/\PoS Y B (f ρ) D
def tSS.on {Y:Fx}{f:En->RS}{ρ:En}{D:Uq}{a:Sg}{H:Hp}{G:Prop}(k:∀B,SI Y B ρ a H->PoS Y B (f ρ) D->G):tSS Y f ρ D a H->G:=by
 rintro⟨B,I,q⟩;exact k B I q
structure Jf (X:Cx) (Y:Fx) (e:Stmt) (f:En->RS):Prop where
 mk::
 go:∀ρ,PS X e (tSS Y f ρ)
instance {X:Cx}{Y:Fx}{e:Stmt}{f:En->RS}:CoeFun (Jf X Y e f) λ_=>∀ρ,PS X e (tSS Y f ρ):=⟨Jf.go⟩
structure Jn (X:Cx) (Y:Fx) (e:List Stmt) (f:En->RS):Prop where
 mk::
 go:∀ρ,PSs X e (tSS Y f ρ)
instance {X:Cx}{Y:Fx}{e:List Stmt}{f:En->RS}:CoeFun (Jn X Y e f) λ_=>∀ρ,PSs X e (tSS Y f ρ):=⟨Jn.go⟩
def jZ {l o:Type}{Y:Fx}{i:Hp->Hp->o->l->Prop}{f:En->R l}{k:l->RS}{ρ:En}{B:Hp}{j:Sg}{H:Hp}{D:Uq}{K:o->Hp->Prop}
  (I:SI Y B ρ j H) (h:PoS Y B ((f ρ).s k) D)
  (n:∀a b d,f ρ=.ok a->zr H d->i (zN B H d) d b a->SI Y (zN B H d) ρ j d->PoS Y (zN B H d) (k a) D->K b d):tS Y i f ρ j H K:=by
 refine⟨B,I,?_⟩;cases e:f ρ with
 |bad=>rw[e]at h;exact h
 |ex c=>rw[e]at h;exact h
 |ok a=>
  rw[e]at h;exact λb d s r=>n a b d e s r (I.grow s) (PoS.up (zN.ge I.sB s) h)
def zt {a:Type}{xs:List a}{i j:Nat}{x y:a}(h:(xs.set i x)[j]?=some y):(j=i/\y=x)\/(j≠i/\xs[j]?=some y):=by
 by_cases e:j=i
 ·subst e
  by_cases d:j<xs.length
  ·rw[aH d]at h;exact .inl ⟨rfl,(aA h).symm⟩
  ·rw[aU (by rw[aw];lia)]at h;cases h
 ·rw[av (aY e)]at h;exact .inr ⟨e,h⟩
def ul {a:Type}{xs:List a}{i:Nat}{x y:a}(h:(xs.set i x)[i]?=some y):i<xs.length:=by
 by_cases d:i<xs.length
 ·exact d
 ·rw[aU (by rw[aw];lia)]at h;cases h
theorem StI.set {Y:Fx}{B:Hp}{ρ:En}{d:Sg}{H:Hp}{as:List Addr}{O:Addr->Option (Nat×Nat)}(x:StI Y B ρ d H as O)(i:Nat)(s:Sl)(v:Option V)(l:s.isO=false)(k:∀ts,s≠.ow ts):StI Y B (ρ.set i s) (d.set i v) H as O:=
 x.on (λj y hy h=>by
  rcases zt h with ⟨_,e⟩|⟨a,h'⟩
  ·rw[e,l]at hy;cases hy
  ·exact⟨h',av (aY a)⟩) (zr.refl _) rfl rfl (zr.refl _) λb o u p D _=>⟨u,p,D,λok j f h=>by
  rcases zt h with ⟨_,e⟩|⟨a,h'⟩
  ·exact absurd e.symm (k f)
  ·rw[av (aY a)];exact ok j f h'⟩
def SI.setV {Y:Fx}{B:Hp}{ρ:En}{y:Sg}{H:Hp}(I:SI Y B ρ y H)(i:Nat){v:V}{t:T}(r:Rep B v t):SI Y B (ρ.set i (.vl t)) (y.set i (some v)) H where
 s0:=I.s0
 sH:=I.sH
 sB:=I.sB
 old:=I.old
 len:=by rw[aw,aw];exact I.len
 vl:=λj u h=>by
  rcases zt h with ⟨rfl,e⟩|⟨f,h'⟩
  ·cases e;exact⟨v,aH (by rw[←I.len];exact ul h),r⟩
  ·obtain⟨w,e,l⟩:=I.vl j u h';exact⟨w,by rw[av (aY f)];exact e,l⟩
 ow:=λj Q h=>by
  rcases zt h with ⟨rfl,e⟩|⟨f,h'⟩
  ·cases e
  ·obtain⟨a,xs,e,S,U,P,l,d⟩:=I.ow j Q h';refine⟨a,xs,by rw[av (aY f)];exact e,S,U,P,l,λk G D J=>?_⟩
   rcases zt J with ⟨rfl,N⟩|⟨p,o⟩
   ·cases N
   ·rw[av (aY p)];exact d k G D o
 xc:=λj c h=>by
  rcases zt h with ⟨rfl,e⟩|⟨f,h'⟩
  ·cases e
  ·obtain⟨a,e,r⟩:=I.xc j c h';exact⟨a,by rw[av (aY f)];exact e,r⟩
 st:=let ⟨as,O,x⟩:=I.st;⟨as,O,x.set i _ _ rfl (λ_=>Sl.noConfusion)⟩
def SI.newO {Y:Fx}{B:Hp}{ρ:En}{S:Sg}{H:Hp}(I:SI Y B ρ S H)(i:Nat){p:Addr}{xs:List V}{ts:List T}(hp:H p=none)(r:zK B xs ts):SI Y B (ρ.set i (.ow ts)) (S.set i (some (.ref p))) (lf H p (.lst xs)) where
 s0:=I.s0
 sH:=I.sH.trans (zr.new hp _)
 sB:=I.sB.trans (zr.new hp _)
 old:=I.old
 len:=by rw[aw,aw];exact I.len
 vl:=λj u h=>by
  rcases zt h with ⟨rfl,e⟩|⟨f,h'⟩
  ·cases e
  ·obtain⟨w,e,U⟩:=I.vl j u h';exact⟨w,by rw[av (aY f)];exact e,U⟩
 ow:=λj J h=>by
  have Z:∀k l a,ρ[k]?=some (Sl.ow l)->S[k]?=some (some (V.ref a))->a≠p:=λk l a h1 h2=>by
   obtain⟨a',N,e,_,_,X,_⟩:=I.ow k l h1;rw[e]at h2;cases h2;exact zG X hp
  rcases zt h with ⟨rfl,e⟩|⟨f,h'⟩
  ·cases e;refine⟨p,xs,aH (by rw[←I.len];exact ul h),I.sB.free hp,I.sH.free hp,zw,r,λk l Q P=>?_⟩
   rcases zt P with ⟨rfl,e'⟩|⟨D,v⟩
   ·exact absurd rfl Q
   ·rw[av (aY D)];exact λz=>Z k l p v z rfl
  ·obtain⟨a,N,e,b0,h0,X,U,d⟩:=I.ow j J h';refine⟨a,N,by rw[av (aY f)];exact e,b0,h0,by rw[zu (Z j J a h' e)];exact X,U,λk l Q P=>?_⟩
   rcases zt P with ⟨rfl,e'⟩|⟨D,v⟩
   ·rw[aH (by rw[←I.len];exact ul P)]
    intro z;exact Z j J a h' e (by injection z with z;injection z with z;injection z with z;exact z.symm)
   ·rw[av (aY D)];exact d k l Q v
 xc:=λj c h=>by
  rcases zt h with ⟨rfl,e⟩|⟨f,h'⟩
  ·cases e
  ·obtain⟨a,e,r⟩:=I.xc j c h';exact⟨a,by rw[av (aY f)];exact e,r⟩
 st:=by
  obtain⟨as,O,x⟩:=I.st;refine⟨as,O,x.on (λj y hy h=>?_) (zr.refl _) rfl rfl (zr.refl _) λb o hb b0 h0 _=>?_⟩
  ·rcases zt h with ⟨_,e⟩|⟨f,h'⟩
   ·subst e;cases hy
   ·exact⟨h',av (aY f)⟩
  ·have G:b≠p:=zG hb hp;refine⟨by rw[zu G];exact hb,b0,h0,λok j J h=>?_⟩
   rcases zt h with ⟨rfl,e⟩|⟨f,h'⟩
   ·rw[aH (by rw[←I.len];exact ul h)]
    intro z;injection z with z;injection z with z;injection z with z;exact G z.symm
   ·rw[av (aY f)];exact ok j J h'
def SI.chg {Y:Fx}{B:Hp}{ρ:En}{P:Sg}{H:Hp}(I:SI Y B ρ P H)(i:Nat){p:Addr}{ts G:List T}{Q:List V}(hi:ρ[i]?=some (.ow ts))(v:P[i]?=some (some (.ref p)))(r:zK B Q G):SI Y B (ρ.set i (.ow G)) P (lf H p (.lst Q)):=by
 obtain⟨p',xs,e,b0,h0,hh,rr,d⟩:=I.ow i ts hi;rw[v]at e;cases e;have nb:∀b o,B b=some o->b≠p:=λb o h z=>by subst z;rw[b0]at h;cases h
 have n0:∀b o,Y.H0 b=some o->b≠p:=λb o h z=>by subst z;rw[h0]at h;cases h
 refine⟨I.s0,λb o h=>by rw[zu (n0 b o h)];exact I.sH b o h,λb o h=>by rw[zu (nb b o h)];exact I.sB b o h,I.old,by rw[aw];exact I.len,λj u h=>?_,λj ws h=>?_,λj c h=>?_,?_⟩
 rotate_right
 ·obtain⟨as,O,x⟩:=I.st;refine⟨as,O,x.on (λj y hy h=>?_) (zr.refl _) rfl rfl (zr.refl _) λb o hb X U cs=>?_⟩
  ·rcases zt h with ⟨_,e⟩|⟨D,h'⟩
   ·subst e;cases hy
   ·exact⟨h',rfl⟩
  ·have f:b≠p:=λz=>by
    subst z;rcases cs with ⟨C,dx,vs,ez⟩|ok
    ·rw[hh]at hb;cases hb;cases ez
    ·exact ok i ts hi v
   refine⟨by rw[zu f];exact hb,X,U,λok j G h=>?_⟩
   rcases zt h with ⟨rfl,e⟩|⟨D,h'⟩
   ·rw[v];intro z;injection z with z;injection z with z;injection z with z;exact f z.symm
   ·exact ok j G h'
 rotate_right
 ·rcases zt h with ⟨rfl,z⟩|⟨D,h'⟩
  ·cases z
  ·exact I.xc j c h'
 ·rcases zt h with ⟨rfl,z⟩|⟨D,h'⟩
  ·cases z
  ·exact I.vl j u h'
 ·rcases zt h with ⟨rfl,z⟩|⟨D,h'⟩
  ·cases z;refine⟨p,Q,v,b0,h0,zw,r,λk vs J N=>?_⟩;rcases zt N with ⟨rfl,e'⟩|⟨Z,l⟩
   ·exact absurd rfl J
   ·exact d k vs J l
  ·obtain⟨a,S,e,c0,g0,gg,ss,d'⟩:=I.ow j ws h';have f:a≠p:=λz=>by subst z;exact d j ws D h' e
   refine⟨a,S,e,c0,g0,by rw[zu f];exact gg,ss,λk vs J N=>?_⟩
   rcases zt N with ⟨rfl,e'⟩|⟨Z,l⟩
   ·rw[v];intro z;injection z with z;injection z with z;injection z with z;exact f z.symm
   ·exact d' k vs J l
noncomputable def AJ:Sl->Sl
 |.ow ts=>.vl (.lst ts)
 |.ob _ _=>.un
 |.st _=>.un
 |x=>x
def frz (ρ:En):En:=ρ.map AJ
def SI.up {Y:Fx}{B:Hp}{ρ:En}{a:Sg}{H:Hp}(I:SI Y B ρ a H):zr B (zN B Y.H0 H):=λb o h=>by
 cases q:Y.H0 b with
 |none=>rw[zD q];exact I.sB b o h
 |some u=>rw[zL q];exact h
theorem SI.frz {Y:Fx}{B:Hp}{ρ:En}{l:Sg}{H:Hp}(I:SI Y B ρ l H):SI Y (zN B Y.H0 H) (PV.frz ρ) l H:=by
 have up:zr B (zN B _ H):=λb o h=>by
  cases q:Y.H0 b with
  |none=>rw[zD q];exact I.sB b o h
  |some u=>rw[zL q];exact h
 refine⟨I.s0,I.sH,λb o h=>?_,λb o h=>by rw[zL h];exact I.old b o h,by unfold PV.frz;rw[ah];exact I.len,λj t h=>?_,λj ts h=>?_,λj c h=>?_,?_⟩
 rotate_right
 ·have no:∀(j:Nat) (y:Sl),y.isS=true->(PV.frz ρ)[j]?≠some y:=λj y hy h=>by
   unfold PV.frz at h;rw[aj]at h;cases e:ρ[j]? with
   |none=>rw[e]at h;cases h
   |some x=>rw[e]at h;cases x<;>(cases h;cases hy)
  obtain⟨as,O,x⟩:=I.st;refine⟨Y.as,λ_=>none,cJ _,λi os e=>(no i _ rfl e).elim,λi j os U e=>(no i _ rfl e).elim,λi k n e=>(no i _ rfl e).elim,λi k fs h=>?_,λi os e=>(no i _ rfl e).elim⟩;have h':ρ[i]?=some (Sl.oc k fs):=by
   unfold PV.frz at h;rw[aj]at h;cases e:ρ[i]? with
   |none=>rw[e]at h;cases h
   |some x=>rw[e]at h;cases x<;>(cases h;try rfl)
  obtain⟨a,C,G,vs,f,D,P,Q,J⟩:=x.oc i k fs h';exact⟨a,C,G,vs,f,D,P,Q,J.mono up (zr.refl _)⟩
 rotate_right
 ·unfold PV.frz at h;rw[aj]at h;cases e:ρ[j]? with
  |none=>rw[e]at h;cases h
  |some x=>
   rw[e]at h;cases x with
   |xc d=>
    cases h;obtain⟨a,f,r⟩:=I.xc j _ e;exact⟨a,f,up a _ r⟩
   |un=>cases h
   |vl _=>cases h
   |ow _=>cases h
   |ob _ _=>cases h
   |oc _ _=>cases h
   |st _=>cases h
 ·cases q:Y.H0 b with
  |none=>rw[zD q]at h;exact h
  |some u=>rw[zL q]at h;exact I.sB b o h
 ·unfold PV.frz at h;rw[aj]at h;cases e:ρ[j]? with
  |none=>rw[e]at h;cases h
  |some x=>
   rw[e]at h;cases x with
   |un=>cases h
   |vl u=>
    cases h;obtain⟨v,f,r⟩:=I.vl j _ e;exact⟨v,f,r.mono up⟩
   |ow p=>
    cases h;obtain⟨a,xs,f,Z,X,S,N,_⟩:=I.ow j p e;exact⟨.ref a,f,.lst (by rw[zD X];exact S) (N.mono up)⟩
   |xc _=>cases h
   |ob _ _=>cases h
   |oc _ _=>cases h
   |st _=>cases h
 ·unfold PV.frz at h;rw[aj]at h;cases e:ρ[j]? with
  |none=>rw[e]at h;cases h
  |some x=>
   rw[e]at h;cases x with
   |un=>cases h
   |vl u=>cases h
   |ow p=>cases h
   |xc _=>cases h
   |ob _ _=>cases h
   |oc _ _=>cases h
   |st _=>cases h
def YO {Y:Fx}{B H a:Hp}(d:zr Y.H0 H)(old:∀b o,Y.H0 b=some o->B b=Y.B0 b)(s:zr H a)(f:zr B H):zr (zN B H a) (zN Y.B0 Y.H0 a):=λb o h=>by
 cases q:H b with
 |none=>
  rw[zD q]at h;rw[zD (d.free q)];exact h
 |some u=>
  rw[zL q]at h;cases z:Y.H0 b with
  |none=>rw[zD z];exact s b o (f b o h)
  |some w=>rw[zL z,←old b w z];exact h
section
variable {X:Cx}{Y:Fx}{a b c d:Expr}{fa fb fc fd:En->R T}{pos p:Pos}{st:Stmt}{sts sts':List Stmt}{f g:En->RS}
def lL:En->RS:=λρ=>.nx ρ
def zA (f g:En->RS):En->RS:=λρ=>match f ρ with
 |.nx ρ'=>g ρ'
 |r=>r
def E4:Jn X Y [] lL:=.mk λρ=>PSs.imp Yd λD i H=>tSS.on λB I q=>q i H B (zr.refl B) I
def Ih (h:Jf X Y st f):Jn X Y [st] f:=.mk λρ=>jR (h ρ)
def Gf (v:Jf X Y st f)(k:Jn X Y sts g):Jn X Y (st::sts) (zA f g):=.mk λρ=>by
 refine PSs.imp (jy (u:=λD i H=>∃ρ',tSS Y g ρ' D i H) (v ρ) ?_) ?_
 ·rintro j s i H D I ⟨ρ',q⟩
  exact k ρ' _ s i H D I q
 ·rintro D i H ⟨B,I,q⟩
  refine⟨B,I,?_⟩;unfold zA at q;cases e:f ρ with
  |nx ρ'=>
   rw[e]at q;intro σ' y l o x;exact⟨ρ',l,x,PoS.up o q⟩
  |rt t=>rw[e]at q;exact q
  |rf t=>rw[e]at q;exact q
  |bk ρ'=>rw[e]at q;exact q
  |ct ρ'=>rw[e]at q;exact q
  |ex c=>rw[e]at q;exact q
  |bad=>rw[e]at q;exact q
def zY (i:Nat)(fa:En->R T):En->RS:=λρ=>(fa ρ).s λt=>.nx (ρ.set i (.vl t))
def Gg {i:Nat}{x:Str}{j:Pos}(G:X.N.Nodup)(hi:X.N[i]?=some x)(o:L2.Loc X.env.scope x)(y:Snd X Y a fa)(l:swapsWith a (some (.Name x j)) pos.line X.env=pure false:=by rfl)
  (J:X.fn x=true\/X.env.scope.names.lookup x=some .local:=by first|exact .inl rfl|exact .inr rfl|assumption):Jf X Y (.Assign [.Name x j] a pos) (zY i fa):=.mk λρ=>
 PS.imp (WY G hi o (y ρ) l J) λD U H=>tSS.on λB I q=>jZ I q λt v S _ Q k u P=>P _ _ _ (zr.refl _) (u.setV i k)
def WW (i:Nat)(j:En->R (List T)):En->RS:=λρ=>(j ρ).s λts=>if ts.length<=lM then .nx (ρ.set i (.ow ts))else .bad
def Gh {i:Nat}{x:Str}{o:Pos}{j:List Expr}{u:En->R (List T)}(Q:X.N.Nodup)(hi:X.N[i]?=some x)(y:L2.Loc X.env.scope x)(P:JN X Y j u)(v:swapsWith (.List j p) (some (.Name x o)) pos.line X.env=pure false:=by rfl)
  (S:X.fn x=true\/X.env.scope.names.lookup x=some .local:=by first|exact .inl rfl|exact .inr rfl|assumption):Jf X Y (.Assign [.Name x o] (.List j p) pos) (WW i u):=.mk λρ=>
 PS.imp (WY Q hi y (u6 (P ρ)) v S) λD σ H=>tSS.on λB I q=>jZ I q λts vs Z _ U l J k=>by
  split at k
  ·rename_i G;exact⟨by rw[l.length];exact Zy G,λp hp=>k _ _ _ (zr.refl _) (J.newO i hp l)⟩
  ·exact k.elim
def zJ (fa:En->R T):En->RS:=λρ=>(fa (frz ρ)).s λt=>.rt t
def E2 (k:Snd X Y a fa):Jf X Y (.Return (some a) pos) (zJ fa):=.mk λρ=>
 PS.imp (JC (k _)) λD o H=>tSS.on λB I q=>by
  refine⟨_,I.frz,?_⟩;unfold zJ at q;cases e:fa _ with
  |bad=>rw[e]at q;exact q
  |ex c=>
   rw[e]at q;exact λd i l j=>q d i l (I.up.trans j)
  |ok t=>
   rw[e]at q;intro v i s r;have J:=I.frz;exact q v i (I.sH.trans s) (r.mono (YO J.sH J.old s J.sB))
def lK (g:En->R Bool)(j i:En->RS):En->RS:=λρ=>(g ρ).s λk=>if k=true then j ρ else i ρ
def DF {j:En->R Bool}(y:Wt X Y c j)(x:Jn X Y sts f)(u:Jn X Y sts' g):Jf X Y (.If c sts sts' pos) (lK j f g):=.mk λρ=>
 PS.imp (Hx (y ρ) (x ρ) (u ρ)) λD J H=>tSS.on λB I q=>jZ I q λt v G _ N o k l=>by
  have i:=o;subst i;cases v with
  |true=>exact⟨_,k,l⟩
  |false=>exact⟨_,k,l⟩
def ZR (fa:En->R T):En->RS:=λρ=>(fa ρ).s λ_=>.nx ρ
def Gi (k:Snd X Y a fa)(i:swapsWith a none pos.line X.env=pure false:=by rfl):Jf X Y (.Expr a pos) (ZR fa):=.mk λρ=>
 PS.imp (Jh (k ρ) i) λD x H=>tSS.on λB I q=>jZ I q λt v u _ y o j l=>l _ _ _ (zr.refl _) j
def UA (i:Nat)(fa:En->R T):En->RS:=λρ=>match ρ[i]? with
 |some (.ow ts)=>(fa ρ).s λt=>if ts.length<lM then .nx (ρ.set i (.ow (ts++[t])))else .bad
 |_=>.bad
def YQ (i:Nat)(fa:En->R T):En->RS:=λρ=>match ρ[i]? with
 |some (.ow ts)=>(fa ρ).s λt=>match t with
  |.lst j=>if ts.length+j.length<=lM then .nx (ρ.set i (.ow (ts++j)))else .bad
  |_=>.bad
 |_=>.bad
def xw {n:Nat}(h:n<lM):n<sizeLine:=by exact h
def F8 {i:Nat}{x:Str}{j G:Pos}(S:PE X (.Name x j) (Jg i))(ha:Snd X Y a fa)(y:attributeBase (.Name x j) "append" X.env (eval (.Name x j) X.env)=eval (.Name x j) X.env:=by rfl)(o:lZ X a:=by exact lS rfl)
  (Z:(G.endLine==p.line)=true:=by rfl) (U:swapsWith (.Call (.Attribute (.Name x j) "append" G) [a] [] p) none pos.line X.env=pure false:=by rfl):Jf X Y (.Expr (.Call (.Attribute (.Name x j) "append" G) [a] [] p) pos) (UA i fa):=.mk λρ=>by
 have k:(((((backTo p (starEach [a] X.env)).all λx=> !x.fst)&&(backToKw p (keywordEach [] X.env)).all λx=>x.fst.isSome)&&decide (([a].length+([]:List Keyword).length+if ([]:List Keyword).isEmpty=true then 0 else 1)<30))=true):=by rw[o];rfl
 refine PS.imp (Jh (yE bV f9 fg wm S (zB (ha ρ) zT o) y k Z o rfl) U) λD σ H=>tSS.on λB I q=>?_;unfold UA at q;split at q
 ·rename_i ts e;obtain⟨l,xs,k,b0,h0,N,J,d⟩:=I.ow i ts e;refine⟨.ref l,k,.inl ⟨rfl,_,SqL.of N⟩,?_⟩;refine jZ I q λt v H1 _ P Q I1 u=>?_;split at u
  ·rename_i y;refine⟨l,xs,v,rfl,rfl,P _ _ N,by rw[J.length];exact xw y,?_⟩
   exact u _ _ _ (zr.refl _) (I1.chg i e k ((J.mono (zN.ge I.sB P)).append (.cons Q .nil)))
  ·exact u.elim
 ·exact q.elim
def E5 {i:Nat}{x:Str}{k G:Pos}(U:PE X (.Name x k) (Jg i))(ha:Snd X Y a fa)(y:attributeBase (.Name x k) "extend" X.env (eval (.Name x k) X.env)=eval (.Name x k) X.env:=by rfl)(u:lZ X a:=by exact lS rfl)
  (hz:(G.endLine==p.line)=true:=by rfl) (Z:swapsWith (.Call (.Attribute (.Name x k) "extend" G) [a] [] p) none pos.line X.env=pure false:=by rfl):Jf X Y (.Expr (.Call (.Attribute (.Name x k) "extend" G) [a] [] p) pos) (YQ i fa):=.mk λρ=>by
 have o:(((((backTo p (starEach [a] X.env)).all λx=> !x.fst)&&(backToKw p (keywordEach [] X.env)).all λx=>x.fst.isSome)&&decide (([a].length+([]:List Keyword).length+if ([]:List Keyword).isEmpty=true then 0 else 1)<30))=true):=by rw[u];rfl
 refine PS.imp (Jh (yE bV PySem.F.slot_list_extend PySem.F.type_list_extend Yx U (zB (ha ρ) zT u) y o hz u rfl) Z) λD σ H=>tSS.on λB I q=>?_;unfold YQ at q;split at q
 ·rename_i ts e;obtain⟨l,xs,o,b0,h0,N,J,d⟩:=I.ow i ts e;refine⟨.ref l,o,.inl ⟨rfl,_,SqL.of N⟩,?_⟩;refine jZ I q λt v H1 _ Q S P j=>?_;cases S with
  |@lst b zs us y r=>
   have j:PoS Y _ (if ts.length+us.length<=lM then .nx _ else .bad) D:=j
   split at j
   ·rename_i hl;refine⟨l,b,xs,zs,rfl,rfl,Q _ _ N,P.sB _ _ y,by rw[J.length,r.length];exact Zy hl,?_⟩
    exact j _ _ _ (zr.refl _) (P.chg i e o ((J.mono (zN.ge I.sB Q)).append r))
   ·exact j.elim
  |_=>exact j.elim
 ·exact q.elim
end
def spP (cl:Nat->Value)(n:Nat)(g:List T->R T):Sp:=λvs H Q E=>∃B ts,ts.length=n/\zr B H/\zK B vs ts/\Po ⟨B,H,E,cl,[]⟩ rC B H (g ts) Q
def spP.len {cl:Nat->Value}{n:Nat}{g:List T->R T}(vs:List V)(H:Hp)(Q:VK)(E:XK)(h:spP cl n g vs H Q E):vs.length=n:=by
 obtain⟨B,ts,a,_,r,_⟩:=h;rw[r.length,a]
def za (n:Nat)(g:List T->R T)(a:En->R (List T)):En->R T:=λρ=>(a ρ).bind λts=>if ts.length=n then g ts else .bad
section
variable {X:Cx}{Y:Fx}{a b c d:Expr}{fa fb fc fd:En->R T}{pos p:Pos}
def xx {CX:mP}{k n:Nat}{f:Addr}{fd:FuncData}{l:List Str}{g:List T->R T}{x:Str}{j:List Expr}{o:En->R (List T)}(F:ZX X.prog X.w X.K X.mg X.base CX k f fd l (spP Y.cl n g))(hr:Ze k X.A)(S:Gl X x)(G:X.mg x=some (.ref f))
  (kp:bx X.K (.ref f)=true) (bd:L2.Binds X.K fd l []) (D:zS CX X Y.E) (P:JN X Y (a::j) o) (hd:(x==("__debug__":Str))=false:=by decide)
  (y:starEach (a::j) X.env=(false,eval a X.env)::starEach j X.env:=by exact zC rfl) (J:((backTo pos (starEach j X.env)).any λx=>x.fst)=false:=by exact zX rfl):Snd X Y (.Call (.Name x p) (a::j) [] pos) (za n g o):=.mk λρ=>
 PE.imp (Jj F hr S G kp bd .nil D (P ρ) hd y J) λσ H Q=>tS.on λB I q=>step I q λts vs Z _ s1 v u i=>by
  split at i
  ·rename_i hn;rw[aW];refine⟨_,ts,hn,u.sB,v,?_⟩;revert i;cases g ts with
   |bad=>exact λi=>i
   |ex c=>exact λi d N s U=>i d N (u.sH.trans s) U
   |ok t=>exact λi=>i
  ·exact i.elim
end
noncomputable def zx:RS->R T
 |.rt t=>.ok t
 |.rf ts=>.ok (.lst ts)
 |.nx _=>.ok .non
 |.ex c=>.ex c
 |_=>.bad
def i4 (n:Nat)(ts:List T):En:=ts.map Sl.vl++ac (n-ts.length) Sl.un
theorem zK.vl {H:Hp}:∀{vs:List V} {ts:List T} {i:Nat} {t:T} {n m:Nat},zK H vs ts->(ts.map Sl.vl++ac n Sl.un)[i]?=some (Sl.vl t)->∃v:V,(vs.map some++ac m none)[i]?=some (some v)/\Rep H v t
 |_,_,i,t,n,m,.nil,h=>by
  simp only[ce,ck]at h;rw[aF]at h;split at h
  ·cases h
  ·cases h
 |_,_,0,t,n,m,.cons r _,h=>by
  simp at h;subst h;exact⟨_,rfl,r⟩
 |_,_,i+1,t,n,m,.cons _ q,h=>by
  obtain⟨v,d,a⟩:=zK.vl q (by simpa using h)
  exact⟨v,by simpa using d,a⟩
theorem xy {n:Nat}:∀{ts:List T} {i:Nat} {a:List T},(ts.map Sl.vl++ac n Sl.un)[i]?=some (Sl.ow a)->False
 |[],i,a,h=>by
  simp only[ce,ck]at h;rw[aF]at h;split at h
  ·cases h
  ·cases h
 |t::ts,0,a,h=>by simp at h
 |t::ts,i+1,a,h=>xy (by simpa using h)
theorem xz {n:Nat}:∀{ts:List T} {i:Nat} {c:Nat},(ts.map Sl.vl++ac n Sl.un)[i]?=some (Sl.xc c)->False
 |[],i,a,h=>by
  simp only[ce,ck]at h;rw[aF]at h;split at h
  ·cases h
  ·cases h
 |t::ts,0,a,h=>by simp at h
 |t::ts,i+1,a,h=>xz (by simpa using h)
theorem U2 {n:Nat}{x:Sl}(d:∀t,x≠.vl t)(a:x≠.un):∀{ts:List T} {i:Nat},(ts.map Sl.vl++ac n Sl.un)[i]?=some x->False
 |[],i,h=>by
  simp only[ce,ck]at h;rw[aF]at h;split at h
  ·exact a (aA h).symm
  ·cases h
 |t::ts,0,h=>d t (aA (by simpa using h)).symm
 |t::ts,i+1,h=>U2 d a (by simpa using h)
theorem SI.start {Y:Fx}{N:List Str}{vs:List V}{ts:List T}(s:zr Y.B0 Y.H0)(r:zK Y.B0 vs ts):SI Y Y.B0 (i4 N.length ts) (L2.start N vs) Y.H0 where
 s0:=s
 sH:=zr.refl _
 sB:=s
 old:=λ_ _ _=>rfl
 len:=by unfold i4 L2.start;simp[r.length]
 vl:=λi t h=>r.vl h
 ow:=λi ts h=>(xy h).elim
 xc:=λi c h=>(xz h).elim
 st:=StI.no λi s a h=>U2 (λt z=>by rw[z]at a;cases a) (λz=>by rw[z]at a;cases a) h
section
variable {P:Program}{w:World}{K:aa}{mg:Str->Option Value}{base:Heap}
def Hi {cl:Nat->Value}{x d:Str}{st:Stmt}{f:Addr}{p:FuncData}{N j:List Str}{k n:Nat}{o:En->RS}{g:List T->R T}(F:Fun K x d st f p)(S:Zk N j (zq st))(hn:n=j.length)
  (U:∀(cdv:Value) (A:Around) (outer:List Env) (s:Shared) (H:Hp) (E:XK) (Y:Fx),Y.cl=cl->Ze k (A.deeper (envOfC d (zq st) s.1.1.size f cdv))->
   Jn (jc mM P w K mg base N d (zq st) f cdv A outer s H E).nox Y (zH st) o)
  (u:∀ts,ts.length=n->g ts=zx (o (i4 N.length ts))):ZX P w K mg base mM (k+1) f p j (spP cl n g):=by
 subst hn;refine F.ok S spP.len λcdv A outer s H vs Q E hr J=>?_;obtain⟨B,ts,G,X,r,q⟩:=J;refine⟨_,U cdv A _ s H E ⟨B,H,E,cl,[]⟩ rfl hr _,B,SI.start X r,?_⟩;rw[u ts G]at q;revert q;cases o _ with
 |rt t=>exact λq v i s r=>q v i s r
 |rf t=>exact λq a xs i y D n e r _ l=>q _ i D (.lst (by rw[zD n];exact e) (r.mono l))
 |nx ρ=>exact λq σ' i y _ I=>q _ i I.sH .non
 |ex c=>exact λq=>q
 |bk ρ=>exact λq=>q.elim
 |ct ρ=>exact λq=>q.elim
 |bad=>exact λq=>q
end
abbrev rI:Hp->Hp->It->List T->Prop:=λB1 _ J ts=>∀B2 H2,zr B1 B2->zr B2 H2->(∀i,i<ts.length->J.go i H2)/\(∀(i:Nat) t x H3,ts[i]?=some t->J.yld i H2 x H3->zr H2 H3/\Rep (zN B2 H2 H3) x t)/\(∀i,ts.length<=i->J.stop i H2)
structure U3 (X:Cx) (Y:Fx) (tg iter:Expr) (f:En->R (List T)):Prop where
 mk::
 go:∀ρ,PI X tg iter (tS Y rI f ρ)
instance {X:Cx}{Y:Fx}{tg iter:Expr}{f:En->R (List T)}:CoeFun (U3 X Y tg iter f) λ_=>∀ρ,PI X tg iter (tS Y rI f ρ):=⟨U3.go⟩
section
variable {X:Cx}{Y:Fx}{a b c d tg:Expr}{fa fb fc fd:En->R T}{pos p:Pos}
def PI.imp {e:Expr}{t t':TI}(h:PI X tg e t)(i:∀f H Q,t' f H Q->t f H Q):PI X tg e t':=λj s f H Q I q=>h _ s f H Q I (i f H Q q)
def Gj {K:aa}{j B:Hp}{a:Addr}{xs:List V}{ts:List T}(h:j a=some (.tup xs))(r:zK j xs ts):rI j B (Bo K a) ts:=λu G l k=>by
 have f:=k _ _ (l _ _ h);refine⟨λi hi=>?_,λi t x H3 e y=>?_,λi hi=>⟨xs,SqT.of f,by rw[r.length];exact hi⟩⟩
 ·obtain⟨v,e,_⟩:=r.get (am hi);exact⟨xs,v,SqT.of f,e⟩
 ·obtain⟨rfl,y⟩:=y;obtain⟨v,D,o⟩:=r.get e;have:=y xs (SqT.of f);rw[D]at this;cases this;refine⟨zr.refl _,?_⟩;rw[zN.self u _ k];exact o.mono l
def Gk {K:aa}{j B:Hp}{a:Addr}{xs:List V}{ts:List T}(h:j a=some (.lst xs))(r:zK j xs ts):rI j B (tT K a) ts:=λu G l k=>by
 have f:=k _ _ (l _ _ h);refine⟨λi hi=>?_,λi t x H3 e y=>?_,λi hi=>⟨xs,SqL.of f,by rw[r.length];exact hi⟩⟩
 ·obtain⟨v,e,_⟩:=r.get (am hi);exact⟨xs,v,SqL.of f,e⟩
 ·obtain⟨rfl,y⟩:=y;obtain⟨v,D,o⟩:=r.get e;have:=y xs (SqL.of f);rw[D]at this;cases this;refine⟨zr.refl _,?_⟩;rw[zN.self u _ k];exact o.mono l
noncomputable def rng (lo:Int)(n:Nat):List T:=(aZ n).map λ(i:Nat)=>T.int (lo+(i:Int))
def xA {k j:Hp}{lo:Int}{n:Nat}:rI k j (pK lo n) (rng lo n):=λl o v u=>by
 have f:(rng lo n).length=n:=by unfold rng;simp
 refine⟨λi hi=>by rw[f]at hi;exact hi,λi t x H3 e y=>?_,λi hi=>by rw[f]at hi;exact hi⟩
 obtain⟨rfl,rfl⟩:=y;refine⟨zr.refl _,?_⟩;unfold rng at e;rw[aj]at e
 by_cases hi:i<n
 ·rw[cI hi]at e;cases e;exact .int _
 ·rw[aU (by simp;lia)]at e;cases e
def Zl (fa:En->R T):En->R (List T):=λρ=>(fa ρ).bind λt=>match t with
 |.int j=>if-1000000<j/\j<1000000 then .ok (rng 0 j.toNat)else .bad
 |_=>.bad
def JP (fa fb:En->R T):En->R (List T):=λρ=>(fa ρ).bind λt=>(fb ρ).bind λt'=>match t,t' with
 |.int i,.int j=>if-1000000<i/\i<1000000/\ -1000000<j/\j<1000000 then .ok (rng i (j-i).toNat)else .bad
 |_,_=>.bad
def Gm (o:Gl X "range")(u:X.mg "range"=none)(y:Snd X Y a fa)(i:lZ X a:=by exact lS rfl):U3 X Y tg (.Call (.Name "range" p) [a] [] pos) (Zl fa):=.mk λρ=>PI.imp (Yh o u (zB (y ρ) zT i) i) λD H R=>tS.on λB I q=>step I q λt v l _ G k x f=>by
 cases k with
 |int j=>
  have f:Po Y rI _ l (if-1000000<j/\j<1000000 then .ok _ else .bad) R:=f
  split at f
  ·exact⟨j,rfl,by lia,by lia,ZC x f xA⟩
  ·exact f.elim
 |_=>exact f.elim
def Gn (x:Gl X "range")(D:X.mg "range"=none)(J:Snd X Y a fa)(y:Snd X Y b fb)(l:starEach [a,b] X.env=[(false,eval a X.env),(false,eval b X.env)]:=by exact mJ rfl rfl)(k:lZ X b:=by exact lS rfl):U3 X Y tg (.Call (.Name "range" p) [a,b] [] pos) (JP fa fb):=.mk λρ=>
 PI.imp (Yi x D (zB (J ρ) (zB (y ρ) zT k) (by rw[l,k])) l k) λZ H R=>tS.on λB I q=>step I q λt v U _ s1 u G Q=>step G Q λt' S N _ s2 o P f=>by
  cases u with
  |int i=>
   cases o with
   |int j=>
    have f:Po Y rI _ N (if-1000000<i/\i<1000000/\ -1000000<j/\j<1000000 then .ok _ else .bad) R:=f
    split at f
    ·exact⟨i,j,rfl,⟨by lia,by lia,by lia,by lia⟩,ZC P f xA⟩
    ·exact f.elim
   |_=>exact f.elim
  |_=>cases o<;>exact f.elim
def Go (X:Cx)(Y:Fx)(tg:Expr)(g:T->En->R En):Prop:=∃t:TG,PG X tg t/\∀B ρ f H v x Q,SI Y B ρ f H->Rep B v x->(match g x ρ with|.ok ρ'=>∀σ',SI Y B ρ' σ' H->Q σ' H|_=>False)->t v f H Q
def zW (i:Nat):T->En->R En:=λt ρ=>.ok (ρ.set i (.vl t))
def xB {i:Nat}{x:Str}(j:X.N.Nodup)(hi:X.N[i]?=some x)(f:L2.Loc X.env.scope x)(k:X.fn x=true\/X.env.scope.names.lookup x=some .local:=by first|exact .inl rfl|exact .inr rfl|assumption):Go X Y (.Name x pos) (zW i):=
 ⟨wf i,jd j hi f k,λB ρ l H v x Q I r q=>q _ (I.setV i r)⟩
def Zb (i j:Nat):T->En->R En:=λt ρ=>match t with
 |.tup [x,y]=>.ok ((ρ.set i (.vl x)).set j (.vl y))
 |_=>.bad
def xC {i j:Nat}{x y:Str}{p' Z:Pos}{k:Nat}(G:X.calm=true)(u:X.N.Nodup)(hi:X.N[i]?=some x)(S:X.N[j]?=some y)(P:L2.Loc X.env.scope x)(hy:L2.Loc X.env.scope y)
  (U:X.fn x=true\/X.env.scope.names.lookup x=some .local:=by first|exact .inl rfl|exact .inr rfl|assumption) (f:X.fn y=true\/X.env.scope.names.lookup y=some .local:=by first|exact .inl rfl|exact .inr rfl|assumption):
  Go X Y (.Tuple [.Name x pos,.Name y p'] k Z) (Zb i j):=by
 refine⟨tP X.K 2 _,xg G (JR (jd u hi P U) (JR (jd u S hy f) Yf)),λB ρ σ H v t Q I r q=>?_⟩;cases r with
 |@tup l xs ts h r=>
  cases r with
  |nil=>exact q.elim
  |cons D o=>
   cases o with
   |nil=>exact q.elim
   |cons J o=>
    cases o with
    |cons _ _=>exact q.elim
    |nil=>
     exact⟨l,_,rfl,SqT.of (I.sB _ _ h),rfl,_,_,rfl,_,_,rfl,rfl,q _ ((I.setV i D).setV j J)⟩
 |_=>exact q.elim
def ZK (g:T->En->R En)(fb:En->RS):List T->En->RS
 |[],ρ=>.nx ρ
 |t::ts,ρ=>match g t ρ with
  |.ok i=>match fb i with
   |.nx f=>ZK g fb ts f
   |.ct f=>ZK g fb ts f
   |.bk f=>.nx f
   |r=>r
  |.ex c=>.bad
  |.bad=>.bad
def jM (fi:En->R (List T))(g:T->En->R En)(fb:En->RS):En->RS:=λρ=>(fi ρ).s λts=>ZK g fb ts ρ
def Gp {iter:Expr}{G:List Stmt}{fi:En->R (List T)}{g:T->En->R En}{fb:En->RS}(hp:PassesOwn 05 X.A X.env X.xe)(hc:X.calm=true)(hi:U3 X Y tg iter fi)(hg:Go X Y tg g)(hb:Jn X Y G fb)
  (hs:∀x,foldedSetIterable iter X.env x=pure x:=by intro _;rfl):Jf X Y (.For tg iter G [] pos) (jM fi g fb):=.mk λρ=>by
 obtain⟨tG,hG,hG'⟩:=hg;refine PS.imp (xi (tb:=λD σ H=>∃ρ',tSS Y fb ρ' D σ H) hp hc (hi ρ) hG (λpins s σ H D I ⟨ρ',q⟩=>hb ρ' _ s σ H D I q) hs) λD σ H=>tSS.on λB I q=>?_;refine jZ I q λts J H1 _ s1 r1 I1 q1=>?_;refine⟨λi m σ' H'=>m=ts.length-i/\i<=ts.length/\∃ρ' u,SI Y u ρ' σ' H'/\zr _ u/\PoS Y u (ZK g fb (ts.drop i) ρ') D,⟨ts.length,by simp,bu _,ρ,_,I1,zr.refl _,q1⟩,?_⟩
 rintro i m σ' H' ⟨rfl,hi,ρ',u,I',v,k⟩
 obtain⟨hgo,U,o⟩:=r1 u H' v I'.sB
 by_cases l:i<ts.length
 ·refine .inr ⟨hgo i l,λN Q=>∃j Z,SI Y Z j N Q/\zr _ Z/\PoS Y Z _ D,λN Q ⟨j,Z,I2,S,f⟩=>⟨ts.length-(i+1),by lia,rfl,l,j,Z,I2,S,f⟩,λx Q y=>?_⟩
  obtain⟨S,r2⟩:=U i _ x Q (am l) y;rw[eX l]at k;unfold ZK at k;refine hG' _ ρ' σ' Q x _ _ (I'.grow S) r2 ?_;cases eg:g _ ρ' with
  |bad=>rw[eg]at k;exact k
  |ex c=>rw[eg]at k;exact k
  |ok ρ1=>
   rw[eg]at k;intro σ1 J1;refine⟨ρ1,_,J1,?_⟩;have f:=PoS.up (zN.ge I'.sB S) k;dsimp only at f;have s3:=v.trans (zN.ge I'.sB S);revert f;cases fb ρ1 with
   |nx j=>exact λf σ3 H3 B3 P I3=>⟨j,B3,I3,s3.trans P,PoS.up P f⟩
   |ct j=>exact λf σ3 H3 B3 P I3=>⟨j,B3,I3,s3.trans P,PoS.up P f⟩
   |bk j=>exact λf=>f
   |rt t=>exact λf=>f
   |rf t=>exact λf=>f
   |ex c=>exact λf=>f
   |bad=>exact λf=>f
 ·have e:i=ts.length:=by lia
  subst e;rw[iX]at k;exact .inl ⟨o _ (ar _),k σ' H' u (zr.refl _) I'⟩
def ZA (g:En->R Bool)(fb:En->RS):Nat->En->RS
 |0,_=>.bad
 |n+1,ρ=>(g ρ).s λk=>if k=true then match fb ρ with
   |.nx f=>ZA g fb n f
   |.ct f=>ZA g fb n f
   |.bk f=>.nx f
   |r=>r
  else .nx ρ
def YR {n:Nat}{l:List Stmt}{u:En->R Bool}{fb:En->RS}(hp:PassesOwn 05 X.A X.env X.xe)(hc:Wt X Y c u)(hb:Jn X Y l fb):Jf X Y (.While c l [] pos) (ZA u fb n):=.mk λρ=>by
 refine PS.imp (vy (tc:=λj H Q=>∃ρ',tS Y rE u ρ' j H Q) (tb:=λD j H=>∃ρ',tSS Y fb ρ' D j H) hp (λk s j H D I ⟨ρ',q⟩=>hc ρ' _ s j H D I q) (λk s j H D I ⟨ρ',q⟩=>hb ρ' _ s j H D I q)) λD j H=>tSS.on λB I q=>?_;refine⟨λm σ' Z=>∃ρ' x,SI Y x ρ' σ' Z/\PoS Y x (ZA u fb m ρ') D,⟨n,ρ,B,I,q⟩,?_⟩
 rintro m σ' Z ⟨ρ',x,I',y⟩
 cases m with
 |zero=>exact y.elim
 |succ m=>
  unfold ZA at y;refine⟨ρ',jZ I' y λt v H1 _ s1 r1 I1 q1=>?_⟩;have S:=r1;subst S;cases v with
  |false=>exact q1 _ _ _ (zr.refl _) I1
  |true=>
   refine⟨λo H2=>∃f U,SI Y U f o H2/\PoS Y U _ D,λo H2 h=>⟨m,dm m,h⟩,ρ',_,I1,?_⟩;revert q1;cases fb ρ' with
   |nx f=>exact λi J H3 G P N=>⟨f,G,N,PoS.up P i⟩
   |ct f=>exact λi J H3 G P N=>⟨f,G,N,PoS.up P i⟩
   |bk f=>exact λi=>i
   |rt t=>exact λi=>i
   |rf t=>exact λi=>i
   |ex c=>exact λi=>i
   |bad=>exact λi=>i
end
theorem wq {env:Env}:∀(ns:List (Str×NameKind)) (acc:List (Str×Addr)),(∀x∈ns,x.2=NameKind.free->∃c,env.cells.lookup x.1=some c)->(∀x c,acc.lookup x=some c->env.cells.lookup x=some c)->
  ∃cl,(forIn ns acc (λ(x:Str×NameKind) (r:List (Str×Addr))=>if (x.2==NameKind.free)=true then (do let c ←cellOf env x.1;pure (ForInStep.yield ((x.1,c)::r)))else pure (ForInStep.yield r)):Sem _)=pure cl/\
   (∀x c,cl.lookup x=some c->env.cells.lookup x=some c)/\(∀x c,acc.lookup x=some c->∃c',cl.lookup x=some c')/\(∀x∈ns,x.2=NameKind.free->∃c,cl.lookup x.1=some c)
 |[],acc,_,h=>⟨acc,rfl,h,λx c e=>⟨c,e⟩,λx a=>by simp at a⟩
 |(n,k)::ns,acc,u,h=>by
  by_cases j:k=NameKind.free
  ·obtain⟨c,v⟩:=u _ aq j;have h':∀x d,((n,c)::acc).lookup x=some d->env.cells.lookup x=some d:=λx d e=>by
    by_cases a:x=n
    ·subst a;have p:=by simpa[aR]using e
     cases p;exact v
    ·have p:=by
      rw[aR,(beq_eq_false_iff_ne.mpr a)]at e;exact e
     exact h x d p
   obtain⟨cl,e,o,i,l⟩:=wq ns _ (λx a=>u x (ae _ a)) h';refine⟨cl,?_,o,λx d y=>?_,λx a f=>?_⟩
   ·rw[lm];subst j;have q:cellOf env n=pure c:=by unfold cellOf;rw[v]
    simp only[beq_self_eq_true,if_true,q];exact e
   ·by_cases a:x=n
    ·subst a;exact i x c (by simp[aR])
    ·exact i x d (by rw[aR,(beq_eq_false_iff_ne.mpr a)];exact y)
   ·rcases ay.mp a with rfl|a
    ·exact i n c (by simp[aR])
    ·exact l x a f
  ·obtain⟨cl,e,o,i,l⟩:=wq ns acc (λx a=>u x (ae _ a)) h;refine⟨cl,?_,o,i,λx a f=>?_⟩
   ·rw[lm];have q:(k==NameKind.free)=false:=by simpa using j
    simp only[q,a_,if_false];exact e
   ·rcases ay.mp a with rfl|a
    ·exact absurd f j
    ·exact l x a f
def YS {scope:Scope}{env:Env}(f:∀x∈scope.names,x.2=NameKind.free->∃c,env.cells.lookup x.1=some c):
  ∃cl,closureFor scope env=pure cl/\(∀x c,cl.lookup x=some c->env.cells.lookup x=some c)/\(∀x∈scope.names,x.2=NameKind.free->∃c,cl.lookup x.1=some c):=by
 obtain⟨cl,e,d,_,a⟩:=wq _ [] f (λx c e=>by simp at e)
 refine⟨cl,?_,d,a⟩;unfold closureFor;exact(by simpa using e)
def nP (X:Cx)(scope:Scope)(N':List Str)(cl:List (Str×Addr))(C:Addr)(d:Shared)(H3:Hp)(fp:List Addr)(a:List 000):Cx:=
 {X with N:=N',s₀:=d,H₀:=H3,env:=compEnvC scope cl C X.env,outer:=X.stack,stack:=X.stack,ex:=fp,fn:=λ_=>false,pn:=X.pn++a,xe:=λ_ _=>False}
structure rl (X:Cx) (scope:Scope):Prop where
 kind:scope.kind=.function
 nocell:∀x∈scope.names,x.2≠.cell
 loc:∀x∈scope.names,x.2=.local->scope.names.lookup x.1=some .local
 fre:∀x∈scope.names,x.2=.free->X.env.kindOf x.1=some .cell\/X.env.kindOf x.1=some .free
def J6 {scope:Scope}{env:Env}{x:Str}{k:NameKind}(h:(relabel scope env).names.lookup x=some k)(j:k=.cell\/k=.free)(hn:∀x∈scope.names,x.2≠NameKind.cell):∃y∈scope.names,y.1=x/\y.2=.free:=by
 have go:∀ns:List (Str×NameKind),(∀x∈ns,x.2≠NameKind.cell)->(ns.map λ(n,k)=>if (k==NameKind.free&&env.scope.kind==.function&&env.kindOf n==some .cell)then (n,NameKind.cell)else (n,k)).lookup x=some k->∃y∈ns,y.1=x/\y.2=.free:=by
  intro ns
  induction ns with
  |nil=>intro _ h;simp at h
  |cons y ns p=>
   intro hn h;obtain⟨n,d⟩:=y
   by_cases f:x=n
   ·subst f;refine⟨(x,d),aq,rfl,?_⟩;rw[aK]at h
    by_cases a:(d==NameKind.free&&env.scope.kind==.function&&env.kindOf x==some .cell)=true
    ·rw[ai,ai]at a;exact eq_of_beq a.1.1
    ·simp only[if_neg a,aR,beq_self_eq_true]at h;cases h;rcases j with rfl|rfl
     ·exact absurd rfl (hn _ aq)
     ·rfl
   ·obtain⟨z,i,o,l⟩:=p (λz i=>hn z (ae _ i)) (by
     rw[aK]at h
     by_cases a:(d==NameKind.free&&env.scope.kind==.function&&env.kindOf n==some .cell)=true
     ·simp only[if_pos a,aR,(beq_eq_false_iff_ne.mpr f)]at h;exact h
     ·simp only[if_neg a,aR,(beq_eq_false_iff_ne.mpr f)]at h;exact h)
    exact⟨z,ae _ i,o,l⟩
 exact go _ hn h
section
variable {X:Cx}{pins:List 000}{σ:Sg}{H:Hp}{s:Shared}
def YT {scope:Scope}{N':List Str}{cl:List (Str×Addr)}{fp:List Addr}{h':Heap}{tk:Nat}{σ':Sg}(I:L2.Inv X pins σ H s)(S:rl X scope)(hc:X.calm=true)
  (a:∀x c,cl.lookup x=some c->X.env.cells.lookup x=some c) (P:∀x∈scope.names,x.2=NameKind.free->∃c,cl.lookup x.1=some c)
  (B:∀b∈fp,wU X pins H b) (hfo:∀b∈fp,∃o,s.heap.get? b=some o)
  (hns:h'.Ns s.1.1.size (λ_=>none)) (J:∀b o,s.heap.get? b=some o->h'.get? b=some o)
  (hl:σ'.length=N'.length) (hσ:∀(i:Nat) (x:Str) (v:V),N'[i]?=some x->σ'[i]?=some (some v)->∃j:Nat,X.N[j]?=some x/\σ[j]?=some (some v)/\oJ X.env.scope x/\(scope.names.lookup x=some .free)/\(X.env.kindOf x=some .cell\/X.env.kindOf x=some .free)):
  L2.Inv (nP X scope N' cl s.1.1.size s H fp pins) [] σ' H {s with heap:=h',toks:=tk}:=by
 have U:=I.stkSub;have hlt:=λb f=>let ⟨o,e⟩:=hfo b f;az e;have fresh:=I.hok.fresh (ar _);refine⟨⟨I.ok.mod,S.kind,I.ok.glob,I.ok.blt,ar _,λx y c h1 h2=>I.ok.inj x y c (a _ _ h1) (a _ _ h2),λx D=>?_,λx c h _=>(aN h).elim,λ_=>I.ok.hd hc,I.ok.frames,.inl rfl,λb f=>?_,I.bs,
   aC I.ok.bsz I.sz,λb o e f=>?_,λb f hb'=>?_,I.stack,I.stkFree⟩,rfl,I.bare,Un.kept J,⟨_,hns,λi x v h1 h2 h3=>?_⟩,λx c e=>?_,fresh,λx c e=>I.freeC x c (a _ _ e),λp hp=>?_,I.hok.kept J,hl⟩
 ·have hx':=D;obtain⟨y,hy,rfl,hyf⟩:∃y∈scope.names,y.1=x/\y.2=.free:=by
   rcases hx' with h|h
   ·exact J6 h (.inl rfl) S.nocell
   ·exact J6 h (.inr rfl) S.nocell
  exact P y hy hyf
 ·refine⟨aM (hlt b f),λx c e=>(B b f).2.2.2.2.1 x c (a _ _ e)⟩
 ·rcases(B b f).2.2.2.1 with h|h
  ·exact I.ok.noex b o e h
  ·exact absurd (aP (az e) (aC I.ok.bsz h)) (bI _)
 ·have q:=B b f;rcases ay.mp (U b hb')with z|z
  ·exact q.2.1 z
  ·exact q.2.2.1 z
 ·obtain⟨j,e1,e2,e3,e4,e5⟩:=hσ i x v h1 h2;obtain⟨m,hn,G⟩:=I.loc;obtain⟨u,ru,lk⟩:=G j x v e1 e2 e3;refine⟨u,ru,.inr ⟨?_,?_⟩⟩
  ·rcases h3 with h|h|h
   ·exfalso;have:∀ns:List _,ns.lookup x=some .free->(ns.map λ(n,k)=>if (k==NameKind.free&&X.env.scope.kind==.function&&X.env.kindOf n==some .cell)then (n,NameKind.cell)else (n,k)).lookup x≠some .local:=by
     intro ns
     induction ns with
     |nil=>intro z;simp at z
     |cons y ns ih=>
      obtain⟨n,k⟩:=y;intro z w;rw[aK]at w
      by_cases D:x=n
      ·subst D;have hkf:=by simpa[aR]using z
       by_cases d:(k==NameKind.free&&X.env.scope.kind==.function&&X.env.kindOf x==some .cell)=true
       ·simp only[if_pos d,aR,beq_self_eq_true]at w;cases w
       ·simp only[if_neg d,aR,beq_self_eq_true]at w;rw[hkf]at w;cases w
      ·have z':=by rw[aR,(beq_eq_false_iff_ne.mpr D)]at z;exact z
       refine ih z' ?_
       by_cases d:(k==NameKind.free&&X.env.scope.kind==.function&&X.env.kindOf n==some .cell)=true
       ·simp only[if_pos d,aR,(beq_eq_false_iff_ne.mpr D)]at w;exact w
       ·simp only[if_neg d,aR,(beq_eq_false_iff_ne.mpr D)]at w;exact w
    exact this _ e4 h
   ·exact .inl h
   ·exact .inr h
  ·rcases lk with ⟨Q,_⟩|⟨_,c,hc',l⟩
   ·rcases e5 with z|z<;>(rw[z]at Q;cases Q)
   ·obtain⟨c',Z⟩:=P _ (bz e4) rfl;have:=a x c' Z;rw[hc']at this;cases this;obtain⟨o,eo,ed⟩:=l;exact⟨c,Z,o,J _ _ eo,ed⟩
 ·obtain⟨v,o,eo,ed⟩:=I.cell x c (a _ _ e);exact⟨v,o,J _ _ eo,ed⟩
 ·have hp':=by
   have:=hp;rwa[aW]at this
  obtain⟨e,n,ne,nf,dc⟩:=I.pin p hp';refine⟨J _ _ e,n,aM (az e),λf=>?_,dc⟩;rcases ay.mp (U _ f)with z|z
  ·exact ne z
  ·exact nf z
end
def PIf (X:Cx)(d:List Expr)(t:TT):Prop:=
 ∀(a:List 000) (s:Shared) (f:Sg) (H:Hp) (Q:Bool->Hp->Prop),L2.Inv X a f H s->t f H Q->
  wpAny 05 X.A (forIn d true λc r=>if r=true then do let ok ←isTrue c X.env (eval c X.env);pure (ForInStep.yield ok)else pure (ForInStep.yield r)) (TP X a f Q) X.xe s
def YU {X:Cx}:PIf X [] (λ_ H Q=>Q true H):=λ_ _ a H _ I h=>wpAny_tests_nil ⟨H,I,h⟩
def XU {X:Cx}{c:Expr}{t:TT}(h:PT X c t):PIf X [c] t:=λa s d H Q I q=>wpAny_tests_one (h _ s d H Q I q)
noncomputable abbrev XE (X:Cx)(xe:Value->Shared->Prop):Cx:={X with xe:=xe}
def UB {X:Cx}{a:List 000}{d:Sg}{H:Hp}{s:Shared}{xe:Value->Shared->Prop}(I:L2.Inv X a d H s):L2.Inv (XE X xe) a d H s:=
 ⟨⟨I.ok.mod,I.ok.kind,I.ok.glob,I.ok.blt,I.ok.above,I.ok.inj,I.ok.has,I.ok.cab,I.ok.hd,I.ok.frames,I.ok.stk,I.ok.exf,I.ok.bs,I.ok.bsz,I.ok.noex,I.ok.exfs,I.ok.funs,I.ok.frf⟩,I.os,I.bare,I.base,I.loc,I.cell,I.free,I.freeC,I.pin,I.hok,I.len⟩
def YV {X:Cx}{a:List 000}{d:Sg}{H:Hp}{s:Shared}{xe:Value->Shared->Prop}(I:L2.Inv (XE X xe) a d H s):L2.Inv X a d H s:=(UB I:L2.Inv _ _ d H s)
def DM {X:Cx}{e:Expr}{t:TG}{xe:Value->Shared->Prop}(i:X.xe=λ_ _=>False)(h:PG X e t):PG (XE X xe) e t:=λa s f H v u Q I r q=>bF (h _ s f H v u Q (YV I) r q) (λ_ k ⟨σ',j,d,l⟩=>⟨σ',j,UB d,l⟩) λe k z=>by rw[i]at z;exact z.elim
def Gq {X:Cx}{e:List Expr}{t:TT}{xe:Value->Shared->Prop}(i:X.xe=λ_ _=>False)(h:PIf X e t):PIf (XE X xe) e t:=λa s f H Q I q=>bF (h _ s f H Q (YV I) q) (λ_ k ⟨j,d,l⟩=>⟨j,UB d,l⟩) λe k z=>by rw[i]at z;exact z.elim
def UC {a:Type}{M:Model}{A:Around}{m:Sem a}{Q:a->Shared->Prop}{E f:Value->Shared->Prop}{s:Shared}(hE:∀e d,f e d->E e d)(h:wpAny M A m Q f s):wpAny M A m Q E s:=bF h (λ_ _ q=>q) hE
def YW (J:It)(D:Addr)(g:TG)(tt:TT)(te:TE)(l:Sg->Hp->Prop)(W:Nat->Nat->List V->Sg->Hp->Prop):Prop:=
 ∀i m d j H,W i m d j H->H D=some (.lst d)/\((J.stop i H/\l j H)\/(J.go i H/\∀x o,J.yld i H x o->g x j o λa H3=>tt a H3 λk p=>
  if k=true then te a p λv u=>u D=some (.lst d)/\d.length<sizeLine/\∃f,f<m/\W (i+1) f (d++[v]) a (lf u D (.lst (d++[v])))else ∃f,f<m/\W (i+1) f d a p))
def YX {X:Cx}{R:Result->Shared->Prop}(hx:∀e S,X.xe e S->notedBy 05 X.A X.env (λe S=>R (.error e) S) e S)(hc:X.calm=true){tg iter elt:Expr}{ifs:List Expr}{scope:Scope}{pos:Pos}{J:It}{fp:List Addr}{it:Addr}{tn:Nat->Heap->Prop}(TJ:Y2 X.prog X.w X.K tg J fp it tn)
  {g:TG} {tt:TT} {te:TE} (hg:PG X tg g) (ht:PIf X ifs tt) (he:PE X elt te) {D:Addr} {fin:Sg->Hp->Prop} (W:Nat->Nat->List V->Sg->Hp->Prop) (turn:YW J D g tt te fin W)
  (hR:∀s σ H,L2.Inv X [] σ H s->fin σ H->R (.ok .next) s) {m0:Nat} {Q:Sg} {H0:Hp} {s0:Shared} (w0:W 0 m0 [] Q H0) (I0:L2.Inv X [] Q H0 s0) (t0:tn 0 s0.heap) (f0:∀b∈fp,wU X [] H0 b):
  codeAny 05 X.A (.compLoop (.ListComp elt [⟨tg,iter,ifs,0⟩] scope pos) 0 (.ref it) (.ref D) X.env) R s0:=by
 have f:∀{l:Hp},(∀b∈fp,l b=none)->∀b∈fp,wU X [] l b:=λhn b G=>⟨hn b G,(f0 b G).2⟩;refine codeAny_loop rfl (λn S=>∃i U σ' l,L2.Inv X [] σ' l S/\tn i S.heap/\(∀b∈fp,l b=none)/\W i n U σ' l) (λn s3 h3=>?_) m0 ⟨0,[],Q,H0,I0,t0,λb G=>(f0 b G).1,w0⟩;obtain⟨i,U,a,H3,I3,st3,fr3,w3⟩:=h3;show wpAny _ X.A ((compTurn _ 0 _ _ _).onRaise (λx=>do noteFrame x _;theTreesLotGoes x)) _ _ s3
 refine wpAny_noted ?_;obtain⟨hD,h⟩:=turn i n U a H3 w3;rcases h with ⟨stop,qn⟩|⟨go,next⟩
 ·refine a7 (dz (a7 (lF (TJ.done X rfl rfl rfl hc i [] s3 a H3 _ I3 (f fr3) st3 stop) λr s4 j=>?_)));obtain⟨hr,I4⟩:=j;subst hr;exact au (hR s4 a H3 I4 qn)
 ·refine a7 (dz (a7 (lF (TJ.item X rfl rfl rfl hc i [] s3 a H3 _ I3 (f fr3) st3 go) λr s4 j=>?_)));obtain⟨u,hr,h4⟩:=j;subst hr;refine a7 (lF h4 λ_ s5 j=>?_);obtain⟨x,H5,I5,r5,y5,N,fr5⟩:=j;have I5':=I5.pinned (f fr5) (TJ.obj _ _ N);refine a7 (UC hx (lF (hg _ s5 a H5 x u _ I5' r5 (next x H5 y5)) λ_ s6 j=>?_));obtain⟨p,H6,I6,q6⟩:=j;have again:∀{B:Sg} {Z:Hp} {s7:Shared} {P:List V},L2.Inv X _ B Z s7->(∃I,I<n/\W (i+1) I P B Z)->∃m,m<n/\∃i U σ' l,L2.Inv X [] σ' l s7/\tn i _/\(∀b∈fp,l b=none)/\W i m U σ' l:=λ{B Z s7 P} I7 ⟨I,hm,w7⟩=>by
   refine⟨I,hm,i+1,P,B,Z,I7.unpinned,TJ.keep _ _ _ N λb G o e=>(I7.pin _ (aJ _ (aJ _ (jz G e)))).1,λb G=>?_,w7⟩;obtain⟨o,e,d⟩:=TJ.obj _ _ N b G;exact(I7.pin _ (aJ _ (aJ _ (jz G e)))).2.1
  refine a7 (UC hx (lF (ht _ s6 p H6 _ I6 q6) λk s7 j=>?_));obtain⟨Z,I7,q7⟩:=j;cases k with
  |false=>exact au ⟨rfl,again I7 q7⟩
  |true=>
   refine a7 (a7 (UC hx (lF (he _ s7 p Z _ I7 q7) λv s8 j=>?_)));obtain⟨y,H8,I8,r8,hD8,hlen,q8⟩:=j;refine a7 (UC hx (lF (wm _ s8 p H8 (.ref D) [y] _ [v] (λ_ H9=>∃I,I<n/\W _ I _ p H9) I8 rfl (.cons r8 .nil) ⟨D,U,y,rfl,rfl,hD8,hlen,q8⟩) λw s9=>EP.on λ_ H9 I9 _ q9=>?_));exact au (au ⟨rfl,again I9 q9⟩)
def U4 (k:Nat)(js:List Nat)(a:Sg):Sg:=ac k none++js.map λj=>(a[j]?).getD none
section
variable {X:Cx}
abbrev YY (X:Cx)(scope:Scope)(N':List Str)(P:Cx->Prop):Prop:=∀cl C s3 H3 fp pins,P (nP X scope N' cl C s3 H3 fp pins)
abbrev xD (X:Cx)(scope:Scope)(N':List Str)(E:XK)(P:Cx->Prop):Prop:=∀cl C s3 H3 fp pins xe,zS (lH X.prog X.w) (XE (nP X scope N' cl C s3 H3 fp pins) xe) E->P (XE (nP X scope N' cl C s3 H3 fp pins) xe)
structure Gr (X:Cx) (scope:Scope) (N':List Str) (k:Nat) (js:List Nat):Prop where
 len:N'.length=k+js.length
 cap:∀(i j:Nat),js[i]?=some j->∃x,N'[k+i]?=some x/\X.N[j]?=some x/\oJ X.env.scope x/\scope.names.lookup x=some .free/\(X.env.kindOf x=some .cell\/X.env.kindOf x=some .free)
def JS {E:XK}(hp:gT X E){tg iter elt:Expr}{ifs:List Expr}{scope:Scope}{pos pos':Pos}{N':List Str}{k:Nat}{js:List Nat}{wi:TI}{g:TG}{tt:TT}{te:TE}{use:Option (Value->Sem Unit)}(S:rl X scope)(CP:Gr X scope N' k js)(hc:X.calm=true)
  (hi:PI X tg iter wi) (hg:YY X scope N' λXC=>PG XC tg g) (ht:YY X scope N' λXC=>PIf XC ifs tt) (he:xD X scope N' E λXC=>PE XC elt te) {a:List 000} {U:Sg} {H:Hp} {s:Shared} {Q:Value->Shared->Prop} {F:Addr->Hp->Prop} (I:L2.Inv X a U H s)
  (h:wi U H λJ H1=>∀D,H1 D=none->∃W,(∃m,W 0 m [] (U4 k js U) (lf H1 D (.lst [])))/\YW J D g tt te (λ_ H'=>F D H') W)
  (hQ:∀D C H' s',L2.Inv X a U H' s'->F D H'->H' C=none->(X.s₀.1.1.size<=C)->C≠X.env.locals->(∀x c,X.env.cells.lookup x=some c->c≠C)->(∀p∈X.pn++a,p.1≠C)->(∃m,s'.heap.Ns C m)->compPost 05 X.A X.xe use Q (.ref D) C (.ok .next) s')
  (hs:∀x,foldedSetIterable iter X.env x=pure x:=by intro _;rfl):
  wpAny 05 X.A (comprehension (.ListComp elt [⟨tg,iter,ifs,0⟩] scope pos) scope X.env pos' (newList []) false (eval iter X.env) use) Q X.xe s:=by
 obtain⟨cl,ecl,hcl,hcf⟩:=YS (scope:=scope) (env:=X.env) λx hx hf=>I.ok.has x.1 (S.fre x hx hf);refine wpAny_comprehension_free rfl hs ecl S.kind S.loc ?_;refine lF (hi a s U H _ I h) λv s1 h1=>lF h1 λitv d Z=>?_;obtain⟨it,fp,tn,J,H2,e,I2,TJ,mJ,f2,q2⟩:=Z;subst e;refine bw ?_;have hD:=I2.hok.fresh (ar _);have B:L2.Inv X a U (lf H2 d.1.1.size (.lst [])) {d with heap:=d.heap.push {cls:=.type "list",data:=.seq _} }:=
  I2.laid (t':=d.toks) (λb u e=>ag _ e) (ar _) ⟨bu _,[],_,.nil,ao _ rfl⟩
 obtain⟨W,⟨m0,w0⟩,turn⟩:=q2 d.1.1.size hD;have f3:∀b∈fp,wU X a (lf H2 d.1.1.size (.lst [])) b:=λb l=>by
  obtain⟨o,eo,_⟩:=TJ.obj _ _ mJ b l;exact⟨by rw[zu (aM (az eo))];exact(f2 b l).1,(f2 b l).2⟩
 have o3:∀b∈fp,∃o,(d.heap.push {cls:=.type "list",data:=.seq ([]:List Value).toArray}).get? b=some o:=λb l=>by
  obtain⟨o,eo,_⟩:=TJ.obj _ _ mJ b l;exact⟨o,ag _ eo⟩
 refine wpAny_newFunctionEnv S.nocell (by intro y hy;simp at hy) (λh4 G P=>?_) S.kind
 generalize hG:d.heap.push _=G3 at B o3 G P⊢;have s3e:∃f:Shared,f={d with heap:=G3}:=⟨_,rfl⟩;obtain⟨f,es3⟩:=s3e;have hh3:f.heap=d.heap.push {cls:=.type "list",data:=.seq ([]:List Value).toArray}:=by rw[es3,hG]
 have hg3:G3=f.heap:=by rw[es3]
 rw[←es3]at B;rw[hg3]at G P o3;have k4:=λb o e=>P.extBut b o (aM (az e)) (ag _ e);have IC:=YT (N':=N') (cl:=cl) (fp:=fp) (σ':=U4 k js U) (tk:=f.toks+([]:List (Str×Value)).length) B S hc hcl hcf f3 o3 G k4 (by unfold U4;simp[CP.len]) (λi x v h1 Z=>by
  unfold U4 at Z
  by_cases hik:i<k
  ·rw[aG (by simpa using hik),aF,if_pos hik]at Z
   cases Z
  ·have hk':k<=i:=by lia
   rw[aE (by simpa using hk'),aS,aj]at Z
   cases ej:js[i-k]? with
   |none=>rw[ej]at Z;cases Z
   |some j=>
    rw[ej]at Z;obtain⟨y,e1,e2,e3,e4,e5⟩:=CP.cap (i-k) j ej;have:k+(i-k)=i:=by lia
    rw[this,h1]at e1;cases e1;refine⟨j,e2,?_,e3,e4,e5⟩;have h2':some ((U[j]?).getD none)=some (some v):=Z;cases ez:U[j]? with
    |none=>rw[ez]at h2';cases h2'
    |some z=>rw[ez]at h2';exact congrArg some (aA h2'))
 have TC:Y2 _ _ _ tg J fp it tn:=TJ;have t4:tn 0 h4:=TJ.keep _ _ _ mJ λb l o e=>k4 b o (by rw[hh3];exact ag _ e)
 have fC:∀b∈fp,wU (nP X scope N' cl f.1.1.size f (lf H2 d.1.1.size (.lst [])) fp a) [] _ b:=λb l=>by
  obtain⟨q0,q1,q2,q3,q4,q5⟩:=f3 b l;obtain⟨o,eo⟩:=o3 b l;refine⟨q0,aM (az eo),λhb'=>?_,.inl l,λx c e=>q4 x c (hcl _ _ e),λp hp=>?_⟩
  ·rcases ay.mp (B.stkSub b hb')with z|z
   ·exact q1 z
   ·exact q2 z
  ·exact q5 p (by
    have:=hp;rwa[aW]at this)
 have fin:∀(s5:Shared) (σ5:Sg) (H5:Hp),L2.Inv (nP X scope N' cl f.1.1.size f (lf H2 d.1.1.size (.lst [])) fp a) [] σ5 H5 s5->F d.1.1.size H5->compPost 05 X.A X.xe use Q _ f.1.1.size (.ok .next) s5:=λs5 σ5 H5 I5 q5=>by
  have J5:=B.call' (ch:=fp) I5.os I5.base I5.hok I5.bare λb l=>by
   obtain⟨q0,q1,q2,q3,q4,q5⟩:=f3 b l;exact⟨q3,q1,q4,q5⟩
  refine hQ _ _ H5 s5 J5 q5 I5.free B.sz (dL B.lt) (λx c e z=>?_) (λp hp z=>?_) (let ⟨m,hm,_⟩:=I5.loc;⟨m,hm⟩)
  ·obtain⟨v',o,eo,_⟩:=B.cell x c e;exact absurd (az eo) (by rw[z];exact bI _)
  ·exact absurd (az (B.pin p hp).1) (by rw[z];exact bI _)
 have pass:zS (lH X.prog X.w) (XE (nP X scope N' cl f.1.1.size f (lf H2 d.1.1.size (.lst [])) fp a) (notedBy 05 X.A (compEnvC scope cl f.1.1.size X.env) λe s'=>compPost 05 X.A X.xe use Q (.ref d.1.1.size) f.1.1.size (.error e) s')) E:=by
  intro pins1 σ1 H1 s1 e s' I1 c1;have J1:=B.call' I1.os I1.base I1.hok I1.bare λb l=>by
   obtain⟨q0,q1,q2,q3,q4,q5⟩:=f3 b l;exact⟨q3,q1,q4,q5⟩
  obtain⟨m1,hm1,_⟩:=I1.loc;refine lF (hp a U H1 s1 e s' _ m1 _ _ J1 hm1 I1.free B.sz (λz=>?_) rfl c1) λ_ s'' q=>?_
  ·obtain⟨_,o,eo,_⟩:=B.stack.mem z;exact absurd (az eo) (bI _)
  ·cases use<;>exact q
 have N:=YX (X:=XE (nP X scope N' cl _ f _ fp _) (notedBy _ X.A _ λe s'=>compPost _ X.A _ use Q _ _ _ s')) (iter:=iter) (scope:=scope) (pos:=pos) (λ_ _ z=>z) hc TC (DM rfl (hg _ _ _ _ _ _)) (Gq rfl (ht _ _ _ _ _ _)) (he _ _ _ _ _ _ _ pass) W turn (λs5 σ5 H5 I5=>fin s5 σ5 H5 (YV I5)) w0 (UB IC) t4 fC;rw[es3]at N;exact codeAny_compStart_list N (TJ.self _ _ _ _ _ t4 N)
end
def zR (g:T->En->R En)(ft:En->R Bool)(fe:En->R T):List T->En->R (List T)
 |[],_=>.ok []
 |t::ts,ρ=>(g t ρ).bind λa=>(ft a).bind λk=>if k=true then (fe a).bind λv=>(zR g ft fe ts a).bind λvs=>.ok (v::vs)else zR g ft fe ts a
noncomputable def U5:Option Sl->Sl
 |some (.vl t)=>.vl t
 |some (.ob k _)=>.oc k []
 |some (.oc k fs)=>.oc k fs
 |_=>.un
def wY (k:Nat)(js:List Nat)(ρ:En):En:=ac k .un++js.map λj=>U5 ρ[j]?
noncomputable def quiet {d:Type}:R d->R d
 |.ok a=>.ok a
 |_=>.bad
def zM (g:T->En->R En)(ft:En->R Bool)(fe:En->R T)(k:Nat)(js:List Nat)(ρ:En)(ts:List T):R (List T):=if ts.length<=lM then quiet (zR g ft fe ts (wY k js ρ))else .bad
def Z9 (fi:En->R (List T))(g:T->En->R En)(ft:En->R Bool)(fe:En->R T)(k:Nat)(js:List Nat):En->R T:=λρ=>(fi ρ).bind λts=>(zM g ft fe k js ρ ts).bind λvs=>.ok (.lst vs)
def oG (d:TG)(g:T->En->R En):Prop:=∀Y B ρ a H v x Q,SI Y B ρ a H->Rep B v x->(match g x ρ with|.ok ρ'=>∀σ',SI Y B ρ' σ' H->Q σ' H|_=>False)->d v a H Q
def vX (i:Nat):oG (wf i) (zW i):=λY B ρ a H v x Q I r q=>q _ (I.setV i r)
def vY (K:aa)(i j:Nat):oG (tP K 2 (Ye (wf i) (Ye (wf j) Cz))) (Zb i j):=λY B ρ k H v t Q I r q=>by
 cases r with
 |@tup l xs ts h r=>
  cases r with
  |nil=>exact q.elim
  |cons d a=>
   cases a with
   |nil=>exact q.elim
   |cons f a=>
    cases a with
    |cons _ _=>exact q.elim
    |nil=>exact⟨l,_,rfl,SqT.of (I.sB _ _ h),rfl,_,_,rfl,_,_,rfl,rfl,q _ ((I.setV i d).setV j f)⟩
 |_=>exact q.elim
def SI.blockS {Y:Fx}{B:Hp}{ρ:En}{y:Sg}{H U:Hp}(I:SI Y B ρ y H)(k:Nat)(js:List Nat)(E:XK)(s:zr H U):SI ⟨B,H,E,Y.cl,[]⟩ B (wY k js ρ) (U4 k js y) U where
 s0:=I.sB
 sH:=s
 sB:=I.sB.trans s
 old:=λ_ _ _=>rfl
 len:=by unfold wY U4;simp
 vl:=λi t h=>by
  unfold wY at h;unfold U4
  by_cases l:i<k
  ·rw[aG (by simpa using l),aF,if_pos l]at h;cases h
  ·have o:k<=i:=by lia
   rw[aE (by simpa using o),aS,aj]at h⊢
   cases p:js[i-k]? with
   |none=>rw[p]at h;cases h
   |some j=>
    rw[p]at h;have h':U5 ρ[j]?=.vl t:=aA h;unfold U5 at h';split at h'
    ·rename_i u e;cases h';obtain⟨v,Z,r⟩:=I.vl j _ e;exact⟨v,by show some ((y[j]?).getD none)=_;rw[Z];rfl,r⟩
    all_goals cases h'
 ow:=λi ts h=>by
  exfalso;unfold wY at h
  by_cases l:i<k
  ·rw[aG (by simpa using l),aF,if_pos l]at h;cases h
  ·have o:k<=i:=by lia
   rw[aE (by simpa using o),aS,aj]at h
   cases p:js[i-k]? with
   |none=>rw[p]at h;cases h
   |some j=>
    rw[p]at h;have h':U5 ρ[j]?=.ow ts:=aA h;unfold U5 at h';split at h'<;>cases h'
 xc:=λi c h=>by
  exfalso;unfold wY at h
  by_cases l:i<k
  ·rw[aG (by simpa using l),aF,if_pos l]at h;cases h
  ·have o:k<=i:=by lia
   rw[aE (by simpa using o),aS,aj]at h
   cases p:js[i-k]? with
   |none=>rw[p]at h;cases h
   |some j=>
    rw[p]at h;have h':U5 ρ[j]?=.xc c:=aA h;unfold U5 at h';split at h'<;>cases h'
 st:=by
  have get:∀(i:Nat) (x:Sl),x.isO=true->(wY k js ρ)[i]?=some x->∃j,js[i-k]?=some j/\k<=i/\U5 ρ[j]?=x:=λi x hx h=>by
   unfold wY at h
   by_cases l:i<k
   ·rw[aG (by simpa using l),aF,if_pos l]at h
    cases h;cases hx
   ·have o:k<=i:=by lia
    rw[aE (by simpa using o),aS,aj]at h
    cases p:js[i-k]? with
    |none=>rw[p]at h;cases h
    |some j=>
     rw[p]at h;exact⟨j,rfl,o,aA h⟩
  refine⟨[],λ_=>none,cJ _,λi os h=>?_,λi _ os _ h=>?_,λi X n h=>?_,λi X fs h=>?_,λi os h=>?_⟩
  ·obtain⟨j,_,_,e⟩:=get i _ rfl h;unfold U5 at e;split at e<;>cases e
  ·obtain⟨j,_,_,e⟩:=get i _ rfl h;unfold U5 at e;split at e<;>cases e
  ·obtain⟨j,_,_,e⟩:=get i _ rfl h;unfold U5 at e;split at e<;>cases e
  ·obtain⟨j,p,o,e⟩:=get i _ rfl h;have S:(U4 k js y)[i]?=some ((y[j]?).getD none):=by
    unfold U4;rw[aE (by simpa using o),aS,aj,p];rfl
   obtain⟨as,O,x⟩:=I.st;unfold U5 at e;split at e
   ·cases e
   ·rename_i k2 n2 D;cases e;obtain⟨a,C,G,vs,_,N,P,J,_,_,Q⟩:=x.ob j _ _ D;exact⟨a,C,G,vs,by rw[S,N];rfl,P,J,Q,λm f d z=>by cases z⟩
   ·rename_i k2 fs2 D;cases e;obtain⟨a,C,G,vs,N,P,J,Q,e7⟩:=x.oc j _ _ D;exact⟨a,C,G,vs,by rw[S,N];rfl,P,I.sH _ _ J,Q,e7.mono (zr.refl _) I.sH⟩
   ·cases e
  ·obtain⟨j,_,_,e⟩:=get i _ rfl h;unfold U5 at e;split at e<;>cases e
def SI.block {Y:Fx}{B:Hp}{ρ:En}{a:Sg}{H H3:Hp}{D:Addr}(I:SI Y B ρ a H)(k:Nat)(js:List Nat)(E:XK)(d:H D=none)(o:HO):SI ⟨B,H,E,Y.cl,[]⟩ B (wY k js ρ) (U4 k js a) (lf H D o):=I.blockS k js E (zr.new d _)
def SI.acc {Y:Fx}{B:Hp}{ρ:En}{p:Sg}{H:Hp}{D:Addr}(I:SI Y B ρ p H)(N:B D=none)(P:Y.H0 D=none)(v:∀(i:Nat) (ts:List T),ρ[i]?=some (Sl.ow ts)->p[i]?≠some (some (V.ref D)))(f:∀(i:Nat) (x:Sl),ρ[i]?=some x->Sl.isS x=true->False)(o:HO):SI Y B ρ p (lf H D o) where
 s0:=I.s0
 sH:=λb u h=>by
  rw[zu (λz=>by subst z;rw[P]at h;cases h)];exact I.sH b u h
 sB:=λb u h=>by
  rw[zu (λz=>by subst z;rw[N]at h;cases h)];exact I.sB b u h
 old:=I.old
 len:=I.len
 vl:=I.vl
 ow:=λi ts h=>by
  obtain⟨a,xs,e,G,l,y,r,d⟩:=I.ow i ts h;refine⟨a,xs,e,G,l,?_,r,d⟩;rw[zu (λz=>v i ts h (by rw[e,z]))];exact y
 xc:=I.xc
 st:=let ⟨as,O,x⟩:=I.st;⟨as,O,x.pre,λi os h=>f i _ h rfl|>.elim,λi j os J h=>f i _ h rfl|>.elim,λi k n h=>f i _ h rfl|>.elim,x.oc,λi os h=>f i _ h rfl|>.elim⟩
def KL (ρ:En):Prop:=∀(i:Nat) (x:Sl),ρ[i]?=some x->(∀ts,x≠Sl.ow ts)/\(x.isS=true->False)
def vZ (k:Nat)(js:List Nat)(ρ:En):KL (wY k js ρ):=λi x h=>by
 unfold wY at h
 by_cases a:i<k
 ·rw[aG (by simpa using a),aF,if_pos a]at h
  cases h;exact⟨λ_=>Sl.noConfusion,aN⟩
 ·have d:=by omega
  rw[aE (by simpa using d),aS,aj]at h
  cases f:js[i-k]? with
  |none=>rw[f]at h;cases h
  |some j=>
   rw[f]at h;have h':U5 _=x:=aA h;unfold U5 at h';split at h'<;>(subst h';exact⟨λ_=>Sl.noConfusion,aN⟩)
def Ww {ρ:En}{i:Nat}{t:T}(h:KL ρ):KL (ρ.set i (.vl t)):=λj x e=>by
 rcases zt e with ⟨_,z⟩|⟨_,z⟩
 ·subst z;exact⟨λ_=>Sl.noConfusion,aN⟩
 ·exact h j x z
def oF (g:T->En->R En):Prop:=(∀t ρ ρ',KL ρ->g t ρ=.ok ρ'->KL ρ')/\∀t ρ c,g t ρ≠.ex c
def V0 (i:Nat):oF (zW i):=⟨λt ρ ρ' h e=>by
 cases e;exact Ww h,λt ρ c e=>by cases e⟩
def V1 (i j:Nat):oF (Zb i j):=⟨λt ρ ρ' h e=>(by
 unfold Zb at e;split at e
 ·cases e;exact Ww (Ww h)
 ·cases e),λt ρ c e=>by unfold Zb at e;split at e<;>cases e⟩
section
variable {X:Cx}{Y:Fx}{tg iter elt:Expr}{ifs:List Expr}{scope:Scope}{pos pos':Pos}{N':List Str}{k:Nat}{js:List Nat}{fi:En->R (List T)}{tG:TG}{g:T->En->R En}{ft:En->R Bool}{fe:En->R T}
structure Wx (X:Cx) (Y:Fx) (ifs:List Expr) (f:En->R Bool):Prop where
 mk::
 go:∀ρ,PIf X ifs (tS Y rE f ρ)
instance {X:Cx}{Y:Fx}{ifs:List Expr}{f:En->R Bool}:CoeFun (Wx X Y ifs f) λ_=>∀ρ,PIf X ifs (tS Y rE f ρ):=⟨Wx.go⟩
def PIf.imp {X:Cx}{e:List Expr}{t t':TT}(h:PIf X e t)(i:∀a H Q,t' a H Q->t a H Q):PIf X e t':=λd s a H Q I q=>h _ s a H Q I (i a H Q q)
def Zh:En->R Bool:=λ_=>.ok true
def Gs {X:Cx}:Wx X Y [] Zh:=.mk λρ=>PIf.imp YU λa H Q=>tS.on λB I q=>ZC I q rfl
def Gu {X:Cx}{c:Expr}(h:Wt X Y c ft):Wx X Y [c] ft:=.mk λρ=>XU (h ρ)
noncomputable def AH (r:R (List T))(P:List T->Prop)(Z:Nat->Prop):Prop:=match r with
 |.ok vs=>P vs
 |.ex c=>Z c
 |.bad=>False
def yJ {B1 S:Hp}{σ:Sg}{ρ:En}{J:It}{ts:List T}{r:R (List T)}{D:Addr}{E0:XK}(hG:oG tG g)(hN:oF g)(I:SI Y B1 ρ σ S)(rI':rI B1 S J ts)(hl:ts.length<=lM)(ev:zR g ft fe ts (wY k js ρ)=r)(hD:S D=none){F:Hp->Prop}
  (hF:AH r (λvs=>∀l xs p,zr S l->l D=some (.lst xs)->zK p xs vs->zr p (zN B1 S l)->p D=none->zr B1 p->F l) λc=>∀d l,zr S l->zr B1 l->E0 (Y.cl c) d l):
  ∃W,(∃m,W 0 m [] (U4 k js σ) (lf S D (.lst [])))/\YW J D tG (λσ H Q=>∃Y' ρ',Y'.cl=Y.cl/\tS Y' rE ft ρ' σ H Q) (λσ H Q=>∃Y' ρ',Y'.cl=Y.cl/\Y'.E=E0/\tS Y' rC fe ρ' σ H Q) (λ_ l=>F l) W:=by
 refine⟨λi m ys σ' l=>m=ts.length-i/\i<=ts.length/\ys.length<=i/\l D=some (.lst ys)/\∃ρ' p us,SI ⟨B1,S,E0,Y.cl,[]⟩ p ρ' σ' l/\KL ρ'/\zr B1 p/\p D=none/\zK p ys us/\((zR g ft fe (ts.drop i) ρ').bind λws=>.ok (us++ws))=r,
  ⟨ts.length,by simp,bu _,bu _,zw,_,B1,[],I.block (H3:=S) k js _ hD _,vZ k js ρ,zr.refl _,I.sB.free hD,.nil,by rw[eT,ev];cases r<;>rfl⟩,?_⟩
 rintro i m ys σ' l ⟨rfl,hi,hyl,Z,ρ',p,us,I',no',N,bD,r',ew⟩
 refine⟨Z,?_⟩;obtain⟨hgo,hyld,hstop⟩:=rI' p l N I'.sB;have tD:∀U,zr l U->zN p l U D=none:=λU s=>by rw[zL Z];exact bD
 by_cases G:i<ts.length
 ·refine .inr ⟨hgo i G,λx U y=>?_⟩;obtain⟨s2,r2⟩:=hyld i _ x U (am G) y;rw[eX G]at ew;unfold zR at ew;have I2:=I'.grow s2;refine hG _ _ ρ' σ' U x _ _ I2 r2 ?_;cases eg:g ts[i] ρ' with
  |bad=>rw[eg]at ew;subst ew;exact hF
  |ex c=>exact(hN.2 _ _ _ eg).elim
  |ok f=>
   rw[eg]at ew;have no1:=hN.1 _ _ _ no' eg;intro σ1 J1;refine⟨⟨B1,S,E0,Y.cl,[]⟩,f,rfl,_,J1,?_⟩;have B:((ft f).bind (λk=>if k=true then (fe f).bind λv=>(zR g ft fe (ts.drop (i+1)) f).bind λvs=>.ok (v::vs)else zR g ft fe (ts.drop _) f)).bind (λws=>.ok _)=r:=ew
   cases ef:ft f with
   |bad=>rw[ef]at B;subst B;exact hF
   |ex c=>
    rw[ef]at B;subst B;exact λd l a b=>hF d l a ((N.trans (zN.ge I'.sB s2)).trans b)
   |ok kk=>
    rw[ef]at B;intro b H3 s3 eb;have eb':=eb;subst eb';have ew2:=B;have J2:=J1.grow s3;have hD3:H3 D=some _:=s3 _ _ (s2 _ _ Z);have bD3:zN (zN p l U) U H3 D=none:=by rw[zL (s2 _ _ Z)];exact tD U s2
    have sB3:=(zN.ge I'.sB s2).trans (zN.ge I2.sB s3);cases b with
    |false=>exact⟨ts.length-(i+1),by lia,rfl,G,by lia,hD3,f,_,us,J2,no1,N.trans sB3,bD3,r'.mono sB3,ew2⟩
    |true=>
     refine⟨⟨B1,S,E0,Y.cl,[]⟩,f,rfl,rfl,_,J2,?_⟩;have P:=ew2;cases ee:fe f with
     |bad=>rw[ee]at P;subst P;exact hF
     |ex c=>
      rw[ee]at P;subst P;exact λd l a b=>hF d l a ((N.trans sB3).trans b)
     |ok v=>
      rw[ee]at P;have ew4:=P;have ew5:(zR g ft fe (ts.drop (i+1)) f).bind (λws=>.ok ((us++[v])++ws))=r:=by
       rw[←ew4];cases zR g ft fe _ f with
       |ok ws=>show R.ok _=R.ok _;rw[bj];rfl
       |_=>rfl
      intro w H4 s4 rw4;have hD4:=s4 _ _ hD3;have J3:=J2.grow s4;have bD4:zN (zN (zN p l U) U H3) H3 H4 D=none:=by rw[zL hD3];exact bD3
      have sB4:=sB3.trans (zN.ge J2.sB s4);refine⟨hD4,aP (cb hyl G) (Zy hl),ts.length-(i+1),by lia,rfl,G,by rw[aB,aX];lia,zw,f,_,us++[v],?_,no1,N.trans sB4,bD4,(r'.mono sB4).append (.cons rw4 .nil),ew5⟩
      exact J3.acc bD4 hD (λj ts' e=>((no1 j _ e).1 ts' rfl).elim) (λj x e=>(no1 j x e).2) _
 ·have e:i=ts.length:=by lia
  subst e;refine .inl ⟨hstop _ (ar _),?_⟩;rw[iX]at ew;have ew':R.ok _=r:=ew;rw[aW]at ew';subst ew';refine hF l ys p I'.sH Z r' (λb o h=>?_) bD N;cases q:S b with
  |none=>rw[zD q];exact I'.sB b o h
  |some u=>
   rw[zL q];have z:p b=B1 b:=I'.old b u q;rw[←z];exact h
def wu {l a:Hp}{d:Sg}{ρ:En}{J:It}{ts vs:List T}{D:Addr}(y:oG tG g)(B:oF g)(I:SI Y l ρ d a)(o:rI l a J ts)(u:ts.length<=lM)(p:zR g ft fe ts (wY k js ρ)=.ok vs)(v:a D=none){F:Hp->Prop}
  (x:∀i xs j,zr a i->i D=some (.lst xs)->zK j xs vs->zr j (zN l a i)->j D=none->zr l j->F i):
  ∃W,(∃m,W 0 m [] (U4 k js d) (lf a D (.lst [])))/\YW J D tG (λd H Q=>∃f ρ',f.cl=Y.cl/\tS f rE ft ρ' d H Q) (λd H Q=>∃f ρ',f.cl=Y.cl/\(f.E=λ_ _ _=>False)/\tS f rC fe ρ' d H Q) (λ_ i=>F i) W:=yJ y B I o u p v x
structure W7 (X:Cx) (Y:Fx) (tg iter elt:Expr) (ifs:List Expr) (scope:Scope) (N':List Str) (k:Nat) (js:List Nat) (fi:En->R (List T)) (tG:TG) (g:T->En->R En) (ft:En->R Bool) (fe:En->R T):Prop where
 sc:rl X scope
 cp:Gr X scope N' k js
 cm:X.calm=true
 it:U3 X Y tg iter fi
 gt:YY X scope N' λXC=>PG XC tg tG
 gk:oG tG g
 gn:oF g
 tt:∀Y',Y'.cl=Y.cl->YY X scope N' λXC=>Wx XC Y' ifs ft
 el:∀Y',Y'.cl=Y.cl->xD X scope N' Y'.E λXC=>Snd XC Y' elt fe
 hs:∀x,foldedSetIterable iter X.env x=pure x
def xE (C:W7 X Y tg iter elt ifs scope N' k js fi tG g ft fe):Snd X Y (.ListComp elt [⟨tg,iter,ifs,0⟩] scope pos) (Z9 fi g ft fe k js):=.mk λρ=>by
 rintro f s i H Q I ⟨B,J,q⟩
 refine JS (jA rfl) (F:=λD v=>Q (.ref D) v) (te:=λi H Q=>∃a ρ',a.cl=Y.cl/\(a.E=λ_ _ _=>False)/\tS a rC fe ρ' i H Q) (tt:=λi H Q=>∃a ρ',a.cl=Y.cl/\tS a rE ft ρ' i H Q) C.sc C.cp C.cm (C.it ρ) C.gt
  (λcl l G H3 fp f j s i H Q I ⟨a,ρ',N,q⟩=>C.tt a N cl l G H3 fp _ ρ' _ s i H Q I q) (λcl l G H3 fp f xe hp j s i H Q I ⟨a,ρ',N,eE,q⟩=>C.el a N cl l G H3 fp _ xe (eE▸hp) ρ' _ s i H Q I q) I ?_ ?_ C.hs
 ·refine step J q λts it' H1 _ s1 Z J1 d=>?_;intro D U;unfold zM at d;split at d
  ·rename_i hl;cases x:zR g ft fe ts _ with
   |bad=>rw[x]at d;exact d.elim
   |ex c=>rw[x]at d;exact d.elim
   |ok vs=>
    rw[x]at d;refine wu C.gk C.gn J1 Z hl x U λv xs B' S e' r' l' b' sb'=>?_;refine(show Po Y rC _ H1 _ Q from d) _ v S ?_;exact .lst (by rw[zD U];exact e') (r'.mono l')
  ·exact d.elim
 ·intro D Cc v S I' q' hC h0 hL p u y;obtain⟨m,hm⟩:=y;refine⟨m,hm,λh' P=>⟨.ref D,v,?_,rfl,q'⟩⟩;exact I'.turned (λb o hb e=>P.extBut b o hb e) hC (aY hL).symm (.inr h0) p u
end
section
variable {X:Cx}{Y:Fx}{tg iter elt:Expr}{ifs:List Expr}{scope:Scope}{pos pos':Pos}{N':List Str}{k:Nat}{js:List Nat}{fi:En->R (List T)}{tG:TG}{g:T->En->R En}{ft:En->R Bool}{fe:En->R T}
def Gv {i:Nat}{x:Str}{pc p':Pos}(C:W7 X Y tg iter elt ifs scope N' k js fi tG g ft fe)(hN:X.N.Nodup)(hi:X.N[i]?=some x)(hx:L2.Loc X.env.scope x)
  (hsw:swapsWith (.ListComp elt [⟨tg,iter,ifs,0⟩] scope pc) (some (.Name x p')) pos.line X.env=pure true) (hf:X.fn x=true\/X.env.scope.names.lookup x=some .local:=by first|exact .inl rfl|exact .inr rfl|assumption):
  Jf X Y (.Assign [.Name x p'] (.ListComp elt [⟨tg,iter,ifs,0⟩] scope pc) pos) (zY i (Z9 fi g ft fe k js)):=.mk λρ=>by
 rintro p s j H D I ⟨B,J,q⟩
 rw[exec_Assign_Name_used _ _ _ _ hsw];refine a7 (dz (a7 ?_));refine a7 (lF (JS (jA rfl) (F:=λZ S=>D.nx (j.set i (some (.ref Z))) S) (te:=λj H Q=>∃f ρ',f.cl=Y.cl/\(f.E=λ_ _ _=>False)/\tS f rC fe ρ' j H Q) (tt:=λj H Q=>∃f ρ',f.cl=Y.cl/\tS f rE ft ρ' j H Q) C.sc C.cp C.cm (C.it ρ) C.gt
  (λcl u s3 H3 fp p y s j H Q I ⟨f,ρ',ey,q⟩=>C.tt f ey cl u s3 H3 fp _ ρ' _ s j H Q I q) (λcl u s3 H3 fp p xe hp y s j H Q I ⟨f,ρ',ey,eE,q⟩=>C.el f ey cl u s3 H3 fp _ xe (eE▸hp) ρ' _ s j H Q I q) I ?_ ?_ C.hs) λ_ s' hq=>au (au hq))
 ·have q':PoS Y B (((fi ρ).s λts=>(zM g ft fe k js ρ ts).s λvs=>.nx (ρ.set i (.vl (.lst vs))))) D:=by
   unfold zY Z9 at q;revert q;cases fi ρ with
   |bad=>exact λq=>q
   |ex c=>exact λq=>q
   |ok ts=>
    intro q;have q2:PoS Y B (((zM g ft fe k js ρ ts).bind λvs=>R.ok _).s λt=>RS.nx _) D:=q;show PoS Y B ((zM g ft fe k js ρ ts).s λvs=>RS.nx _) D;revert q2;cases zM g ft fe k js ρ ts with
    |bad=>exact λq=>q
    |ex c=>exact λq=>q
    |ok vs=>exact λq=>q
  refine jZ J q' λts it' H1 _ s1 r1 J1 l=>?_;intro Z hD;unfold zM at l;split at l
  ·rename_i hl;cases U:zR g ft fe ts _ with
   |bad=>rw[U]at l;exact l.elim
   |ex c=>rw[U]at l;exact l.elim
   |ok vs=>
    rw[U]at l;refine wu C.gk C.gn J1 r1 hl U hD λS xs B' s' e' r' l' b' sb'=>?_;have rr:Rep _ _ _:=.lst (by rw[zD hD];exact e') (r'.mono l')
    exact l _ _ _ (zN.ge J1.sB s') ((J1.grow s').setV i rr)
  ·exact l.elim
 ·intro Z Cc S s' I' q' hC h0 hL d G hns;obtain⟨m,hm⟩:=hns;refine wpAny_assign_Name (we (v:=.ref Z) I' hN hi hx rfl (λs'' I'' zz=>?_) hf);obtain⟨a,hsb,ha⟩:=zz;have hne:Cc≠a:=by
   rcases ha with rfl|ha
   ·exact hL
   ·exact(d x a ha).symm
  refine⟨m,hm.sameBut hsb hne,λh' P=>⟨_,S,?_,q'⟩⟩;exact I''.turned (λb o hb e=>P.extBut b o hb e) hC hL (.inr h0) d G
end
noncomputable def BH (x:Str):It:=⟨λi _=>i<x.cps.size,λi H v a=>a=H/\∃c,x.cps[i]?=some c/\v=.str ⟨#[c]⟩,λi _=>x.cps.size<=i⟩
def W8 {P:Program}{w:World}{K:aa}{tg:Expr}{x:Str}{t:Tok}{p:String}(it:Addr)(a:p="str_ascii_iterator"\/p="str_iterator"):Y2 P w K tg (BH x) [it] it (λi h=>h.IsStrIter it p x t i):=by
 have W:∀A:Around,A.handled=none->Walks P w A it [it] [it] x.cps.size (SignAt x) (λi h=>h.IsStrIter it p x t i):=λA hA=>by
  rcases a with rfl|rfl
  ·exact Walks.strAscii hA it x t
  ·exact Walks.strWide hA it x t
 have hn:["enumerate","zip","dict_itemiterator","dict_reverseitemiterator","odict_iterator","itertools.zip_longest","itertools.pairwise"].contains p=false:=by rcases a with rfl|rfl<;>decide
 refine⟨by simp,λi h st b f=>?_,λi h h' st k=>?_,?_,?_,λA i s Q E st h=>?_⟩
 ·have e:b=it:=by simpa using f
  subst e;obtain⟨o,e,c,d⟩:=st;exact⟨o,e,λv z=>by rw[d]at z;cases z⟩
 ·obtain⟨o,e,r⟩:=st;exact⟨o,k it (by simp) o e,r⟩
 ·intro X hP hw hK B i j s σ H E I N st Z;obtain⟨G,y,f2,S,D,J⟩:=N it (by simp)
  refine(W X.A (I.ok.hd B)).item i s _ _ Z st λv h' tk hv l kk=>?_;obtain⟨c,u,U,rfl⟩:=hv;have I1:L2.Inv X _ σ H {s with heap:=h',toks:=tk}:=I.turned (λb o f e=>kk b o (by simpa using f) e) G y S D J
  obtain⟨o,e,cl,d⟩:=id l;exact⟨_,rfl,yq e cl d hn ⟨.str _,H,I1,⟨u,rfl⟩,⟨rfl,c,U,rfl⟩,l,λb f=>(N b f).1⟩⟩
 ·intro X hP hw hK B i j s σ H E I N st Z;obtain⟨G,y,f2,S,D,J⟩:=N it (by simp)
  have hx:=cS Z;rcases a with rfl|rfl
  ·exact wpAny_pyNext_ascii_end (I.ok.hd B) st hx λh' eb=>⟨rfl,I.turned (λb o f e=>eb b o f e) G y S D J⟩
  ·exact wpAny_pyNext_wide_end (I.ok.hd B) st hx λh' eb=>⟨rfl,I.turned (λb o f e=>eb b o f e) G y S D J⟩
 ·rcases a with rfl|rfl
  ·exact wpAny_pyIter_striter_ascii st h
  ·exact wpAny_pyIter_striter_wide st h
noncomputable def wv (x:Str):List T:=x.cps.toList.map λc=>T.str ⟨#[c]⟩
def V2 {k f:Hp}{x:Str}:rI k f (BH x) (wv x):=λl o u p=>by
 have d:(wv x).length=x.cps.size:=by unfold wv;simp
 refine⟨λi hi=>by rw[d]at hi;exact hi,λi t v H3 e y=>?_,λi hi=>by rw[d]at hi;exact hi⟩
 obtain⟨rfl,c,j,rfl⟩:=y;refine⟨zr.refl _,?_⟩;unfold wv at e;rw[aj]at e;have a:x.cps.toList[i]?=some c:=by simpa using j
 rw[a]at e;cases e;exact .str _
section
variable {X:Cx}{Y:Fx}{a b c d tg:Expr}{fa fb fc fd:En->R T}{pos p:Pos}
def Gw {l:Expr}{G:TE}(S:PE X l G):PI X tg l (λy H R=>G y H λx f=>(∃a,x=.ref a/\(((∃xs,SqL X.K f a xs)/\R (tT X.K a) f)\/((∃xs,SqT X.K f a xs)/\R (Bo X.K a) f)))\/(∃z,x=.str z/\R (BH z) f)):=by
 intro D s y H R I h;refine lF (S _ s y H _ I h) λv i=>EP.on λx f j B Q=>?_;have ok:∀b∈[i.1.1.size],wU X _ f b:=λb U=>by
  have e:=by simpa using U
  subst e;exact j.fpOk (ar _) (j.hok.fresh (ar _))
 rcases Q with ⟨a,e,q⟩|⟨z,e,q⟩
 ·subst e;obtain rfl:v=Value.ref a:=B;rcases q with ⟨⟨xs,u⟩,q⟩|⟨⟨xs,u⟩,q⟩
  ·obtain⟨k,N,p,P⟩:=j.list u;exact cj p.isList ⟨i.1.1.size,[i.1.1.size],_,_,f,rfl,j.kept λb o e=>ag _ e,WZ a _,⟨_,ao _ rfl,rfl,rfl⟩,ok,q⟩
  ·obtain⟨k,N,p,P⟩:=j.tuple u;exact wpAny_pyIter_tuple (show i.heap.IsTuple a _ from p) ⟨i.1.1.size,[i.1.1.size],_,_,f,rfl,j.kept λb o e=>ag _ e,yr a _,⟨_,ao _ rfl,rfl,rfl⟩,ok,q⟩
 ·subst e;obtain⟨t,rfl⟩:=B;cases J:z.cps.all _
  ·exact wpAny_pyIter_wide J ⟨i.1.1.size,[i.1.1.size],_,_,f,rfl,j.kept λb o e=>ag _ e,W8 _ (.inr rfl),⟨_,ao _ rfl,rfl,rfl⟩,ok,q⟩
  ·exact wpAny_pyIter_ascii J ⟨i.1.1.size,[i.1.1.size],_,_,f,rfl,j.kept λb o e=>ag _ e,W8 _ (.inl rfl),⟨_,ao _ rfl,rfl,rfl⟩,ok,q⟩
def ww:T->R (List T)
 |.lst xs=>.ok xs
 |.tup xs=>.ok xs
 |.str x=>.ok (wv x)
 |_=>.bad
def j3 (fa:En->R T):En->R (List T):=λρ=>(fa ρ).bind ww
def D9 (o:Snd X Y a fa):U3 X Y tg a (j3 fa):=.mk λρ=>PI.imp (Gw (o ρ)) λu H R=>tS.on λB I q=>step I q λt v j _ x k f i=>by
 cases k with
 |@tup l xs ts h r=>
  exact .inl ⟨l,rfl,.inr ⟨⟨xs,SqT.of (f.sB _ _ h)⟩,ZC f (show Po Y rI _ j _ R from i) (Gj h r)⟩⟩
 |@lst l xs ts h r=>
  exact .inl ⟨l,rfl,.inl ⟨⟨xs,SqL.of (f.sB _ _ h)⟩,ZC f (show Po Y rI _ j _ R from i) (Gk h r)⟩⟩
 |str z=>exact .inr ⟨z,rfl,ZC f (show Po Y rI _ j _ R from i) V2⟩
 |_=>exact i.elim
end
def Inv.laidT {X:Cx}{d:List 000}{l:Sg}{H:Hp}{s:Shared}{h':Heap}{tk:Nat}{ch:List Addr}{a:Addr}{xs:List V}(I:L2.Inv X d l H s)(x:∀b∈ch,wU X d H b)(k:∀b o,b∉ch->s.heap.get? b=some o->h'.get? b=some o)
  (S:∀b o,b∈ch->s.heap.get? b=some o->∃D,h'.get? b=some D) (p:s.1.1.size<=a) (new:Zd X.prog X.w (lf H a (.tup xs)) h' a (.tup xs)):L2.Inv X d l (lf H a (.tup xs)) {s with heap:=h',toks:=tk}:=by
 have hn:=I.hok.fresh p;have j:∀b u,H b=some u->b∉ch:=λb u e i=>by rw[(x b i).1]at e;cases e
 refine I.call' rfl ⟨λb o e n _ f=>k b o f e,λb o e n _ f=>⟨o.slots,k b o f e⟩,λb o e n _=>by rw[zu (aM (aP (az e) p))];exact n,λb o e f=>⟨o,k b o f e⟩,
  λb J e=>by rw[zu (zG e hn)];exact e,λb o u e=>by rw[zu (zG e hn)];exact e,λb U q e=>by rw[zu (zG e hn)];exact e⟩ (λb u e=>?_) I.bare λb i=>?_
 ·by_cases i:b=a
  ·subst i;rw[zw]at e;cases e;exact new
  ·rw[zu i]at e;refine(I.hok b u e).stay (λc v f q=>?_) (λc q=>by rw[zu (zG q hn)];exact q) (λc J q=>by rw[zu (zG q hn)];exact q) λc o u q=>by rw[zu (zG q hn)];exact q
   rcases f with rfl|f
   ·exact k c v (j c u e) q
   ·exact k c v (j c _ f) q
 ·obtain⟨P,y,Q,N,B,G⟩:=x b i;exact⟨N,y,B,G⟩
def A1 (K:aa)(l:Addr):It:=
 ⟨λi H=>∃xs x,SqL K H l xs/\xs[i]?=some x,λi H v a=>∃p x,H p=none/\v=.ref p/\(∀xs,SqL K H l xs->xs[i]?=some x)/\a=lf H p (.tup [.int i,x]),λi H=>∃xs,SqL K H l xs/\xs.length<=i⟩
def YZ {P:Program}{w:World}{K:aa}{J:List Expr}{kk:Nat}{pt:Pos}(e it l:Addr)(S:e≠it)(hle:l≠e)(Z:l≠it):
  Y2 P w K (.Tuple J kk pt) (A1 K l) [e,it] e (λi h=>(∃old,IsEnum h e it i old)/\h.IsListIter it l i) where
 mem:=by simp
 obj:=λi h st b a=>by
  obtain⟨⟨old,D⟩,o,e1,c,d⟩:=st;rcases ay.mp a with rfl|a
  ·exact⟨_,D,λv z=>nomatch z⟩
  ·have z:b=it:=by simpa using a
   subst z;exact⟨o,e1,λv z=>by rw[d]at z;cases z⟩
 keep:=λi h h' st k=>by
  obtain⟨⟨old,D⟩,f⟩:=st;exact⟨⟨old,k e (by simp) _ D⟩,f.at λo x=>k it (by simp) o x⟩
 item:=by
  intro X hP hw hK hc i N s σ H E I hf st hg;subst hP hw hK;obtain⟨xs,x,hq,hx⟩:=hg;obtain⟨j,rv,p,hz⟩:=I.list hq;obtain⟨u,hu,ru⟩:=rv.get hx;obtain⟨⟨old,D⟩,f⟩:=st;have hi:i<j.toArray.size:=by
   have:=(ak.mp hu).1;simpa using this
  refine(iY (prog:=X.prog) (w:=X.w) (I.ok.hd hc) e it l S hle Z j.toArray).item i s _ _ hi ⟨⟨old,D⟩,f,p.isList⟩ λT vals h' tk hP hT Q hM hk=>?_;obtain⟨t,y,hy,rfl⟩:=hP;have hyu:y=u:=by
   have:j[i]?=some y:=by simpa using hy
   rw[hu]at this;exact(aA this).symm
  subst hyu;refine⟨.ref T,rfl,?_⟩;refine(iY (prog:=X.prog) (w:=X.w) (I.ok.hd hc) e it l S hle Z j.toArray).go J kk pt i T _ _ _ hM λh2 B U=>?_;have hTn:H T=none:=I.hok.fresh hT;have G:∀b∈[e,it],b≠T:=λb a z=>by
   obtain⟨_,_,_,h3,h4⟩:=hM;rcases ay.mp a with rfl|a
   ·exact h3 z.symm
   ·have:b=it:=by simpa using a
    subst this;exact h4 z.symm
  have VB:IsTup h2 T #[.int i t,y]:=by
   obtain⟨o,eo,r⟩:=Q;exact⟨o,U T o (λa=>G T a rfl) eo,r⟩
  refine⟨.ref T,lf H T (.tup [.int i,x]),Inv.laidT (s:=s) (h':=h2) (ch:=[e,it]) (tk:=tk) I hf (λb o a e=>U b o a (hk b o a e)) (λb o a _=>?_) hT ⟨by rw[cC];show 2<=16777216;decide,[.int i t,y],.cons ⟨t,rfl⟩ (.cons ru .nil),VB,.inl ⟨_,_,rfl⟩⟩,rfl,⟨T,x,hTn,rfl,λys hy=>by rw[I.list_inj hy hq];exact hx,rfl⟩,⟨B.1,B.2.1⟩,λb a=>?_⟩
  ·obtain⟨⟨old2,he2⟩,⟨o2,eo2,_⟩,_⟩:=B;rcases ay.mp a with rfl|a
   ·exact⟨_,he2⟩
   ·have:b=it:=by simpa using a
    subst this;exact⟨o2,eo2⟩
  ·rw[zu (G b a)];exact(hf b a).1
 done:=by
  intro X hP hw hK hc i N s σ H E I hf st hg;subst hP hw hK;obtain⟨xs,hq,hx⟩:=hg;obtain⟨j,rv,p,hz⟩:=I.list hq;obtain⟨⟨old,D⟩,f⟩:=st;have hl:=rv.length;refine wpAny_pyNext_enum_end (I.ok.hd hc) D f p.isList (cS (by simp;lia)) λh' hk=>⟨rfl,?_⟩
  obtain⟨f0,f1,f2,f3,f4,f5⟩:=hf it (by simp)
  exact I.turned (t':=s.toks) (λb o a e=>hk b o a e) f0 f1 f3 f4 f5
 self:=λ_ _ _ _ _ st h=>let ⟨⟨_,D⟩,_⟩:=st;wpAny_pyIter_enum D h
noncomputable def jK (xs:List T):List T:=(xs.zipIdx).map λp=>T.tup [.int (p.2:Nat),p.1]
def um {xs:List T}{i:Nat}{t:T}(h:(jK xs)[i]?=some t):∃x,xs[i]?=some x/\t=.tup [.int (i:Nat),x]:=by
 unfold jK at h;rw[aj,i5]at h;cases e:xs[i]? with
 |none=>rw[e]at h;cases h
 |some x=>rw[e]at h;cases h;exact⟨x,rfl,by simp⟩
def JE (xs:List T):(jK xs).length=xs.length:=by unfold jK;simp
def XV {K:aa}{f o:Hp}{a:Addr}{xs:List V}{ts:List T}(h:f a=some (.lst xs))(r:zK f xs ts):rI f o (A1 K a) (jK ts):=λG I k j=>by
 have d:=j _ _ (k _ _ h);rw[JE];refine⟨λi hi=>?_,λi t x H3 e y=>?_,λi hi=>⟨xs,SqL.of d,by rw[r.length];exact hi⟩⟩
 ·obtain⟨v,e,_⟩:=r.get (am hi);exact⟨xs,v,SqL.of d,e⟩
 ·obtain⟨p,v,hp,rfl,y,rfl⟩:=y;obtain⟨t',u,rfl⟩:=um e;obtain⟨D,B,l⟩:=r.get u;have:=y xs (SqL.of d);rw[B]at this;cases this;refine⟨zr.new hp _,.tup (jS hp _) (.cons (.int _) (.cons ?_ .nil))⟩;exact(l.mono k).mono (zN.ge j (zr.new hp _))
section
variable {X:Cx}{Y:Fx}{a:Expr}{fa:En->R T}{pos p pt:Pos}{elts:List Expr}{kk:Nat}
def XW {G:TA}(Q:Gl X "enumerate")(U:X.mg "enumerate"=none)(Z:PA X [a] G)(S:lZ X a:=by exact lS rfl):
  PI X (.Tuple elts kk pt) (.Call (.Name "enumerate" p) [a] [] pos) (λv H R=>G v H λvs d=>∃l xs,vs=[.ref l]/\d l=some (.lst xs)/\R (A1 X.K l) d):=by
 intro y s v H R I h;refine Call_ (ja I Q U PyProof.Rows.Boot.«enumerate» (bc (lF (Z pos _ s v H _ I h) λus k zz=>?_) S rfl));obtain⟨vs,d,i,J,q1⟩:=zz;obtain⟨l,xs,e,hl,q⟩:=q1;subst e;obtain⟨u,rfl,ru⟩:=ZP J;obtain rfl:u=Value.ref l:=ru;obtain⟨_,P,n,rv,D⟩:=(show Zd _ X.w d _ l _ from i.hok l _ hl);have j:=az D;refine call_enumerate_1 D λh' B o hsz N=>wpAny_pyIter_enum B ?_;have f:∀b∈[k.1.1.size+1,k.1.1.size],wU X _ d b:=λb x=>by
  rcases ay.mp x with rfl|x
  ·exact i.fpOk (e_ _) (i.hok.fresh (e_ _))
  ·have z:=by simpa using x
   subst z;exact i.fpOk (ar _) (i.hok.fresh (ar _))
 exact⟨k.1.1.size+1,[k.1.1.size+1,k.1.1.size],_,_,d,rfl,i.kept N,YZ _ _ l (iZ _) (aM (df j)) (aM j),⟨⟨_,B⟩,o⟩,f,q⟩
def XX (fa:En->R T):En->R (List T):=λρ=>(fa ρ).bind λt=>match t with
 |.lst xs=>.ok (jK xs)
 |_=>.bad
def Gx (k:Gl X "enumerate")(u:X.mg "enumerate"=none)(x:Snd X Y a fa)(d:lZ X a:=by exact lS rfl):U3 X Y (.Tuple elts kk pt) (.Call (.Name "enumerate" p) [a] [] pos) (XX fa):=.mk λρ=>
 PI.imp (XW k u (zB (x ρ) zT d) d) λy H R=>tS.on λB I q=>step I q λt v o _ D j f i=>by
  cases j with
  |@lst l xs ts h r=>exact⟨l,xs,rfl,f.sB _ _ h,ZC f (show Po Y rI _ o _ R from i) (XV h r)⟩
  |_=>exact i.elim
noncomputable def Y5:List T->Option (List Str)
 |[]=>some []
 |.str x::r=>match Y5 r with|some d=>some (x::d)|none=>none
 |_::_=>none
def Gy (d:Str):T->R T
 |.lst ts=>match Y5 ts with
  |some f=>if (f.map (·.length)).sum+f.length*d.length<=16777216 then .ok (.str (Txt.join d f))else .bad
  |none=>.bad
 |_=>.bad
def UD {H:Hp}{xs:List V}{ts:List T}{d:List Value}{f:List Str}(hr:zK H xs ts)(q:zZ xs d)(h:Y5 ts=some f):StrsAre d f:=by
 induction q generalizing ts f with
 |nil=>cases hr;cases h;exact .nil
 |cons i vs j=>
  cases hr with
  |cons r k=>
  cases r with
  |str x=>
   unfold Y5 at h;split at h
   ·rename_i l e;cases h;obtain⟨tk,rfl⟩:=i;exact .cons x tk (j k e)
   ·cases h
  |_=>cases h
def XY:o4 X "str.join" (λx xs H Q=>∃z l i ts d,x=.str z/\xs=[.ref l]/\H l=some (.lst i)/\zK H i ts/\Y5 ts=some d/\(d.map (·.length)).sum+d.length*z.length<=16777216/\Q (.str (Txt.join z d)) H):=by
 intro j s J H x xs v N Q I D f h;obtain⟨z,l,i,ts,d,rfl,rfl,y,r,e,G,q⟩:=h;obtain⟨t,rfl⟩:=D;obtain⟨u,rfl,B⟩:=ZP f;obtain rfl:u=Value.ref l:=B;obtain⟨o,f,p,_⟩:=Z0 I (.inl y) r;exact join_list p (by simpa using UD r f e) G λt' k=>⟨.str _,H,I.tok k,⟨t',rfl⟩,q⟩
def Gz {z:Str}{i:Nat}{f o:Pos}(J:jH X Y a fa)(P:attributeBase (.Constant (.str z) i f) "join" X.env (eval (.Constant (.str z) i f) X.env)=eval (.Constant (.str z) i f) X.env:=by rfl)(k:lZ X a:=by exact lS rfl)
  (G:(o.endLine==p.line)=true:=by rfl):Snd X Y (.Call (.Attribute (.Constant (.str z) i f) "join" o) [a] [] p) (lG (Gy z) fa):=.mk λρ=>by
 have D:(((((backTo p (starEach [a] X.env)).all λx=> !x.fst)&&(backToKw p (keywordEach [] X.env)).all λx=>x.fst.isSome)&&decide (([a].length+([]:List Keyword).length+if ([]:List Keyword).isEmpty=true then 0 else 1)<30))=true):=by rw[k];rfl
 refine PE.imp (yE PySem.F.plainAttrs_str PySem.F.slot_str_join PySem.F.type_str_join XY xf (zB (J ρ) zT k) P D G k rfl) λU H Q=>tS.on λB I q=>?_;refine⟨rfl,step I q λt v y _ Z u S d=>?_⟩;cases u with
 |@lst l xs ts h r=>
  have d:Po Y rC _ y (match Y5 ts with|some j=>if (j.map _).sum+j.length*z.length<=16777216 then .ok _ else .bad|none=>.bad) Q:=d
  split at d
  ·rename_i j e;split at d
   ·rename_i N;exact⟨z,l,xs,ts,j,rfl,rfl,h,r,e,N,lW S.sB d rfl (.str _)⟩
   ·exact d.elim
  ·exact d.elim
 |_=>exact d.elim
end
noncomputable def dd:List Str->List Str->List Str
 |acc,[]=>acc
 |acc,x::r=>dd (if x∈acc then acc else acc++[x]) r
section
variable {prog:Program}{w:World}{A:Around}{R:Result->Shared->Prop}{I:Addr}{fp wr:List Addr}{n:Nat}{P:Nat->Value->Prop}{St:Nat->Heap->Prop}
def jB {h h':Heap}{S:Addr}{f g:Str->Bool}{m k:Nat}(x:h.SetOf (strKind prog w) S f m)(e:∀o,h.get? S=some o->h'.get? S=some o)(j:f=g)(d:m=k):h'.SetOf (strKind prog w) S g k:=by
 subst j d;obtain⟨o,l,a,t,i,r⟩:=x;exact⟨o,l,a,t,e o i,r⟩
def V3 (W:Walks prog w A.in1 I fp wr n P St)(S:Addr)(f:S∉fp)(a:Nat->Str)(G:∀i v,P i v->∃t,v=Value.str (a i) t)(d:n+1<scanBound):
  ∀(k i:Nat) (acc:List Str) (s:Shared),n-i=k->i<=n->acc.length<=i->St i s.heap->s.heap.SetOf (strKind prog w) S (λx=>decide (x∈acc)) acc.length->
   (∀h' tk,(∀b o,b∉S::wr->s.heap.get? b=some o->h'.get? b=some o)->h'.SetOf (strKind prog w) S (λx=>decide (x∈dd acc ((l5 i k).map a))) (dd acc ((l5 i k).map a)).length->
    R (.ok (.ret .none)) {s with heap:=h',toks:=tk})->codeAny 001 A (.builtin "set.update.loop" ⟨[.ref S,.ref I],[]⟩) R s:=by
 intro k
 induction k with
 |zero=>
  intro i acc s hk hi N j hS hR;obtain rfl:i=n:=by lia
  refine bS fH ?_;refine a7 (W.done s _ _ j λh' tk B=>au ?_);exact hR h' tk (λb o d e=>B b o (λz=>d (ae _ z)) e) (jB hS (λo e=>B S o (λz=>f (W.sub _ z)) e) rfl rfl)
 |succ k ih=>
  intro i acc s hk hi N j hS hR;refine bS fH ?_;refine a7 (W.item i s _ _ 00 j λv h1 tk1 hP y p=>?_)
  obtain⟨t,rfl⟩:=G i v hP;have Q:=jB hS (λo e=>p S o (λz=>f (W.sub _ z)) e) rfl rfl;refine a7 (m:=holding _ _) (bW ?_);unfold setAdd;have u:(strKind prog w).is (a i) (.str (a i) t)=true:=strKind_is _ _ _ _;refine bW (a7 ((strKind _ w).pyHash u ?_));refine wpAny_setAddHashed_of u rfl Q 00 λh2 D X=>?_
  have e2:(if decide (a i∈acc)=true then acc.length else acc.length+1)=(if a i∈acc then acc else acc++[a i]).length:=by
   by_cases l:a i∈acc
   ·simp[l]
   ·simp[l]
  have e1:(λx=>decide (x∈acc)||decide (x=a i))=(λx=>decide (x∈(if a i∈acc then acc else acc++[a i]))):=by
   funext x
   by_cases l:a i∈acc
   ·simp only[if_pos l]
    by_cases hx:x=a i
    ·subst hx;simp[l]
    ·simp[hx]
   ·simp[l,Bool.decide_or]
  have hS3:=jB X (λo e=>e) e1 e2;refine au ⟨cH F.plain_set_update_loop _,ih _ _ _ 00 00 ?_ (W.frame _ h1 _ y λb d o e=>?_) hS3 λh3 J U Z=>?_⟩
  ·split
   ·lia
   ·rw[aB,aX];lia
  ·exact(D.2 b (λz=>f (z▸d))).trans e
  ·refine hR h3 J (λb o d e=>U b o d ?_) Z;exact(D.2 b (λz=>d (z▸aq))).trans (p b o (λz=>d (ae _ z)) e)
end
section
variable {prog:Program}{w:World}{A:Around}{E:Value->Shared->Prop}{s:Shared}
set_option maxRecDepth 100000 in
set_option maxHeartbeats 3200000 in
def qa {l:Addr}{a:List Value}{j:List Str}{Q:Value->Shared->Prop}(hh:A.handled=none)(hl:s.heap.IsList l a.toArray)(hi:StrsAre a j)(hb:a.length+1<scanBound)
  (h:∀(h':Heap) (tk:Nat),h'.SetOf (strKind prog w) s.1.1.size (λx=>decide (x∈dd [] j)) (dd [] j).length->(∀b o,b<s.1.1.size->s.heap.get? b=some o->h'.get? b=some o)->
   Q (.ref s.1.1.size) {s with heap:=h',toks:=tk}):wpAny 001 A (call (.type "set") [.ref l]) Q E s:=by
 have getv:∀{a:List Value} {j:List Str},StrsAre a j->a.length=j.length/\∀(i:Nat) (v:Value),a[i]?=some v->∃t,v=Value.str (j.getD i ⟨#[]⟩) t:=λ{a j} hi=>by
  induction hi with
  |nil=>exact⟨rfl,λi v e=>by simp at e⟩
  |cons y t _ ih=>
   refine⟨by simp[ih.1],λi v e=>?_⟩
   cases i with
   |zero=>exact⟨t,by simpa using e.symm⟩
   |succ i=>exact ih.2 i v (by simpa using e)
 obtain⟨P,hget⟩:=getv hi;have hys:(l5 0 a.length).map (λi=>j.getD i ⟨#[]⟩)=j:=by
  rw[P];refine dg λi=>?_;rw[aj]
  by_cases I:i<j.length
  ·rw[List.getElem?_range' I,am I];simp[am I]
  ·rw[aU (by simp;lia),aU 00]
   rfl
 obtain⟨c,tl,hmro⟩:=cU.mro;have hmade:=cU.made;have hsub:=cU.sub;have h1:=cU.notType;have h2:=cU.canCreate;have hct:=F.typeCall_set_1 (.ref l);refine dF (codeAny_of_tree (show wpAny _ _ (callAny (.type "set") _) _ _ _ from ?_));refine au ⟨iq _ (by decide+kernel),bS F.entry_type_call ?_⟩
 rw[Around.under_plain (weight_type_call_type "set" [.ref l] []) rfl]
 repeat any_goals (first|assumption|wp_step)
 refine cD (code_set_new_1 (.ref l) (E:=E) (Q₁:=λobj u=>∃d:Bool,obj=.ref s.1.1.size/\u={s with heap:=s.heap.push {cls:=.type "set",dict:=none,data:=.set #[] 0 (.fresh 0 0 d)} }) λd=>⟨d,rfl,rfl⟩) λr u hr=>?_;cases r with
 |error e=>exact hr
 |ok fl=>
  cases fl with
  |ret obj=>
   obtain⟨d,rfl,rfl⟩:=hr;generalize hG:s.heap.push {cls:=.type "set",dict:=none,data:=.set #[] 0 (.fresh 0 0 d)}=G;have hS:G.get? s.1.1.size=some {cls:=.type "set",dict:=none,data:=.set #[] 0 (.fresh 0 0 d)}:=by rw[←hG];exact ao _ rfl
   have D:G.objs.size=s.1.1.size+1:=by rw[←hG,bX]
   have X:∀b o,s.heap.get? b=some o->G.get? b=some o:=λb o e=>by rw[←hG];exact ag _ e
   have hT:Shared.TypeIs {s with heap:=G} (.ref s.1.1.size) "set":=⟨_,hS,rfl⟩;have hli:=cU.init.lookup;have hbi:=cU.init.bind (.ref s.1.1.size)
   repeat any_goals (first|assumption|wp_step)
   refine cD (codeAny_call_builtin (R:=wants (λr p=>r=.none/\∃h' tk,p={s with heap:=h',toks:=tk}/\h'.SetOf (strKind prog w) s.1.1.size (λx=>decide (x∈dd [] j)) (dd [] j).length/\
     (∀b o,b<s.1.1.size->s.heap.get? b=some o->h'.get? b=some o)) E) cU.init.plain F.entry_set_init (check_set_init_1 hT ?_)) λr₂ p f=>?_
   ·obtain⟨⟨ocls,odict,odata,oslots⟩,U,S,nl,Z⟩:=hl;simp only at S Z;subst S;subst Z;have hol':=X _ _ U;have hsls:=F.sub_list_set;have hslf:=F.sub_list_frozenset;have hne:(Value.type "list"==Value.type "dict")=false:=by decide
    have N:G.IsList l a.toArray:=⟨_,hol',rfl,nl,rfl⟩;have hlS:l<s.1.1.size:=az U;unfold Builtin.«set.__init__» noKeywords Builtin.Frozenset.updateFrom;generalize hPI:pyIter=PI
    wp_walk
    subst hPI;refine cj N (a7 (wpAny_runValue ?_));have hSf:s.1.1.size∉[G.objs.size,l]:=by
     rw[D];intro z;rcases ay.mp z with z|z
     ·exact absurd z (aM (dm _))
     ·exact absurd (aQ.mp z) (dL hlS)
    refine V3 (eS (A:=A.in1.in1.in1) (by simp[hh]) G.objs.size l (by rw[D];exact aM (df hlS)) a.toArray) s.1.1.size hSf (λi=>j.getD i ⟨#[]⟩) (λi v e=>hget i v (by simpa using e)) (by simpa using hb) a.length 0 [] _ (by simp) (bu _) (ar _)
     ⟨⟨_,ao _ rfl,rfl,rfl⟩,N.push _⟩ ?_ ?_
    ·have J:(G.push {cls:=.type "list_iterator",data:=.fields #[.ref l,.int 0 0]}).get? s.1.1.size=some {cls:=.type "set",dict:=none,data:=.set #[] 0 (.fresh 0 0 d)}:=ag _ hS;exact jB ((PyProof.Rows.setObjOf_fresh (knd:=strKind prog w) d).setOf J (by unfold scanBound;lia)) (λo e=>e) (by funext x;simp) rfl
    ·intro h' tk' hm k;rw[hys]at k;refine au (show wpAny _ _ (ret Value.none) _ _ _ from au ⟨rfl,h',tk',rfl,k,λb o hb e=>?_⟩);refine hm b o (λz=>?_) (ag _ (X b o e));rcases ay.mp z with z|z
     ·exact absurd z (aM hb)
     ·have z':b=G.objs.size:=aQ.mp z;rw[D]at z';exact absurd z' (aM (df hb))
   ·cases r₂ with
    |error e=>exact f
    |ok B=>
     cases B with
     |ret r=>
      obtain⟨rfl,h',tk,rfl,k,hk'⟩:=f
      repeat any_goals (first|assumption|wp_step)
      exact h _ _ k hk'
     |_=>exact f.elim
  |_=>exact hr.elim
end
section
variable {X:Cx}{Y:Fx}{a b:Expr}{fa fb:En->R T}{pos pos' p p':Pos}
def qb (Z:X.A.handled=none):Zt X (.type "set") (λvs H Q=>∃l xs ts d,vs=[.ref l]/\H l=some (.lst xs)/\zK H xs ts/\Y5 ts=some d/\ts.length+1<4096/\
  ∀q,H q=none->Q (.ref q) (lf H q (.ext λh=>h.SetOf (strKind X.prog X.w) q (λx=>decide (x∈dd [] d)) (dd [] d).length))):=by
 intro y s σ H vs us Q I k h;obtain⟨l,xs,ts,d,rfl,S,r,ey,hb,q⟩:=h;obtain⟨u,rfl,U⟩:=ZP k;obtain rfl:u=Value.ref l:=U;obtain⟨G,k,pl,N,_⟩:=Z0 I (.inl S) r;refine qa Z pl (UD r k ey) (by unfold scanBound;lia) λh' tk B D=>?_
 refine⟨.ref _,_,I.laid (λb u e=>D b u (az e) e) (ar _) ?_,rfl,q _ (I.hok.fresh (ar _))⟩;obtain⟨o,es,ep,t,J,rr⟩:=id B;exact⟨B,⟨o,J⟩,λh1 h2 ⟨o1,f,i,P,v,j⟩ e=>⟨o1,f,i,P,e _ v,j⟩⟩
def qc:Zt X (.builtin "len") (λvs H Q=>∃q d f n,vs=[.ref q]/\H q=some (.ext d)/\(∀h:Heap,d h->h.SetOf (strKind X.prog X.w) q f n)/\Q (.int n) H):=by
 intro j s N H vs S Q I v h;obtain⟨l,d,f,n,rfl,B,i,q⟩:=h;obtain⟨u,rfl,D⟩:=ZP v;obtain rfl:u=Value.ref l:=D;obtain⟨G,_,_⟩:=(show Zd _ X.w H _ l _ from I.hok l _ B);obtain⟨o,x,P,t,k,hex,hd,_,_,J,y,hn⟩:=i _ G;refine call_len_set k hex hd y ?_ ⟨.int _,H,I.tok _,⟨_,rfl⟩,by rw[hn];exact q⟩
 have:x.size<4096:=J;lia
def V4:T->R T
 |.lst ts=>match Y5 ts with
  |some d=>if ts.length+1<4096 then .ok (.int (dd [] d).length)else .bad
  |none=>.bad
 |_=>.bad
def GA (j:X.A.handled=none)(P:Gl X "len")(D:X.mg "len"=none)(k:Gl X "set")(i:X.mg "set"=none)(J:jH X Y a fa)(o:lZ X a:=by exact lS rfl)(f:lZ X (.Call (.Name "set" p') [a] [] pos'):=by exact lS rfl):
  Snd X Y (.Call (.Name "len" p) [.Call (.Name "set" p') [a] [] pos'] [] pos) (lG V4 fa):=.mk λρ=>
 PE.imp (ZY qc P D PySem.boot_len (zB (je (qb j) k i PyProof.Rows.Boot.«set» (zB (J ρ) zT o) 03 03 o rfl) zT f) 03 03 f rfl) λS H Q=>tS.on λB I q=>
  step I q λt v y _ Z x U d=>by
   cases x with
   |@lst l xs ts h r=>
    have d:Po Y rC _ y (match Y5 ts with|some u=>if ts.length+1<4096 then .ok _ else .bad|none=>.bad) Q:=d
    split at d
    ·rename_i u e;split at d
     ·rename_i N;refine⟨l,xs,ts,u,rfl,h,r,e,N,λz G=>⟨z,_,_,_,rfl,zw,λh j=>j,?_⟩⟩;exact d _ _ (zr.new G _) (.int _)
     ·exact d.elim
    ·exact d.elim
   |_=>exact d.elim
def GB (i j:Nat)(d:En->R (List T)):En->RS:=λρ=>(d ρ).s λts=>match ts with
 |[x,y]=>.nx ((ρ.set i (.vl x)).set j (.vl y))
 |_=>.bad
def FQ {i j:Nat}{x y:Str}{G:En->R (List T)}{o l pt d:Pos}{k k2:Nat}(Q:X.calm=true)(hN:X.N.Nodup)(hi:X.N[i]?=some x)(Z:X.N[j]?=some y)(v:i≠j)(U:X.env.scope.names.lookup x=some .local)(hy:X.env.scope.names.lookup y=some .local)
  (ha:JN X Y [a,b] G) (P:swappedStores [.Tuple [.Name x o,.Name y l] k pt] (.Tuple [a,b] k2 d) X.env=pure (some [x,y])) (S:swapsWithSole [.Tuple [.Name x o,.Name y l] k pt] (.Tuple [a,b] k2 d) pos.line X.env=pure false:=by rfl):
  Jf X Y (.Assign [.Tuple [.Name x o,.Name y l] k pt] (.Tuple [a,b] k2 d) pos) (GB i j G):=.mk λρ=>
 PS.imp (xh Q hN hi Z v U hy (ha ρ) P S) λD σ H=>tSS.on λB I q=>jZ I q λts vs H1 _ s1 J I1 f=>by
  cases J with
  |nil=>exact f.elim
  |cons r u=>
   cases u with
   |nil=>exact f.elim
   |cons r' u=>
    cases u with
    |cons _ _=>exact f.elim
    |nil=>exact⟨_,_,rfl,f _ _ _ (zr.refl _) ((I1.setV i r).setV j r')⟩
end
def GC {X:Cx}{E:XK}:zS mM X E:=λ_ _ _ _ _ _ _ h=>h.elim
section
variable {X:Cx}{Y:Fx}{a b:Expr}{fa fb:En->R T}{pos pos' p p':Pos}
def XZ {cl:Nat->Value}{k j n:Nat}{f:Addr}{o:FuncData}{i:List Str}{g:List T->R T}{x:Str}{d:List Expr}{l:En->R (List T)}(hy:Y.cl=cl)(F:ZX X.prog X.w X.K X.mg X.base mM j f o i (spP cl n g))(hr:Ze k X.A)(y:j<=k)(v:Gl X x)
  (B:X.mg x=some (.ref f)) (kp:bx X.K (.ref f)=true) (bd:L2.Binds X.K o i []) (G:JN X Y (a::d) l) (hd:(x==("__debug__":Str))=false:=by decide)
  (u:starEach (a::d) X.env=(false,eval a X.env)::starEach d X.env:=by exact zC rfl) (D:((backTo pos (starEach d X.env)).any λx=>x.fst)=false:=by exact zX rfl):Snd X Y (.Call (.Name x p) (a::d) [] pos) (za n g l):=by
 subst hy;exact xx F (hr.mono y) v B kp bd GC G hd u D
def Wy {x:Str}{i:Int}{u:Value}(d:Gl X x)(f:X.mg x=some u)(j:∃t,u=Value.int i t)(hd:(x==("__debug__":Str))=false:=by decide):Snd X Y (.Name x pos) (cE (.int i)):=.mk λρ=>
 PE.imp (Wp (v:=.int i) d f j hd) λk H Q=>tS.on λB I q=>ZC I q (.int i)
end
noncomputable def k6 (scope a:Scope):Bool:=(scope.kind==.function)&&scope.names.all (λx=>x.2 !=.cell)&&scope.names.all (λx=>x.2 !=.local||scope.names.lookup x.1==some .local)&&
 scope.names.all (λx=>x.2 !=.free||a.names.lookup x.1==some .cell||a.names.lookup x.1==some .free)
def qd {X:Cx}{scope:Scope}(d:Scope)(l:X.env.scope=d)(h:k6 scope d=true):rl X scope:=by
 unfold k6 at h;simp only[ai,aI]at h;obtain⟨⟨⟨o,k⟩,i⟩,j⟩:=h;refine⟨eq_of_beq o,λx a=>by simpa using k x a,λx a f=>?_,λx a p=>?_⟩
 ·have:=i x a;rw[f]at this;simpa using this
 ·have:=j x a;rw[p]at this;show X.env.scope.names.lookup x.1=_\/X.env.scope.names.lookup x.1=_;rw[l];simpa using this
noncomputable def k7 (N N':List Str)(scope a:Scope)(k:Nat)(js:List Nat):Bool:=(N'.length==k+js.length)&&(aZ js.length).all λi=>match js[i]? with
 |none=>true
 |some j=>match N'[k+i]?,N[j]? with
  |some x,some y=>(x==y)&&(a.names.lookup x==some .cell||a.names.lookup x==some .free)&&(scope.names.lookup x==some .free)
  |_,_=>false
def U6 {X:Cx}{scope:Scope}{N':List Str}{k:Nat}{js:List Nat}(N:List Str)(a:Scope)(B:X.N=N)(f:X.env.scope=a)(h:k7 N N' scope a k js=true):Gr X scope N' k js:=by
 unfold k7 at h;simp only[ai,aI]at h;obtain⟨p,l⟩:=h;refine⟨eq_of_beq p,λi j e=>?_⟩;have hi:=(ak.mp e).1;have q:=l i (bn.mpr hi);rw[e]at q;dsimp only at q;split at q
 ·rename_i x y u v;simp only[ai,Bool.or_eq_true,beq_iff_eq]at q;obtain⟨⟨rfl,d⟩,o⟩:=q;refine⟨x,u,by rw[B];exact v,?_,o,?_⟩
  ·rw[f];exact .inr d
  ·show X.env.scope.names.lookup x=_\/X.env.scope.names.lookup x=_;rw[f];exact d
 ·cases q
def xF {X:Cx}{Y:Fx}{l iter f:Expr}{j:List Expr}{scope:Scope}{k:Nat}{js:List Nat}{fi:En->R (List T)}{o:TG}{g:T->En->R En}{ft:En->R Bool}{fe:En->R T}(N':List Str)(N:List Str)(a:Scope)(D:X.N=N)(p:X.env.scope=a)
  (h:(k6 scope a&&k7 N N' scope a k js)=true) (B:X.calm=true) (it:U3 X Y l iter fi) (y:YY X scope N' λi=>PG i l o) (I:oG o g) (v:oF g) (tt:∀d,d.cl=Y.cl->YY X scope N' λi=>Wx i d j ft)
  (G:∀d,d.cl=Y.cl->xD X scope N' d.E λi=>Snd i d f fe) (u:∀x,foldedSetIterable iter X.env x=pure x:=by intro _;rfl):W7 X Y l iter f j scope N' k js fi o g ft fe:=by
 rw[ai]at h;exact⟨qd a p h.1,U6 N a D p h.2,B,it,y,I,v,tt,G,u⟩
end PV
namespace PV
open PySem PySem.Spec PyProof.Rows L2 PySem.W
section
variable {X:Cx}{Y:Fx}{a b:Expr}{fa fb:En->R T}{pos pos' p p':Pos}
def k8 {cl:Nat->Value}{k j n:Nat}{f:Addr}{o:FuncData}{i:List Str}{g:List T->R T}{x:Str}{d:List Expr}{l:En->R (List T)}(hy:Y.cl=cl)(hp:zS (lH X.prog X.w) X Y.E)(F:ZX X.prog X.w X.K X.mg X.base (lH X.prog X.w) j f o i (spP cl n g))(hr:Ze k X.A)(y:j<=k)(v:Gl X x)
  (B:X.mg x=some (.ref f)) (kp:bx X.K (.ref f)=true) (bd:L2.Binds X.K o i []) (G:JN X Y (a::d) l) (hd:(x==("__debug__":Str))=false:=by decide)
  (u:starEach (a::d) X.env=(false,eval a X.env)::starEach d X.env:=by exact zC rfl) (D:((backTo pos (starEach d X.env)).any λx=>x.fst)=false:=by exact zX rfl):Snd X Y (.Call (.Name x p) (a::d) [] pos) (za n g l):=by
 subst hy;exact xx F (hr.mono y) v B kp bd hp G hd u D
end
def J7 (c:Nat):En->RS:=λ_=>.ex c
section
variable {P:Program}{w:World}{K:aa}{mg:Str->Option Value}{base:Heap}{N:List Str}{qual:Str}{scope:Scope}{f:Addr}{cd:Value}{A:Around}{outer:List Env}{s:Shared}{H:Hp}{E:XK}{Y:Fx}
def wx {x m:Str}{C:Addr}{l p:List Value}{v U a k d u:String}{X i pos G:Pos}{j c:Nat}(O:OwnCls x C l a mg base)(Fn:ExcBaseFacts v a u p)(o:l.contains (.type v)=true)(Z:ExcBaseFacts U k d l)
  (hY:Y.E=E) (Q:Y.cl c=.ref C) (J:Gl (jc (lH P w) P w K mg base N qual scope f cd A outer s H E) x) (hd:(x==("__debug__":Str))=false:=by decide):
  Jf (jc (lH P w) P w K mg base N qual scope f cd A outer s H E) Y (.Raise (some (.Call (.Name x X) [.Constant (.str m) j G] [] i)) none pos) (J7 c):=.mk λρ=>by
 subst hY;refine PS.imp (YA O Fn o Z J ((xn gW gX:JN _ Y _ _) ρ) (zC rfl) hd) λD σ H1=>tSS.on λB I q=>⟨B,I,λvs H2 y S=>?_⟩;refine⟨?_,?_⟩
 ·rw[S.length];exact(by decide:1<=sizeLine)
 ·have:=q none H2 (I.sH.trans y) (I.sB.trans y);rw[Q]at this;exact this
def Fun.okX {x qual:Str}{st:Stmt}{f:Addr}{l:FuncData}{N i:List Str}{k:Nat}{sp:Sp}(F:Fun K x qual st f l)(S:Zk N i (zq st))(len:∀vs H Q E,sp vs H Q E->vs.length=i.length)
  (a:∀(cdv:Value) (A:Around) (outer:List Env) (s:Shared) (H:Hp) (vs:List V) (Q:VK) (E:XK),Ze k (A.deeper (envOfC qual (zq st) s.1.1.size f cdv))->sp vs H Q E->
   ∃t,PSs (jc (lH P w) P w K mg base N qual (zq st) f cdv A outer s H E) (zH st) t/\t {nx:=λ_ u=>Q .non u,rt:=Q} (start N vs) H):ZX P w K mg base (lH P w) (k+1) f l i sp:=by
 obtain⟨B,od,kV,o,pm,y,cdv,ct,p,rfl,v,j⟩:=F.ex;exact vK v j S len λA outer s H vs Q E hr d=>a cdv A _ s H vs Q E hr d
def GD {cl:Nat->Value}{x qual:Str}{st:Stmt}{f:Addr}{o:FuncData}{N i:List Str}{k n:Nat}{j:En->RS}{g:List T->R T}(F:Fun K x qual st f o)(S:Zk N i (zq st))(hn:n=i.length)
  (J:∀(cdv:Value) (A:Around) (outer:List Env) (s:Shared) (H:Hp) (E:XK) (Y:Fx),Y.cl=cl->Y.E=E->Ze k (A.deeper (envOfC qual (zq st) s.1.1.size f cdv))->
   Jn (jc (lH P w) P w K mg base N qual (zq st) f cdv A outer s H E) Y (zH st) j)
  (p:∀ts,ts.length=n->g ts=zx (j (i4 N.length ts))):ZX P w K mg base (lH P w) (k+1) f o i (spP cl n g):=by
 subst hn;refine Fun.okX F S spP.len λcdv A outer s H vs Q E hr I=>?_;obtain⟨B,ts,D,U,r,q⟩:=I;refine⟨_,J cdv A _ s H E ⟨B,H,E,cl,[]⟩ rfl rfl hr _,B,SI.start U r,?_⟩;rw[p ts D]at q;revert q;cases j _ with
 |rt t=>exact λq v d s r=>q v d s r
 |rf t=>exact λq a xs d u y n e r _ l=>q _ d y (.lst (by rw[zD n];exact e) (r.mono l))
 |nx ρ=>exact λq σ' d u X G=>q _ d G.sH .non
 |bk ρ=>exact λq=>q.elim
 |ct ρ=>exact λq=>q.elim
 |ex c=>exact λq=>q
 |bad=>exact λq=>q
end
def GE (k:Nat)(ok:Nat->Bool)(a:En->RS):En->RS:=λρ=>match a ρ with
 |.ex c=>if ok c=true then .nx ((ac ρ.length Sl.un).set k (.xc c))else .bad
 |r=>r
def SI.wish {Y:Fx}{B:Hp}{ρ:En}{a:Sg}{H:Hp}(I:SI Y B ρ a H)(E:XK):SI {Y with E:=E} B ρ a H:=⟨I.s0,I.sH,I.sB,I.old,I.len,I.vl,I.ow,I.xc,let ⟨as,O,x⟩:=I.st;⟨as,O,x.on (λ_ _ _ h=>⟨h,rfl⟩) (zr.refl _) rfl rfl (zr.refl _) λ_ _ h d f _=>⟨h,d,f,id⟩⟩⟩
def SI.unwish {Y:Fx}{B:Hp}{ρ:En}{a:Sg}{H:Hp}{E:XK}(I:SI {Y with E:=E} B ρ a H):SI Y B ρ a H:=⟨I.s0,I.sH,I.sB,I.old,I.len,I.vl,I.ow,I.xc,let ⟨as,O,x⟩:=I.st;⟨as,O,x.on (λ_ _ _ h=>⟨h,rfl⟩) (zr.refl _) rfl rfl (zr.refl _) λ_ _ h d f _=>⟨h,d,f,id⟩⟩⟩
def SI.caught {Y:Fx}{B:Hp}{j:Sg}{f:Hp}{a:Addr}{c k m:Nat}(x:zr Y.B0 Y.H0)(old:∀b o,Y.H0 b=some o->B b=Y.B0 b)(l:zr Y.H0 f)(G:zr B f)(v:f a=none)(I:m=j.length)(D:j[k]?=some (some (V.ref a))):
  ∃p,zr B p/\SI Y p ((ac m Sl.un).set k (.xc c)) j (lf f a (.ext (uZ (Y.cl c) a))):=by
 have up:zr f (lf f a (.ext (uZ (Y.cl c) a))):=zr.new v _;have J:=l.free v;refine⟨zN _ _ (lf f a (.ext (uZ (Y.cl c) a))),λb o e=>?_,⟨x,l.trans up,λb o e=>?_,λb o e=>by rw[zL e],by rw[aw,aS,I],λi t e=>?_,λi ts e=>?_,λi d e=>?_,StI.no λi y hy e=>?_⟩⟩
 ·cases q:Y.H0 b with
  |none=>rw[zD q];exact up b o (G b o e)
  |some u=>rw[zL q,←old b u q];exact e
 ·cases q:Y.H0 b with
  |none=>rw[zD q]at e;exact e
  |some u=>rw[zL q]at e;exact up b o (l b o (x b o e))
 ·rcases zt e with ⟨_,z⟩|⟨_,z⟩
  ·cases z
  ·rw[aF]at z;split at z<;>cases z
 ·rcases zt e with ⟨_,z⟩|⟨_,z⟩
  ·cases z
  ·rw[aF]at z;split at z<;>cases z
 ·rcases zt e with ⟨rfl,z⟩|⟨_,z⟩
  ·cases z;exact⟨a,D,by rw[zD J,zw]⟩
  ·rw[aF]at z;split at z<;>cases z
 ·rcases zt e with ⟨_,z⟩|⟨_,z⟩
  ·subst z;cases hy
  ·rw[aF]at z;split at z
   ·cases z;cases hy
   ·cases z
def FN {X:Cx}{Y:Fx}{S:En->RS}{body:List Stmt}{c n y:Str}{C:Addr}{cp np yp hp f pos:Pos}{i k:Nat}{ok:Nat->Bool}
  (hX:X.stack=X.env::X.outer) (hf:X.env.frame=some X.env.locals) (hN:X.N.Nodup)
  (hi:X.N[i]?=some n) (hl:X.env.scope.names.lookup n=some .local) (hk:X.N[k]?=some y) (hy:X.env.scope.names.lookup y=some .local) (P:i≠k)
  (hg:Gl X c) (hm:X.mg c=some (.ref C)) (hok:∀c,ok c=true->exmOne X.K (Y.cl c) (.ref C)=some true)
  (hb:∀(x:XK) (pn:List 000) (xe:Value->Shared->Prop),zS (lH X.prog X.w) (X.try' pn xe) x->Jn (X.try' pn xe) {Y with E:=x} body S)
  (hs:swapsWith (.Name n np) (some (.Name y yp)) f.line X.env=pure false:=by rfl)
  (Z:(c==("__debug__":Str))=false:=by decide) (J:(n==("__debug__":Str))=false:=by decide) (U:(n==("__classdict__":Str))=false:=by decide):
  Jf X Y (.Try body [.ExceptHandler (some (.Name c cp)) (some n) [.Assign [.Name y yp] (.Name n np) f] hp] [] [] pos) (GE k ok S):=.mk λρ=>by
 refine PS.imp (Xu hX hf hN hi hl hk hy hg hm (λx pn xe p=>hb x pn xe p ρ) hs Z J U) λD σ H=>tSS.on λB I q=>?_;refine⟨λcls _ a=>zr Y.H0 a/\zr B a/\∃c,cls=Y.cl c/\ok c=true/\PoS Y B (.nx ((ac ρ.length Sl.un).set k (.xc c))) D,λcls d a ea σ' ⟨s1,Q,c,e1,e2,q1⟩=>?_,B,I.wish _,?_⟩
 ·subst e1;refine⟨hok c e2,λhe v G=>?_⟩;have hkl:k<σ'.length:=by rw[v,G];exact(ak.mp hk).1
  have l:ρ.length=((((σ'.set i (some (V.ref ea))).set k (some (V.ref ea))).set i none)).length:=by
   rw[aw,aw,aw,v,I.len]
  obtain⟨j,b1,b2⟩:=SI.caught I.s0 I.old s1 Q he l (by
   rw[av P,aH (by rw[aw];exact hkl)])
  exact q1 _ _ j b1 b2
 ·unfold GE at q;cases e:S ρ with
  |nx ρ'=>rw[e]at q;exact λσ' a j o u=>q σ' a j o u.unwish
  |rt t=>rw[e]at q;exact q
  |rf t=>rw[e]at q;exact q
  |bk ρ'=>rw[e]at q;exact λσ' a j o u=>q σ' a j o u.unwish
  |ct ρ'=>rw[e]at q;exact λσ' a j o u=>q σ' a j o u.unwish
  |bad=>rw[e]at q;exact q
  |ex c=>
   rw[e]at q;dsimp only at q;split at q
   ·rename_i hc;exact λd a s1 Q=>⟨s1,Q,c,rfl,hc,q⟩
   ·exact q.elim
end PV
namespace PySem.W
open PySem PySem.Calls PyProof.Rows PySem.Spec Builtin Builtin.ObjectAttr Builtin.Getset_descriptor
section
variable {prog:Program}{w:World}{A:Around}{E:Value->Shared->Prop}{s:Shared}{K:Frag}{x C:Addr}
def uo {d:Value}{R:Result->Shared->Prop}(X:K.In s.heap)(f:Looks 001 s.heap (typeOf (.ref x)) (.ref C))(a:mroIn K C (.type "object")=some true)
  (h:R (.ok (.ret (.ref C))) s):codeAny 001 A (.call (.builtin "getset_descriptor.__get__") ⟨[.builtin "object.__class__",.ref x,d],[]⟩) R s:=by
 have i:=looks_mroIn (M:=model prog w) X a;refine codeAny_call_builtin KF.slot_gs.plain KF.entry_gs (KF.slot_gs.check _ _ _ _ _ _ _ _ KF.type_class (KF.args_gs _ _ _) ?_);refine a7 (au ?_);unfold descrGetter descrCheckInstance descrNameAndClass isInstance;simp only[KF.owner_class]
 repeat lk
 refine⟨iq _ (by decide+kernel),bS KF.entry_class ?_⟩
 repeat lk
 exact h
def k9 {M:Model}{h:Heap}(X:K.In h)(i:findIn K (.ref C) "__class__"=some (some (.builtin "object.__class__")))(hn:specialIn K (.builtin "object.__class__") "__get__"=some (some (.builtin "getset_descriptor.__get__")))
  (a:takesIn K (.builtin "object.__class__")=some true):Looks M h (find (.ref x) (.ref C) "__class__") (.bind (.builtin "getset_descriptor.__get__") (.builtin "object.__class__")):=by
 have d:=looks_findIn (M:=M) X i;have f:Looks M h _ _:=looks_specialIn X hn;have j:=looks_takesIn (M:=M) X a;refine d.andThen (f.andThen ?_);exact(show Looks M h (dataDescriptor? (some _) (some _)) _ from j.andThen .now).andThen (Looks.tag .now)
def V5 {M:Model}{d:Value}{Q:Unit->Shared->Prop}(j:Looks M s.heap (typeOf (.ref x)) (.ref C))(k:Looks M s.heap (isSubtype (.ref C) (.type "BaseException")) true)(i:Q () s):wpAny M A (checkBuiltinCall "BaseException.__getattribute__" ⟨[.ref x,d],[]⟩) Q E s:=by
 have f:builtinKind "BaseException.__getattribute__"=some .slot:=by decide+kernel
 have a:splitId "BaseException.__getattribute__"=some ("BaseException","__getattribute__"):=by decide+kernel
 simp only[checkBuiltinCall,f,a]
 repeat (first|lk|wp_step)
 exact i
end
end PySem.W
namespace PySem.W
open PySem PySem.Calls PyProof.Rows PySem.Spec Builtin Builtin.ObjectAttr Builtin.Getset_descriptor
section
variable {prog:Program}{w:World}{A:Around}{E:Value->Shared->Prop}{s:Shared}{K:Frag}{x C:Addr}
structure XCls (K:Frag) (C:Addr):Prop where
 ga:findIn K (.ref C) "__getattribute__"=some (some (.builtin "BaseException.__getattribute__"))
 gt:findIn K (.ref C) "__getattr__"=some none
 ca:findIn K (.ref C) "__class__"=some (some (.builtin "object.__class__"))
 sp:specialIn K (.builtin "object.__class__") "__get__"=some (some (.builtin "getset_descriptor.__get__"))
 tk:takesIn K (.builtin "object.__class__")=some true
 ob:mroIn K C (.type "object")=some true
 be:mroIn K C (.type "BaseException")=some true
 cl:(clsIn K C).isSome=true
def V6 {tk:Tok}{Q:Fin->Shared->Prop}(X:K.In s.heap)(c:XCls K C)(a:Looks 001 s.heap (typeOf (.ref x)) (.ref C))(d:Q (.done (.ret (.ref C))) s):
  wpAny 001 A (Builtin.«object.__getattribute__» ⟨[.ref x,.str "__class__" tk],[]⟩) Q E s:=by
 have f:=k9 (M:=model prog w) (x:=x) X c.ca c.sp c.tk;refine a7 (au (a7 (au (a7 (a.at (a7 (f.at ?_)))))));refine a7 (dF (uo X a c.ob ?_));exact au d
end
end PySem.W
namespace PySem.W
open PySem PySem.Calls PyProof.Rows PySem.Spec Builtin Builtin.ObjectAttr Builtin.Getset_descriptor
section
variable {prog:Program}{w:World}{A:Around}{E:Value->Shared->Prop}{s:Shared}{K:Frag}{x C:Addr}
def V7 {Q:Option Value->Shared->Prop}(X:K.In s.heap)(c:XCls K C)(a:Looks 001 s.heap (typeOf (.ref x)) (.ref C))(h:Q (some (.ref C)) {s with toks:=s.toks+1}):wpAny 001 A (getAttr? (.ref x) "__class__") Q E s:=by
 have d:=looks_findIn (M:=model prog w) X c.ga;have f:=looks_findIn (M:=model prog w) X c.gt;have j:=looks_mroIn (M:=model prog w) X c.be;have i:=fJ.ga.bind (.ref x);refine a7 (wpAny_mkText (a7 (d7 (bW (a7 (a.at (a7 (d.at ?_))))))));refine a7 ?_;refine f.at ?_;refine a7 (d7 (bW ?_));unfold callGetattribute;unfold boundAndCalled;rw[i];refine dF (codeAny_call_builtin fJ.ga.plain PySem.F.entry_bexc_ga (V5 a j (V6 X c a ?_)));exact handed_on rfl (au h)
def ka (c:XCls K C):KitX K (.ref x) (.ref C) (λh=>∃o,h.get? x=some o/\o.cls=.ref C) where
 ty:=λM h _ ⟨o,l,d⟩=>d▸(Looks.ld l).andThen .now
 it:=λ_ _ X _=>by
  obtain⟨j,a⟩:=dA.mp c.cl;unfold clsIn at a;split at a
  ·rename_i c' y u f i;intro D I J G k q;unfold isType loadHead;exact a7 (wpAny_loadPart (k _ _ (X _ _ i)) (au q))
  ·cases a
 ne:=λh B dd v n N X p=>by
  obtain⟨j,a⟩:=dA.mp c.cl;refine Bool.eq_false_iff.mpr λq=>?_;have e:C=B:=Value.ref.inj (beq_iff_eq.mp q);subst e;unfold clsIn at a;split at a
  ·rename_i c' y u f i;have z:=(X _ _ i).symm.trans p;cases z
  ·cases a
 ca:=λ{prog w A E Q s} X ⟨o,l,d⟩ k=>V7 X c (d▸(Looks.ld l).andThen .now) k
end
end PySem.W
namespace PV
open PySem PySem.Spec PyProof.Rows L2 PySem.W
section
variable {X:Cx}{Y:Fx}{a b:Expr}{fa fb:En->R T}{pos pos' p p':Pos}
def wA (i:Nat)(ok d:Nat->Bool):En->R T:=λρ=>match ρ[i]? with
 |some (.xc c)=>if ok c=true then .ok (.bl (d c))else .bad
 |_=>.bad
def uq:Zt X (.builtin "isinstance") (λxs H Q=>∃a C v b,xs=[.ref a,v]/\H a=some (.ext (uZ (.ref C) a))/\XCls X.K C/\(∀u,Z8 v u->kitOne X.K (.ref C) u=some b)/\Q (.bl b) H):=by
 intro f s o H xs x Q I k h;obtain⟨a,C,v,b,rfl,e,c,i,q⟩:=h;obtain⟨u,w,rfl,j,d⟩:=yw k;obtain rfl:u=Value.ref a:=j;obtain⟨l,_,_⟩:=(show Zd _ X.w H _ a _ from I.hok a _ e);exact kia_one (ka c) I.kIn l (i w d) (λz=>nomatch z) λtk=>⟨.bl _,H,I.tok tk,rfl,q⟩
structure BD (K:Frag) (cl:Nat->Value) (ok:Nat->Bool):Prop where
 at_:∀c,ok c=true->∃C,cl c=.ref C/\XCls K C
def Jo {i:Nat}{ok d:Nat->Bool}{y j:Str}{C:Addr}{x cp:Pos}(J:BD X.K Y.cl ok)(N:∀c,ok c=true->kitOne X.K (Y.cl c) (.ref C)=some (d c))(gl:Gl X "isinstance")(S:X.mg "isinstance"=none)(D:PE X (.Name y x) (Jg i))(l:Gl X j)(k:X.mg j=some (.ref C))
  (hd:(j==("__debug__":Str))=false:=by decide):Snd X Y (.Call (.Name "isinstance" p) [.Name y x,.Name j cp] [] pos) (wA i ok d):=.mk λρ=>
 PE.imp (ZY uq gl S PyProof.Rows.Boot.«isinstance» (zB D (zB (Wp (v:=.ref C) l k rfl hd) zT (lS rfl)) (mJ rfl rfl)) 03 03 (by rw[mJ rfl rfl,lS rfl]) (zX rfl)) λσ H Q=>tS.on λB I q=>by
  unfold wA at q;split at q
  ·rename_i c e;split at q
   ·rename_i o;obtain⟨a,G,r⟩:=I.xc i c e;obtain⟨U,P,xc⟩:=J.at_ c o;have f:=N c o;rw[P]at r f;exact⟨_,G,a,U,_,_,rfl,I.sB a _ r,xc,λu Z=>by obtain rfl:u=Value.ref C:=Z;exact f,ZC I q (.bl _)⟩
   ·exact q.elim
  ·exact q.elim
def kb {i:Nat}{ok d:Nat->Bool}{y:Str}{n:String}{o cp:Pos}(G:BD X.K Y.cl ok)(J:∀c,ok c=true->kitOne X.K (Y.cl c) (.type n)=some (d c))(gl:Gl X "isinstance")(P:X.mg "isinstance"=none)(x:PE X (.Name y o) (Jg i))(k:Gl X (bf n))(j:X.mg (bf n)=none)
  (bt:bootBuiltins (bf n)=some (.type n)) (hn:bf n≠"__name__":=by decide) (hd:(bf n==("__debug__":Str))=false:=by decide):Snd X Y (.Call (.Name "isinstance" p) [.Name y o,.Name (bf n) cp] [] pos) (wA i ok d):=.mk λρ=>
 PE.imp (ZY uq gl P PyProof.Rows.Boot.«isinstance» (zB x (zB (Yc (v:=.ty n) k j bt rfl hn hd) zT (lS rfl)) (mJ rfl rfl)) 03 03 (by rw[mJ rfl rfl,lS rfl]) (zX rfl)) λσ H Q=>tS.on λB I q=>by
  unfold wA at q;split at q
  ·rename_i c e;split at q
   ·rename_i l;obtain⟨a,D,r⟩:=I.xc i c e;obtain⟨S,N,Z⟩:=G.at_ c l;have f:=J c l;rw[N]at r f;exact⟨_,D,a,S,_,_,rfl,I.sB a _ r,Z,λu U=>by obtain rfl:u=Value.type n:=U;exact f,ZC I q (.bl _)⟩
   ·exact q.elim
  ·exact q.elim
def Az (i:Nat):En->R Bool:=λρ=>match ρ[i]? with
 |some (.xc _)=>.ok false
 |some (.vl t)=>vg t .non
 |_=>.bad
def GF:lR X (compareOp .Is) (λx y H Q=>y=.non/\((∃a,x=.ref a/\Q (.bl false) H)\/∃t b,Rep H x t/\vg t .non=.ok b/\Q (.bl b) H)):=by
 intro d s j H x y v u Q I f i h;obtain⟨rfl,h⟩:=h;rcases h with ⟨a,rfl,q⟩|⟨t,b,r,e,q⟩
 ·obtain rfl:u=Value.none:=i;obtain rfl:v=Value.ref a:=f;exact wpAny_is_plain rfl ⟨.bl _,H,I,rfl,q⟩
 ·exact G8 _ s j H x _ v u Q I f i ⟨t,.non,b,r,.non,e,q⟩
def GG {i:Nat}{y:Str}{k:Pos}{j:Nat}(l:PE X (.Name y k) (Jg i)):Wt X Y (.Compare (.Name y k) [.Is] [.Constant .none j p'] pos) (Az i):=.mk λρ=>
 PT.imp (Yl GF l Yb 09) λo H Q=>tS.on λB I q=>by
  unfold Az at q;split at q
  ·rename_i c e;obtain⟨a,f,r⟩:=I.xc i c e;exact⟨_,f,rfl,.inl ⟨a,rfl,false,rfl,ZC I q rfl⟩⟩
  ·rename_i t e;obtain⟨v,f,r⟩:=I.vl i t e;refine⟨v,f,rfl,.inr ?_⟩;cases d:vg t _ with
   |bad=>rw[d]at q;exact q.elim
   |ex c=>exact absurd d (G7 _ _ _)
   |ok b=>rw[d]at q;exact⟨t,b,r.mono I.sB,d,b,rfl,ZC I q rfl⟩
  ·exact q.elim
def rc (cl:Nat->Value)(d:Nat->R T):Sp:=λvs H Q E=>∃B a c,vs=[V.ref a]/\zr B H/\B a=some (.ext (uZ (cl c) a))/\Po ⟨B,H,E,cl,[]⟩ rC B H (d c) Q
def kd (i:Nat)(d:Nat->R T):En->R T:=λρ=>match ρ[i]? with
 |some (.xc c)=>d c
 |_=>.bad
def ke {cl:Nat->Value}{k j i:Nat}{f:Addr}{u:FuncData}{v:List Str}{l:Nat->R T}{x y:Str}{o:Pos}(hy:Y.cl=cl)(F:ZX X.prog X.w X.K X.mg X.base mM j f u v (rc cl l))(hr:Ze k X.A)(J:j<=k)(S:Gl X x)
  (N:X.mg x=some (.ref f)) (kp:bx X.K (.ref f)=true) (bd:L2.Binds X.K u v []) (D:PE X (.Name y o) (Jg i)) (hd:(x==("__debug__":Str))=false:=by decide):Snd X Y (.Call (.Name x p) [.Name y o] [] pos) (kd i l):=.mk λρ=>
 PE.imp (Jj F (hr.mono J) S N kp bd .nil (GC) (zB D zT (lS rfl)) hd (lS rfl) rfl) λZ H Q=>tS.on λB I q=>by
  subst hy;unfold kd at q;split at q
  ·rename_i c e;obtain⟨a,G,r⟩:=I.xc i c e;refine⟨_,G,B,a,c,rfl,I.sB,r,?_⟩;revert q;cases l c with
   |bad=>exact λq=>q
   |ex c=>exact λq d P s U=>q d P (I.sH.trans s) U
   |ok t=>exact λq=>q
  ·exact q.elim
end
section
variable {P:Program}{w:World}{K:aa}{mg:Str->Option Value}{base:Heap}
def nJ (n c:Nat):En:=.xc c::ac (n-1) .un
def SI.startC {Y:Fx}{N:List Str}{a:Addr}{c:Nat}(s:zr Y.B0 Y.H0)(f:1<=N.length)(r:Y.B0 a=some (.ext (uZ (Y.cl c) a))):SI Y Y.B0 (nJ N.length c) (L2.start N [V.ref a]) Y.H0 where
 s0:=s
 sH:=zr.refl _
 sB:=s
 old:=λ_ _ _=>rfl
 len:=by unfold nJ L2.start;simp
 vl:=λi t h=>by
  unfold nJ at h;cases i with
  |zero=>cases h
  |succ i=>rw[bg,aF]at h;split at h<;>cases h
 ow:=λi t h=>by
  unfold nJ at h;cases i with
  |zero=>cases h
  |succ i=>rw[bg,aF]at h;split at h<;>cases h
 xc:=λi d h=>by
  unfold nJ at h;cases i with
  |zero=>
   cases h;exact⟨a,by unfold L2.start;rfl,r⟩
  |succ i=>rw[bg,aF]at h;split at h<;>cases h
 st:=StI.no λi y hy h=>by
  unfold nJ at h;cases i with
  |zero=>cases h;cases hy
  |succ i=>
   rw[bg,aF]at h;split at h
   ·cases h;cases hy
   ·cases h
def GH {cl:Nat->Value}{x d q:Str}{st:Stmt}{f:Addr}{p:FuncData}{N:List Str}{k:Nat}{j:En->RS}{o:Nat->R T}(F:Fun K x d st f p)(S:Zk N [q] (zq st))(G:1<=N.length)
  (U:∀(cdv:Value) (A:Around) (outer:List Env) (s:Shared) (H:Hp) (E:XK) (Y:Fx),Y.cl=cl->Ze k (A.deeper (envOfC d (zq st) s.1.1.size f cdv))->
   Jn (jc mM P w K mg base N d (zq st) f cdv A outer s H E).nox Y (zH st) j)
  (u:∀c,o c=zx (j (nJ N.length c))):ZX P w K mg base mM (k+1) f p [q] (rc cl o):=by
 refine F.ok S (λvs H Q E J=>by obtain⟨_,_,_,e,_⟩:=J;rw[e];rfl) λcdv A outer s H vs Q E hr ⟨B,a,c,e,X,r,q⟩=>?_
 subst e;refine⟨_,U cdv A _ s H E ⟨B,H,E,cl,[]⟩ rfl hr _,B,SI.startC X G r,?_⟩;rw[u c]at q;revert q;cases j _ with
 |rt t=>exact λq v i s r=>q v i s r
 |rf t=>exact λq a xs i y D n e r _ l=>q _ i D (.lst (by rw[zD n];exact e) (r.mono l))
 |nx ρ=>exact λq σ' i y _ I=>q _ i I.sH .non
 |ex c=>exact λq=>q
 |bk ρ=>exact λq=>q.elim
 |ct ρ=>exact λq=>q.elim
 |bad=>exact λq=>q
end
end PV
namespace PySem.ZG
open PySem PySem.Spec PySem.Builtin.SmallTypes
structure U7 (i:Addr) (fp:List Addr) (v:Nat->Option Value) (St:Nat->Heap->Prop):Prop where
 mem:i∈fp
 item:∀{prog:Program} {w:World} {A:Around} {E:Value->Shared->Prop} {s:Shared} {Q:Value->Shared->Prop} {k:Nat} {x:Value},St k s.heap->v k=some x->(∀h',St (k+1) h'->cB i s.heap h'->Q x {s with heap:=h'})->wpAny 001 A (nextOf (.ref i)) Q E s
 stop:∀{prog:Program} {w:World} {A:Around} {E:Value->Shared->Prop} {s:Shared} {Q:Value->Shared->Prop} {k:Nat},A.handled=none->St k s.heap->v k=none->(∀h' e,i6 i s.heap h'->(∃o,h'.get? e=some o/\o.cls=.type "StopIteration")->E (.ref e) {s with heap:=h'})->wpAny 001 A (nextOf (.ref i)) Q E s
 keep:∀{k:Nat} {h h':Heap},St k h->(∀b∈fp,∀o,h.get? b=some o->h'.get? b=some o)->St k h'
 there:∀{k:Nat} {h:Heap},St k h->∀b∈fp,∃o,h.get? b=some o
def U7.but {i:Addr}{fp:List Addr}{v:Nat->Option Value}{St:Nat->Heap->Prop}(N:U7 i fp v St){k:Nat}{h h':Heap}{b:Addr}(x:St k h)(e:i6 b h h')(n:b∉fp):St k h':=
 N.keep x λc a o q=>e c o (λz=>n (z▸a)) q
def kg {i l:Addr}(j:l≠i)(xs:Array Value):U7 i [i,l] (λk=>xs[k]?) (λk h=>h.IsListIter i l k/\h.IsList l xs) where
 mem:=.head _
 item:=λst d h=>wpAny_nextOf_list_item st.1 st.2 d λh' a b=>h h' ⟨a,st.2.extBut b.extBut j⟩ b
 stop:=λp st d h=>wpAny_nextOf_list_end p st.1 st.2 d h
 keep:=λst k=>⟨st.1.at λo e=>k i (.head _) o e,st.2.at λo e=>k l (.tail _ (.head _)) o e⟩
 there:=λst b f=>by
  obtain⟨⟨o,e,_⟩,u,v,_⟩:=st;rcases ay.mp f with z|f
  ·exact⟨o,z▸e⟩
  ·exact⟨u,(aQ.mp f)▸v⟩
end PySem.ZG
namespace PySem.ZG
open PySem PySem.Spec PySem.Builtin.SmallTypes
section
variable {prog:Program}{w:World}{A:Around}{E:Value->Shared->Prop}{s:Shared}{it l:Addr}{k:Nat}{xs:Array Value}{Q:Value->Shared->Prop}
def UE (a:s.heap.IsTupleIter it l k)(h:wpAny 001 A.in1 (Builtin.«tuple_iterator.__next__» ⟨[.ref it],[]⟩) (λd f=>∃v,d=.done (.ret v)/\Q v f) E s):wpAny 001 A (nextOf (.ref it)) Q E s:=by
 exact a7 (bE a.typeIs dR (bT dR a.typeIs PySem.F.entry_tuple_iterator_next
  (bF h (λd f ⟨v,e,q⟩=>⟨v,e,au q⟩) λ_ _ z=>z) (PySem.F.args_tuple_iterator_next_1 _)))
def tup_item (a:s.heap.IsTupleIter it l k)(u:s.heap.IsTuple l xs){x:Value}(p:xs[k]?=some x)(h:∀h',h'.IsTupleIter it l (k+1)->cB it s.heap h'->Q x {s with heap:=h'}):wpAny 001 A (nextOf (.ref it)) Q E s:=by
 refine UE a ?_;obtain⟨o,d,j,hd⟩:=id a;obtain⟨v,f,_,y,i⟩:=u;refine a7 (m:=field _ 0) (bp d hd rfl ?_);refine a7 (bp d hd rfl (a7 (bQ f i ?_)));simp only[bY,p];have g:=Heap.get?_update_self (Obj.mapFields (·.setIfInBounds 1 (rawInt (k+1)))) d (Obj.isFreed_of_fields (ir hd _));refine a7 (wpAny_setField d hd (by simp) (au ⟨x,rfl,h _ ⟨_,g,(Obj.cls_mapFields ..).trans j,?_⟩ (ii ..)⟩))
 rw[ir hd];simp[rawInt]
def tup_stop (j:A.handled=none)(a:s.heap.IsTupleIter it l k)(u:s.heap.IsTuple l xs)(p:xs[k]?=none)
  (h:∀h' e,i6 it s.heap h'->(∃o,h'.get? e=some o/\o.cls=.type "StopIteration")->E (.ref e) {s with heap:=h'}):wpAny 001 A (nextOf (.ref it)) Q E s:=by
 refine UE a ?_;obtain⟨o,f,v,hd⟩:=id a;obtain⟨x,d,_,y,i⟩:=u;refine a7 (m:=field _ 0) (bp f hd rfl ?_);refine a7 (bp f hd rfl (a7 (bQ d i ?_)));simp only[bY,p];refine a7 (dZ (a7 (wpAny_setField f hd (by simp) (a7 ?_))))
 refine a7 (bw (a7 (cF (by first|rfl|(simp only[firstArgMember])) (bw ?_ (by size_fits)))) (by size_fits))
 refine a7 (wpAny_handled ?_);rw[j];exact a7 (au (wpAny_throw (h _ _ (((ii ..).extBut.push _).push _) ⟨_,ao _ rfl,rfl⟩)))
end
def nx_tup {i l:Addr}(u:l≠i)(xs:Array Value):U7 i [i,l] (λk=>xs[k]?) (λk h=>h.IsTupleIter i l k/\h.IsTuple l xs) where
 mem:=.head _
 item:=λst f h=>tup_item st.1 st.2 f λh' a b=>h h' ⟨a,st.2.extBut b.extBut u⟩ b
 stop:=λv st f h=>tup_stop v st.1 st.2 f h
 keep:=λst k=>by
  obtain⟨⟨o,e,r⟩,d,j,x⟩:=st;exact⟨⟨o,k i (.head _) o e,r⟩,d,k l (.tail _ (.head _)) d j,x⟩
 there:=λst b p=>by
  obtain⟨⟨o,e,_⟩,d,j,_⟩:=st;rcases ay.mp p with z|p
  ·exact⟨o,z▸e⟩
  ·exact⟨d,(aQ.mp p)▸j⟩
end PySem.ZG
namespace PySem.ZG
open PySem PySem.Spec PySem.Builtin.SmallTypes
structure Ap (z TI TO i1 i2:Addr) (fp1 fp2:List Addr):Prop where
 Iz:TI≠z
 Oz:TO≠z
 IO:TI≠TO
 I1:TI≠i1
 I2:TI≠i2
 z1:z∉fp1
 z2:z∉fp2
 O1:TO∉fp1
 O2:TO∉fp2
 a:i1∉fp2
 b:i2∉fp1
section
variable {prog:Program}{w:World}{A:Around}{E:Value->Shared->Prop}{s:Shared}{z TI TO i1 i2:Addr}{fp1 fp2:List Addr}{v1 v2:Nat->Option Value}{S1 S2:Nat->Heap->Prop}{k:Nat}{x y a b:Value}
def Ap.ne1 (D:Ap z TI TO i1 i2 fp1 fp2)(d:U7 i1 fp1 v1 S1):i1≠z/\i1≠TO:=⟨λe=>D.z1 (e▸d.mem),λe=>D.O1 (e▸d.mem)⟩
def Ap.ne2 (D:Ap z TI TO i1 i2 fp1 fp2)(d:U7 i2 fp2 v2 S2):i2≠z/\i2≠TO:=⟨λe=>D.z2 (e▸d.mem),λe=>D.O2 (e▸d.mem)⟩
def kh {Q:Value->Shared->Prop}(i:U7 i1 fp1 v1 S1)(f:U7 i2 fp2 v2 S2)(D:Ap z TI TO i1 i2 fp1 fp2)(u:IsZip s.heap z TI TO .none)(S:IsPair s.heap TI (.ref i1) (.ref i2))(U:IsPair s.heap TO a b)(p1:S1 k s.heap)(p2:S2 k s.heap)(hx:v1 k=some x)(hy:v2 k=some y)
  (hQ:∀h',IsZip h' z TI TO (rawInt s.1.1.size)->IsPair h' TO x y->S1 (k+1) h'->S2 (k+1) h'->IsPair h' s.1.1.size x y->
   (∀c o,c≠z->c≠TO->c≠i1->c≠i2->s.heap.get? c=some o->h'.get? c=some o)->Q (.ref s.1.1.size) {s with heap:=h'}):
  wpAny 001 A (Builtin.«zip.__next__» ⟨[.ref z],[]⟩) (λfin s'=>∃v,fin=.done (.ret v)/\Q v s') E s:=by
 refine a7 (m:=field (.ref z) 2) (bp u rfl (x:=.bool false) rfl (a7 (bp u rfl (x:=.ref TI) rfl (a7 (bQ S rfl ?_)))));refine a7 ?_;refine a7 (bp u rfl (x:=.none) rfl (au ?_));refine a7 (dZ (a7 (bp u rfl (x:=.ref TO) rfl (a7 (bH u (by simp) λg1 X l=>?_)))))
 replace X:=X
 refine a7 ?_;refine a7 (a7 (wpAny_onRaise (a7 (i.item (i.but p1 l.extBut D.z1) hx λg2 q1 p=>au ?_))));have t2:IsPair g2 TO a b:=p.extBut _ _ (D.ne1 i).2.symm (l.extBut _ _ D.Oz U);refine a7 (bQ t2 rfl (a7 (wpAny_updateSeq_pair t2 λg3 t3 G=>?_)));refine a7 (dJ (au ?_));refine a7 (a7 (wpAny_onRaise (a7 (f.item (f.but (f.but (f.but p2 l.extBut D.z2) p.extBut D.a) G.extBut D.O2) hy λg4 q2 I=>au ?_))));have t4:IsPair g4 TO x b:=I.extBut _ _ (D.ne2 f).2.symm t3;refine a7 (bQ t4 rfl (a7 (wpAny_updateSeq_pair t4 λd J B=>?_)))
 replace J:IsPair d TO x y:=J
 refine a7 (dJ (au (au ?_)));refine a7 (bQ J rfl (a7 (wpAny_newTuple ?_)));have sz:d.objs.size=s.1.1.size:=by rw[B.1,I.1,G.1,p.1,l.1]
 have z5:=B.extBut _ _ D.Oz.symm (I.extBut _ _ (D.ne2 f).1.symm (G.extBut _ _ D.Oz.symm (p.extBut _ _ (D.ne1 i).1.symm X)));have k5:∀c o,c≠z->c≠TO->c≠i1->c≠i2->s.heap.get? c=some o->d.get? c=some o:=λc o j N c3 Z e=>
  B.extBut _ _ N (I.extBut _ _ Z (G.extBut _ _ N (p.extBut _ _ c3 (l.extBut _ _ j e))))
 have r1:S1 (k+1) d:=i.but (i.but (i.but q1 G.extBut D.O1) I.extBut D.b) B.extBut D.O1;have r2:S2 (k+1) d:=f.but q2 B.extBut D.O2;refine a7 ?_;have z6:IsZip (d.push {cls:=.type "tuple",data:=.seq #[x,y]}) z TI TO _:=ag _ z5;refine a7 (bH z6 (by simp) λg7 z7 e7=>?_)
 refine bH z7 (by simp) λg8 z8 e8=>?_
 have up:∀c o,c≠z->d.get? c=some o->g8.get? c=some o:=λc o j e=>e8.extBut _ _ j (e7.extBut _ _ j (ag _ e));have hn:d.objs.size≠z:=dL (az z5);have t8:=e8.extBut _ _ hn (e7.extBut _ _ hn (ao _ rfl));rw[sz]at z8 t8;refine au ⟨_,rfl,?_⟩;rw[sz];exact hQ g8 z8 (up _ _ D.Oz J) (i.keep r1 λc P o e=>up c o (λq=>D.z1 (q▸P)) e) (f.keep r2 λc P o e=>up c o (λq=>D.z2 (q▸P)) e) t8 λc o j N c3 Z e=>up c o j (k5 c o j N c3 Z e)
def ki {Q:Fin->Shared->Prop}(hh:A.handled=none)(i:U7 i1 fp1 v1 S1)(N:U7 i2 fp2 v2 S2)(D:Ap z TI TO i1 i2 fp1 fp2)(G:IsZip s.heap z TI TO .none)(S:IsPair s.heap TI (.ref i1) (.ref i2))(X:IsPair s.heap TO a b)(p1:S1 k s.heap)(p2:S2 k s.heap)(J:v1 k=none\/v2 k=none)
  (hE:∀h' e,(∀c o,c≠z->c≠TO->c≠i1->c≠i2->s.heap.get? c=some o->h'.get? c=some o)->(∃o,h'.get? e=some o/\o.cls=.type "StopIteration")->E (.ref e) {s with heap:=h'}):
  wpAny 001 A (Builtin.«zip.__next__» ⟨[.ref z],[]⟩) Q E s:=by
 refine a7 (m:=field (.ref z) 2) (bp G rfl (x:=.bool false) rfl (a7 (bp G rfl (x:=.ref TI) rfl (a7 (bQ S rfl ?_)))));refine a7 ?_;refine a7 (bp G rfl (x:=.none) rfl (au ?_));simp only[if_true];refine a7 (dZ (a7 (bp G rfl (x:=.ref TO) rfl (a7 (bH G (by simp) λg1 P l=>?_)))))
 replace P:=P
 refine a7 ?_;have I:∀{g:Heap} {e:Addr} {p:Obj},IsZip g z TI TO .ellipsis->g.get? e=some p->p.cls=.type "StopIteration"->e≠z:=λhg j d q=>by
  subst q;rw[hg]at j;cases j;simp at d
 cases U:v1 k with
 |none=>
  refine a7 (a7 (wpAny_onRaise (a7 (i.stop hh (i.but p1 l.extBut D.z1) U λg2 e f j=>?_))));obtain⟨p,B,d⟩:=j;have z2:=f _ _ (D.ne1 i).1.symm P;exact bH z2 (by simp) λg3 _ u=>hE g3 e (λc o v _ Z _ q=>u.extBut _ _ v (f _ _ Z (l.extBut _ _ v q))) ⟨p,u.extBut _ _ (I z2 B d) B,d⟩
 |some x=>
  have hy:v2 k=none:=by
   rcases J with q|q
   ·rw[U]at q;cases q
   ·exact q
  refine a7 (a7 (wpAny_onRaise (a7 (i.item (i.but p1 l.extBut D.z1) U λg2 q1 f=>au ?_))));have t2:=f.extBut _ _ (D.ne1 i).2.symm (l.extBut _ _ D.Oz X);refine a7 (bQ t2 rfl (a7 (wpAny_updateSeq_pair t2 λg3 t3 u=>a7 (dJ (au ?_)))));refine a7 (a7 (wpAny_onRaise (a7 (N.stop hh (N.but (N.but (N.but p2 l.extBut D.z2) f.extBut D.a) u.extBut D.O2) hy λg4 e e4 j=>?_))));obtain⟨p,B,d⟩:=j;have z4:=e4 _ _ (D.ne2 N).1.symm (u.extBut _ _ D.Oz.symm (f.extBut _ _ (D.ne1 i).1.symm P));exact bH z4 (by simp) λg5 _ e5=>hE g5 e (λc o v c2 Z c4 q=>e5.extBut _ _ v (e4 _ _ c4 (u.extBut _ _ c2 (f.extBut _ _ Z (l.extBut _ _ v q))))) ⟨p,e5.extBut _ _ (I z4 B d) B,d⟩
def kl {Q:Option Value->Shared->Prop}(v:U7 i1 fp1 v1 S1)(l:U7 i2 fp2 v2 S2)(D:Ap z TI TO i1 i2 fp1 fp2)(j:IsZip s.heap z TI TO .none)(d:IsPair s.heap TI (.ref i1) (.ref i2))(f:IsPair s.heap TO a b)(G:S1 k s.heap)(p:S2 k s.heap)(u:v1 k=some x)(hy:v2 k=some y)
  (S:∀h',IsZip h' z TI TO (rawInt s.1.1.size)->IsPair h' TO x y->S1 (k+1) h'->S2 (k+1) h'->IsPair h' s.1.1.size x y->
   (∀c o,c≠z->c≠TO->c≠i1->c≠i2->s.heap.get? c=some o->h'.get? c=some o)->Q (some (.ref s.1.1.size)) {s with heap:=h'}):wpAny 001 A (pyNext (.ref z)) Q E s:=by
 have i:s.TypeIs (.ref z) _:=⟨_,j,rfl⟩;exact a7 (d7 (bE i da (bT da i fY
  (kh v l D j d f G p u hy λh' J P U N B I=>au (S h' J P U N B I)) (fK _))))
def km {Q:Option Value->Shared->Prop}(I:A.handled=none)(J:U7 i1 fp1 v1 S1)(B:U7 i2 fp2 v2 S2)(D:Ap z TI TO i1 i2 fp1 fp2)(l:IsZip s.heap z TI TO .none)(f:IsPair s.heap TI (.ref i1) (.ref i2))(i:IsPair s.heap TO a b)(N:S1 k s.heap)(G:S2 k s.heap)(d:v1 k=none\/v2 k=none)
  (P:∀h',(∀c o,c≠z->c≠TO->c≠i1->c≠i2->s.heap.get? c=some o->h'.get? c=some o)->Q none {s with heap:=h'}):wpAny 001 A (pyNext (.ref z)) Q E s:=by
 have j:s.TypeIs (.ref z) _:=⟨_,l,rfl⟩;refine a7 (d7 (bE j da (bT da j fY
  (ki I J B D l f i N G d λh' e kp v=>?_) (fK _))))
 obtain⟨o,p,u⟩:=v;exact a7 (wpAny_isInstance ⟨o,p,u⟩ isSubtype_stop (au (P _ kp)))
end
end PySem.ZG
namespace PySem.ZG
open PySem PySem.Spec PySem.Builtin.SmallTypes
structure kn (l:Addr) (o:Obj) (P:Heap->Prop):Prop where
 go:∀{prog:Program} {w:World} {A:Around} {E:Value->Shared->Prop} {s:Shared} {Q:Value->Shared->Prop},P s.heap->Q (.ref s.1.1.size) {s with heap:=s.heap.push o}->wpAny 001 A (pyIter (.ref l)) Q E s
 push:∀{h:Heap} (o':Obj),P h->P (h.push o')
 fresh:o.isFreed=false
noncomputable abbrev oL (l:Addr):Obj:={cls:=.type "list_iterator",data:=.fields #[.ref l,.int 0 0]}
noncomputable abbrev oT (l:Addr):Obj:={cls:=.type "tuple_iterator",data:=.fields #[.ref l,.int 0 0]}
def kq (l:Addr)(xs:Array Value):kn l (oL l) (λh=>h.IsList l xs):=⟨λp q=>cj p q,λo p=>Heap.IsList.push p o,rfl⟩
def GI (l:Addr)(xs:Array Value):kn l (oT l) (λh=>h.IsTuple l xs):=⟨λp q=>wpAny_pyIter_tuple p q,λo p=>Heap.IsTuple.push p o,rfl⟩
noncomputable abbrev A8 (h:Heap)(o1 o2:Obj):Heap:=(h.push o1).push o2
abbrev Bw (h:Heap)(o1 o2:Obj):Heap:=(A8 h o1 o2).push {cls:=.type "tuple",data:=.seq #[.ref h.objs.size,.ref (h.push o1).objs.size]}
abbrev As (h:Heap)(o1 o2:Obj):Heap:=(Bw h o1 o2).push {cls:=.type "tuple",data:=.seq #[.none,.none]}
abbrev oY (h:Heap)(o1 o2:Obj):Heap:=(As h o1 o2).push {cls:=.type "zip",data:=.fields #[.none,.bool false,.bool false,.ref (A8 h o1 o2).objs.size,.ref (Bw h o1 o2).objs.size]}
def GJ {l k:Addr}{a i:Obj}{j f:Heap->Prop}(u:kn l a j)(o:kn k i f):
  Meets (Builtin.«zip.__new__» ⟨[.type "zip",.ref l,.ref k],[]⟩) (λ_ R s=>j s.heap/\f s.heap/\R (.ok (.ret (.ref (As s.heap a i).objs.size))) {s with heap:=oY s.heap a i}):=
 .of_wp λprog w A R s h=>by
  obtain⟨hp,g,d,tk,os⟩:=s;obtain⟨B,x,h⟩:=h;have p:=sub_zip;have v:j (l6 ⟨hp,g,d,tk,os⟩):=B;have y:f (l6 ⟨hp.push a,g,d,tk,os⟩):=o.push a x
  wp_walk using u.go v,o.go y
  exact⟨_,rfl,h⟩
end PySem.ZG
namespace PySem.ZG
open PySem PySem.Spec PySem.Builtin.SmallTypes
def ku {prog:Program}{w:World}{A:Around}{E:Value->Shared->Prop}{s:Shared}{u B:Addr}{a d:Obj}{J x:Heap->Prop}{Q:Value->Shared->Prop}(p:kn u a J)(v:kn B d x)(P:J s.heap)(S:x s.heap)
  (h:∀h' n,n=s.1.1.size->IsZip h' (n+4) (n+2) (n+3) .none->IsPair h' (n+2) (.ref n) (.ref (n+1))->IsPair h' (n+3) .none .none->h'.get? n=some a->h'.get? (n+1)=some d->
   (∀c o,s.heap.get? c=some o->h'.get? c=some o)->Q (.ref (n+4)) {s with heap:=h'}):wpAny 001 A (call (.type "zip") [.ref u,.ref B]) Q E s:=by
 refine callType_new PySem.F.called_zip 03 (PySem.F.typeCall_zip_2 _ _) (PySem.F.newCall_zip_2 _ _) (λobj=>PySem.F.args_object_init_3 obj _ _) PySem.F.entry_zip_new (GJ p v) ⟨P,S,?_⟩
 have l:(s.heap.push a).objs.size=s.1.1.size+1:=bX ..;have f:(A8 s.heap a d).objs.size=s.1.1.size+2:=by rw[bX,l]
 have i:(Bw s.heap a d).objs.size=s.1.1.size+3:=by rw[bX,f]
 have D:(As s.heap a d).objs.size=s.1.1.size+4:=by rw[bX,i]
 have up:∀{h:Heap} {c:Addr} {o:Obj} (j:Obj),h.get? c=some o->(h.push j).get? c=some o:=λj e=>ag j e;have k:(oY s.heap a d).get? _=some _:=ao _ rfl;have G:(oY s.heap a d).get? _=some _:=up _ (ao _ rfl);have I:(oY s.heap a d).get? _=some _:=up _ (up _ (ao _ rfl));have y:(oY s.heap a d).get? _=some _:=up _ (up _ (up _ (ao _ v.fresh)));have N:(oY s.heap a d).get? _=some _:=up _ (up _ (up _ (up _ (ao _ p.fresh))));rw[f,i,D]at k;rw[l,f]at I;rw[i]at G;rw[l]at y;rw[D];exact⟨⟨_,k,rfl⟩,h _ _ rfl k I G N y λc o q=>up _ (up _ (up _ (up _ (up _ q))))⟩
end PySem.ZG
namespace PV
open PySem PySem.Spec PyProof.Rows L2 PySem.ZG
inductive SK where
 |l|t
noncomputable def SK.it:SK->Heap->Addr->Addr->Nat->Prop
 |.l=>λh i l k=>h.IsListIter i l k
 |.t=>λh i l k=>h.IsTupleIter i l k
noncomputable def SK.has:SK->Heap->Addr->Array Value->Prop
 |.l=>λh l xs=>h.IsList l xs
 |.t=>λh l xs=>h.IsTuple l xs
def SK.sq (K:aa):SK->Hp->Addr->List V->Prop
 |.l=>λH a xs=>SqL K H a xs
 |.t=>λH a xs=>SqT K H a xs
noncomputable def SK.tr:SK->List V->HO
 |.l=>.lst
 |.t=>.tup
def SK.ob:SK->Addr->Obj
 |.l=>oL
 |.t=>oT
def SK.nx (k:SK){i l:Addr}(h:l≠i)(xs:Array Value):U7 i [i,l] (λn=>xs[n]?) (λn hp=>k.it hp i l n/\k.has hp l xs):=by
 cases k with
 |l=>exact kg h xs
 |t=>exact nx_tup h xs
def SK.of (k:SK)(l:Addr)(xs:Array Value):kn l (k.ob l) (λh=>k.has h l xs):=by
 cases k with
 |l=>exact kq l xs
 |t=>exact GI l xs
def SK.start (k:SK){h:Heap}{i l:Addr}(e:h.get? i=some (k.ob l)):k.it h i l 0:=by
 cases k with
 |l=>exact⟨_,e,rfl,rfl⟩
 |t=>exact⟨_,e,rfl,rfl⟩
def SK.obj {k:SK}{h:Heap}{i l:Addr}{n:Nat}(x:k.it h i l n):∃o,h.get? i=some o/\∀v,o.data≠.cell v:=by
 cases k with
 |l=>obtain⟨o,e,_,d⟩:=x;exact⟨o,e,λv z=>by rw[d]at z;cases z⟩
 |t=>obtain⟨o,e,_,d⟩:=x;exact⟨o,e,λv z=>by rw[d]at z;cases z⟩
def SK.at_ {k:SK}{h h':Heap}{i l:Addr}{n:Nat}(x:k.it h i l n)(q:∀o,h.get? i=some o->h'.get? i=some o):k.it h' i l n:=by
 cases k with
 |l=>obtain⟨o,e,r⟩:=x;exact⟨o,q o e,r⟩
 |t=>obtain⟨o,e,r⟩:=x;exact⟨o,q o e,r⟩
def SK.sqOf {K:aa}(k:SK){H:Hp}{a:Addr}{xs:List V}(e:H a=some (k.tr xs)):k.sq K H a xs:=by
 cases k with
 |l=>exact SqL.of e
 |t=>exact SqT.of e
def Inv.seq {X:Cx}{f:List 000}{i:Sg}{H:Hp}{s:Shared}(I:L2.Inv X f i H s)(k:SK){a:Addr}{xs:List V}(h:k.sq X.K H a xs):∃d:List Value,zZ xs d/\k.has s.heap a d.toArray/\∃o,s.heap.get? a=some o:=by
 cases k with
 |l=>
  obtain⟨d,r,p,_⟩:=I.list h;obtain⟨o,_,e,_⟩:=id p;exact⟨d,r,p.isList,o,e⟩
 |t=>
  obtain⟨d,r,p,_⟩:=I.tuple h;obtain⟨o,e,_⟩:=id p;exact⟨d,r,p,o,e⟩
def BZ (K:aa)(k1 k2:SK)(f d:Addr):It:=
 ⟨λi H=>∃xs a x y,k1.sq K H f xs/\k2.sq K H d a/\xs[i]?=some x/\a[i]?=some y,λi H v j=>∃p x y,H p=none/\v=.ref p/\(∀xs,k1.sq K H f xs->xs[i]?=some x)/\(∀a,k2.sq K H d a->a[i]?=some y)/\j=lf H p (.tup [x,y]),
  λi H=>∃xs a,k1.sq K H f xs/\k2.sq K H d a/\(xs.length<=i\/a.length<=i)⟩
def Inv.seq_inj {X:Cx}{d:List 000}{i:Sg}{H:Hp}{s:Shared}(I:L2.Inv X d i H s)(k:SK){a:Addr}{xs f:List V}(h:k.sq X.K H a xs)(h':k.sq X.K H a f):xs=f:=by
 cases k with
 |l=>exact I.list_inj h h'
 |t=>exact I.tuple_inj h h'
def nN {a b:Nat}(h:a≠b):@Ne Addr a b:=h
def nM {a b c:Nat}(h:a≠b)(h':a≠c):¬@Membership.mem Addr (List Addr) _ [b,c] a:=λq=>by
 rcases ay.mp q with z|z
 ·exact h z
 ·exact h' (aQ.mp z)
def V8 {P:Program}{w:World}{K:aa}{elts:List Expr}{kk:Nat}{pt:Pos}(k1 k2:SK){n l1 l2:Nat}(h1:l1<n)(h2:l2<n):
  Y2 P w K (.Tuple elts kk pt) (BZ K k1 k2 l1 l2) [n+4,n+2,n+3,n,n+1] (n+4)
   (λi h=>IsZip h (n+4) (n+2) (n+3) .none/\IsPair h (n+2) (.ref n) (.ref (n+1))/\(∃a b,IsPair h (n+3) a b)/\k1.it h n l1 i/\k2.it h (n+1) l2 i):=by
 have D:Ap (n+4) (n+2) (n+3) n (n+1) [n,l1] [n+1,l2]:=by
  refine⟨nN 00,nN 00,nN 00,nN 00,nN 00,nM 00 00,nM 00 00,nM 00 00,nM 00 00,nM 00 00,nM 00 00⟩
 refine⟨by simp,λi h st b d=>?_,λi h h' st k=>?_,?_,?_,?_⟩
 ·obtain⟨G,p,⟨a,c,U⟩,J,S⟩:=st;simp only[ay,bM,or_false]at d;rcases d with rfl|rfl|rfl|rfl|rfl
  ·exact⟨_,G,λv z=>nomatch z⟩
  ·exact⟨_,p,λv z=>nomatch z⟩
  ·exact⟨_,U,λv z=>nomatch z⟩
  ·exact SK.obj J
  ·exact SK.obj S
 ·obtain⟨G,p,⟨a,c,U⟩,J,S⟩:=st;exact⟨k _ (by simp) _ G,k _ (by simp) _ p,⟨a,c,k _ (by simp) _ U⟩,SK.at_ J λo e=>k n (by simp) o e,SK.at_ S λo e=>k (n+1) (by simp) o e⟩
 ·intro X hP hw hK j i pins s σ H E I hf st hg;subst hP hw hK;obtain⟨xs,ys,x,y,s1,s2,hx,hy⟩:=hg;obtain⟨G,p,⟨a,c,U⟩,J,S⟩:=st;obtain⟨l,r1,b1,_⟩:=Inv.seq I k1 s1;obtain⟨B,r2,b2,_⟩:=Inv.seq I k2 s2;obtain⟨u,hu,ru⟩:=r1.get hx;obtain⟨v,hv,rv⟩:=r2.get hy;refine kl (k1.nx (aM h1) l.toArray) (k2.nx (i:=n+1) (nN 00) B.toArray) D G p U ⟨J,b1⟩ ⟨S,b2⟩ (x:=u) (y:=v) (by simpa using hu) (by simpa using hv) λg a1 a2 a3 a4 a5 kp=>⟨_,rfl,?_⟩
  refine wpAny_letOwnedTupleGo_zip a1 λg2 z2 Z=>?_;have hlt:n+4<s.1.1.size:=az G;have ne:∀b:Nat,b<=n+4->s.1.1.size≠b:=λb d=>by
   lia
  have f:∀b o,b∉[n+4,n+2,n+3,n,n+1]->s.heap.get? b=some o->g2.get? b=some o:=λb o d e=>by
   simp only[ay,bM,or_false,not_or]at d;exact Z.extBut _ _ d.1 (kp b o d.1 d.2.2.1 d.2.2.2.1 d.2.2.2.2 e)
  have g2P:=Z.extBut _ _ (ne _ (ar _)) a5;have g2I:=Z.extBut _ _ D.Iz (kp _ _ D.Iz D.IO D.I1 D.I2 p);have g2O:=Z.extBut _ _ D.Oz a2;have q1:=SK.at_ a3.1 λo e=>Z.extBut _ _ (nN 00) e
  have q2:=SK.at_ a4.1 λo e=>Z.extBut _ _ (nN 00) e
  have hfr:=I.hok.fresh (ar _);refine⟨.ref s.1.1.size,lf H s.1.1.size (.tup [x,y]),Inv.laidT (s:=s) (h':=g2) (tk:=s.toks) I hf f (λb o d _=>?_) (ar _)
   ⟨by rw[cC];show 2<=16777216;decide,[u,v],.cons ru (.cons rv .nil),⟨_,g2P,rfl,_,rfl⟩,.inr ⟨_,g2P,rfl⟩⟩,rfl,⟨_,x,y,hfr,rfl,λzs hq=>by rw[←Inv.seq_inj I k1 s1 hq];exact hx,λzs hq=>by rw[←Inv.seq_inj I k2 s2 hq];exact hy,rfl⟩,⟨z2,g2I,⟨u,v,g2O⟩,q1,q2⟩,λb d=>?_⟩
  ·simp only[ay,bM,or_false]at d;rcases d with rfl|rfl|rfl|rfl|rfl
   ·exact⟨_,z2⟩
   ·exact⟨_,g2I⟩
   ·exact⟨_,g2O⟩
   ·obtain⟨o',e',_⟩:=SK.obj q1;exact⟨o',e'⟩
   ·obtain⟨o',e',_⟩:=SK.obj q2;exact⟨o',e'⟩
  ·have hb2:(b:Nat)<=n+4:=by
    have d:=by simpa using d
    rcases d with rfl|rfl|rfl|rfl|rfl
    ·exact ar _
    ·exact eJ 03 n
    ·exact eJ 03 n
    ·exact aL _ _
    ·exact eJ 03 n
   rw[zu λz=>ne b hb2 z.symm];exact(hf b d).1
 ·intro X hP hw hK j i pins s σ H E I hf st hg;subst hP hw hK;obtain⟨xs,ys,s1,s2,hend⟩:=hg;obtain⟨G,p,⟨a,c,U⟩,J,S⟩:=st;obtain⟨l,r1,b1,_⟩:=Inv.seq I k1 s1;obtain⟨B,r2,b2,_⟩:=Inv.seq I k2 s2;have l1':=r1.length;have l2':=r2.length;refine km (I.ok.hd j) (k1.nx (aM h1) l.toArray) (k2.nx (nN 00) _) D G p U ⟨J,b1⟩ ⟨S,b2⟩ ?_ λg kp=>⟨rfl,?_⟩
  ·rcases hend with q|q
   ·exact .inl (cS (by rw[aD,←l1'];exact q))
   ·exact .inr (cS (by rw[aD,←l2'];exact q))
  ·have f:∀b o,b∉[n+4,n+3,n,n+1]->s.heap.get? b=some o->g.get? b=some o:=λb o d e=>by
    simp only[ay,bM,or_false,not_or]at d;exact kp b o d.1 d.2.1 d.2.2.1 d.2.2.2 e
   have nch:∀b u,H b=some u->b∉[n+4,n+3,n,n+1]:=λb u e d=>by
    have N:b∈[n+4,n+2,n+3,n,n+1]:=by
     simp only[ay,bM,or_false]at d⊢;rcases d with q|q|q|q
     ·exact .inl q
     ·exact .inr (.inr (.inl q))
     ·exact .inr (.inr (.inr (.inl q)))
     ·exact .inr (.inr (.inr (.inr q)))
    rw[(hf b N).1]at e;cases e
   refine I.call' rfl ⟨λb o e _ _ j=>f b o j e,λb o e _ _ j=>⟨o.slots,f b o j e⟩,λb o e q _=>q,λb o e j=>⟨o,f b o j e⟩,λb ys e=>e,λb o u e=>e,λ_ _ _ e=>e⟩ (λb u e=>?_) I.bare λb d=>?_
   ·refine(I.hok b u e).stay (λc v j q=>f c v ?_ q) (λ_ q=>q) λ_ _ q=>q;rcases j with rfl|j
    ·exact nch c u e
    ·exact nch c _ j
   ·have N:b∈[n+4,n+2,n+3,n,n+1]:=by
     simp only[ay,bM,or_false]at d⊢;rcases d with q|q|q|q
     ·exact .inl q
     ·exact .inr (.inr (.inl q))
     ·exact .inr (.inr (.inr (.inl q)))
     ·exact .inr (.inr (.inr (.inr q)))
    obtain⟨f0,f1,f2,f3,f4,f5⟩:=hf b N;exact⟨f3,f1,f4,f5⟩
 ·intro A i s Q E st h;exact wpAny_pyIter_zip st.1 h
noncomputable def vh (xs a:List T):List T:=(xs.zip a).map λp=>T.tup [p.1,p.2]
def V9 {xs a:List T}{i:Nat}{t:T}(h:(vh xs a)[i]?=some t):∃x y,xs[i]?=some x/\a[i]?=some y/\t=.tup [x,y]:=by
 unfold vh at h;rw[aj]at h;cases e:(xs.zip a)[i]? with
 |none=>rw[e]at h;cases h
 |some p=>
  rw[e]at h;cases h;have:=cx.mp e;exact⟨p.1,p.2,this.1,this.2,rfl⟩
def U8 (xs a:List T):(vh xs a).length=min xs.length a.length:=by unfold vh;simp
def GK {K:aa}{d S:Hp}{k1 k2:SK}{a b:Addr}{xs f:List V}{ts G:List T}(Z:d a=some (k1.tr xs))(hb:d b=some (k2.tr f))(k:zK d xs ts)(o:zK d f G):rI d S (BZ K k1 k2 a b) (vh ts G):=λB2 H2 j I=>by
 have D:=k1.sqOf (K:=K) (I _ _ (j _ _ Z));have b2:=k2.sqOf (K:=K) (I _ _ (j _ _ hb));rw[U8];refine⟨λi hi=>?_,λi t x H3 e y=>?_,λi hi=>⟨xs,f,D,b2,?_⟩⟩
 ·obtain⟨v,l,_⟩:=k.get (am (show i<ts.length by lia))
  obtain⟨u,B,_⟩:=o.get (am (show i<G.length by lia))
  exact⟨xs,f,v,u,D,b2,l,B⟩
 ·obtain⟨p,v,u,hp,rfl,y1,y2,rfl⟩:=y;obtain⟨t1,t2,U,Q,rfl⟩:=V9 e;obtain⟨v',l,P⟩:=k.get U;obtain⟨u',B,X⟩:=o.get Q;have J:=y1 xs D;have N:=y2 f b2;rw[l]at J;cases J;rw[B]at N;cases N;have up:=zN.ge I (zr.new hp (.tup [v,u]));exact⟨zr.new hp _,.tup (jS hp _) (.cons ((P.mono j).mono up) (.cons ((X.mono j).mono up) .nil))⟩
 ·rw[k.length,o.length];lia
section
variable {X:Cx}{Y:Fx}{a b:Expr}{fa fb:En->R T}{pos p pt:Pos}{elts:List Expr}{kk:Nat}
def GL {N:TA}(U:Gl X "zip")(hm:X.mg "zip"=none)(ha:PA X [a,b] N)(Z:starEach [a,b] X.env=[(false,eval a X.env),(false,eval b X.env)])(o:starEach [b] X.env=[(false,eval b X.env)]):
  PI X (.Tuple elts kk pt) (.Call (.Name "zip" p) [a,b] [] pos) (λy H R=>N y H λvs j=>∃k1 k2 i k xs P,vs=[.ref i,.ref k]/\j i=some (SK.tr k1 xs)/\j k=some (SK.tr k2 P)/\R (BZ X.K k1 k2 i k) j):=by
 intro B s y H R I h;refine Call_ (ja I U hm PyProof.Rows.Boot.«zip» (bc (lF (ha pos _ s y H _ I h) λus d zz=>?_) (by rw[Z,o]) (by rw[o];rfl)))
 obtain⟨vs,j,x,S,q1⟩:=zz;obtain⟨k1,k2,i,k,xs,P,e,h1,h2,q⟩:=q1;subst e;obtain⟨u,v,rfl,ru,rv⟩:=yw S;obtain rfl:u=Value.ref i:=ru;obtain rfl:v=Value.ref k:=rv;obtain⟨J,_,b1,o1,e1⟩:=Inv.seq x k1 (k1.sqOf h1);obtain⟨D,_,b2,o2,e2⟩:=Inv.seq x k2 (k2.sqOf h2);refine ku (k1.of i _) (k2.of k _) b1 b2 λg n hn G z2 z3 z4 z5 kp=>wpAny_pyIter_zip G ?_;subst hn;have f:∀b∈[d.1.1.size+4,d.1.1.size+2,d.1.1.size+3,d.1.1.size,d.1.1.size+1],wU X _ j b:=λb Q=>by
  have l:d.1.1.size<=b:=by
   simp only[ay,bM,or_false]at Q;rcases Q with rfl|rfl|rfl|rfl|rfl
   ·exact aL _ _
   ·exact aL _ _
   ·exact aL _ _
   ·exact ar _
   ·exact aL _ _
  exact x.fpOk l (x.hok.fresh l)
 exact⟨d.1.1.size+4,_,_,_,j,rfl,x.kept kp,V8 k1 k2 (az e1) (az e2),⟨G,z2,⟨_,_,z3⟩,SK.start k1 z4,SK.start k2 z5⟩,f,q⟩
noncomputable def Jp:T->R (List T)
 |.lst xs=>.ok xs
 |.tup xs=>.ok xs
 |_=>.bad
def kv (fa fb:En->R T):En->R (List T):=λρ=>(fa ρ).bind λt=>(fb ρ).bind λu=>(Jp t).bind λxs=>(Jp u).bind λd=>.ok (vh xs d)
def qe {B:Hp}{v:V}{t:T}{xs:List T}(r:Rep B v t)(e:Jp t=.ok xs):∃(k:SK) (a:Addr) (vs:List V),v=.ref a/\B a=some (k.tr vs)/\zK B vs xs:=by
 cases r with
 |lst h r=>cases e;exact⟨.l,_,_,rfl,h,r⟩
 |tup h r=>cases e;exact⟨.t,_,_,rfl,h,r⟩
 |_=>cases e
def UF (t:T)(c:Nat):Jp t≠.ex c:=by cases t<;>exact λz=>nomatch z
def Fh (N:Gl X "zip")(P:X.mg "zip"=none)(S:Snd X Y a fa)(hb:Snd X Y b fb)(x:starEach [a,b] X.env=[(false,eval a X.env),(false,eval b X.env)]:=by exact mJ rfl rfl)(f:starEach [b] X.env=[(false,eval b X.env)]:=by exact lS rfl):
  U3 X Y (.Tuple elts kk pt) (.Call (.Name "zip" p) [a,b] [] pos) (kv fa fb):=.mk λρ=>
 PI.imp (GL N P (zB (S ρ) (zB (hb ρ) zT f) (by rw[x,f])) x f) λσ H R=>tS.on λB I q=>step I q λt v H1 _ s1 J G q1=>step G q1 λu v' H2 _ s2 Q l d=>by
  cases i:Jp t with
  |bad=>rw[i]at d;exact d.elim
  |ex c=>exact absurd i (UF _ _)
  |ok xs=>
   rw[i]at d;cases j:Jp u with
   |bad=>rw[j]at d;exact d.elim
   |ex c=>exact absurd j (UF _ _)
   |ok ys=>
    rw[j]at d;obtain⟨k1,U,k,rfl,D,w1⟩:=qe (J.mono (zN.ge G.sB s2)) i;obtain⟨k2,Z,o,rfl,y,w2⟩:=qe Q j;exact⟨k1,k2,U,Z,k,o,rfl,l.sB _ _ D,l.sB _ _ y,ZC l (show Po Y rI _ H2 _ R from d) (GK D y w1 w2)⟩
end
end PV
namespace PV
open PySem PySem.Spec PyProof.Rows L2
section
variable {X:Cx}{Y:Fx}{a b:Expr}{fa fb:En->R T}{pos p p' pos':Pos}
def qf:T->R T
 |.bl b=>.ok (.int (b2 b))
 |.int i=>.ok (.int i)
 |_=>.bad
def Hb (v:V)(t:T)(B H:Hp)(Q:VK)(r:Rep B v t)(d:zr B H)(q:Po Y rC B H (qf t) Q):
  (∃i,[v]=[V.int i]/\Q (.int i) H)\/∃k,[v]=[V.bl k]/\Q (.int (if k then 1 else 0)) H:=by
 cases r with
 |int i=>exact .inl ⟨i,rfl,lW d q rfl (.int i)⟩
 |bl k=>exact .inr ⟨k,rfl,lW d q rfl (by cases k<;>exact .int _)⟩
 |_=>exact q.elim
def GM (f:Gl X "int")(d:X.mg "int"=none)(i:Snd X Y a fa)(j:lZ X a:=by exact lS rfl):Snd X Y (.Call (.Name "int" p) [a] [] pos) (lG qf fa):=
 xu Yo Hb f d (PyProof.Rows.Boot.«int») i j
def qg:Zt X (.type "range") (λxs H Q=>∃i j,xs=[.int i,.int j]/\∀r,H r=none->Q (.ref r) (lf H r (.rng i j))):=by
 intro d s l H xs x Q I r h;obtain⟨i,j,rfl,q⟩:=h;obtain⟨u,v,rfl,f,k⟩:=yw r;obtain⟨t,rfl⟩:=f;obtain⟨t',rfl⟩:=k;exact call_range_2 ⟨.ref _,_,I.laid (λb o e=>ag _ e) (ar _) (show Zd _ X.w _ _ _ (.rng i j) from ⟨_,_,_,ao _ rfl⟩),rfl,q _ (I.hok.fresh (ar _))⟩
noncomputable def vi (lo:Int)(n:Nat):List V:=(aZ n).map λ(i:Nat)=>V.int (lo+(i:Int))
def Wz (U:X.A.handled=none):Zt X (.type "list") (λxs H Q=>∃r lo hi,xs=[.ref r]/\H r=some (.rng lo hi)/\(-1000000<lo/\lo<1000000/\ -1000000<hi/\hi<1000000)/\∀l,H l=none->Q (.ref l) (lf H l (.lst (vi lo (hi-lo).toNat)))):=by
 intro y s σ H xs us Q I D h;obtain⟨r,lo,hi,rfl,e,⟨Z,c2,c3,c4⟩,q⟩:=h;obtain⟨u,rfl,S⟩:=ZP D;obtain rfl:u=Value.ref r:=S;obtain⟨t,v,v',B⟩:=(show Zd _ X.w H _ r _ from I.hok r _ e);have hn:fE lo hi 1=((hi-lo).toNat):=by rw[rangeSize_one];split<;>lia
 refine call_list_range U B (small_one 00 00 00 00) hn 00 λh' tk acc c kp k d=>?_
 have f:zZ (vi lo (hi-lo).toNat) acc.toList:=by
  have o:∀(n:Nat) (lo:Int) (vs:List _),vs.length=n->(∀(j:Nat) (v:Value),vs[j]?=some v->∃t,v=Value.int (lo+(j)) t)->zZ (vi lo n) vs:=by
   intro n
   induction n with
   |zero=>
    intro lo vs i _;rw[ci i];exact .nil
   |succ n N=>
    intro lo vs i f;cases vs with
    |nil=>cases i
    |cons v vs=>
     have e:vi lo (n+1)=V.int (lo+0)::vi (lo+1) n:=by
      unfold vi;rw[cR,aK,bv];refine congrArg _ (cu λj _=>?_);show V.int _=V.int _;congr 1;lia
     rw[e];refine .cons (f 0 v rfl) (N _ vs (by simpa using i) λj x G=>?_)
     obtain⟨t,z⟩:=f (j+1) x (by simpa using G)
     exact⟨t,by rw[z];congr 1;lia⟩
  refine o _ lo _ (by simpa using d.1) λj v J=>?_
  obtain⟨t,z⟩:=d.2 j v (by simpa using J)
  exact⟨t,by rw[z];congr 1;lia⟩
 have P:(vi lo (hi-lo).toNat).length<=sizeLine:=by
  rw[cC];unfold vi;rw[ah,bO];lia
 exact⟨.ref _,_,I.laid kp (ar _) (show Zd _ X.w _ h' _ (.lst _) from ⟨P,acc.toList,c,f,by simpa using k⟩),rfl,q _ (I.hok.fresh (ar _))⟩
def sL (fi:En->R (List T)):En->R T:=λρ=>(fi ρ).bind λts=>.ok (.lst ts)
def qh {B:Hp}(lo:Int)(n:Nat):zK B (vi lo n) (rng lo n):=by
 unfold vi rng
 induction aZ n with
 |nil=>exact .nil
 |cons i f d=>exact .cons (.int _) d
def kx (U:X.A.handled=none)(Z:Gl X "list")(N:X.mg "list"=none)(y:Gl X "range")(o:X.mg "range"=none)(P:Snd X Y a fa)(hb:Snd X Y b fb)
  (D:starEach [a,b] X.env=[(false,eval a X.env),(false,eval b X.env)]:=by exact mJ rfl rfl) (d:lZ X b:=by exact lS rfl):Snd X Y (.Call (.Name "list" p) [.Call (.Name "range" p') [a,b] [] pos'] [] pos) (sL (JP fa fb)):=.mk λρ=>
 PE.imp (je (Wz U) Z N PyProof.Rows.Boot.«list» (zB (je qg y o boot_range (zB (P ρ) (zB (hb ρ) zT d) (by rw[D,d])) 03 03 (by rw[D,d]) (by rw[d];rfl)) zT (lS rfl)) 03 03 (lS rfl) rfl) λσ H Q=>tS.on λB I q=>by
  have q:Po Y rC B H ((fa ρ).bind λt=>(fb ρ).bind λt'=>(match t,t' with|.int i,.int j=>if-1000000<i/\i<1000000/\ -1000000<j/\j<1000000 then R.ok (rng i (j-i).toNat)else .bad|_,_=>.bad).bind λts=>.ok (.lst ts)) Q:=by
   revert q;unfold sL JP;cases fa ρ with
   |ok t=>cases fb ρ<;>exact λq=>q
   |ex c=>exact λq=>q
   |bad=>exact λq=>q
  refine step I q λt v H1 _ s1 J I1 S=>step I1 S λt' v' H2 _ s2 G I2 f=>?_;cases J with
  |int i=>
   cases G with
   |int j=>
    by_cases c: -1000000<i/\i<1000000/\ -1000000<j/\j<1000000
    ·dsimp only at f;rw[if_pos c]at f;refine⟨i,j,rfl,λr hr=>⟨r,i,j,rfl,zw,c,λl k=>?_⟩⟩;have x:l≠r:=λz=>by rw[z,zw]at k;cases k
     have u:=by rw[zu x]at k;exact k
     refine f _ _ (zr.new hr _|>.trans (zr.new k _)) (.lst ?_ (qh _ _))
     rw[zD u,zw]
    ·dsimp only at f;rw[if_neg c]at f;exact f.elim
   |_=>exact f.elim
  |_=>cases G<;>exact f.elim
def tN (i j:Nat):En->RS:=λρ=>match ρ[j]? with
 |some (.ow ts)=>.nx ((ρ.set j (.vl (.lst ts))).set i (.vl (.lst ts)))
 |_=>.bad
def SI.give {Y:Fx}{B:Hp}{ρ:En}{Q:Sg}{H:Hp}(I:SI Y B ρ Q H){j:Nat}{ts:List T}(hj:ρ[j]?=some (.ow ts)):∃(a:Addr) (P:Hp),Q[j]?=some (some (V.ref a))/\zr B P/\Rep P (.ref a) (.lst ts)/\SI Y P (ρ.set j (.vl (.lst ts))) Q H:=by
 obtain⟨a,xs,e,b0,h0,hh,rr,d⟩:=I.ow j ts hj;have D:zr B (lf B a (.lst xs)):=zr.new b0 _;have rp:Rep _ _ _:=.lst zw (rr.mono D);refine⟨a,_,e,D,rp,⟨I.s0,I.sH,λb o q=>?_,λb o q=>?_,by rw[aw];exact I.len,λk t q=>?_,λk N q=>?_,λk c q=>?_,?_⟩⟩
 ·by_cases u:b=a
  ·subst u;rw[zw]at q;cases q;exact hh
  ·rw[zu u]at q;exact I.sB b o q
 ·rw[zu λz=>by rw[z,h0]at q;cases q];exact I.old b o q
 ·rcases zt q with ⟨rfl,z⟩|⟨_,z⟩
  ·cases z;exact⟨_,e,rp⟩
  ·obtain⟨v,e1,r⟩:=I.vl k t z;exact⟨v,e1,r.mono D⟩
 ·rcases zt q with ⟨rfl,z⟩|⟨hk,z⟩
  ·cases z
  ·obtain⟨G,Z,J,i,f,S,U,d'⟩:=I.ow k N z;have l:G≠a:=λw=>by subst w;exact d k N hk z J
   refine⟨G,Z,J,by rw[zu l];exact i,f,S,U.mono D,λm ws hm hw=>?_⟩
   rcases zt hw with ⟨rfl,w⟩|⟨_,w⟩
   ·cases w
   ·exact d' m ws hm w
 ·rcases zt q with ⟨rfl,z⟩|⟨_,z⟩
  ·cases z
  ·obtain⟨G,J,r⟩:=I.xc k c z;exact⟨G,J,D _ _ r⟩
 ·obtain⟨as,O,x⟩:=I.st;refine⟨as,O,x.on (λk y hy h=>?_) D rfl rfl (zr.refl _) λb o u i f cs=>?_⟩
  ·rcases zt h with ⟨_,z⟩|⟨_,z⟩
   ·subst z;cases hy
   ·exact⟨z,rfl⟩
  ·have l:b≠a:=λz=>by
    subst z;rcases cs with ⟨C,dx,vs,ez⟩|ok
    ·rw[hh]at u;cases u;cases ez
    ·exact ok j ts hj e
   refine⟨u,by rw[zu l];exact i,f,λok k N h=>?_⟩
   rcases zt h with ⟨_,z⟩|⟨_,z⟩
   ·cases z
   ·exact ok k N z
def Bx {i j:Nat}{x y:Str}{d:Pos}(k:PE X (.Name y d) (Jg j))(G:X.N.Nodup)(hi:X.N[i]?=some x)(v:L2.Loc X.env.scope x)(l:swapsWith (.Name y d) (some (.Name x p')) pos.line X.env=pure false:=by rfl)
  (P:X.fn x=true\/X.env.scope.names.lookup x=some .local:=by first|exact .inl rfl|exact .inr rfl|assumption):Jf X Y (.Assign [.Name x p'] (.Name y d) pos) (tN i j):=.mk λρ=>
 PS.imp (WY G hi v k l P) λD Q H=>tSS.on λB I q=>by
  unfold tN at q;split at q
  ·rename_i ts e;obtain⟨a,o,u,f,r,J⟩:=I.give e;exact⟨_,u,q _ _ o f (J.setV i r)⟩
  ·exact q.elim
end
def nA (y:T):List T->Option (List Bool)
 |[]=>some []
 |t::ts=>match lI 30 t y with
  |none=>none
  |some b=>match nA y ts with
   |none=>none
   |some bs=>some (b::bs)
def Aj (y:T)(ts:List T):R T:=match nA y ts with
 |some bs=>.ok (.int (bs.count true))
 |none=>.bad
def Va (y:T)(ts:List T):R T:=match nA y ts with
 |some bs=>if true∈bs then .ok (.int (bs.idxOf true))else .bad
 |none=>.bad
def Vb (g:T->List T->R T)(fa a:En->R T):En->R T:=λρ=>(fa ρ).bind λt=>match t with
 |.lst ts=>(a ρ).bind λu=>g u ts
 |_=>.bad
def xG {H:Hp}{y:T}{e:Value->Bool}(p:∀(v:V) (t:T) (u:Value) (b:Bool),Z8 v u->Rep H v t->lI 30 t y=some b->e u=b){xs:List V}{ts:List T}{a:List Value}{bs:List Bool}
  (l:zZ xs a) (hr:zK H xs ts) (h:nA y ts=some bs):a.map e=bs/\∀u∈a,∃v t k,Z8 v u/\Rep H v t/\lI 30 t y=some k:=by
 induction l generalizing ts bs with
 |nil=>
  cases hr;cases h;exact⟨rfl,λu x=>by simp at x⟩
 |@cons v u j J i vs B=>
  cases hr with
  |@cons _ t _ ts r D=>
  unfold nA at h;cases q:lI 30 t y with
  |none=>rw[q]at h;cases h
  |some k=>
   rw[q]at h;cases f:nA y ts with
   |none=>rw[f]at h;cases h
   |some I=>
    rw[f]at h;cases h;obtain⟨G,o⟩:=B D f;refine⟨by rw[aK,G,p v t u k i r q],λw d=>?_⟩
    rcases ay.mp d with z|d
    ·exact⟨v,t,k,z▸i,r,q⟩
    ·exact o w d
section
variable {X:Cx}{Y:Fx}{a b:Expr}{fa fb:En->R T}{pos p p' pos':Pos}
theorem qi {e:Value->Bool}:∀d:List Value,List.countP e d=(d.map e).count true
 |[]=>rfl
 |u::f=>by
  rw[List.countP_cons,aK,List.count_cons,qi f];cases e u<;>rfl
def Vc (hu:X.A.units+64<cLine):o4 X "list.count" (λx xs H Q=>∃l i ts v t bs,x=.ref l/\xs=[v]/\H l=some (.lst i)/\zK H i ts/\Rep H v t/\nA t ts=some bs/\Q (.int (bs.count true)) H):=by
 intro j s σ H x xs v0 us Q I rx U h;obtain⟨l,i,ts,v,t,bs,rfl,rfl,hl,r,rt,e,q⟩:=h;obtain rfl:v0=Value.ref l:=rx;obtain⟨u,rfl,ru⟩:=ZP U;obtain⟨hz,J,n,Z,y⟩:=(show Zd _ X.w H _ l _ from I.hok l _ hl);obtain⟨f,B⟩:=U1 λz=>lI 30 z t;obtain⟨P,N⟩:=xG B Z r e;refine dh fL ⟨_,y,rfl⟩ PySem.F.entry_list_count (PySem.F.args_list_count_2 _ _) (SeqAt.list_countAt l _ n _ #[] u f) ⟨y,λw S=>?_,?_⟩
 ·obtain⟨D,t',k,d,G,o⟩:=N w (by simpa using S)
  rw[B D t' w k d G o];exact(YF I 30 _ (by rw[jY];lia) t' t k D v w u o G rt d ru).1
 ·rw[qi,P];exact⟨.int _,H,I.tok _,⟨_,rfl⟩,q⟩
def Vd (hu:X.A.units+64<cLine):o4 X "list.index" (λx xs H Q=>∃l D ts v t bs,x=.ref l/\xs=[v]/\H l=some (.lst D)/\zK H D ts/\Rep H v t/\nA t ts=some bs/\true∈bs/\Q (.int (bs.idxOf true)) H):=by
 intro J s σ H x xs v0 us Q I rx rv h;obtain⟨l,D,ts,v,t,bs,rfl,rfl,hl,r,rt,e,j,q⟩:=h;obtain rfl:v0=Value.ref l:=rx;obtain⟨u,rfl,ru⟩:=ZP rv;obtain⟨hz,i,n,U,P⟩:=(show Zd _ X.w H _ l _ from I.hok l _ hl);obtain⟨f,Z⟩:=U1 λz=>lI 30 z t;obtain⟨G,h3⟩:=xG Z U r e;have S:=fj.mpr j;have d:bs.length=i.length:=by rw[←G,ah]
 have hri:=U.length;rw[cC]at hz;have o:∀m (j:m<i.length),f i[m]=bs[m]'(by rw[d];exact j):=λm j=>by
  have:(i.map f)[m]'(by rw[ah];exact j)=bs[m]'(by rw[d];exact j):=by simp only[G]
  rw[←this,List.getElem_map]
 refine dh fM ⟨_,P,rfl⟩ PySem.F.entry_list_index (PySem.F.args_list_index_2 _ _) (SeqAt.list_indexAt l _ n _ #[] u f _ (by rw[aD,←d];exact S) 00 ?_ ?_) ⟨P,λw hw=>?_,?_⟩
 ·rw[i7,o];exact iu S
 ·intro m j B;rw[i7,o m (by simpa using j)]
  have:=List.not_of_lt_findIdx B;simpa using this
 ·obtain⟨v',t',k,y,rr,N⟩:=h3 w (by simpa using hw)
  rw[Z v' t' w k y rr N];exact(YF I 30 _ (by rw[jY];lia) t' t k v' v w u N rr rt y ru).1
 ·exact⟨.int _,H,I.tok _,⟨_,rfl⟩,q⟩
def ky {k:Pos}(G:X.A.units+64<cLine)(P:jH X Y a fa)(U:jH X Y b fb)(i:attributeBase a "count" X.env (eval a X.env)=eval a X.env:=by rfl)(f:lZ X b:=by exact lS rfl)(N:(k.endLine==p.line)=true:=by rfl):
  Snd X Y (.Call (.Attribute a "count" k) [b] [] p) (Vb Aj fa fb):=.mk λρ=>by
 have D:(((((backTo p (starEach [b] X.env)).all λx=> !x.fst)&&(backToKw p (keywordEach [] X.env)).all λx=>x.fst.isSome)&&decide (([b].length+([]:List Keyword).length+if ([]:List Keyword).isEmpty=true then 0 else 1)<30))=true):=by rw[f];rfl
 refine PE.imp (yE bV fL PySem.F.type_list_count (Vc G) (P ρ) (zB (U ρ) zT f) i D N f rfl) λσ H Q=>tS.on λB I q=>step I q λt v H1 _ s1 y Z j=>?_;cases t with
 |lst ts=>
  cases y with
  |@lst l xs _ h r=>
   refine⟨.inl ⟨rfl,_,SqL.of h⟩,step Z j λu S H2 _ o J I2 d=>?_⟩;unfold Aj at d;split at d
   ·rename_i bs e;exact⟨l,xs,ts,S,u,bs,rfl,rfl,o _ _ h,r.mono o,J,e,ZC I2 d (.int _)⟩
   ·exact d.elim
 |_=>exact j.elim
def kz {k:Pos}(J:X.A.units+64<cLine)(S:jH X Y a fa)(Z:jH X Y b fb)(i:attributeBase a "index" X.env (eval a X.env)=eval a X.env:=by rfl)(f:lZ X b:=by exact lS rfl)(P:(k.endLine==p.line)=true:=by rfl):
  Snd X Y (.Call (.Attribute a "index" k) [b] [] p) (Vb Va fa fb):=.mk λρ=>by
 have G:(((((backTo p (starEach [b] X.env)).all λx=> !x.fst)&&(backToKw p (keywordEach [] X.env)).all λx=>x.fst.isSome)&&decide (([b].length+([]:List Keyword).length+if ([]:List Keyword).isEmpty=true then 0 else 1)<30))=true):=by rw[f];rfl
 refine PE.imp (yE bV fM PySem.F.type_list_index (Vd J) (S ρ) (zB (Z ρ) zT f) i G P f rfl) λσ H Q=>tS.on λB I q=>step I q λt v H1 _ s1 y I1 j=>?_;cases t with
 |lst ts=>
  cases y with
  |@lst l xs _ h r=>
   refine⟨.inl ⟨rfl,_,SqL.of h⟩,step I1 j λu U H2 _ o N I2 d=>?_⟩;unfold Va at d;split at d
   ·rename_i bs e;split at d
    ·rename_i D;exact⟨l,xs,ts,U,u,bs,rfl,rfl,o _ _ h,r.mono o,N,e,D,ZC I2 d (.int _)⟩
    ·exact d.elim
   ·exact d.elim
 |_=>exact j.elim
end
noncomputable def ZL:List T->Option (List Int)
 |[]=>some []
 |.int i::r=>match ZL r with|some l=>some (i::l)|none=>none
 |_::_=>none
def Ve:T->R T
 |.lst ts=>match ZL ts with|some l=>.ok (.int l.sum)|none=>.bad
 |_=>.bad
def Y6 (fi:En->R (List T))(g:T->En->R En)(ft:En->R Bool)(fe:En->R T)(k:Nat)(js:List Nat):En->RS:=λρ=>(fi (frz ρ)).s λts=>(zM g ft fe k js (frz ρ) ts).s λvs=>.rf vs
def kA {H:Hp}{xs:List V}{ts:List T}{a:List Value}{f:List Int}(hr:zK H xs ts)(j:zZ xs a)(h:ZL ts=some f):∃d:List (Int×Tok),a=d.map (λp=>Value.int p.1 p.2)/\d.map (·.1)=f:=by
 induction j generalizing ts f with
 |nil=>
  cases hr;cases h;exact⟨[],rfl,rfl⟩
 |cons u vs v=>
  cases hr with
  |cons r x=>
  cases r with
  |int i=>
   unfold ZL at h;split at h
   ·rename_i l e;cases h;obtain⟨d,o,k⟩:=v x e;obtain⟨tk,rfl⟩:=u;exact⟨(i,tk)::d,by rw[o];rfl,by rw[aK,k]⟩
   ·cases h
  |_=>cases h
section
variable {X:Cx}{Y:Fx}{a b:Expr}{fa fb:En->R T}{pos p p' pos':Pos}
def qj (G:X.A.handled=none):Zt X (.builtin "sum") (λvs H Q=>∃l xs ts d,vs=[.ref l]/\H l=some (.lst xs)/\zK H xs ts/\ZL ts=some d/\Q (.int d.sum) H):=by
 intro k s J H vs N Q I i h;obtain⟨l,xs,ts,d,rfl,y,r,o,q⟩:=h;obtain⟨u,rfl,B⟩:=ZP i;obtain rfl:u=Value.ref l:=B;obtain⟨f,i,p,_⟩:=Z0 I (.inl y) r;obtain⟨j,D,v⟩:=kA r i o;have e:f.toArray=intItems j.toArray:=by rw[D];simp[intItems]
 rw[e]at p;refine sum_intListG G p λh' tk t' kp=>?_;have x:preSum (numAt j.toArray) j.toArray.size=d.sum:=by
  rw[preSum_eq,dS (by simp),←v]
 rw[x];exact⟨.int _,H,I.kept kp,⟨t',rfl⟩,q⟩
def HI (j:X.A.handled=none)(o:Gl X "sum")(f:X.mg "sum"=none)(i:jH X Y a fa)(d:lZ X a:=by exact lS rfl):Snd X Y (.Call (.Name "sum" p) [a] [] pos) (lG Ve fa):=
 uj (qj j) (λv t B H Q r u q=>by
  cases r with
  |@lst l xs ts h r=>
   have q:Po Y rC B H (match ZL ts with|some k=>.ok _|none=>.bad) Q:=q
   split at q
   ·rename_i k e;exact⟨l,xs,ts,k,rfl,h,r,e,lW u q rfl (.int _)⟩
   ·exact q.elim
  |_=>exact q.elim) o f boot_sum i d
end
def Dk (Y:Fx)(B H:Hp)(r:R T)(Q:VK):Prop:=match r with
 |.ok (.lst i)=>∀a xs d f,zr H d->H a=none->d a=some (.lst xs)->zK f xs i->f a=none->zr f (zN B H d)->Q (.ref a) d
 |.ok _=>False
 |.ex c=>XP Y B c
 |.bad=>False
def spF (cl:Nat->Value)(n:Nat)(g:List T->R T):Sp:=λvs H Q E=>∃B ts,ts.length=n/\zr B H/\zK B vs ts/\Dk ⟨B,H,E,cl,[]⟩ B H (g ts) Q
def spF.len {cl:Nat->Value}{n:Nat}{g:List T->R T}(vs:List V)(H:Hp)(Q:VK)(E:XK)(h:spF cl n g vs H Q E):vs.length=n:=by
 obtain⟨B,ts,a,_,r,_⟩:=h;rw[r.length,a]
section
variable {X:Cx}{Y:Fx}{tg iter elt:Expr}{ifs:List Expr}{scope:Scope}{pos pos':Pos}{N':List Str}{k:Nat}{js:List Nat}{fi:En->R (List T)}{tG:TG}{g:T->En->R En}{ft:En->R Bool}{fe:En->R T}
def GN (C:W7 X Y tg iter elt ifs scope N' k js fi tG g ft fe):Jf X Y (.Return (some (.ListComp elt [⟨tg,iter,ifs,0⟩] scope pos)) pos') (Y6 fi g ft fe k js):=.mk λρ=>by
 have pe:PE X (.ListComp elt [⟨tg,iter,ifs,0⟩] scope pos) (λa H Q=>∃B,SI Y B (frz ρ) a H/\PoS Y B ((fi (frz ρ)).s λts=>(zM g ft fe k js (frz ρ) ts).s λvs=>.rf vs) {nx:=λ_ _=>False,rt:=Q}):=by
  rintro i s a H Q I ⟨B,J,q⟩
  refine JS (jA rfl) (F:=λD v=>Q (.ref D) v) (te:=λa H Q=>∃d ρ',d.cl=Y.cl/\(d.E=λ_ _ _=>False)/\tS d rC fe ρ' a H Q) (tt:=λa H Q=>∃d ρ',d.cl=Y.cl/\tS d rE ft ρ' a H Q) C.sc C.cp C.cm (C.it (frz ρ)) C.gt
   (λcl j U H3 fp i p s a H Q I ⟨d,ρ',G,q⟩=>C.tt d G cl j U H3 fp _ ρ' _ s a H Q I q) (λcl j U H3 fp i xe hp p s a H Q I ⟨d,ρ',G,eE,q⟩=>C.el d G cl j U H3 fp _ xe (eE▸hp) ρ' _ s a H Q I q) I ?_ ?_ C.hs
  ·refine jZ J q λts it' H1 _ s1 r1 u f=>?_;intro D Z;unfold zM at f;split at f
   ·rename_i hl;cases y:zR g ft fe ts _ with
    |bad=>rw[y]at f;exact f.elim
    |ex c=>rw[y]at f;exact f.elim
    |ok vs=>
     rw[y]at f;refine wu C.gk C.gn u r1 hl y Z λv xs B' S e' r' l' b' sb'=>?_;exact(show PoS Y _ _ _ from f) D xs v B' (u.sH.trans S) (u.sH.free Z) e' r' b' (l'.trans (YO u.sH u.old S u.sB))
   ·exact f.elim
  ·intro D Cc v S I' q' hC h0 hL l x P;obtain⟨m,hm⟩:=P;refine⟨m,hm,λh' N=>⟨.ref D,v,?_,rfl,q'⟩⟩;exact I'.turned (λb o hb e=>N.extBut b o hb e) hC (aY hL).symm (.inr h0) l x
 refine PS.imp (JC pe) λD a H=>tSS.on λB I q=>⟨_,I.frz,?_⟩;have q:=PoS.up I.up q;unfold Y6 at q;revert q;cases fi _ with
 |bad=>exact λq=>q
 |ex c=>exact λq=>q
 |ok ts=>
  show PoS Y _ ((zM g ft fe k js _ ts).s λvs=>.rf vs) D->PoS Y _ ((zM g ft fe k js _ ts).s λvs=>.rf vs) _;cases zM g ft fe k js _ ts with
  |bad=>exact λq=>q
  |ex c=>exact λq=>q
  |ok vs=>exact λq=>q
end
def W9 (f:En->RS):Prop:=∀ρ t,f ρ≠.rt t
def jh {f g:En->RS}(h:W9 f)(h':W9 g):W9 (zA f g):=λρ t e=>by
 unfold zA at e;cases q:f ρ with
 |nx ρ'=>rw[q]at e;exact h' ρ' t e
 |rt u=>exact h ρ u q
 |bk ρ'=>rw[q]at e;cases e
 |ct ρ'=>rw[q]at e;cases e
 |ex c=>rw[q]at e;cases e
 |bad=>rw[q]at e;cases e
 |rf a=>rw[q]at e;cases e
def JF {c:En->R Bool}{f g:En->RS}(h:W9 f)(h':W9 g):W9 (lK c f g):=λρ t e=>by
 unfold lK at e;cases q:c ρ with
 |bad=>rw[q]at e;cases e
 |ex c=>rw[q]at e;cases e
 |ok k=>
  rw[q]at e;cases k with
  |true=>exact h ρ t e
  |false=>exact h' ρ t e
def ZM {f:En->R T}:W9 (ZR f):=λρ t e=>by unfold ZR at e;cases q:f ρ<;>rw[q]at e<;>cases e
def ji {i:Nat}{f:En->R T}:W9 (zY i f):=λρ t e=>by unfold zY at e;cases q:f ρ<;>rw[q]at e<;>cases e
def Zo {c:Nat}:W9 (J7 c):=λρ t e=>nomatch e
def JG:W9 lL:=λρ t e=>nomatch e
def ZN {fi:En->R (List T)}{g:T->En->R En}{ft:En->R Bool}{fe:En->R T}{k:Nat}{js:List Nat}:W9 (Y6 fi g ft fe k js):=λρ t e=>by
 unfold Y6 at e;cases q:fi _ with
 |bad=>rw[q]at e;cases e
 |ex c=>rw[q]at e;cases e
 |ok ts=>
  rw[q]at e;have e:((zM g ft fe k js _ ts).s λvs=>.rf vs)=RS.rt t:=e;cases a:zM g ft fe k js _ ts<;>rw[a]at e<;>cases e
section
variable {P:Program}{w:World}{K:aa}{mg:Str->Option Value}{base:Heap}
def GO {Y:Fx}{H:Hp}{a:RS}{Q:VK}(hr:∀t,a≠.rt t)(q:Dk Y Y.B0 Y.H0 (zx a) Q):PoS Y Y.B0 a {nx:=λ_ d=>Q .non d,rt:=Q}:=by
 revert q hr;cases a with
 |rt t=>exact λhr=>absurd rfl (hr t)
 |rf f=>exact λ_ q=>q
 |nx ρ=>exact λ_ q=>q.elim
 |bk ρ=>exact λ_ q=>q.elim
 |ct ρ=>exact λ_ q=>q.elim
 |ex c=>exact λ_ q=>q
 |bad=>exact λ_ q=>q
def kB {cl:Nat->Value}{x a:Str}{st:Stmt}{f:Addr}{l:FuncData}{N i:List Str}{k n:Nat}{j:En->RS}{g:List T->R T}(F:Fun K x a st f l)(S:Zk N i (zq st))(hn:n=i.length)
  (v:∀(cdv:Value) (A:Around) (outer:List Env) (s:Shared) (H:Hp) (E:XK) (Y:Fx),Y.cl=cl->Y.E=E->Ze k (A.deeper (envOfC a (zq st) s.1.1.size f cdv))->
   Jn (jc (lH P w) P w K mg base N a (zq st) f cdv A outer s H E) Y (zH st) j)
  (o:∀ts,ts.length=n->g ts=zx (j (i4 N.length ts))) (d:W9 j):ZX P w K mg base (lH P w) (k+1) f l i (spF cl n g):=by
 subst hn;refine Fun.okX F S spF.len λcdv A outer s H vs Q E hr u=>?_;obtain⟨B,ts,p,y,r,q⟩:=u;refine⟨_,v cdv A _ s H E ⟨B,H,E,cl,[]⟩ rfl rfl hr _,B,SI.start y r,?_⟩;rw[o ts p]at q;exact GO (H:=H) (d _) q
end
end PV
namespace PySem.RV
open PySem PySem.Spec PyProof.Rows PySem.Builtin.SmallTypes
def UG:Manifest.owners.lookup (String.ofList "desrever".toList.reverse)=some Manifest.sig_reversed:=by kernel_rfl
def jj:Slot "reversed" "__next__" "reversed.__next__":=
 .of (owner:="reversed") (n:="__next__") (by kernel_rfl) (by decide+kernel) (by decide+kernel) (by decide+kernel)
  (by first|exact .inl (by decide+kernel)|exact .inr (by decide+kernel)) (by kernel_rfl)
def Wa:entryFor table "reversed.__next__"=some Builtin.«reversed.__next__»:=entryFor_of_tree (by kernel_rfl)
def ur (a:Value):argsOk "reversed.__next__" ⟨[a],[]⟩:=by
 unfold argsOk;rw[signature?_of (n:="__txen__".toList) (by kernel_rfl) UG];kernel_rfl
def ut:Slot "reversed" "__iter__" "reversed.__iter__":=
 .of (owner:="reversed") (n:="__iter__") (by kernel_rfl) (by decide+kernel) (by decide+kernel) (by decide+kernel)
  (by first|exact .inl (by decide+kernel)|exact .inr (by decide+kernel)) (by kernel_rfl)
def qk (a:Value):argsOk "reversed.__iter__" ⟨[a],[]⟩:=by
 unfold argsOk;rw[signature?_of (n:="__reti__".toList) (by kernel_rfl) UG];kernel_rfl
def yK:entryFor table "reversed.__iter__"=some Builtin.«dict_keyiterator.__iter__»:=
 entryFor_alias (id':="dict_keyiterator.__iter__") (by kernel_rfl) (by first|rfl|decide+kernel|(unfold String.splitOn;simp+decide [String.splitOnAux])) (by decide+kernel) (by kernel_rfl)
def GP:typeLookup (.type "tuple") "__reversed__"=pure none:=by rw[typeLookup_type,builtinLookup_eq_fast];kernel_rfl
def GQ:isSubtype (.type "tuple") (.type "dict")=pure false:=by rw[isSubtype_type];kernel_rfl
noncomputable abbrev IsRv (h:Heap)(it:Addr)(v:Value)(i:Int):Prop:=h.get? it=some {cls:=.type "reversed",data:=.fields #[v,rawInt i]}
section
variable {prog:Program}{w:World}{A:Around}{E:Value->Shared->Prop}{s:Shared}{it l:Addr}{xs:Array Value}
def U9 {v:Value}{i:Int}(x:IsRv s.heap it v i):s.TypeIs (.ref it) "reversed":=⟨_,x,rfl⟩
def next_item {i:Nat}{x:Value}{Q:Option Value->Shared->Prop}(a:IsRv s.heap it (.ref l) (i:Int))(f:IsTup s.heap l xs)(u:(xs.size:Int)<2^63)(d:xs[i]?=some x)
  (p:∀h' tk,IsRv h' it (.ref l) ((i:Int)-1)->cB it s.heap h'->Q (some x) {s with heap:=h',toks:=tk}):wpAny 001 A (pyNext (.ref it)) Q E s:=by
 refine a7 (d7 (bE (U9 a) jj (bT jj (U9 a) Wa ?_ (ur _))));refine a7 (cF rfl ?_);refine a7 (bp a rfl rfl ?_);refine a7 (bp a rfl rfl ?_);have hi:=(Array.getElem?_eq_some_iff.mp d).1;have hT:=f.typeIs;refine a7 (cy hT slot_tuple_getitem.lookup ?_);refine a7 (wpAny_mkInt ?_);refine a7 (d7 (getItem_tuple f 00 00 (seqIndex_of 00 00) (by simpa using d) ?_))
 refine a7 (bp a rfl rfl ?_);refine a7 (bH a (by simp) λj o k=>?_)
 exact au ⟨x,rfl,au (p j _ o k)⟩
def next_end {Q:Option Value->Shared->Prop}(i:A.handled=none)(a:IsRv s.heap it (.ref l) (-1))
  (k:∀h',i6 it s.heap h'->Q none {s with heap:=h'}):wpAny 001 A (pyNext (.ref it)) Q E s:=by
 refine a7 (d7 (bE (U9 a) jj (bT jj (U9 a) Wa ?_ (ur _))));refine a7 (cF rfl ?_);refine a7 (bp a rfl rfl ?_);refine a7 (bp a rfl rfl ?_);refine a7 (dZ ?_);refine a7 (show wpAny _ _ _ _ _ _ from ?_);refine a7 (bH a (by simp) λo j f=>?_)
 refine bH j (by simp) λp u d=>?_
 refine a7 (show wpAny _ _ (newExc _ []>>=λe=>raiseNew e) _ _ _ from ?_);refine a7 ?_;refine a7 (bw (a7 (cF (by first|rfl|(simp only[firstArgMember])) (bw ?_ (by size_fits)))) (by size_fits))
 refine a7 (wpAny_handled ?_);rw[i];refine a7 (au (wpAny_throw ?_));refine a7 (wpAny_isInstance ⟨_,ao _ rfl,rfl⟩ isSubtype_stop ?_);exact au (k _ (((f.extBut.trans d.extBut).push _).push _))
def iter_rv {v:Value}{i:Int}{Q:Value->Shared->Prop}(a:IsRv s.heap it v i)(h:Q (.ref it) s):wpAny 001 A (pyIter (.ref it)) Q E s:=by
 refine wpAny_pyIter_slot (U9 a) ut (bT ut (U9 a) yK ?_ (qk _));exact au ⟨_,rfl,"reversed",_,U9 a,jj.lookup,h⟩
def xH:mroOf (.type "reversed")=pure [.type "reversed",.type "object"]:=by rw[mroOf_type];kernel_rfl
def GR:typeLookup (.type "reversed") "__new__"=pure (some (.builtin "reversed.__new__")):=by kernel_rfl
def kC:Bind.madeBy (.type "reversed")=pure (some "reversed.__new__"):=madeBy_type xH GR (by decide+kernel)
def GS:isSubtype (.type "reversed") (.type "reversed")=pure true:=by rw[isSubtype_type];kernel_rfl
def GT (a:Value):newClass "reversed" ⟨[.type "reversed",a],[]⟩=pure (.type "reversed",[a]):=by
 unfold newClass;simp only[isType,GS,pure_bind,fo,a_,if_false]
def qm:entryFor table "reversed.__new__"=some Builtin.«reversed.__new__»:=entryFor_of_tree (by kernel_rfl)
def Vf {Q:Fin->Shared->Prop}(a:IsTup s.heap l xs)(d:(xs.size:Int)<2^63)
  (h:∀tk,Q (.done (.ret (.ref s.1.1.size))) {s with heap:=s.heap.push {cls:=.type "reversed",data:=.fields #[.ref l,rawInt ((xs.size:Int)-1)]},toks:=tk}):
  wpAny 001 A (Builtin.«reversed.__new__» ⟨[.type "reversed",.ref l],[]⟩) Q E s:=by
 have hT:=a.typeIs;refine a7 (cF (GT _) ?_);refine a7 (cF (by first|rfl|kernel_rfl) ?_)
 refine a7 (cF (by first|rfl|kernel_rfl) ?_)
 refine a7 (cy hT GP ?_);refine a7 ?_;refine a7 (wpAny_isInstance hT GQ ?_);refine a7 (cy hT slot_tuple_getitem.lookup ?_);refine au ?_;refine a7 (len_tuple a d ?_);refine a7 (cF rfl ?_);refine a7 (show wpAny _ _ (newObj _ (.fields #[.ref l,rawInt _])) _ _ _ from ?_);exact bw (au (h _)) (by size_fits)
def qo:Slot "reversed" "__init__" "object.__init__":=
 .of (owner:="object") (n:="__init__") (by kernel_rfl) (by decide+kernel) (by decide+kernel) (by decide+kernel)
  (by first|exact .inl (by decide+kernel)|exact .inr (by decide+kernel)) (by kernel_rfl)
def qp:TypeCalled "reversed" "reversed.__new__" "object.__init__":=
 ⟨by decide+kernel,by decide+kernel,⟨_,_,xH⟩,kC,by decide+kernel,by kernel_rfl,qo⟩
def Vg (a:Value):checkTypeCall "reversed" ⟨[a],[]⟩=pure ():=by kernel_rfl
def Vh (a:Value):checkBuiltinCall "reversed.__new__" ⟨[.type "reversed",a],[]⟩=pure ():=by kernel_rfl
def call_rvT {Q:Value->Shared->Prop}(i:IsTup s.heap l xs)(j:(xs.size:Int)<2^63)
  (h:∀tk,Q (.ref s.1.1.size) {s with heap:=s.heap.push {cls:=.type "reversed",data:=.fields #[.ref l,rawInt ((xs.size:Int)-1)]},toks:=tk}):wpAny 001 A (call (.type "reversed") [.ref l]) Q E s:=by
 refine callType_new (S:=λ_ R s=>(∃xs,IsTup s.heap l xs/\(xs.size:Int)<2^63/\∀tk,R (.ok (.ret (.ref s.1.1.size))) {s with heap:=s.heap.push {cls:=.type "reversed",data:=.fields #[.ref l,rawInt ((xs.size)-1)]},toks:=tk})) qp 03 (Vg _) (Vh _) (λobj=>PySem.F.args_object_init_2 obj _) qm (.of_wp λprog w A R s h=>?_) ⟨xs,i,j,λtk=>?_⟩
 ·obtain⟨xs,f,d,a⟩:=h;exact Vf f d λtk=>⟨_,rfl,a tk⟩
 ·exact⟨⟨_,ao _ rfl,rfl⟩,h tk⟩
end
end PySem.RV
namespace PySem.RV
open PySem PySem.Spec PyProof.Rows
def Vi:typeLookup (.type "list_reverseiterator") "__len__"=pure none:=by rw[typeLookup_type,builtinLookup_eq_fast];kernel_rfl
def kD:typeLookup (.type "list_reverseiterator") "__length_hint__"=pure (some (.builtin "list_reverseiterator.__length_hint__")):=by rw[typeLookup_type];kernel_rfl
section
variable {prog:Program}{w:World}{A:Around}{E:Value->Shared->Prop}{s:Shared}{I:Addr}{fp wr:List Addr}{G:Array GenState->Array GenState->Prop}{n:Nat}{P:Nat->Value->Prop}{St:Nat->Shared->Prop}
def yL {Q:List Value->Shared->Prop}(W:WalksS prog w A.in1 I fp wr G n P St)(hT:∀i s,St i s->s.TypeIs (.ref I) "list_reverseiterator")(p:St 0 s)(l:∀b∈fp,b<s.1.1.size)(x:I∈fp)
  (N:∀f acc,Moved wr G s f->ItemsOf P acc n->Q acc.toList f) (hn:n<=sizeLine):wpAny 001 A (collect (.ref I)) Q E s:=by
 have v:=λz=>bI _ (l _ z);have J:s.1.1.size≠I:=λz=>v (z▸x);unfold collect;refine a7 (wpAny_runValue (bS F.entry_proto_collect ?_));refine a7 (bw (au ⟨cH F.plain_list_iadd _,bS F.entry_list_iadd ?_⟩));have a:=W.frame 0 s (s.heap.push {cls:=.type "list",data:=.seq ([]:List _).toArray}) _ p (ar _) λb _ o e=>ag _ e;have B:(s.heap.push {cls:=.type "list",data:=.seq ([]:List _).toArray}).get? _=some _:=ao _ rfl;have D:fv (.ref s.1.1.size) (.ref I)=false:=by simp[fv,J]
 refine(show wpAny _ _ (Builtin.List.listExtendWith _ _ _) _ _ _ from ?_);refine a7 (wpAny_typeOf (hT 0 _ a) ?_);rw[if_neg (by rw[D];decide)]
 refine a7 (W.self 0 _ _ _ a (a7 (bW ?_)));refine a7 (cy (hT 0 _ a) Vi ?_);refine a7 (cy (hT 0 _ a) kD ?_);generalize k:("list_reverseiterator.__length_hint__")=id0;subst k;refine a7 (wpAny_isInstance (b:=true) (hT 0 _ a) (by kernel_rfl) ?_)
 refine au ?_;refine au ⟨cH F.plain_extend_loop _,codeAny_extend_loopS W hn _ v _ n 0 _ _ _ rfl (bu _) a B (ItemsOf.nil P) λf u c' y j d=>?_⟩;exact a7 (wpAny_load j (au (N f _ (Moved.drop_new y (ar _)) d)))
def GU {Q₁:Value->Shared->Prop}(W:WalksS prog w A.in1.in1 I fp wr G n P St)(hT:∀i s,St i s->s.TypeIs (.ref I) "list_reverseiterator")(f:St 0 s)(j:∀b∈fp,b<s.1.1.size)(o:I∈fp)
  (h:∀d acc,Moved wr G s d->ItemsOf P acc n->Q₁ (.ref d.1.1.size) {d with heap:=d.heap.push {cls:=.type "tuple",data:=.seq acc} }) (hsz:n<=sizeLine):
  codeAny 001 A (.call (.builtin "tuple.__new__") ⟨[.type "tuple",.ref I],[]⟩) (wants Q₁ E) s:=by
 refine codeAny_of_tree ?_;refine(show wpAny _ A.in1 (do checkBuiltinCall "tuple.__new__" ⟨[.type "tuple",.ref I],[]⟩;again (.builtin "tuple.__new__" ⟨[.type "tuple",.ref I],[]⟩)) _ _ s from ?_)
 refine a7 (cF (F.newCall_tuple_1 _) (au ⟨cH iM _,bS F.entry_tuple_new ?_⟩));rw[di iM _];have l:=sub_tuple_self;have k:=init_tuple_lookup;have u:=madeHere_tuple;have x:=hT 0 s f
 wp_walk using wpAny_typeOf x,yL (hn:=hsz) W hT f j o
 intro d acc p a;have e:acc.toList.toArray=acc:=by simp
 refine(show wpAny _ _ (fA acc.toList.toArray>>=λv=>ret v) _ _ _ from ?_);unfold fA;refine a7 (bw (au ?_) (by rw[e];show acc.size<=sizeLine;rw[a.1];exact hsz))
 rw[e];exact h d acc p a
def tuple_lr {Q:Value->Shared->Prop}(W:WalksS prog w A.in1.in1.in1 I fp wr G n P St)(hT:∀i s,St i s->s.TypeIs (.ref I) "list_reverseiterator")(k:St 0 s)(j:∀b∈fp,b<s.1.1.size)(l:I∈fp)
  (p:∀d acc,Moved wr G s d->ItemsOf P acc n->Q (.ref d.1.1.size) {d with heap:=d.heap.push {cls:=.type "tuple",data:=.seq acc} }) (hsz:n<=sizeLine):
  wpAny 001 A (call (.type "tuple") [.ref I]) Q E s:=
 callType_codes (Q₁:=λobj a=>a.TypeIs obj _/\Q obj _) i8 (F.typeCall_tuple_1 _) F.entry_object_init
  (GU (hsz:=hsz) W hT k j l λd acc o f=>⟨⟨_,ao _ rfl,rfl⟩,p d acc o f⟩) λobj a h₁=>
   ⟨h₁.1,i9 obj _,object_init_meets i8.init.lookup i8.made 03 _ w _ _ _ ⟨h₁.1,rfl,h₁.2⟩⟩
end
end PySem.RV
namespace PV
open PySem PySem.Spec PyProof.Rows L2
def BL (K:aa)(a:Addr)(n:Nat):It:=
 ⟨λi H=>∃xs x,SqT K H a xs/\xs.length=n/\xs.reverse[i]?=some x,λi H x d=>d=H/\∀xs,SqT K H a xs->xs.reverse[i]?=some x,λi H=>∃xs,SqT K H a xs/\xs.length=n/\n<=i⟩
def BI (K:aa)(a:Addr)(n:Nat):It:=
 ⟨λi H=>∃xs x,SqL K H a xs/\xs.length=n/\xs.reverse[i]?=some x,λi H x d=>d=H/\∀xs,SqL K H a xs->xs.reverse[i]?=some x,λi H=>∃xs,SqL K H a xs/\xs.length=n/\n<=i⟩
def xI {a:Type}{xs:List a}{i:Nat}{x:a}(h:xs.reverse[i]?=some x):i<xs.length/\xs[xs.length-1-i]?=some x:=by
 have hi:=(ak.mp h).1;rw[c8]at hi;rw[hV hi]at h;exact⟨hi,h⟩
def Vj {P:Program}{w:World}{K:aa}{tg:Expr}(a it:Addr)(n:Nat):Y2 P w K tg (BL K a n) [it] it (λi h=>i<=n/\RV.IsRv h it (.ref a) ((n:Int)-1-(i:Int))) where
 mem:=by simp
 obj:=λi h st b f=>by
  have e:b=it:=by simpa using f
  subst e;exact⟨_,st.2,λv z=>nomatch z⟩
 keep:=λi h h' st k=>⟨st.1,k it (by simp) _ st.2⟩
 item:=by
  intro X hP N U hc i j s σ H E I y st D;subst hP N U;obtain⟨xs,x,J,hn,Z⟩:=D;obtain⟨G,rv,p,hz⟩:=I.tuple J;obtain⟨hi,hx'⟩:=xI Z;obtain⟨u,hu,ru⟩:=rv.get hx';obtain⟨Q,B,f2,f3,S,f5⟩:=y it (by simp)
  have hl:=rv.length;have e:(n:Int)-1-(i:Int)=((xs.length-1-i:Nat):Int):=by lia
  have d:=st.2;rw[e]at d;have f:(G.toArray.size:Int)<2^63:=by
   rw[cC]at hz;simp;lia
  refine RV.next_item d p f (x:=u) (by simpa using hu) λh' tk l sb=>?_
  have I1:Inv X j σ H {s with heap:=h',toks:=tk}:=I.turned (t':=tk) (λb o f e=>(sb.2 b f).trans e) Q B f3 S f5;have e2:((xs.length-1-i:Nat):Int)-1=(n:Int)-1-((i+1:Nat):Int):=by lia
  rw[e2]at l;exact⟨u,rfl,yq (s:={s with heap:=h',toks:=tk}) l rfl rfl 03 ⟨x,H,I1,ru,⟨rfl,λys hy=>by rw[I.tuple_inj hy J];exact Z⟩,⟨by lia,l⟩,λb f=>(y b f).1⟩⟩
 done:=by
  intro X hP N U hc i j s σ H E I y st D;subst hP N U;obtain⟨xs,J,hn,Z⟩:=D;obtain⟨Q,B,f2,f3,S,f5⟩:=y it (by simp)
  have d:=st.2;have h1:=st.1;rw[show (n:Int)-1-(i:Int)= -1 by lia]at d
  exact RV.next_end (I.ok.hd hc) d λh' eb=>⟨rfl,I.turned (t':=s.toks) (λb o f e=>eb b o f e) Q B f3 S f5⟩
 self:=λ_ _ _ _ _ st h=>RV.iter_rv st.2 h
def Vk {P:Program}{w:World}{K:aa}{tg:Expr}(a it:Addr)(n:Nat):Y2 P w K tg (BI K a n) [it] it (λi h=>i<=n/\h.IsRevIter it a ((n:Int)-1-(i:Int))) where
 mem:=by simp
 obj:=λi h st b y=>by
  have e:b=it:=by simpa using y
  subst e;obtain⟨o,e,c,d⟩:=st.2;exact⟨o,e,λv z=>by rw[d]at z;cases z⟩
 keep:=λi h h' st k=>⟨st.1,st.2.at λo e=>k it (by simp) o e⟩
 item:=by
  intro X hP N U hc i j s σ H E I B st G;subst hP N U;obtain⟨xs,x,J,hn,Z⟩:=G;obtain⟨its,rv,p,hz⟩:=I.list J;obtain⟨hi,hx'⟩:=xI Z;obtain⟨u,hu,ru⟩:=rv.get hx';obtain⟨Q,D,f2,f3,S,f5⟩:=B it (by simp)
  have e:(n:Int)-1-(i:Int)=((xs.length-1-i:Nat):Int):=by lia
  have f:=st.2;rw[e]at f;refine wpAny_pyNext_rev_item f p.isList (x:=u) (by simpa using hu) λh' l sb=>?_
  have I1:Inv X j σ H {s with heap:=h'}:=I.turned (t':=s.toks) (λb o y e=>(sb.2 b y).trans e) Q D f3 S f5;have e2:((xs.length-1-i:Nat):Int)-1=(n:Int)-1-((i+1:Nat):Int):=by lia
  rw[e2]at l;obtain⟨o,e,c,d⟩:=id l;exact⟨u,rfl,yq (s:={s with heap:=h'}) e c d 03 ⟨x,H,I1,ru,⟨rfl,λys hy=>by rw[I.list_inj hy J];exact Z⟩,⟨by lia,l⟩,λb y=>(B b y).1⟩⟩
 done:=by
  intro X hP N U hc i j s σ H E I B st G;subst hP N U;obtain⟨xs,J,hn,Z⟩:=G;obtain⟨Q,D,f2,f3,S,f5⟩:=B it (by simp)
  have f:=st.2;have h1:=st.1;rw[show (n:Int)-1-(i:Int)= -1 by lia]at f
  exact wpAny_pyNext_rev_end (I.ok.hd hc) f λh' eb=>⟨rfl,I.turned (t':=s.toks) (λb o y e=>eb b o y e) Q D f3 S f5⟩
 self:=λ_ _ _ _ _ st h=>wpAny_pyIter_revIter st.2 h
theorem zK.rev {H:Hp}:∀{vs:List V} {ts:List T},zK H vs ts->zK H vs.reverse ts.reverse
 |_,_,.nil=>.nil
 |_,_,.cons r t=>by rw[bZ,bZ];exact(zK.rev t).append (.cons r .nil)
def GV {K:aa}{f p:Hp}{a:Addr}{xs:List V}{ts:List T}(h:f a=some (.tup xs))(r:zK f xs ts):rI f p (BL K a xs.length) ts.reverse:=λo B k j=>by
 have d:=j _ _ (k _ _ h);have hr:=r.rev;refine⟨λi hi=>?_,λi t x H3 e y=>?_,λi hi=>⟨xs,SqT.of d,rfl,by rw[c8]at hi;rw[r.length];exact hi⟩⟩
 ·obtain⟨v,e,_⟩:=hr.get (am hi);exact⟨xs,v,SqT.of d,rfl,e⟩
 ·obtain⟨rfl,y⟩:=y;obtain⟨v,u,l⟩:=hr.get e;have:=y xs (SqT.of d);rw[u]at this;cases this;refine⟨zr.refl _,?_⟩;rw[zN.self o _ j];exact l.mono k
def GW {K:aa}{f p:Hp}{a:Addr}{xs:List V}{ts:List T}(h:f a=some (.lst xs))(r:zK f xs ts):rI f p (BI K a xs.length) ts.reverse:=λo B k j=>by
 have d:=j _ _ (k _ _ h);have hr:=r.rev;refine⟨λi hi=>?_,λi t x H3 e y=>?_,λi hi=>⟨xs,SqL.of d,rfl,by rw[c8]at hi;rw[r.length];exact hi⟩⟩
 ·obtain⟨v,e,_⟩:=hr.get (am hi);exact⟨xs,v,SqL.of d,rfl,e⟩
 ·obtain⟨rfl,y⟩:=y;obtain⟨v,u,l⟩:=hr.get e;have:=y xs (SqL.of d);rw[u]at this;cases this;refine⟨zr.refl _,?_⟩;rw[zN.self o _ j];exact l.mono k
def AS (fa:En->R T):En->R (List T):=λρ=>(fa ρ).bind λt=>(Jp t).bind λxs=>.ok xs.reverse
def Vl:T->R T
 |.lst xs=>if xs.length<=lM then .ok (.tup xs.reverse)else .bad
 |_=>.bad
section
variable {X:Cx}{Y:Fx}{a b tg:Expr}{fa fb:En->R T}{pos p p' pos':Pos}
def GX {G:TA}(N:Gl X "reversed")(Q:X.mg "reversed"=none)(S:PA X [a] G)(P:lZ X a:=by exact lS rfl):
  PI X tg (.Call (.Name "reversed" p) [a] [] pos) (λk H R=>G k H λvs d=>∃l xs,vs=[.ref l]/\((d l=some (.lst xs)/\R (BI X.K l xs.length) d)\/(d l=some (.tup xs)/\R (BL X.K l xs.length) d))):=by
 intro y s k H R I h;refine Call_ (ja I N Q boot_reversed (bc (lF (S pos _ s k H _ I h) λus j zz=>?_) P rfl));obtain⟨vs,d,i,J,U⟩:=zz;obtain⟨l,xs,e,q⟩:=U;subst e;obtain⟨u,rfl,Z⟩:=ZP J;obtain rfl:u=Value.ref l:=Z;have ok:∀b∈[j.1.1.size],wU X _ d b:=λb hb=>by
  have e:=by simpa using hb
  subst e;exact i.fpOk (ar _) (i.hok.fresh (ar _))
 rcases q with ⟨x,q⟩|⟨x,q⟩
 ·obtain⟨f,v,p,D⟩:=i.list (SqL.of x);have e:((f.toArray.size):Int)-1=(xs.length)-1-((0):Int):=by have:=v.length;simp;lia
  refine call_reversed_list p.isList ?_;rw[e];have st:(j.heap.push (revObj l ((xs.length)-1-((0):Int)))).IsRevIter _ l _:=⟨_,ao _ rfl,rfl,rfl⟩;refine wpAny_pyIter_revIter st ?_;exact⟨j.1.1.size,[j.1.1.size],_,_,d,rfl,i.kept (λb o e=>ag _ e),Vk l _ _,⟨bu _,st⟩,ok,q⟩
 ·obtain⟨f,v,p,D⟩:=i.tuple (SqT.of x);have B:=v.length;have e:((f.toArray.size):Int)-1=(xs.length)-1-((0):Int):=by simp;lia
  refine RV.call_rvT p (by rw[cC]at D;lia) λtk=>?_
  rw[e];refine RV.iter_rv (ao _ rfl) ?_;exact⟨j.1.1.size,[j.1.1.size],_,_,d,rfl,i.kept (λb o e=>ag _ e),Vj l _ _,⟨bu _,ao _ rfl⟩,ok,q⟩
def Ii (o:Gl X "reversed")(u:X.mg "reversed"=none)(x:Snd X Y a fa)(i:lZ X a:=by exact lS rfl):U3 X Y tg (.Call (.Name "reversed" p) [a] [] pos) (AS fa):=.mk λρ=>
 PI.imp (GX o u (zB (x ρ) zT i) i) λy H R=>tS.on λB I q=>step I q λt v j _ D k d f=>by
  cases k with
  |@tup l xs ts h r=>exact⟨l,xs,rfl,.inr ⟨d.sB _ _ h,ZC d (show Po Y rI _ j _ R from f) (GV h r)⟩⟩
  |@lst l xs ts h r=>exact⟨l,xs,rfl,.inl ⟨d.sB _ _ h,ZC d (show Po Y rI _ j _ R from f) (GW h r)⟩⟩
  |_=>exact f.elim
theorem UH:∀{xs f:List V} {d i:List Value},zZ xs d->zZ f i->zZ (xs++f) (d++i)
 |_,_,_,_,.nil,q=>q
 |_,_,_,_,.cons r t,q=>.cons r (UH t q)
theorem UI:∀{xs:List V} {d:List Value},zZ xs d->zZ xs.reverse d.reverse
 |_,_,.nil=>.nil
 |_,_,.cons r t=>by rw[bZ,bZ];exact UH (UI t) (.cons r .nil)
def kF {d:List Value}{acc:Array Value}(h:ItemsOf (λi v=>d.toArray[d.toArray.size-1-i]?=some v) acc d.toArray.size):acc.toList=d.reverse:=by
 have k:=by
  have:=h.1;simpa using this
 have j:=h.2;refine dg λi=>?_
 by_cases hi:i<d.length
 ·have f:i<acc.toList.length:=by simp;lia
  have e:=am f;have:=j i _ (by rw[←Array.getElem?_toList];exact e)
  rw[hV hi,e,←this];simp
 ·rw[aU (by simp;lia),aU (by simp;lia)]
def GY (hh:X.A.handled=none)(gl:Gl X "tuple")(mg:X.mg "tuple"=none)(gl':Gl X "reversed")(mg':X.mg "reversed"=none)(ha:Snd X Y a fa)(hs:lZ X a:=by exact lS rfl)(P:lZ X (.Call (.Name "reversed" p') [a] [] pos'):=by exact lS rfl):
  Snd X Y (.Call (.Name "tuple" p) [.Call (.Name "reversed" p') [a] [] pos'] [] pos) (lG Vl fa):=.mk λρ=>by
 rintro G s σ H Q I ⟨B,J,q⟩
 have hq:tS Y rC fa ρ σ H (λv d=>∃l xs,v=.ref l/\d l=some (.lst xs)/\xs.length<=sizeLine/\∀t,d t=none->Q (.ref t) (lf d t (.tup xs.reverse))):=by
  refine step J q λt v d _ x S y j=>?_;cases S with
  |@lst l xs ts h r=>
   have j:Po Y rC _ d (if ts.length<=lM then .ok (.tup ts.reverse)else .bad) Q:=j
   split at j
   ·rename_i U;exact⟨l,xs,rfl,y.sB _ _ h,by rw[r.length];exact Zy U,λt ht=>gY y.sB j rfl r.rev ht⟩
   ·exact j.elim
  |_=>exact j.elim
 refine bG (ja I gl mg PyProof.Rows.Boot.«tuple» (bc (rest:=[]) ?_ P rfl));rw[P];refine eN (bG (ja I gl' mg' boot_reversed (bc (e:=a) (rest:=[]) ?_ hs rfl)));refine lF ((zB (ha ρ) zT hs) pos' G s σ H (λvs d=>∃l xs,vs=[.ref l]/\d l=some (.lst xs)/\xs.length<=sizeLine/\∀t,d t=none->Q (.ref t) (lf d t (.tup xs.reverse))) I ?_) λus x ⟨vs,d,y,S,l,xs,e,hl,hz,j⟩=>?_
 ·obtain⟨B',J',k⟩:=hq;refine⟨B',J',?_⟩;revert k;cases fa ρ with
  |bad=>exact λk=>k
  |ex c=>exact λk=>k
  |ok t=>
   intro k v d x S;obtain⟨l,xs,rfl,h⟩:=k v d x S;exact⟨l,xs,rfl,h⟩
 subst e;obtain⟨u,rfl,ru⟩:=ZP S;obtain rfl:u=Value.ref l:=ru;obtain⟨f,rv,pl,_⟩:=y.list (SqL.of hl);have N:=y.hok.lt hl;refine call_reversed_list pl.isList (iI ?_);have e0:((f.toArray.size):Int)-1-((0:Nat))=((f.toArray.size):Int)-1:=by lia
 refine RV.tuple_lr (Walks.listRev (A:=X.A.in1.in1.in1) hh _ l (aM N) _).toS (λi s st=>st.2.1.typeIs) ⟨bu _,⟨_,ao _ rfl,rfl,by rw[e0];rfl⟩,pl.isList.push _⟩ (λb U=>?_) (by simp) (λs' acc Z D=>?_) (by rw[aD,←rv.length];exact hz)
 ·have U:=by simpa using U
  rcases U with rfl|rfl
  ·rw[bX];exact dm _
  ·rw[bX];exact df N
 obtain⟨h',g',d',tk',os'⟩:=s';have e1:g'=x.gens:=Z.gens;have e2:d'=x.drawn:=Z.drawn;have e3:=Z.os;subst e1 e2 e3;have kp:∀b o,x.heap.get? b=some o->h'.get? b=some o:=λb o e=>Z.heap b o (λz=>by
  have z:b=x.1.1.size:=by simpa using z
  have:=az e;rw[z]at this;exact bI _ this) (ag _ e)
 have I2:=y.kept (t':=tk') kp;have ea:acc=f.reverse.toArray:=by rw[←kF D]
 rw[ea];refine⟨.ref h'.objs.size,lf d _ (.tup xs.reverse),I2.laid (λb u e=>ag _ e) (ar _) ⟨by rw[c8];exact hz,f.reverse,UI rv,⟨_,ao _ rfl,rfl,_,rfl⟩,.inr ⟨_,ao _ rfl,rfl⟩⟩,rfl,j _ (I2.hok.fresh (ar _))⟩
end
noncomputable def wZ:List T->Option Bool
 |[]=>some false
 |.bl k::r=>match wZ r with|some j=>some (k||j)|none=>none
 |_::_=>none
def Cy:T->R T
 |.lst ts=>match wZ ts with|some k=>.ok (.bl k)|none=>.bad
 |_=>.bad
def kG {H:Hp}{xs:List V}{ts:List T}{a:List Value}{k:Bool}(hr:zK H xs ts)(d:zZ xs a)(h:wZ ts=some k):∃tr:Nat->Bool,(∀i v,a[i]?=some v->v=Value.bool (tr i))/\(aZ a.length).any tr=k:=by
 induction d generalizing ts k with
 |nil=>
  cases hr;cases h;exact⟨λ_=>true,λi v e=>by simp at e,rfl⟩
 |@cons _ u _ _ l vs o=>
  cases hr with
  |cons r p=>
  cases r with
  |bl b=>
   unfold wZ at h;split at h
   ·rename_i j e;cases h;obtain⟨tr,x,f⟩:=o p e;obtain rfl:u=Value.bool b:=l;refine⟨λi=>Nat.casesOn i b tr,λi v e=>?_,?_⟩
    ·cases i with
     |zero=>simp at e;exact e.symm
     |succ i=>exact x i v (by simpa using e)
    ·rw[ax,cR,List.any_cons,List.any_map,←f];rfl
   ·cases h
  |_=>cases h
section
variable {X:Cx}{Y:Fx}{a b:Expr}{fa fb:En->R T}{pos p p' pos' pt:Pos}{elts:List Expr}{kk:Nat}
def qq (S:X.A.handled=none):Zt X (.builtin "any") (λvs H Q=>∃l xs ts k,vs=[.ref l]/\H l=some (.lst xs)/\zK H xs ts/\wZ ts=some k/\Q (.bl k) H):=by
 intro y s U H vs us Q I j h;obtain⟨l,xs,ts,k,rfl,B,r,D,q⟩:=h;obtain⟨u,rfl,N⟩:=ZP j;obtain rfl:u=Value.ref l:=N;obtain⟨d,j,p,_⟩:=Z0 I (.inl B) r;obtain⟨tr,P,G⟩:=kG r j D;refine call_any_walk (cj p ?_);have f:=I.hok.lt B;have old:∀b o,s.heap.get? b=some o->(s.heap.push {cls:=.type "list_iterator",data:=.fields #[.ref l,.int 0 0]}).get? b=some o:=λb o e=>ag _ e;refine⟨s.1.1.size,_,_,_,_,_,tr,rfl,eS (A:=X.A.in1) S _ l (aM f) d.toArray,?_,?_,λh' tk x=>?_⟩
 ·refine⟨?_,p.at λo e=>old _ o e⟩;exact⟨_,ao _ rfl,rfl,rfl⟩
 ·intro i v Z Q' E' hi J;rw[P i v (by simpa using hi)]
  exact bi J
 ·rw[aD,G];refine⟨.bl k,H,I.kept (λb o e=>x b o ?_ (old b o e)),rfl,q⟩;simp;exact aM (az e)
def EX (j:X.A.handled=none)(o:Gl X "any")(f:X.mg "any"=none)(i:jH X Y a fa)(d:lZ X a:=by exact lS rfl):Snd X Y (.Call (.Name "any" p) [a] [] pos) (lG Cy fa):=
 uj (qq j) (λv t B H Q r u q=>by
  cases r with
  |@lst l xs ts h r=>
   have q:Po Y rC B H (match wZ ts with|some k=>.ok _|none=>.bad) Q:=q
   split at q
   ·rename_i k e;exact⟨l,xs,ts,k,rfl,h,r,e,lW u q rfl (.bl k)⟩
   ·exact q.elim
  |_=>exact q.elim) o f PyProof.Rows.Boot.«any» i d
end
end PV
namespace PySem.RV
open PySem PySem.Spec PyProof.Rows PySem.Builtin.SmallTypes
def draws_tup {prog:Program}{w:World}{A:Around}(j:A.handled=none)(it l:Addr)(d:l≠it)(items:Array Value):Draws prog w A it [it,l] items.size (λi v=>items[i]?=some v) (λi h=>h.IsTupleIter it l i/\h.IsTuple l items) where
 live:=λi h st=>(ZG.nx_tup d items).there st it (.head _)
 frame:=λi h h' st f=>(ZG.nx_tup d items).keep st f
 item:=λi s Q E hi st k=>ZG.tup_item st.1 st.2 (x:=items[i]) (by simp[hi]) λh' a b=>k _ h' s.toks (by simp[hi]) ⟨a,st.2.extBut b.extBut d⟩ b
 done:=λs Q E st hE=>ZG.tup_stop j st.1 st.2 (by simp) hE
noncomputable abbrev CO (i:Addr):Obj:={cls:=.type "enumerate",data:=.fields #[.none,.bool false,.ref i,rawInt 0,.none,.none]}
def qr (l:Addr)(items:Array Value)(n:Nat)(f:Option Addr)(k:Array (Option Value)):
  Meets (Builtin.«enumerate.__new__» ⟨[.type "enumerate",.ref l],[]⟩) (λ_ R s=>s.heap.get? l=some {cls:=.type "tuple",dict:=f,data:=.seq items n,slots:=k}/\
   R (.ok (.ret (.ref (s.heap.push (ZG.oT l)).objs.size))) {s with heap:=(s.heap.push (ZG.oT l)).push (CO s.1.1.size)}):=
 .of_wp λprog w A R s h=>by
  obtain⟨hp,g,d,tk,os⟩:=s;obtain⟨a,h⟩:=h;have j:=sub_enumerate;have i:Heap.IsTuple (l6 ⟨hp,g,d,tk,os⟩) l items:=⟨_,a,rfl,n,rfl⟩
  wp_walk using cK a
  refine wpAny_stack_any λst=>au ?_;split
  ·rename_i c _ _ _ _ _;cases (c==Value.type "enumerate")<;>(wp_walk using cK a,wpAny_pyIter_tuple i;exact⟨_,rfl,h⟩)
  ·wp_walk using cK a,wpAny_pyIter_tuple i
   exact⟨_,rfl,h⟩
def enum_callT {prog:Program}{w:World}{A:Around}{E:Value->Shared->Prop}{s:Shared}{l:Addr}{items:Array Value}{Q:Value->Shared->Prop}(k:s.heap.IsTuple l items)
  (h:∀h',IsEnum h' (s.1.1.size+1) s.1.1.size 0 .none->h'.IsTupleIter s.1.1.size l 0->(∀b o,s.heap.get? b=some o->h'.get? b=some o)->Q (.ref (s.1.1.size+1)) {s with heap:=h'}):
  wpAny 001 A (call (.type "enumerate") [.ref l]) Q E s:=by
 obtain⟨⟨c,d,u,p⟩,i,j,n,hd⟩:=k;obtain rfl:c=.type _:=j;obtain rfl:u=.seq _ n:=hd;refine callType_new F.called_enumerate 03 (F.typeCall_enumerate_1 _) (F.newCall_enumerate_1 _) (λobj=>i9 obj _) F.entry_enumerate_new (qr l _ n d p) ⟨i,?_⟩
 have f:(s.heap.push (ZG.oT l)).objs.size=s.1.1.size+1:=bX ..;have a:((s.heap.push (ZG.oT l)).push (CO s.1.1.size)).get? _=some _:=ao _ rfl;rw[f]at a;rw[f];exact⟨⟨_,a,rfl⟩,h _ a ⟨_,ag _ (ao _ rfl),rfl,rfl⟩ λb o x=>ag _ (ag _ x)⟩
end PySem.RV
namespace PV
open PySem PySem.Spec PyProof.Rows L2
def AQ (K:aa)(l:Addr)(n:Nat):It:=
 ⟨λi H=>∃xs x,SqT K H l xs/\xs.length=n/\xs[i]?=some x,λi H v a=>∃p x,H p=none/\v=.ref p/\(∀xs,SqT K H l xs->xs[i]?=some x)/\a=lf H p (.tup [.int i,x]),λi H=>∃xs,SqT K H l xs/\xs.length=n/\n<=i⟩
def yM {P:Program}{w:World}{K:aa}{J:List Expr}{kk:Nat}{pt:Pos}(e it l:Addr)(n:Nat)(U:e≠it)(hle:l≠e)(hli:l≠it):
  Y2 P w K (.Tuple J kk pt) (AQ K l n) [e,it] e (λi h=>i<=n/\(∃old,IsEnum h e it i old)/\h.IsTupleIter it l i) where
 mem:=by simp
 obj:=λi h st b a=>by
  obtain⟨_,⟨old,B⟩,o,e1,c,d⟩:=st;rcases ay.mp a with rfl|a
  ·exact⟨_,B,λv z=>nomatch z⟩
  ·have z:b=it:=by simpa using a
   subst z;exact⟨o,e1,λv z=>by rw[d]at z;cases z⟩
 keep:=λi h h' st k=>by
  obtain⟨hn,⟨old,B⟩,o,e1,r⟩:=st;exact⟨hn,⟨old,k e (by simp) _ B⟩,o,k it (by simp) o e1,r⟩
 item:=by
  intro X hP hw hK hc i Q s σ H E I hf st hg;subst hP hw hK;obtain⟨xs,x,hq,hxn,hx⟩:=hg;obtain⟨f,rv,p,hz⟩:=I.tuple hq;obtain⟨u,hu,ru⟩:=rv.get hx;obtain⟨hin,⟨old,B⟩,N⟩:=st;have hi:i<f.toArray.size:=by
   have:=(ak.mp hu).1;simpa using this
  have D:=RV.draws_tup (prog:=X.prog) (w:=X.w) (A:=X.A.in1) (I.ok.hd hc) it l hli f.toArray;have hef:e∉[it,l]:=λz=>by
   rcases ay.mp z with z|z
   ·exact U z
   ·exact hle (aQ.mp z).symm
  have WE:=WalksT.enumerateD D e U hef (.head _);refine WE.item i s _ _ hi ⟨⟨old,B⟩,N,p⟩ λT vals h' tk hP hT S hM hk=>?_;obtain⟨t,y,hy,rfl⟩:=hP;have hyu:y=u:=by
   have:f[i]?=some y:=by simpa using hy
   rw[hu]at this;exact(aA this).symm
  subst hyu;refine⟨.ref T,rfl,?_⟩;refine WE.go J kk pt i T _ _ _ hM λh2 j Z=>?_;have hTn:H T=none:=I.hok.fresh hT;have G:∀b∈[e,it],b≠T:=λb a z=>by
   obtain⟨_,_,h3,h4⟩:=hM;rcases ay.mp a with rfl|a
   ·exact h3 z.symm
   ·have:b=it:=by simpa using a
    subst this;exact h4 z.symm
  have VB:IsTup h2 T #[.int i t,y]:=by
   obtain⟨o,eo,r⟩:=S;exact⟨o,Z T o (λa=>G T a rfl) eo,r⟩
  refine⟨.ref T,lf H T (.tup [.int i,x]),Inv.laidT (s:=s) (h':=h2) (ch:=[e,it]) (tk:=tk) I hf (λb o a e=>Z b o a (hk b o a e)) (λb o a _=>?_) hT ⟨by rw[cC];show 2<=16777216;decide,[.int i t,y],.cons ⟨t,rfl⟩ (.cons ru .nil),VB,.inl ⟨_,_,rfl⟩⟩,rfl,⟨T,x,hTn,rfl,λys hy=>by rw[I.tuple_inj hy hq];exact hx,rfl⟩,⟨by have:=(ak.mp hx).1;lia,j.1,j.2.1⟩,λb a=>?_⟩
  ·obtain⟨⟨old2,he2⟩,⟨o2,eo2,_⟩,_⟩:=j;rcases ay.mp a with rfl|a
   ·exact⟨_,he2⟩
   ·have:b=it:=by simpa using a
    subst this;exact⟨o2,eo2⟩
  ·rw[zu (G b a)];exact(hf b a).1
 done:=by
  intro X hP hw hK hc i Q s σ H E I hf st hg;subst hP hw hK;obtain⟨xs,hq,hxn,hx⟩:=hg;obtain⟨f,rv,p,hz⟩:=I.tuple hq;obtain⟨hin,⟨old,B⟩,N⟩:=st;have hl:=rv.length;have D:=RV.draws_tup (prog:=X.prog) (w:=X.w) (A:=X.A.in1) (I.ok.hd hc) it l hli f.toArray;have hn:f.toArray.size=i:=by simp;lia
  refine wpAny_pyNext_enum_endD D B (by rw[hn];exact⟨N,p⟩) λh' hk=>⟨rfl,?_⟩
  obtain⟨f0,f1,f2,f3,f4,f5⟩:=hf it (by simp)
  exact I.turned (t':=s.toks) (λb o a e=>hk b o a e) f0 f1 f3 f4 f5
 self:=λ_ _ _ _ _ st h=>let ⟨_,⟨_,B⟩,_⟩:=st;wpAny_pyIter_enum B h
def Vm {K:aa}{f o:Hp}{a:Addr}{xs:List V}{ts:List T}(h:f a=some (.tup xs))(r:zK f xs ts):rI f o (AQ K a xs.length) (jK ts):=λG I k j=>by
 have d:=j _ _ (k _ _ h);rw[JE];refine⟨λi hi=>?_,λi t x H3 e y=>?_,λi hi=>⟨xs,SqT.of d,rfl,by rw[r.length];exact hi⟩⟩
 ·obtain⟨v,e,_⟩:=r.get (am hi);exact⟨xs,v,SqT.of d,rfl,e⟩
 ·obtain⟨p,v,hp,rfl,y,rfl⟩:=y;obtain⟨t',u,rfl⟩:=um e;obtain⟨D,B,l⟩:=r.get u;have:=y xs (SqT.of d);rw[B]at this;cases this;refine⟨zr.new hp _,.tup (jS hp _) (.cons (.int _) (.cons ?_ .nil))⟩;exact(l.mono k).mono (zN.ge j (zr.new hp _))
def wC (fa:En->R T):En->R (List T):=λρ=>(fa ρ).bind λt=>match t with
 |.tup xs=>.ok (jK xs)
 |_=>.bad
section
variable {X:Cx}{Y:Fx}{a:Expr}{fa:En->R T}{pos p pt:Pos}{elts:List Expr}{kk:Nat}
def Vn {G:TA}(Q:Gl X "enumerate")(U:X.mg "enumerate"=none)(Z:PA X [a] G)(S:lZ X a:=by exact lS rfl):
  PI X (.Tuple elts kk pt) (.Call (.Name "enumerate" p) [a] [] pos) (λv H R=>G v H λvs j=>∃l xs,vs=[.ref l]/\j l=some (.tup xs)/\R (AQ X.K l xs.length) j):=by
 intro y s v H R I h;refine Call_ (ja I Q U PyProof.Rows.Boot.«enumerate» (bc (lF (Z pos _ s v H _ I h) λus i zz=>?_) S rfl));obtain⟨vs,j,d,J,q1⟩:=zz;obtain⟨l,xs,e,D,q⟩:=q1;subst e;obtain⟨u,rfl,ru⟩:=ZP J;obtain rfl:u=Value.ref l:=ru;obtain⟨P,rv,pl,hz⟩:=d.tuple (SqT.of D);have k:=d.hok.lt D;refine RV.enum_callT (show i.heap.IsTuple l _ from pl) λh' B o N=>wpAny_pyIter_enum B ?_;have f:∀b∈[i.1.1.size+1,i.1.1.size],wU X _ j b:=λb x=>by
  rcases ay.mp x with rfl|x
  ·exact d.fpOk (e_ _) (d.hok.fresh (e_ _))
  ·have z:=by simpa using x
   subst z;exact d.fpOk (ar _) (d.hok.fresh (ar _))
 exact⟨i.1.1.size+1,[i.1.1.size+1,i.1.1.size],_,_,j,rfl,d.kept N,yM _ _ l _ (iZ _) (aM (df k)) (aM k),⟨bu _,⟨_,B⟩,o⟩,f,q⟩
def kH (k:Gl X "enumerate")(u:X.mg "enumerate"=none)(x:Snd X Y a fa)(d:lZ X a:=by exact lS rfl):U3 X Y (.Tuple elts kk pt) (.Call (.Name "enumerate" p) [a] [] pos) (wC fa):=.mk λρ=>
 PI.imp (Vn k u (zB (x ρ) zT d) d) λy H R=>tS.on λB I q=>step I q λt v o _ D j f i=>by
  cases j with
  |@tup l xs ts h r=>exact⟨l,xs,rfl,f.sB _ _ h,ZC f (show Po Y rI _ o _ R from i) (Vm h r)⟩
  |_=>exact i.elim
end
end PV
namespace PySem.RW37
open PySem PySem.Spec PyProof.Rows L2
end PySem.RW37
namespace PV
open PySem PySem.Spec PyProof.Rows L2 PySem.RW37
section
variable {X:Cx}{Y:Fx}{pos:Pos}{a b c:Expr}
def rY (fa:En->R T)(g:T->En->R En):En->RS:=λρ=>(fa ρ).s λt=>match g t ρ with
 |.ok ρ'=>.nx ρ'
 |_=>.bad
def GZ {d:Expr}{fa:En->R T}{g:T->En->R En}(x:Snd X Y a fa)(j:Go X Y d g)(k:swapsWithSole [d] a pos.line X.env=pure false:=by rfl)(o:swappedStores [d] a X.env=pure none:=by rfl)
  (l:(assignEach [d] X.env).map (·.2)=[assign d X.env]:=by rfl):Jf X Y (.Assign [d] a pos) (rY fa g):=.mk λρ=>by
 obtain⟨tt,hp,hr⟩:=j;refine PS.imp (gs (x ρ) hp k o l) λD G H=>tSS.on λB I q=>jZ I q λt v y _ J i u f=>hr _ _ _ _ _ _ _ u i ?_;cases h:g t ρ with
 |ok ρ'=>
  rw[h]at f;exact λσ' p=>f _ _ _ (zr.refl _) p
 |ex c=>rw[h]at f;exact f.elim
 |bad=>rw[h]at f;exact f.elim
end
end PV
namespace PV
open PySem PySem.Spec PyProof.Rows L2
noncomputable def Db (t t':T):R T:=match t,t' with
 |.int i,.int j=>.ok (.int (if j>i then j else i))
 |_,_=>.bad
noncomputable def Bu:T->R T
 |.int i=>.ok (.int (if i<0 then-i else i))
 |_=>.bad
section
variable {X:Cx}{Y:Fx}{a b:Expr}{fa fb:En->R T}{pos p p' pos' pt:Pos}{elts:List Expr}{kk:Nat}
def Ic (u:X.calm=true)(x:Gl X "max")(D:X.mg "max"=none)(J:Snd X Y a fa)(y:Snd X Y b fb)
  (k:starEach [a,b] X.env=[(false,eval a X.env),(false,eval b X.env)]:=by exact mJ rfl rfl) (d:starEach [b] X.env=[(false,eval b X.env)]:=by exact lS rfl):
  Snd X Y (.Call (.Name "max" p) [a,b] [] pos) (zd Db fa fb):=.mk λρ=>
 PE.imp (ZY (Ym u) x D PyProof.Rows.Boot.«max» (zB (J ρ) (zB (y ρ) zT d) (by rw[k,d])) 03 03 (by rw[k,d]) (by rw[d];rfl)) λZ H Q=>tS.on λB I q=>
  step I q λt v U _ s1 o G P=>step G P λt' S H2 _ s2 l N f=>by
   cases o with
   |int i=>
    cases l with
    |int j=>exact⟨i,j,rfl,lW N.sB f rfl (.int _)⟩
    |_=>exact f.elim
   |_=>cases l<;>exact f.elim
def FO (d:Gl X "abs")(j:X.mg "abs"=none)(k:jH X Y a fa)(f:lZ X a:=by exact lS rfl):Snd X Y (.Call (.Name "abs" p) [a] [] pos) (lG Bu fa):=
 uj vD (λv t B H Q r l q=>by
  cases r with
  |int i=>exact⟨i,rfl,lW l q rfl (.int _)⟩
  |_=>exact q.elim) d j PyProof.Rows.Boot.«abs» k f
end
end PV
namespace PySem.RV
open PySem PySem.Spec PyProof.Rows PySem.Builtin.SmallTypes
end PySem.RV
namespace PV
open PySem PySem.Spec PyProof.Rows L2
end PV
namespace PV
open PySem PySem.W PyProof.Rows
section
variable {α β:Type}
noncomputable def Gd (lt:Nat->Nat->Bool)(n:Nat):KasT α->(α->Prop)->Prop
 |.ret a,P=>P a
 |.ask i j k,P=>(i<n/\j<n/\i≠j)/\Gd lt n (k (lt i j)) P
theorem Gd.mono {lt:Nat->Nat->Bool}{n:Nat}{P d:α->Prop}(h:∀a,P a->d a):∀(t:KasT α),Gd lt n t P->Gd lt n t d
 |.ret a,g=>h a g
 |.ask i j k,⟨f,g⟩=>⟨f,Gd.mono h _ g⟩
theorem Gd.bind {lt:Nat->Nat->Bool}{n:Nat}{P:β->Prop}{f:α->KasT β}:∀(t:KasT α),Gd lt n t (λa=>Gd lt n (f a) P)->Gd lt n (t.bind f) P
 |.ret a,g=>g
 |.ask i j k,⟨d,g⟩=>⟨d,Gd.bind _ g⟩
end
section
variable {O:KeyOrd}{n:Nat}{key:Nat->O.α}
noncomputable abbrev kp (key:Nat->O.α)(p:Array Nat)(i:Nat):O.α:=key (p.getD i 0)
structure Pm (n:Nat) (p:Array Nat):Prop where
 sz:p.size=n
 pm:p.toList.Perm (aZ n)
def Pm.lt {p:Array Nat}(h:Pm n p){i:Nat}(hi:i<n):p.getD i 0<n:=by
 have a:i<p.size:=by rw[h.sz];exact hi
 have e:p.getD i 0=p[i]:=by simp[lD,a]
 rw[e];exact bn.mp (h.pm.mem_iff.mp (Array.getElem_mem_toList a))
def Pm.inj {p:Array Nat}(h:Pm n p){i j:Nat}(hi:i<n)(f:j<n)(e:p.getD i 0=p.getD j 0):i=j:=by
 have d:i<p.size:=by rw[h.sz];exact hi
 have a:j<p.size:=by rw[h.sz];exact f
 have l:p.getD i 0=p[i]:=by simp[lD,d]
 have k:p.getD j 0=p[j]:=by simp[lD,a]
 rw[l,k]at e;have nd:=h.pm.nodup_iff.mpr List.nodup_range;have:=(iR (h₀:=by simpa using d) (h₁:=by simpa using a) nd).mp (by simpa using e)
 exact this
def So (key:Nat->O.α)(p:Array Nat)(m:Nat):Prop:=∀i j,i<j->j<m->O.klt (kp key p i) (kp key p j)
def kI {p q:Array Nat}{i j:Nat}(h:p[i]?=q[j]?):p.getD i 0=q.getD j 0:=by
 have e:∀(a:Array Nat) (k:Nat),a.getD k 0=(a[k]?).getD 0:=λa k=>by simp
 rw[e,e,h]
variable (hk:∀i j,i<n->j<n->key i=key j->i=j)
include hk
theorem Dp {p:Array Nat}(h:Pm n p){i j:Nat}(hi:i<n)(d:j<n)(a:i≠j)(f:O.blt (kp key p i) (kp key p j)=false):O.klt (kp key p j) (kp key p i):=by
 cases q:O.blt _ _ with
 |true=>exact q
 |false=>exact absurd (h.inj hi d (hk _ _ (h.lt hi) (h.lt d) (O.total _ _ f q))) a
omit hk in
theorem So.snoc {p:Array Nat}{m:Nat}(h:So key p m)(o:1<=m)(k:O.klt (kp key p (m-1)) (kp key p m)):So key p (m+1):=λi j d l=>by
 by_cases f:j=m
 ·subst f
  by_cases a:i=j-1
  ·rw[a];exact k
  ·exact fB (h i _ 00 00) (iN k)
 ·exact h i j d 00
theorem qt {p:Array Nat}(hp:Pm n p):∀(f m:Nat),1<=m->m+f=n->So key p m->Gd (λi j=>O.blt (key i) (key j)) n (kas_asc p f m) λr=>m<=r/\r<=n/\So key p r/\(r<n->O.klt (kp key p r) (kp key p (r-1)))
 |0,m,_,d,h=>⟨ar _,by lia,h,λz=>by lia⟩
 |f+1,m,k,d,h=>by
  refine⟨⟨hp.lt 00,hp.lt 00,λz=>absurd (hp.inj 00 00 z) 00⟩,?_⟩
  show Gd _ n (if O.blt _ _=true then .ret m else kas_asc p f _) _
  cases q:O.blt _ _ with
  |true=>exact⟨ar _,by lia,h,λ_=>q⟩
  |false=>
   exact Gd.mono (λr ⟨a,b,c⟩=>⟨by lia,b,c⟩) _ (qt hp f _ 00 00 (h.snoc k (Dp hk hp 00 00 00 q)))
def De (key:Nat->O.α)(p:Array Nat)(m:Nat):Prop:=∀i j,i<j->j<m->O.klt (kp key p j) (kp key p i)
theorem qu {p:Array Nat}(hp:Pm n p):∀(f m:Nat),2<=m->m+f=n->De key p m->Gd (λi j=>O.blt (key i) (key j)) n (kas_desc f p m 0) λr=>r.1=p/\r.2.2=0/\m<=r.2.1/\r.2.1<=n/\De key p r.2.1
 |0,m,_,u,h=>⟨rfl,rfl,ar _,by show m<=n;lia,h⟩
 |f+1,m,x,u,h=>by
  refine⟨⟨hp.lt 00,hp.lt 00,λz=>absurd (hp.inj 00 00 z) 00⟩,?_⟩
  show Gd _ n (if O.blt _ _=true then (if 0>0 then kas_desc f _ _ 0 else kas_desc f p _ 0)else .ask _ _ λd=>if d=true then .ret _ else kas_desc f p _ _) _
  cases q:O.blt _ _ with
  |true=>
   refine Gd.mono (λr ⟨a,b,c,d⟩=>⟨a,b,by lia,d⟩) _ (qu hp f _ 00 00 λi j o y=>?_)
   by_cases l:j=m
   ·subst l
    by_cases k:i=j-1
    ·rw[k];exact q
    ·exact fB (show O.klt _ _ from q) (iN (h i _ 00 00))
   ·exact h i j o 00
  |false=>
   refine⟨⟨hp.lt 00,hp.lt 00,λz=>absurd (hp.inj 00 00 z) 00⟩,?_⟩
   have v:O.blt _ _=true:=Dp hk hp 00 00 00 q
   show Gd _ n (if O.blt _ _=true then .ret _ else _) _
   rw[if_pos v];exact⟨rfl,rfl,ar _,by show m<=n;lia,h⟩
omit hk in
theorem xJ {p:Array Nat}(hp:Pm n p)(i j:Nat):Pm n (kas_rev p i j):=⟨(mirror_size _ _ _ _).trans hp.sz,(Array.perm_iff_toList_perm.mp (mirror_perm p i j _)).trans hp.pm⟩
omit hk in
theorem qw {p:Array Nat}(hp:Pm n p){m k:Nat}(d:m<=n)(a:k<m):(kas_rev p 0 m).getD k 0=p.getD (m-1-k) 0:=by
 refine kI ?_;unfold kas_rev;rw[getElem?_mirror_all (by rw[hp.sz];exact d),if_pos ⟨bu _,a⟩]
 congr 1
 lia
theorem jC {p:Array Nat}(hp:Pm n p)(I:2<=n):Gd (λi j=>O.blt (key i) (key j)) n (kas_count n p) λr=>1<=r.1/\r.1<=n/\Pm n r.2/\So key r.2 r.1:=by
 refine Gd.bind _ (Gd.mono (λm ⟨a,b,c,d⟩=>?_) _ (qt hk hp _ 1 (ar _) 00 λi j f o=>by lia))
 by_cases k:m=n
 ·rw[if_pos (by simpa using k)]
  exact⟨a,b,hp,c⟩
 ·rw[if_neg (by simpa using k)]
  by_cases l:m>1
  ·rw[if_pos l];refine⟨⟨hp.lt 00,hp.lt 00,λz=>absurd (hp.inj 00 00 z) 00⟩,?_⟩
   have q:O.blt _ (kp key p (m-1))=true:=c 0 _ 00 00
   show Gd _ n (if O.blt _ _=true then .ret _ else _) _
   rw[if_pos q];exact⟨a,b,hp,c⟩
  ·have e:m=1:=by lia
   subst e;have D:=d 00
   refine Gd.bind _ (Gd.mono (λr ⟨v,x,N,u,G⟩=>?_) _ (qu hk hp _ _ 00 00 λi j f o=>by
    have:i=0/\j=1:=by lia
    rw[this.1,this.2];exact D))
   rw[x,v];refine Gd.bind _ (Gd.mono (λJ ⟨P,B,y,_⟩=>⟨by lia,B,xJ hp 0 _,y⟩) _ (qt hk (xJ hp 0 _) _ _ 00 00 λi j f o=>?_))
   unfold kp;rw[qw hp u 00,qw hp u o]
   exact G _ _ 00 00
omit hk in
end
end PV
namespace PV
open PySem PySem.Spec PyProof.Rows L2
section
open PySem.W PySem.Calls
variable {O:KeyOrd}{n:Nat}{key:Nat->O.α}
end
section
variable {prog:Program}{w:World}{A:Around}{E:Value->Shared->Prop}{s:Shared}
open PySem.W PySem.Calls
end
end PV
namespace PV
open PySem PySem.Spec PyProof.Rows L2
def qx {Y:Fx}{B H f:Hp}{r:R T}{Q:VK}(l:zr B H)(s:zr H f)(q:Po Y rC B H r Q):Po Y rC (zN B H f) f r Q:=by
 cases r with
 |bad=>exact q
 |ex c=>exact λd i a b=>q d i a ((zN.ge l s).trans b)
 |ok t=>exact λb i k j=>q b i (s.trans k) (by rw[zN.trans s k]at j;exact j)
section
variable {X:Cx}{Y:Fx}{a b:Expr}{fa:En->R T}{pos p p1 p2 p3 lp sp':Pos}
structure Cb (X:Cx) (cl:Nat->Value) (n:Nat) (g:List T->R T) (f:Addr):Prop where
 ex:∃j fd ps,ZX X.prog X.w X.K X.mg X.base (lH X.prog X.w) j f fd ps (spP cl n g)/\Ze j X.A/\bx X.K (.ref f)=true/\L2.Binds X.K fd ps []
def Vo {cl:Nat->Value}{n j k:Nat}{g:List T->R T}{f:Addr}{i:FuncData}{d:List Str}(F:ZX X.prog X.w X.K X.mg X.base (lH X.prog X.w) j f i d (spP cl n g))(hr:Ze k X.A)(l:j<=k)(kp:bx X.K (.ref f)=true)(bd:L2.Binds X.K i d []):Cb X cl n g f:=⟨j,i,d,F,hr.mono l,kp,bd⟩
def Vp {u G:Expr}{i:List Expr}{tc:TE}{t:TA}{E:XK}(N:PE X (.Subscript u G p) tc)(U:PA X (a::i) t)(S:zS (lH X.prog X.w) X E)
  (P:starEach (a::i) X.env=(false,eval a X.env)::starEach i X.env:=by rfl) (l:(backTo pos (starEach i X.env)).any (·.1)=false:=by rfl):
  PE X (.Call (.Subscript u G p) (a::i) [] pos) (λd H Q=>tc d H λv k=>∃f cl n g,v=.ref f/\Cb X cl n g f/\t d k λvs B=>spP cl n g vs B Q E):=by
 intro o s d H Q I h;refine a7 (lF (N _ s d H _ I h) λv s1 zz=>?_);obtain⟨x,k,y,J,f,cl,n,g,e,⟨j,fd,ps,F,hr,kp,bd⟩,q⟩:=zz;subst e;obtain rfl:v=Value.ref f:=J;refine dG y.ok.mod.kin kp (lF (U pos _ s1 d k _ y q) λus s2 ⟨vs,B,D,r,Z⟩=>⟨D.kIn,?_⟩) P l;refine Uv F hr bd .nil S D r ?_;rw[aW];exact Z
end
section
variable {prog:Program}{w:World}{A:Around}{E:Value->Shared->Prop}{s:Shared}
open HT in
open HT in
end
end PV
namespace PV
open PySem PySem.Spec PyProof.Rows L2
end PV
namespace L2
open PySem PySem.Spec PyProof.Rows PySem.W
structure Lm (X:Cx) (c P:Addr) (q:Str):Prop where
 code:X.env.code=.ref c
 hd:codeHdIn X.K c P=true
 bt:X.base.BuiltinsAt X.mg P
 ql:X.env.qual++"<lambda>"=q
def WA (H:Hp)(q:Str)(c:Addr):Prop:=∃a vs t,H c=some (.frz a (.own c))/\a.data=.fields vs/\vs[1]?=some (.str q t)
def WA.mono {H a:Hp}{q:Str}{c:Addr}(s:zr H a)(h:WA H q c):WA a q c:=let ⟨oc,vs,t,e,r⟩:=h;⟨oc,vs,t,s _ _ e,r⟩
def WA.rec {P:Program}{w:World}{H:Hp}{q:Str}{c:Addr}{h:Heap}(x:WA H q c)(ok:HOk P w H h):h.CodeRec (.ref c) q:=by
 obtain⟨a,vs,t,e,d,v⟩:=x;exact⟨c,a,vs,t,rfl,(ok c _ e).1,d,v⟩
theorem Wb {p f:Pos}{c d:Value}:∀(l:List Value),TriplesOk l->codeAmong p (l++[rawInt f.line,rawInt f.col,c])=some d->codeAmong p l=some d\/d=c
 |[],_,h=>by
  right
  simp only[ck,rawInt,codeAmong]at h;split at h
  ·exact(aA h).symm
  ·cases h
 |.int a t::.int b u::x::r,ok,h=>by
  simp only[du,codeAmong]at h⊢;split at h
  ·rename_i z;rw[if_pos z];exact .inl h
  ·rename_i z;rw[if_neg z];exact Wb r (by simpa only[TriplesOk]using ok) h
noncomputable abbrev kJ (q:Str)(params:Arguments)(body:Expr)(scope:Scope)(clos:List (Str×Addr))(pm ctv:Value)(c:Addr):Obj:=kla_obj "<lambda>" q params body scope clos pm c ctv
def DH {X:Cx}{c P:Addr}{q:Str}{params:Arguments}{body:Expr}{scope:Scope}{pos:Pos}{clos:List (Str×Addr)}(L:Lm X c P q)(hdef:defaultsOf params X.env=([],[]))(J:closureFor scope X.env=pure clos):
  PE X (.Lambda params body scope pos) (λσ H Q=>H P=some (.tbl #[] q)/\∀f c' pm ctv H',zr H H'->H' f=some (.frz (kJ q params body scope clos pm ctv c') (.own f))->WA H' q c'->Q (.ref f) H'):=by
 rintro D s σ H Q I ⟨hP,h⟩
 obtain⟨d,eP,tr,al⟩:=I.hok P _ hP;have C:=codeHd_of_K I.kIn L.hd;have hg:=I.ok.mod.glob.keeps I.bk;have hB:s.heap.BuiltinsAt X.mg P:=by
  obtain⟨bm,o,b1,b2,b3,b4,b5,b6⟩:=L.bt;exact⟨bm,o,b1,b2,b3,b4,I.bk _ _ b5,b6⟩
 have hgP:mainGlobals≠P:=λz=>by
  obtain⟨o,es,ep,e,hd,_⟩:=hg;rw[z,eP]at e;cases e;cases hd
 have i:∀{H2:Hp} {f:Addr} {o:Obj} {h2:Heap},h2.get? f=some o->Zd X.prog X.w H2 h2 f (.frz o (.own f)):=λe=>⟨e,_,e⟩;refine kla_eval hdef ?_;rw[L.ql];cases hf:codeAmong pos _ with
 |some cv=>
  obtain⟨c',x,vs,t,rfl,e2,e3,e4⟩:=al pos cv hf;refine kla_makeFunctionHit J I.ok.glob hg L.code C eP tr hf hB λctv h' tk hk hsz=>?_;have j:=I.hok.fresh hsz;have e5:(h'.push (kJ q params body scope clos ((X.mg "__name__").getD .none) ctv c')).get? _=some _:=ao _ rfl;refine⟨.ref _,_,I.laid (λb u e=>ag _ (hk b u e)) hsz (i e5),rfl,?_⟩;exact h _ c' _ ctv _ (PV.zr.new j _) zw (WA.mono (PV.zr.new j _) ⟨x,vs,t,e2,e3,e4⟩)
 |none=>
  refine kla_makeFunction J I.ok.glob hg L.code C eP tr hf hgP hB λc' ctv h' tk Z B G U N=>?_;obtain⟨c₂,x,vs,t,e2,hoc,hd,hv⟩:=U;cases e2;have hc0:=I.hok.fresh B;have y:∀b,H b=none->b≠P:=λb n z=>by rw[z,hP]at n;cases n
  have lX:∀b o,s.heap.get? b=some o->b≠c':=λb o e=>aM (aP (az e) B);have k:zr H (lf H c' (.frz x (.own c'))):=PV.zr.new hc0 _;have hl:(#[]++d++#[rawInt pos.line,rawInt pos.col,Value.ref c']).toList=(#[]++d).toList++[rawInt pos.line,rawInt pos.col,Value.ref c']:=by simp
  have hok:HOk _ X.w (lf H c' _) h':=λb u e=>by
   by_cases hb:b=c'
   ·subst hb;rw[zw]at e;cases e;exact i hoc
   ·rw[zu hb]at e
    by_cases S:b=P
    ·subst S;rw[hP]at e;cases e;refine⟨d++#[rawInt _,rawInt _,Value.ref c'],by rw[←eU];exact N,by rw[←eU,hl];exact TriplesOk_snoc _ _ _ _ tr,λp cv z=>?_⟩
     rw[←eU,hl]at z;rcases Wb _ tr z with z|rfl
     ·obtain⟨c2,oc2,vs2,t2,a1,a2,a3⟩:=al p cv z;exact⟨c2,oc2,vs2,t2,a1,k _ _ a2,a3⟩
     ·exact⟨c',x,vs,t,rfl,zw,hd,hv⟩
    ·refine(I.hok b u e).stay (λa v ha l=>Z a v (λz=>?_) l) (λ_ l=>k _ _ l) (λ_ _ l=>k _ _ l) λ_ _ _ l=>k _ _ l;subst z;rcases ha with z|z
     ·exact S z.symm
     ·rw[hP]at z;cases z
  have I1:Inv X D σ (lf H c' (.frz x (.own c'))) {s with heap:=h',toks:=s.toks}:=by
   refine I.step (ch:=[]) (λ_ z=>nomatch z) (λb o _ _ _ e n=>Z b o (y b n) e) (λb o _ _ _ e n=>⟨o.slots,Z b o (y b n) e⟩) (λb o _ e n=>by rw[zu (lX b o e)];exact n) (λb o _ e=>?_) (λ_ _ e=>k _ _ e) (λ_ _ _ e=>k _ _ e) (λ_ _ _ e=>k _ _ e) (λm hm=>hm.extBut Z (y _ I.free)) hok I.bare
   by_cases hb:b=P
   ·exact⟨_,hb▸N⟩
   ·exact⟨o,Z b o hb e⟩
  have j:lf H c' (.frz x (.own c')) h'.objs.size=none:=by rw[zu (dL G)];exact I1.hok.fresh (ar _)|>λz=>by rw[zu (dL G)]at z;exact z
  have e5:(h'.push (kJ q params body scope clos ((X.mg "__name__").getD .none) ctv c')).get? _=some _:=ao _ rfl;refine⟨.ref _,_,I1.laid (λb u e=>ag _ e) (ar _) (i e5),rfl,?_⟩;have s2:zr _ (lf _ _ (.frz (kJ q params body scope clos ((X.mg "__name__").getD .none) ctv c') (.own h'.objs.size))):=PV.zr.new j _;exact h _ c' _ ctv _ (k.trans s2) zw (WA.mono s2 ⟨x,vs,t,zw,hd,hv⟩)
end L2
namespace L2
open PySem PySem.Spec PyProof.Rows PySem.W
def xK (s:Shared)(H:Hp)(a:List Addr):Heap:=hideAll s.heap (tY s.heap H++a)
def UJ {s:Shared}{H:Hp}{a:List Addr}{b:Addr}{o:Obj}(e:s.heap.get? b=some o)(n:H b=none)(d:b∉a):(xK s H a).get? b=some o:=
 hideAll_get _ e λf=>by
  rcases bh.mp f with z|z
  ·have q:=(cY.mp z).2;rw[n]at q;cases q
  ·exact d z
def kK {s:Shared}{H:Hp}{a:List Addr}{b:Addr}{o:Obj}(e:(xK s H a).get? b=some o):s.heap.get? b=some o/\H b=none:=by
 have d:=of_hideAll _ e;refine⟨d,?_⟩;cases q:H b with
 |none=>rfl
 |some x=>
  have f:b∈tY _ H++a:=cg _ (cY.mpr ⟨bn.mpr (az d),by simp[q]⟩)
  have z:(xK s H a).get? b=none:=hideAll_none _ f;rw[z]at e;cases e
theorem Mod.keeps {K:Frag}{d:Str->Option Value}{b f:Heap}(m:Mod K d b)(k:∀a o,b.get? a=some o->f.get? a=some o):Mod K d f:=
 ⟨m.kin.keeps k,m.glob.keeps k,let ⟨mb,h1,h2⟩:=m.blt;⟨mb,h1.keeps k,h2⟩,m.nolimit.keeps k⟩
section
variable {X:Cx}{pins:List 000}{σ:St}{H:Hp}{s:Shared}
def Inv.big_of (I:Inv X pins σ H s):∀b o,X.base.get? b=some o->(xK s H (lV X.stack)).get? b=some o:=λb o e=>by
 refine UJ (I.bs b o e).1 (I.bs b o e).2 λa=>?_;have:=(I.stack.mem a).1;rw[e]at this;cases this
def Inv.big (I:Inv X pins σ H s):Uu X.prog X.w X.K X.mg (xK s H (lV X.stack)) X.A X.stack s H:=
 ⟨I.ok.frames,I.ok.mod.keeps I.big_of,λb o e=>kK e,iD (hideAll_size _ _),funFrames_hide I.stack λenv d a f=>aJ _ (dE.mpr ⟨env,d,f⟩),I.stkFree,I.hok,I.bare⟩
end
def rh (P:Program)(w:World)(K:Frag)(mg:Str->Option Value)(base:Heap)(N:List Str)(q:Str)(scope:Scope)(f:Addr)(cd:Value)(clos:List (Str×Addr))(A:Around)(outer:List Env)(s:Shared)(H:Hp)(E:XK):Cx where
 prog:=P
 w:=w
 K:=K
 mg:=mg
 base:=base
 A:=A.deeper (envX q scope s.1.1.size f cd clos)
 N:=N
 s₀:=s
 H₀:=H
 env:=envX q scope s.1.1.size f cd clos
 outer:=outer
 stack:=envX q scope s.1.1.size f cd clos::outer
 ex:=[]
 calm:=true
 fn:=λ_=>false
 pn:=[]
 xe:=λe i=>wpAny (model P w) (A.deeper (envX q scope s.1.1.size f cd clos)) (leaving (envX q scope s.1.1.size f cd clos) e) (λ_ a=>lH P w outer H s E e a) (λd a=>lH P w outer H s E d a) i
section
variable {P:Program}{w:World}{K:Frag}{mg:Str->Option Value}{base:Heap}{N:List Str}{q:Str}{scope:Scope}{f:Addr}{cd:Value}{clos:List (Str×Addr)}{A:Around}{outer:List Env}{s:Shared}{H:Hp}{E:XK}
structure A6 (scope:Scope):Prop where
 kind:scope.kind=.function
 co:scope.isCoroutine=false
 gen:scope.isGenerator=false
 nocell:∀x∈scope.names,x.2≠.cell
structure qy (base:Heap) (H:Hp) (scope:Scope) (clos:List (Str×Addr)) (N:List Str) (σ:St):Prop where
 inj:∀x y c,clos.lookup x=some c->clos.lookup y=some c->x=y
 has:∀x∈scope.names,x.2=.free->∃c,clos.lookup x.1=some c
 cell:∀x c,clos.lookup x=some c->(∃v,base.IsCell c v)/\H c=none
 loc:∀(i:Nat) (x:Str) (v:V),N[i]?=some x->σ[i]?=some (some v)->∃u c,Z8 v u/\clos.lookup x=some c/\base.IsCell c (some u)/\scope.names.lookup x=some .free
 len:σ.length=N.length
def Wc {h h':Heap}{c:Addr}{v:Option Value}(k:∀a o,h.get? a=some o->h'.get? a=some o)(x:h.IsCell c v):h'.IsCell c v:=let ⟨o,e,d⟩:=x;⟨o,k _ _ e,d⟩
end
end L2
namespace L2
open PySem PySem.Spec PyProof.Rows PySem.W
structure WB (k:Nat) (A:Around):Prop where
 dp:A.depth+3*k+5<recursionLimit
 un:A.units+16*k+200<cLine
 gd:A.guards=some []
def Ze.m {k:Nat}{A:Around}(r:Ze k A):WB k A:=⟨r.dp,r.un,r.gd⟩
def WB.mono {j k:Nat}{A:Around}(r:WB k A)(h:j<=k):WB j A:=⟨by have:=r.dp;lia,by have:=r.un;lia,r.gd⟩
theorem WB.mark {k:Nat}{A:Around}(r:WB k A)(e:Value):WB k (A.mark (some e)):=⟨r.dp,r.un,r.gd⟩
structure Ds (P:Program) (w:World) (K:Frag) (mg:Str->Option Value) (base:Heap) (k:Nat) (f:Addr) (fd:FuncData) (ps:List Str) (sp:Sp):Prop where
 len:∀vs H Q E,sp vs H Q E->vs.length=ps.length
 run:∀(A:Around) (outer:List Env) (s:Shared) (H:Hp) (args:Args) (us:List Value) (vs:List V) (Q:VK),WB k A->Uu P w K mg base A outer s H->BindsTo s fd args (ps.zip us)->zZ vs us->sp vs H Q (λ_ _ _=>False)->
  codeAny (model P w) A (.call (.ref f) args) (λr s'=>∃u,r=.ok (.ret u)/\CE outer P w H s Q u s') s
section
variable {P:Program}{w:World}{K:Frag}{mg:Str->Option Value}{base:Heap}
def Vq {X:Cx}{k:Nat}{f:Addr}{B:FuncData}{o:List Str}{sp:Sp}{x:Str}{p pos:Pos}{e:Expr}{t:TA}(F:Ds X.prog X.w X.K X.mg X.base k f B o sp)(hr:WB k X.A)(J:Gl X x)(N:X.mg x=some (.ref f))(G:keepIn X.K (.ref f)=true)(hb:Binds X.K B o [])
  (ha:PA X [e] t) (j:(x==("__debug__":Str))=false:=by decide) (U:starEach [e] X.env=[(false,eval e X.env)]:=by rfl):
  PE X (.Call (.Name x p) [e] [] pos) (λl H Q=>t l H λvs i=>sp vs i Q λ_ _ _=>False):=by
 intro y s l H Q I h;refine bG (jQ I J N ?_ j);refine callWith_K I.ok.mod.kin G (lF (ha pos _ s l H _ I h) λv D ⟨vs,i,d,r,q⟩=>⟨d.kIn,?_⟩) U rfl;have hl:v.length=o.length:=by rw[←r.length];exact F.len _ _ _ _ q
 have a:=hb D v d.kIn (by rw[aW];exact hl)
 rw[aW]at a;refine dF (cD (F.run X.A _ D i _ v vs Q hr d.env0 a r q) λr s' zz=>?_);obtain⟨u,Z,S⟩:=zz;subst Z;exact d.after S
end
def CQ (X:Cx)(E:XK)(i:Nat)(f:Addr)(o:Obj):TE:=λa H Q=>a[i]?=some (some (.ref f))/\H f=some (.frz o (.own f))/\
 ∀s,Uu X.prog X.w X.K X.mg X.base X.A X.stack s H->codeAny 05 X.A (.call (.ref f) ⟨[],[]⟩) (CR (lH X.prog X.w) X.stack X.prog X.w H s Q E) s
def kL {X:Cx}{E:XK}{i:Nat}{x:Str}{p pos:Pos}{f c':Addr}{q:Str}{params:Arguments}{body:Expr}{scope:Scope}{clos:List (Str×Addr)}{pm ctv:Value}(y:PE X (.Name x p) (Jg i))(G:zS (lH X.prog X.w) X E):
  PE X (.Call (.Name x p) [] [] pos) (CQ X E i f (kJ q params body scope clos pm ctv c')):=by
 rintro k s l H Q I ⟨j,S,run⟩
 refine bG (lF (y _ s l H (λv N=>v=.ref f/\N=H) I ⟨_,j,rfl,rfl⟩) λu o Z=>?_);obtain⟨v,B,d,r,D,J⟩:=Z;subst D J;obtain rfl:u=Value.ref f:=r;refine callWith_F0 ⟨_,_,_,_,(d.hok f _ S).1⟩ ?_;refine dF (cD (run o d.env0) λr P a=>?_);cases r with
 |error e=>exact G _ l B o e P d a
 |ok U=>
  cases U with
  |ret u=>exact d.after a
  |next=>exact bC a
  |brk=>exact bC a
  |cont=>exact bC a
def kM {X:Cx}{tb:XK->TS}{th:TE}{body:List Stmt}{c n:Str}{C:Addr}{cp hp rp pos:Pos}{i:Nat}{e2:Expr}
  (hX:X.stack=X.env::X.outer) (hf:X.env.frame=some X.env.locals) (hN:X.N.Nodup) (hi:X.N[i]?=some n) (U:X.env.scope.names.lookup n=some .local) (hg:Gl X c) (hm:X.mg c=some (.ref C))
  (hb:∀(l:XK) (pn:List 000) (xe:Value->Shared->Prop),zS (lH X.prog X.w) (X.try' pn xe) l->PSs (X.try' pn xe) body (tb l))
  (he:∀a,PE (X.mark' (.ref a)) e2 th) (hdc:(c==("__debug__":Str))=false:=by decide):
  PS X (.Try body [.ExceptHandler (some (.Name c cp)) (some n) [.Return (some e2) rp] hp] [] [] pos)
   (λD x H=>∃l:XK,(∀(cls:Value) (d:Option Addr) (G:Hp) (a:Addr) (σ':St),l cls d G->exmOne X.K cls (.ref C)=some true/\(G a=none->σ'.length=x.length->x.length=X.N.length->th (σ'.set i (some (.ref a))) (lf G a (.ext (uZ cls a))) D.rt))/\tb l D x H):=by
 rintro k s x H D I ⟨l,hE,hw⟩
 have P:zS (lH X.prog X.w) (X.try' (X.pn++k) λe s1=>wpAny 05 X.A (noteFrame e X.env) (λ_ s2=>wpAny 05 X.A (setFlight e none) (λ_ s3=>wpAny 05 X.A (handleBy e X.env [.ExceptHandler (some (.Name c cp)) (some n) [.Return (some e2) rp] hp]) (SP X k D) X.xe s3) X.xe s2) X.xe s1) l:=by
  rintro pins' σ' H1 s1 e s' I1 ⟨a,cls,a0,B,G,he',L,hw'⟩
  subst he';have I0:=I1.untry;have fr:X.A.frames=some (X.env::X.outer):=by rw[←hX];exact I0.ok.frames
  refine wpAny_looks_onW fr hf (hX▸L.fly) λp J S=>?_;refine wpAny_landsW J λh2 j sl2=>?_;rw[←hX]at j;have o:=S.trans sl2;have I2:=I0.caught L j o;obtain⟨Z,hD⟩:=hE cls _ G a σ' hw';refine W6 Z ?_;refine jQ (I2.mark' _) hg hm ⟨rfl,I2.kIn,j.there,?_⟩ hdc;refine lands_againW j λh3 fl3 sl3=>?_;have I3:=I0.caughtX L fl3 (o.trans sl3);have y:=I0.len;refine jx (X:=X.mark' (.ref a)) (I3.mark' _) hN hi (.inl U) (v:=.ref a) rfl (λs4 I4=>?_) (.inr U);have hs1:=jR (JC (pos:=rp) (he a));have hr:=hs1 _ s4 _ _ {nx:=λ_ _=>False,rt:=D.rt} I4 (hD L.fresh (y.trans I.len.symm) I.len);refine bF hr (λf s5 Q=>?_) λ_ _ z=>z;cases f with
  |next=>obtain⟨_,_,_,z⟩:=Q;exact z.elim
  |brk=>obtain⟨_,_,_,z⟩:=Q;exact z.elim
  |cont=>obtain⟨_,_,_,z⟩:=Q;exact z.elim
  |ret u=>
   obtain⟨v,σ5,H5,I5,r5,q5⟩:=Q;refine YB (I5.unmark I.ok.hd) hN hi U λs6 I6=>?_;exact⟨v,_,_,I6,r5,q5⟩
 have hr:=hb l _ _ P [] s x H D (I.try' _) hw;refine wpAny_Try_except (bF hr (λf s1 p=>?_) λ_ _ z=>z);have p:=p.untry;cases f with
 |next=>exact c_ p
 |brk=>exact p
 |cont=>exact p
 |ret u=>exact p
end L2
namespace PV
open PySem PySem.Spec PyProof.Rows L2 PySem.W
noncomputable def C9 (r:R T):R T:=match r with
 |.ok t=>.ok t
 |_=>.bad
def Da (ok:Nat->Bool)(a:Nat->R T)(r:R T):R T:=match r with
 |.ok t=>.ok t
 |.ex c=>if ok c=true then C9 (a c)else .bad
 |.bad=>.bad
def HW (P:Program)(w:World)(K:Frag)(j:Str->Option Value)(base:Heap)(cl:Nat->Value)(ok:Nat->Bool)(i:Nat->R T)(k:Nat)(f:Addr)(o:Obj)(B:Hp)(r:R T):Sp:=λvs H Q E=>vs=[V.ref f]/\H f=some (.frz o (.own f))/\zr B H/\Po ⟨B,H,E,cl,[]⟩ rC B H (Da ok i r) Q/\
 ∀(A:Around) (outer:List Env) (s:Shared) (a:XK) (d:VK),Ze (k+1) A->Uu P w K j base A outer s H->Po ⟨B,H,a,cl,[]⟩ rC B H r d->codeAny (model P w) A (.call (.ref f) ⟨[],[]⟩) (CR (lH P w) outer P w H s d a) s
def DR (P:Program)(w:World)(K:Frag)(i:Str->Option Value)(cl:Nat->Value)(ok:Nat->Bool)(j:Nat->R T)(k:Nat)(ft:Addr)(a:FuncData)(d:Str):Prop:=
 ∀(base:Heap) (f c':Addr) (q:Str) (params:Arguments) (body:Expr) (scope:Scope) (clos:List (Str×Addr)) (pm ctv:Value) (B:Hp) (r:R T),K.In base->ZX P w K i base mM (k+2) ft a [d] (HW P w K i base cl ok j k f (kJ q params body scope clos pm ctv c') B r)
section
variable {P:Program}{w:World}{K:Frag}{mg:Str->Option Value}
def qz {cl:Nat->Value}{ok:Nat->Bool}{Z:Nat->R T}{k j i:Nat}{x D d n cn lc y:Str}{st:Stmt}{ft C fl:Addr}{fdt J:FuncData}{N:List Str}{dp cp rp np hp lp ep lcp rp2 tp:Pos}(F:Fun K x D st ft fdt)(S:Zk N [d] (zq st))
  (hst:zH st=[.Try [.Return (some (.Call (.Name d dp) [] [] cp)) rp] [.ExceptHandler (some (.Name cn np)) (some n) [.Return (some (.Call (.Name lc lp) [.Name n ep] [] lcp)) rp2] hp] [] [] tp])
  (h0:N[0]?=some d) (hd:(zq st).names.lookup d=some .local) (hi:N[i]?=some n) (hl:(zq st).names.lookup n=some .local) (hi0:i≠0)
  (hgc:(zq st).names.lookup cn=some .globalImplicit) (hmc:mg cn=some (.ref C)) (hok:∀c,ok c=true->exmOne K (cl c) (.ref C)=some true)
  (hgl:(zq st).names.lookup lc=some .globalImplicit) (hml:mg lc=some (.ref fl)) (kp:keepIn K (.ref fl)=true) (bd:L2.Binds K J [y] []) (FL:∀base,K.In base->Ds P w K mg base j fl J [y] (rc cl Z)) (hj:j<=k+1)
  (h1:(d==("__debug__":Str))=false:=by decide) (h2:(d==("__classdict__":Str))=false:=by decide) (h3:(n==("__debug__":Str))=false:=by decide) (h4:(n==("__classdict__":Str))=false:=by decide) (h5:(lc==("__debug__":Str))=false:=by decide) (h6:(cn==("__debug__":Str))=false:=by decide):
  DR P w K mg cl ok Z k ft fdt d:=by
 intro base f c' q params body scope clos pm ctv B r KB;refine F.ok S (λvs H Q E zz=>by obtain⟨e,_⟩:=zz;rw[e];rfl) λcdv A outer s H vs Q E hr ⟨e,hf,sB,p,run⟩=>?_
 subst e;rw[hst];have he:∀l,PE ((jc mM P w K mg base N D (zq st) ft cdv A outer s H E).nox.mark' (.ref l)) (.Call (.Name lc lp) [.Name n ep] [] lcp) (λσ H Q=>∃v,σ[i]?=some (some v)/\rc cl Z [v] H Q λ_ _ _=>False):=λl=>
  PE.imp (Vq (FL base KB) ((hr.m.mono hj).mark _) hgl hml kp bd (zB (WX hi (.inl hl) h3 h4) zT (lS rfl)) h5 (lS rfl)) λσ H Q ⟨v,e,z⟩=>⟨v,e,z⟩
 refine⟨_,jR (kM (tb:=λE'=>rA (CQ _ E' 0 f _)) (i:=i) (C:=C) rfl rfl S.nd hi hl hgc hmc (λE' pn xe hp=>jR (JC (kL (f:=f) (c':=c') (q:=q) (params:=params) (body:=body) (scope:=scope) (clos:=clos) (pm:=pm) (ctv:=ctv) (WX h0 (.inl hd) h1 h2) hp))) he h6),?_⟩;refine⟨λcls _ I=>∃c,cls=cl c/\ok c=true/\zr H I/\zr B I/\Po ⟨B,H,E,cl,[]⟩ rC B H (C9 (Z c)) Q,λcls d I l σ' ⟨c,e1,e2,s1,s2,q1⟩=>?_,by unfold L2.start;rfl,hf,λs2 e0=>run _ _ s2 _ _ hr e0 ?_⟩
 ·subst e1;refine⟨hok c e2,λU hl' hX'=>⟨.ref l,aH (by rw[hl',hX'];exact(ak.mp hi).1),lf B l _,l,c,rfl,?_,zw,?_⟩⟩
  ·intro b o hb
   by_cases z:b=l
   ·subst z;rw[zw]at hb⊢;exact hb
   ·rw[zu z]at hb⊢;exact s2 b o hb
  ·have s3:zr H (lf I l (.ext (uZ (cl c) l))):=s1.trans (zr.new U _);have hHe:=s1.free U;revert q1;cases Z c with
   |bad=>exact λz=>z
   |ex c2=>exact λz=>z.elim
   |ok t=>
    intro z b H3 s4 rb;refine z b H3 (s3.trans s4) (rb.mono λa o G=>?_);cases hH:lf I l _ a with
    |none=>
     rw[zD hH]at G;cases X:H a with
     |none=>rw[zD X];exact G
     |some u=>have:=s3 a u X;rw[hH]at this;cases this
    |some u=>
     rw[zL hH]at G
     by_cases ze:a=l
     ·subst ze;rw[zD hHe];rw[zw]at G hH;rw[←G,s4 _ _ zw]
     ·rw[zu ze]at G;rw[zL (sB a o G)];exact G
 ·revert p;unfold Da;cases r with
  |ok t=>exact λp=>p
  |bad=>exact λp=>p
  |ex c=>
   intro p;dsimp only at p;split at p
   ·rename_i hc;exact λd I a b=>⟨c,rfl,hc,a,b,p⟩
   ·exact p.elim
end
section
variable {P:Program}{w:World}{K:aa}{mg:Str->Option Value}{base:Heap}
def vj (cl:Nat->Value)(n:Nat)(g:List T->R T)(a:Addr)(q:Str):Sp:=λvs H Q E=>H a=some (.tbl #[] q)/\spP cl n g vs H Q E
def D5 {cl:Nat->Value}{x d q:Str}{st:Stmt}{f c y:Addr}{j:FuncData}{N o:List Str}{k n:Nat}{p:En->RS}{g:List T->R T}(F:Fun K x d st f j)(U:j.code=.ref c)(S:Zk N o (zq st))(hn:n=o.length)
  (hb:∀(A:Around) (outer:List Env) (s:Shared) (H:Hp) (E:XK) (Y:Fx),Y.cl=cl->Y.E=E->Y.H0 y=some (.tbl #[] q)->Ze k (A.deeper (envOfC d (zq st) s.1.1.size f (.ref c)))->
   Jn (jc (lH P w) P w K mg base N d (zq st) f (.ref c) A outer s H E) Y (zH st) p)
  (D:∀ts,ts.length=n->g ts=zx (p (i4 N.length ts))):ZX P w K mg base (lH P w) (k+1) f j o (vj cl n g y q):=by
 subst hn;obtain⟨oc,od,kV,G,pm,an,cdv,ct,X,rfl,Z,u⟩:=F.ex;obtain rfl:cdv=.ref c:=U;refine vK Z u S (λvs H Q E z=>spP.len vs H Q E z.2) λA outer s H vs Q E hr zz=>?_;obtain⟨hT,B,ts,hl,sB,r,q⟩:=zz;refine⟨_,hb A _ s H E ⟨B,H,E,cl,[]⟩ rfl rfl hT hr _,B,SI.start sB r,?_⟩;rw[D ts hl]at q;revert q;cases p _ with
 |rt t=>exact λq v i s r=>q v i s r
 |rf t=>exact λq a xs i J s0 n e r _ l=>q _ i s0 (.lst (by rw[zD n];exact e) (r.mono l))
 |nx ρ=>exact λq σ' i J _ I=>q _ i I.sH .non
 |ex c=>exact λq=>q
 |bk ρ=>exact λq=>q.elim
 |ct ρ=>exact λq=>q.elim
 |bad=>exact λq=>q
end
end PV
namespace L2
open PySem PySem.Spec PyProof.Rows PySem.W
def qA {P:Program}{w:World}{K:Frag}{G mb:Str->Option Value}{CX:mP}{k:Nat}{fa a c i:Addr}{fd:FuncData}{x q:Str}{sp:Sp}{f:Shared}{vs:List Value}{ns:List Int}
  (KX:K.In f.heap) (hns:f.heap.Ns mainGlobals G) (hb:f.heap.Ns builtinsNs mb) (hbb:∀x:Str,x≠"__name__"->mb x=bootBuiltins x) (hlim:f.heap.NoLimit) (hg:f.gens=#[])
  (J:f.heap.get? a=some {cls:=.type "list",data:=.seq vs.toArray}) (hi:IntsAre vs ns) (hl:ns.length<=sizeLine) (hr:Ze k callerA)
  (hbt:f.heap.BuiltinsAt G i) (j:f.heap.get? i=some (tabObj #[])) (hKP:K.lookup i=none) (hC:codeHdIn K c i=true) (hKa:K.lookup a=none)
  (F:∀base:Heap,K.In base->base.BuiltinsAt G i->ZX P w K G base CX k fa fd [x] sp) (y:∀(s:Shared) (u:Value),BindsTo s fd ⟨[u],[]⟩ [(x,u)])
  (hsp:∀(H:Hp) (o:Obj),H a=some (.frz o (.lst (ns.map V.int)))->H i=some (.tbl #[] q)->sp [.ref a] H (λv _=>v=.bl true) λ_ _ _=>False)
  (hCX:∀H e I,CX [] H f (λ_ _ _=>False) e I->False):
  codeAny (model P w) callerA (.call (.ref fa) ⟨[.ref a],[]⟩) (λr I=>r=.ok (.ret (.bool true))/\OldK f.heap I.heap/\I.os=f.os/\AllBare I.gens) f:=by
 have rv:=uf hi;have hne:i≠a:=λz=>by rw[z,J]at j;cases j
 obtain⟨H,hH⟩:∃H:Hp,H=lf (lf (λ_=>none) i (.tbl #[] q)) a (.frz {cls:=.type "list",data:=.seq vs.toArray} (.lst (ns.map V.int))):=⟨_,rfl⟩;have Q:H a=some (.frz {cls:=.type "list",data:=.seq vs.toArray} (.lst (ns.map V.int))):=by rw[hH,zw]
 have X:H i=some (.tbl #[] q):=by rw[hH,zu hne,zw]
 have U:∀b,b≠a->b≠i->H b=none:=λb n1 n2=>by rw[hH,zu n1,zu n2]
 have hok:HOk P w H _:=λb o e=>by
  by_cases D:b=a
  ·subst D;rw[Q]at e;cases e;exact⟨J,by rw[ah];exact hl,vs,_,rv,J⟩
  ·by_cases b2:b=i
   ·subst b2;rw[X]at e;cases e;exact⟨#[],j,trivial,λp cv z=>by cases z⟩
   ·rw[U b D b2]at e;cases e
 have noD:∀{b:Addr} {o:Obj} {es:Array _} {ep:Nat},f.heap.get? b=some o->o.data=.dict es ep->H b=none:=λ{b o es ep} e d=>U b (λz=>by rw[z,J]at e;cases e;cases d) λz=>by rw[z,j]at e;cases e;cases d
 have B:∀{b:Addr} {m:Str->Option _},f.heap.Ns b m->(KI _ H).Ns b m:=λ{b m} ⟨o,es,ep,e,d,r⟩=>⟨o,es,ep,Wn e (noD e d),d,r⟩;have S:=λb o e=>Wn (KX b o e) (U b (λz=>by rw[z,hKa]at e;cases e) λz=>by rw[z,hKP]at e;cases e)
 have hM:Mod K G _:=⟨S,B hns,⟨mb,B hb,hbb⟩,let ⟨mc,Q,X⟩:=hlim;⟨mc,B Q,X⟩⟩;have hBT:(KI f.heap H).BuiltinsAt G i:=by
  obtain⟨bm,o,D,b2,b3,b4,b5,b6,b7,b8⟩:=hbt;exact⟨bm,o,D,b2,b3,b4,Wn b5 (U bm (λz=>by rw[z,J]at b5;cases b5;cases b8) b4),b6,b7,b8⟩
 have e0:Uu P w K G _ callerA [] _ H:=⟨rfl,hM,λb o e=>Xc e,iD (Ya _ _),trivial,λb hb=>absurd (show b∈([]:List _) from hb) (by simp),hok,.of_eq hg⟩
 refine cD ((F _ S hBT).run _ [] _ H _ _ [.ref a] _ _ hr e0 (y _ _) (.cons rfl .nil) (hsp H _ Q X)) λr I h=>?_;cases r with
 |error e=>exact(hCX H e I h).elim
 |ok fl=>
  cases fl with
  |next=>exact bC h
  |brk=>exact bC h
  |cont=>exact bC h
  |ret u=>
   obtain⟨v,H',os,Z,un,l,r',qv⟩:=h;have q':=qv;subst q';obtain rfl:u=Value.bool _:=r';refine⟨rfl,⟨λb o e=>?_,λb o e=>un.there b o e (by simp)⟩,os,Z⟩
   by_cases D:b=a
   ·subst D;have z2:=un.frzs b _ _ Q;obtain⟨e2,_⟩:=l b _ z2;rw[J]at e;cases e;exact .inl e2
   ·by_cases b2:b=i
    ·subst b2;obtain⟨N,e2,_⟩:=l b _ (un.tbls b _ _ X);rw[j]at e;cases e;exact .inr (.inl ⟨((codeHd_of_K KX hC).tab j).isCodeTable,rfl,#[],N,rfl,e2⟩)
    ·exact .inl (un.keep b o e (U b D b2) (by intro z;exact absurd (show b∈([]:List _) from z) (by simp)) (by simp))
def walk_ofT {l:OpenLaw}{n k:Nat}{q:Program}{B:List Str}{XP:(Str->Option Value)->Heap->Prop}{YP:World->Heap->Prop}{d:DefRec}{K:Params->Frag}{ts:List Addr}{CX:World->mP}{sp:World->Addr->Sp}{x nm:Str}
  (hn:l.most=some n) (Z:n<=sizeLine) (hdf:d.params.defaults=[]) (hr:Ze k callerA)
  (hY:∀(w:World) (h:Heap),YP w h->(K w.params).In h/\∀P∈ts,h.get? P=some (tabObj #[])) (hKa:∀(w:World) (a:Addr) (o:Obj),(K w.params).lookup a=some o->o.cls≠.type "list")
  (F:∀(w:World) (D:Str->Option Value) (fa:Addr) (h:Heap),(K w.params).In h->h.Ns mainGlobals D->D d.name=some (.ref fa)->(∀P∈ts,h.get? P=some (tabObj #[]))->
   ∃(fd:FuncData) (c i:Addr),(∀(s:Shared) (u:Value),BindsTo s fd ⟨[u],[]⟩ [(x,u)])/\h.get? i=some (tabObj #[])/\(K w.params).lookup i=none/\codeHdIn (K w.params) c i=true/\
    ∀base:Heap,(K w.params).In base->base.BuiltinsAt D i->ZX l.prog w (K w.params) D base (CX w) k fa fd [x] (sp w i))
  (hsp:∀(w:World) (H:Hp) (a i:Addr) (o:Obj) (ns:List Int),ns.length<=n->H a=some (.frz o (.lst (ns.map V.int)))->H i=some (.tbl #[] nm)->sp w i [.ref a] H (λv _=>v=.bl true) λ_ _ _=>False)
  (X:∀(w:World) (H:Hp) (s:Shared) (e:Value) (s':Shared),CX w [] H s (λ_ _ _=>False) e s'->False):
  WalkO q B XP YP l.row.toRowW d [] (λf vs=>lC f vs):=by
 refine Att.attach_call hn hdf λw s₀ s₁ D mb fa o pm cd doc a vs ns G Y ho hd hcd N p y j hg=>?_;obtain⟨Q,hT⟩:=hY w _ Y;obtain⟨fd,c,i,hb,I,hKP,hC,hF⟩:=F w D fa _ Q G.T.g N hT;obtain⟨S,ob,b1,b2,J,b4,b5,b6⟩:=G.T.bmain;have hbP:S≠i:=λz=>by rw[z,I]at J;cases J;cases b4
 have U:S≠mainGlobals:=λz=>by
  obtain⟨o,es,ep,e,hd,_⟩:=G.T.g;rw[z,e]at J;cases J;rw[hd]at b6;cases b6
 refine qA Q G.T.g G.T.b G.T.builtins G.T.nolimit hg p y (aC j Z) hr ⟨S,ob,b1,b2,U,hbP,J,b4,b5,b6⟩ I hKP hC ?_ hF hb (λH o h1 h2=>hsp w H a i o ns j h1 h2) λH e s'=>X w H _ e s';cases hk:(K _).lookup a with
 |none=>rfl
 |some o2=>
  have e:=Q a o2 hk;rw[p]at e;cases e;exact(hKa w a _ hk rfl).elim
end L2
namespace PV
open PySem PySem.Spec PyProof.Rows L2
end PV
namespace PV
open PySem PySem.Spec PyProof.Rows L2 PySem.W
section
variable {X:Cx}{Y:Fx}{a b:Expr}{fa fb:En->R T}{pos p p':Pos}
def SI.forget {B:Hp}{ρ:En}{k:Sg}{H:Hp}(I:SI Y B ρ k H)(i:Nat)(v:Option V):SI Y B (ρ.set i .un) (k.set i v) H where
 s0:=I.s0
 sH:=I.sH
 sB:=I.sB
 old:=I.old
 len:=by rw[aw,aw];exact I.len
 vl:=λj t h=>by
  rcases zt h with ⟨_,z⟩|⟨n,z⟩
  ·cases z
  ·obtain⟨l,e,r⟩:=I.vl j t z;exact⟨l,by rw[av (aY n)];exact e,r⟩
 ow:=λj ts h=>by
  rcases zt h with ⟨_,z⟩|⟨n,z⟩
  ·cases z
  ·obtain⟨a,xs,e,G,J,y,r,d⟩:=I.ow j ts z;refine⟨a,xs,by rw[av (aY n)];exact e,G,J,y,r,λN D u h'=>?_⟩
   rcases zt h' with ⟨_,f⟩|⟨o,f⟩
   ·cases f
   ·rw[av (aY o)];exact d N D u f
 xc:=λj c h=>by
  rcases zt h with ⟨_,z⟩|⟨n,z⟩
  ·cases z
  ·obtain⟨a,e,r⟩:=I.xc j c z;exact⟨a,by rw[av (aY n)];exact e,r⟩
 st:=let ⟨as,O,x⟩:=I.st;⟨as,O,x.set i _ _ rfl (λ_=>Sl.noConfusion)⟩
end
end PV
namespace PV
open PySem PySem.Spec PyProof.Rows L2
end PV
namespace PV
open PySem PySem.Spec PyProof.Rows L2 PySem.W
def A2 (B i H:Hp)(O:Addr->Option Nat)(a:List (Str×V))(fs:List (Str×Fd)):Prop:=(a.length=fs.length/\nL a)/\∀(m:Nat) (f:Str) (d:Fd),fs[m]?=some (f,d)->∃v,a[m]?=some (f,v)/\
 match d with
 |.tv t=>Rep B v t
 |.tl ts=>∃l xs,v=.ref l/\B l=none/\i l=none/\H l=some (.lst xs)/\zK B xs ts/\O l=some (m+1)
def kN (cl:Nat->Value)(k:Nat)(B d H:Hp)(x:Addr)(fs:List (Str×Fd)):Prop:=∃C f a O,cl k=.ref C/\H x=some (.ins C f a)/\B x=none/\d x=none/\O x=some 0/\A2 B d H O a fs
def SI.obAt {Y:Fx}{B:Hp}{ρ:En}{G:Sg}{H:Hp}(I:SI Y B ρ G H){j k:Nat}{x:Addr}{fs:List (Str×Fd)}{os:List Ob}(J:Y.as=[x])(h:ρ[j]?=some (.st ((k,fs)::os))):kN Y.cl k B Y.H0 H x fs:=by
 obtain⟨as,O,s⟩:=I.st;obtain⟨a,C,Q,vs,o,N,e3,e4,e5,e6,e7,Z⟩:=s.st j _ h 0 k fs rfl;have S:a=x:=by
  obtain⟨t,i⟩:=s.pre;rw[J]at i;rw[←i]at o;exact(aA o).symm
 subst S;refine⟨C,Q,vs,λb=>(O b).bind λp=>if p.1=0 then some p.2 else none,N,e3,e4,e5,by dsimp only;rw[e6];rfl,e7,λm f d z=>?_⟩
 obtain⟨v,U,u⟩:=Z m f d z;refine⟨v,U,?_⟩;cases d with
 |tv t=>exact u
 |tl ts=>
  obtain⟨l,xs,P,p2,X,y,D,_,p7⟩:=u;exact⟨l,xs,P,p2,X,y,D,by dsimp only;rw[p7];rfl⟩
def nZ (k j:Nat)(fs:List (Str×Fd))(ts:List T):En:=.ob k 0::(ts.map Sl.vl++(ac (j-1-ts.length) .un++[.st [(k,fs)]]))
def ZS {k j:Nat}{fs:List (Str×Fd)}{ts:List T}{i:Nat}{s:Sl}(h:(nZ k j fs ts)[i]?=some s):(i=0/\s=.ob k 0)\/(∃d t,i=d+1/\ts[d]?=some t/\s=.vl t)\/s=.un\/(s=.st [(k,fs)]/\i=1+ts.length+(j-1-ts.length)):=by
 unfold nZ at h;cases i with
 |zero=>exact .inl ⟨rfl,(aA h).symm⟩
 |succ i=>
  rw[bg]at h
  by_cases hi:i<ts.length
  ·rw[aG (by simpa using hi),aj,am hi]at h
   exact .inr (.inl ⟨i,_,rfl,am hi,(aA h).symm⟩)
  ·rw[aE (by simpa using hi)]at h
   by_cases a:i-(ts.map Sl.vl).length<j-1-ts.length
   ·rw[aG (by simpa using a),aF,if_pos a]at h
    exact .inr (.inr (.inl (aA h).symm))
   ·rw[aE (by simpa using a)]at h
    generalize f:i-(ts.map _).length-(ac _ _).length=q at h;cases q with
    |zero=>
     refine .inr (.inr (.inr ⟨(aA h).symm,?_⟩));rw[ah,aS]at f;rw[ah]at a;lia
    |succ q=>cases h
theorem zK.at {B:Hp}{vs:List V}{ts:List T}(h:zK B vs ts){i:Nat}{t:T}(e:ts[i]?=some t):∃v,vs[i]?=some v/\Rep B v t:=by
 induction vs generalizing ts i with
 |nil=>cases h;simp at e
 |cons v vs a=>
 cases h with
 |cons r d=>
 cases i with
 |zero=>cases e;exact⟨v,rfl,r⟩
 |succ i=>exact a d e
def SI.startM {cl:Nat->Value}{k j:Nat}{B D H:Hp}{x:Addr}{fs:List (Str×Fd)}{E:XK}{vs:List V}{ts:List T}{N:List Str}(hN:N.length=j+1)(hj:ts.length+1<=j)(sB:zr B D)(sH:zr D H)(ob:kN cl k B D H x fs)(r:zK B vs ts):
  SI ⟨B,D,E,cl,[x]⟩ B (nZ k j fs ts) (L2.start N (.ref x::vs)) H where
 s0:=sB
 sH:=sH
 sB:=sB.trans sH
 old:=λ_ _ _=>rfl
 len:=by
  unfold nZ L2.start;have:=r.length;simp only[ax,aB,ah,aS,cq];lia
 vl:=λi t h=>by
  rcases ZS h with ⟨_,e⟩|⟨p,t',u,y,o⟩|e|⟨e,_⟩
  ·cases e
  ·cases o;subst u;obtain⟨v,J,rv⟩:=r.at y;refine⟨v,?_,rv⟩;unfold L2.start;have hi:p<vs.length:=(ak.mp J).1;rw[aG (by simpa using hi),aK,bg,aj,J];rfl
  ·cases e
  ·cases e
 ow:=λi t h=>by
  rcases ZS h with ⟨_,e⟩|⟨p,t',u,y,o⟩|e|⟨e,_⟩
  ·cases e
  ·cases o
  ·cases e
  ·cases e
 xc:=λi t h=>by
  rcases ZS h with ⟨_,e⟩|⟨p,t',u,y,o⟩|e|⟨e,_⟩
  ·cases e
  ·cases o
  ·cases e
  ·cases e
 st:=by
  obtain⟨C,dx,S,O,c1,Z,U,P,c5,X,c7⟩:=ob;refine⟨[x],λb=>(O b).map λm=>(0,m),cJ _,λi os h=>?_,λi p os os' h h'=>?_,λi k' n h=>?_,λi k' fs0 h=>?_,λi os h n k' fs' e=>?_⟩
  ·rcases ZS h with ⟨_,e⟩|⟨_,_,_,_,e⟩|e|⟨e,_⟩<;>cases e
   rfl
  ·rcases ZS h with ⟨_,e⟩|⟨_,_,_,_,e⟩|e|⟨_,e⟩
   ·cases e
   ·cases e
   ·cases e
   ·rcases ZS h' with ⟨_,a⟩|⟨_,_,_,_,a⟩|a|⟨_,a⟩
    ·cases a
    ·cases a
    ·cases a
    ·rw[e,a]
  ·rcases ZS h with ⟨I,e⟩|⟨p,t',u,y,o⟩|e|⟨e,_⟩
   ·cases e;subst I;exact⟨x,C,dx,S,rfl,rfl,c1,Z,U,P,X.2⟩
   ·cases o
   ·cases e
   ·cases e
  ·rcases ZS h with ⟨I,e⟩|⟨p,t',u,y,o⟩|e|⟨e,_⟩
   ·cases e
   ·cases o
   ·cases e
   ·cases e
  ·rcases ZS h with ⟨I,a⟩|⟨p,t',u,y,o⟩|a|⟨a,_⟩
   ·cases a
   ·cases o
   ·cases a
   ·cases a;cases n with
    |succ n=>cases e
    |zero=>
     cases e;refine⟨x,C,dx,S,rfl,c1,Z,U,P,by rw[c5];rfl,X,λm f d z=>?_⟩
     obtain⟨v,z1,Q⟩:=c7 m f d z;refine⟨v,z1,?_⟩;cases d with
     |tv t=>exact Q
     |tl us'=>
      obtain⟨l,xs,p1,p2,p3,p4,p5,p6⟩:=Q;refine⟨l,xs,p1,p2,p3,p4,p5,λj' us2 G=>?_,by show lE _ (O l)=_;rw[p6];rfl⟩
      rcases ZS G with ⟨_,e⟩|⟨_,_,_,_,e⟩|e|⟨e,_⟩<;>cases e
def Ar (cl:Nat->Value)(k:Nat)(B i:Hp)(x:Addr)(r:R (T×List (Str×Fd)))(Q:VK)(E:XK):Prop:=match r with
 |.ok (t,fs')=>∀v a f,zr i a->zr B f->zr f a->(∀b o,i b=some o->f b=B b)->kN cl k f i a x fs'->Rep f v t->Q v a
 |.ex c=>∀d a,zr i a->zr B a->E (cl c) d a
 |.bad=>False
def pN (cl:Nat->Value)(k n:Nat)(g:List (Str×Fd)->List T->R (T×List (Str×Fd))):Sp:=λvs H Q E=>∃(x:Addr) (a:List V) (ts:List T) (B d:Hp) (fs:List (Str×Fd)),vs=.ref x::a/\ts.length=n/\zr B d/\zr d H/\kN cl k B d H x fs/\zK B a ts/\Ar cl k B d x (g fs ts) Q E
def PoR (Y:Fx)(B:Hp)(r:R (T×En))(D:Uq):Prop:=match r with
 |.ok (t,ρ')=>(∀v σ' d a,zr B a->SI Y a ρ' σ' d->Rep a v t->D.rt v d)/\(t=.non->∀σ' d a,zr B a->SI Y a ρ' σ' d->D.nx σ' d)
 |.ex c=>XP Y B c
 |.bad=>False
def XP.up {Y:Fx}{B f:Hp}{c:Nat}(s:zr B f)(h:XP Y B c):XP Y f c:=λd i a b=>h d i a (s.trans b)
theorem PoR.up {Y:Fx}{B i:Hp}{r:R (T×En)}{D:Uq}(s:zr B i)(h:PoR Y B r D):PoR Y i r D:=by
 unfold PoR at h⊢;split
 ·exact⟨λv σ' f d a=>h.1 v σ' f d (s.trans a),λe σ' f d a=>h.2 e σ' f d (s.trans a)⟩
 ·exact XP.up s h
 ·exact h
structure kO (X:Cx) (Y:Fx) (body:List Stmt) (f:En->R (T×En)):Prop where
 mk::
 go:∀ρ,PSs X body λD σ H=>∃B,SI Y B ρ σ H/\PoR Y B (f ρ) D
def PoM (Y:Fx)(B:Hp)(r:R (T×En))(f:Sg)(Q:VK):Prop:=match r with
 |.ok (t,ρ')=>∀v d a,zr B a->SI Y a ρ' f d->Rep a v t->Q v d
 |.ex c=>XP Y B c
 |.bad=>False
structure KM (X:Cx) (Y:Fx) (e:Expr) (f:En->R (T×En)):Prop where
 mk::
 go:∀ρ,PE X e λσ H Q=>∃B,SI Y B ρ σ H/\PoM Y B (f ρ) σ Q
section
variable {X:Cx}{Y:Fx}{e:Expr}{st:Stmt}{rest:List Stmt}{pos:Pos}
def sx (f:En->R T):En->R (T×En):=λρ=>(f ρ).bind λt=>.ok (t,ρ)
def Ed {f:En->R T}(h:Snd X Y e f):KM X Y e (sx f):=.mk λρ=>PE.imp (h ρ) λd H Q ⟨B,I,q⟩=>⟨B,I,by
 unfold sx at q;revert q;cases f ρ with
 |ok t=>exact λq v a s r=>q v a _ (zN.ge I.sB s) (I.grow s) r
 |ex c=>exact λq=>q
 |bad=>exact λq=>q⟩
def Bq:En->R (T×En):=λρ=>.ok (.non,ρ)
def Fb:kO X Y [] Bq:=.mk λρ=>PSs.imp Yd λD a H ⟨B,I,q⟩=>q.2 rfl a H B (zr.refl _) I
def J8 (f:En->RS)(g:En->R (T×En)):En->R (T×En):=λρ=>match f ρ with
 |.nx ρ'=>g ρ'
 |.ex c=>.ex c
 |_=>.bad
def Fy {f:En->RS}{g:En->R (T×En)}(k:Jf X Y st f)(i:kO X Y rest g):kO X Y (st::rest) (J8 f g):=.mk λρ=>by
 refine PSs.imp (jy (u:=λD a H=>∃ρ' B,SI Y B ρ' a H/\PoR Y B (g ρ') D) (k ρ) ?_) ?_
 ·rintro d s a H D I ⟨ρ',q⟩
  exact i.go ρ' _ s a H D I q
 ·rintro D a H ⟨B,I,q⟩
  refine⟨B,I,?_⟩;unfold J8 at q;revert q;cases f ρ with
  |nx ρ'=>exact λq σ' o j s l=>⟨ρ',j,l,q.up s⟩
  |ex c=>exact λq=>q
  |rt t=>exact λq=>q.elim
  |rf t=>exact λq=>q.elim
  |bk ρ=>exact λq=>q.elim
  |ct ρ=>exact λq=>q.elim
  |bad=>exact λq=>q.elim
end
def kQ (k j:Nat)(r:R (T×En)):R (T×List (Str×Fd)):=r.bind λp=>match p.2[j]? with
 |some (.st ((a,fs)::_))=>if a=k then .ok (p.1,fs)else .bad
 |_=>.bad
section
variable {P:Program}{w:World}{K:aa}{mg:Str->Option Value}{base:Heap}
def xL {cl:Nat->Value}{x a:Str}{st:Stmt}{f:Addr}{fd:FuncData}{N D:List Str}{k n j Z:Nat}{G:En->R (T×En)}(F:Fun K x a st f fd)(S:Zk N D (zq st))(hn:D.length=n+1)(hN:N.length=j+1)(hj:n+1<=j)
  (hb:∀(cdv:Value) (A:Around) (outer:List Env) (s:Shared) (H:Hp) (E:XK) (Y:Fx),Y.cl=cl->Y.E=E->Ze Z (A.deeper (envOfC a (zq st) s.1.1.size f cdv))->
   kO (jc (lH P w) P w K mg base N a (zq st) f cdv A outer s H E) Y (zH st) G):ZX P w K mg base (lH P w) (Z+1) f fd D (pN cl k n λfs ts=>kQ k j (G (nZ k j fs ts))):=by
 refine Fun.okX F S (λvs H Q E z=>?_) λcdv A outer s H vs Q E hr z=>?_
 ·obtain⟨x,I,ts,B,y,fs,e,U,_,_,_,r,_⟩:=z;rw[e,ax,r.length,U,hn]
 obtain⟨x,I,ts,B,y,fs,e,U,sB,sH,ob,r,q⟩:=z;subst e;refine⟨_,(hb cdv A _ s H E _ rfl rfl hr).go _,B,SI.startM hN 00 sB sH ob r,?_⟩
 have q:Ar cl k B y x (kQ k j _) Q E:=q;revert q;cases G _ with
 |bad=>exact λq=>q
 |ex c=>exact λq=>q
 |ok p=>
  obtain⟨t,ρ'⟩:=p;show Ar cl k B y x (match ρ'[j]? with|some (.st ((X,fs)::_))=>(if X=k then R.ok _ else R.bad)|_=>R.bad) Q E->_
  split
  ·rename_i X fs' os ej;split
   ·rename_i hk;subst hk;intro q;have u:∀v σ' i d,zr B d->SI ⟨B,y,E,cl,[x]⟩ d ρ' σ' i->Rep d v t->Q v i:=λv σ' i d J l rv=>q v i d l.sH J l.sB (λb o h=>l.old b o h) (l.obAt rfl ej) rv;exact⟨u,λet σ' i d J l=>u _ σ' i d J l (by rw[et];exact .non)⟩
   ·exact λq=>q.elim
  ·exact λq=>q.elim
end
def nE (k i j:Nat)(ρ:En):Option (Nat×List (Str×Fd)×List Ob):=match ρ[i]?,ρ[j]? with
 |some (.ob a n),some (.st os)=>match os[n]? with
  |some (k2,fs)=>if a=k/\k2=k then some (n,fs,os)else none
  |none=>none
 |_,_=>none
def UK {k i j:Nat}{ρ:En}{n:Nat}{fs:List (Str×Fd)}{os:List Ob}(h:nE k i j ρ=some (n,fs,os)):ρ[i]?=some (.ob k n)/\ρ[j]?=some (.st os)/\os[n]?=some (k,fs):=by
 unfold nE at h;split at h
 ·rename_i p u o f l;split at h
  ·rename_i k2 fs' d;split at h
   ·rename_i a;obtain⟨rfl,rfl⟩:=a;cases h;exact⟨f,l,d⟩
   ·cases h
  ·cases h
 ·cases h
theorem qB {f:Str}{d:Fd}:∀{fs:List (Str×Fd)} {vs:List (Str×V)},(∀(m:Nat) (g:Str) (e:Fd),fs[m]?=some (g,e)->∃v,vs[m]?=some (g,v))->fs.lookup f=some d->∃(m:Nat) (v:V),fs[m]?=some (f,d)/\vs[m]?=some (f,v)/\vs.lookup f=some v
 |[],_,_,h=>by simp at h
 |(g,e)::fs,vs,k,h=>by
  obtain⟨v,j⟩:=k 0 g e rfl;cases vs with
  |nil=>cases j
  |cons w vs=>
   cases j;rw[aR]at h
   by_cases i:f=g
   ·subst i;rw[beq_self_eq_true]at h;cases h;exact⟨0,v,rfl,rfl,by rw[aR,beq_self_eq_true]⟩
   ·rw[beq_eq_false_iff_ne.mpr i]at h;obtain⟨m,l,a,b,c⟩:=qB (λm=>k (m+1)) h;exact⟨m+1,l,a,b,by rw[aR,beq_eq_false_iff_ne.mpr i];exact c⟩
theorem qD {f:Str}:∀{fs:List (Str×Fd)} {vs:List (Str×V)},vs.length=fs.length->(∀(m:Nat) (g:Str) (e:Fd),fs[m]?=some (g,e)->∃v,vs[m]?=some (g,v))->fs.lookup f=none->vs.lookup f=none
 |[],vs,l,_,h=>by
  cases vs with
  |nil=>rfl
  |cons _ _=>cases l
 |(g,e)::fs,vs,l,i,h=>by
  obtain⟨v,a⟩:=i 0 g e rfl;cases vs with
  |nil=>cases a
  |cons w vs=>
   cases a;rw[aR]at h⊢
   by_cases d:f=g
   ·subst d;rw[beq_self_eq_true]at h;cases h
   ·rw[beq_eq_false_iff_ne.mpr d]at h⊢;exact qD (by simpa using l) (λm=>i (m+1)) h
noncomputable def jN (f:Str)(d:Fd):List (Str×Fd)->List (Str×Fd)
 |[]=>[(f,d)]
 |(g,x)::r=>if g=f then (g,d)::r else (g,x)::jN f d r
noncomputable def o8 (f:Str):List (Str×Fd)->Nat
 |[]=>0
 |(g,_)::r=>if g=f then 0 else o8 f r+1
theorem UL {f:Str}{d:Fd}{v:V}:∀{fs:List (Str×Fd)} {vs:List (Str×V)},vs.length=fs.length->(∀(m:Nat) (g:Str) (e:Fd),fs[m]?=some (g,e)->∃v,vs[m]?=some (g,v))->(L2.putF f v vs).length=(jN f d fs).length
 |[],vs,l,_=>by
  cases vs with
  |nil=>rfl
  |cons _ _=>cases l
 |(g,e)::fs,vs,l,i=>by
  obtain⟨w,a⟩:=i 0 g e rfl;cases vs with
  |nil=>cases a
  |cons w vs=>
   cases a;unfold L2.putF jN;split
   ·simpa using l
   ·rw[ax,ax,UL (by simpa using l) (λm=>i (m+1))]
theorem UM {f:Str}{d:Fd}{v:V}:∀{fs:List (Str×Fd)} {vs:List (Str×V)},vs.length=fs.length->(∀(m:Nat) (g:Str) (e:Fd),fs[m]?=some (g,e)->∃v,vs[m]?=some (g,v))->∀{m:Nat} {g:Str} {e:Fd},(jN f d fs)[m]?=some (g,e)->
  (m=o8 f fs/\g=f/\e=d/\(L2.putF f v vs)[m]?=some (f,v))\/(m≠o8 f fs/\fs[m]?=some (g,e)/\∀j,vs[m]?=some (g,j)->(L2.putF f v vs)[m]?=some (g,j))
 |[],vs,l,_,m,g,e,h=>by
  cases vs with
  |cons _ _=>cases l
  |nil=>
   cases m with
   |zero=>cases h;exact .inl ⟨rfl,rfl,rfl,rfl⟩
   |succ m=>cases h
 |(u,x)::fs,vs,l,p,m,g,e,h=>by
  obtain⟨w,o⟩:=p 0 u x rfl;cases vs with
  |nil=>cases o
  |cons w vs=>
   cases o;unfold jN at h;unfold o8 L2.putF
   by_cases i:u=f
   ·rw[if_pos i]at h⊢;rw[if_pos i];cases m with
    |zero=>cases h;exact .inl ⟨rfl,i,rfl,by rw[i];rfl⟩
    |succ m=>exact .inr ⟨i_ _,h,λj k=>k⟩
   ·rw[if_neg i]at h⊢;rw[if_neg i];cases m with
    |zero=>cases h;exact .inr ⟨(i_ _).symm,rfl,λj k=>k⟩
    |succ m=>
     rcases UM (by simpa using l) (λm=>p (m+1)) h with ⟨a,b,c,d⟩|⟨a,b,c⟩
     ·exact .inl ⟨by rw[a],b,c,d⟩
     ·exact .inr ⟨λz=>a (fZ z),b,c⟩
def qE {f:Str}{v:V}{vs:List (Str×V)}(d:f∈KK)(h:nL vs):nL (L2.putF f v vs):=λg a=>by
 rw[L2.lookup_putF,if_neg λz=>a (by rw[z];exact d)];exact h g a
section
variable {X:Cx}{Y:Fx}{B:Hp}{ρ:En}{σ:Sg}{H:Hp}
def D4 (B H a:Hp)(v:V):Fd->Prop
 |.tv t=>a=H/\Rep B v t
 |.tl ts=>∃p xs,v=.ref p/\H p=none/\a=lf H p (.lst xs)/\zK B xs ts
theorem SI.putF (I:SI Y B ρ σ H){k i j n:Nat}{fs:List (Str×Fd)}{os:List Ob}{f:Str}{d:Fd}{v:V}{a C dx:Addr}{vs:List (Str×V)}{H1:Hp}(hf:f∈KK)(h:nE k i j ρ=some (n,fs,os))(ha:σ[i]?=some (some (V.ref a)))(hH:H a=some (.ins C dx vs))(hd:D4 B H H1 v d):
  SI Y B (ρ.set j (.st (os.set n (k,jN f d fs)))) σ (lf H1 a (.ins C dx (L2.putF f v vs))):=by
 obtain⟨h1,h2,h3⟩:=UK h;obtain⟨as,O,s⟩:=I.st;obtain⟨a1,C1,dx1,vs1,e1,e2,e3,e4,e5,e6,e7,e8⟩:=s.st j os h2 n k fs h3;obtain⟨a',C',dx',vs',g1,g2,_⟩:=s.ob i k n h1;rw[e1]at g1;cases g1;rw[ha]at g2;cases g2;rw[hH]at e3;cases e3;have al:∀(m:Nat) (g:Str) (e:Fd),fs[m]?=some _->∃v,vs[m]?=some _:=λm g e he=>let ⟨v,z,_⟩:=e8 m g e he;⟨v,z⟩;have sH1:zr H H1:=by
  cases d with
  |tv t=>rw[hd.1];exact zr.refl _
  |tl ts=>obtain⟨p,xs,_,hp,e,_⟩:=hd;rw[e];exact zr.new hp _
 have x:∀b o,H b=some o->b≠a->(lf H1 a (.ins C dx (L2.putF f v vs))) b=some o:=λb o U Q=>by rw[zu Q];exact sH1 b o U
 have nb:∀b o,B b=some o->b≠a:=λb o h z=>by subst z;rw[e4]at h;cases h
 have n0:∀b o,Y.H0 b=some o->b≠a:=λb o h z=>by subst z;rw[e5]at h;cases h
 have own:∀(y:Nat) (P:List T),(ρ.set j (.st (os.set n (k,jN f d fs))))[y]?=some (Sl.ow P)->ρ[y]?=some _:=λy P hw=>by
  rcases zt hw with ⟨_,z⟩|⟨_,z⟩
  ·cases z
  ·exact z
 have ok':∀b,yF ρ σ b->yF _ σ b:=λb U y P hw=>U y P (own y P hw);have D:∀{b:Addr} {xs:List V},H b=some (.lst xs)->b≠a:=λU z=>by subst z;rw[hH]at U;cases U
 obtain⟨O',hO1,hO2⟩:∃O':Addr->Option _,(∀b o,H b=some o->O' b=O b)/\∀b,v=.ref b->H b=none->O' b=some _:=by
  classical
  refine⟨λb=>if v=.ref b/\H b=none then some (n,o8 f fs+1)else O b,?_,?_⟩
  ·intro b o U;exact if_neg λz=>by rw[U]at z;cases z.2
  ·intro b z1 z2;exact if_pos ⟨z1,z2⟩
 refine⟨I.s0,λb o h=>x b o (I.sH b o h) (n0 b o h),λb o h=>x b o (I.sB b o h) (nb b o h),I.old,by rw[aw];exact I.len,λy u h=>?_,λy P h=>?_,λy c h=>?_,as,O',s.pre,λi' os' h=>?_,λi1 i2 os1 os2 q1 q2=>?_,λi' k' n' h=>?_,λi' k' fs0 h=>?_,λi' os' h n' k' fs' e=>?_⟩
 ·rcases zt h with ⟨_,z⟩|⟨_,z⟩
  ·cases z
  ·exact I.vl y u z
 ·have z:=own y P h;obtain⟨b,xs',Z,N,y3,S,y5,J⟩:=I.ow y P z;exact⟨b,xs',Z,N,y3,x b _ S (D S),y5,λj2 G hj hw=>J j2 G hj (own j2 G hw)⟩
 ·rcases zt h with ⟨_,z⟩|⟨_,z⟩
  ·cases z
  ·exact I.xc y c z
 ·rcases zt h with ⟨_,z⟩|⟨_,z⟩
  ·cases z;rw[aw];exact s.len j os h2
  ·exact s.len _ _ z
 ·have one:∀i1 os1,(ρ.set j (.st (os.set n (k,jN f d fs))))[i1]?=some _->i1=j:=λi1 os1 q1=>by
   rcases zt q1 with ⟨e,_⟩|⟨_,z⟩
   ·exact e
   ·exact s.one i1 j os1 os z h2
  rw[one i1 os1 q1,one i2 os2 q2]
 ·rcases zt h with ⟨_,z⟩|⟨_,z⟩
  ·cases z
  ·obtain⟨b,C2,dx2,G,Z,N,y3,S,y5,J⟩:=s.ob i' k' n' z
   by_cases U:b=a
   ·subst U;rw[hH]at S;cases S;exact⟨b,C,dx,_,Z,N,y3,zw,y5,J.1,qE hf J.2⟩
   ·exact⟨b,C2,dx2,G,Z,N,y3,x b _ S U,y5,J⟩
 ·rcases zt h with ⟨_,z⟩|⟨_,z⟩
  ·cases z
  ·exact s.oc i' k' _ z
 ·rcases zt h with ⟨rfl,z⟩|⟨Q,z⟩
  ·cases z;have old:∀{n' m':Nat} {v':V} {d':Fd},Bp Y B ρ σ H (λl=>O l=some (n',m'+1)) v' d'->Bp Y B _ σ _ (λl=>O' l=some _) v' d':=λ{n' m' v' d'} N=>by
    cases d' with
    |tv t=>exact N
    |tl P=>
     obtain⟨l2,xs2,w1,w2,w3,w4,w5,w6,w7⟩:=N;exact⟨l2,xs2,w1,w2,w3,x l2 _ w4 (D w4),w5,ok' l2 w6,by show O' l2=_;rw[hO1 l2 _ w4];exact w7⟩
   rcases zt e with ⟨rfl,z⟩|⟨hn,z⟩
   ·cases z;refine⟨a,C,dx,_,e1,e2,zw,e4,e5,by rw[hO1 a _ hH];exact e6,⟨UL e7.1 al,qE hf e7.2⟩,λm' f' d' z=>?_⟩
    rcases UM e7.1 al z with ⟨q1,q2,q3,q4⟩|⟨q1,q2,q3⟩
    ·subst q2 q3;refine⟨v,q4,?_⟩;cases d' with
     |tv t=>exact hd.2
     |tl ts=>
      obtain⟨p,xs,w1,w2,w3,w4⟩:=hd;have hpa:p≠a:=λz=>by rw[z,hH]at w2;cases w2
      refine⟨p,xs,w1,I.sB.free w2,I.sH.free w2,by rw[zu hpa,w3];exact zw,w4,λy P hw=>?_,by show O' p=_;rw[hO2 p w1 w2,q1]⟩
      obtain⟨b,xs',Z,N,y3,S,_⟩:=I.ow y P (own y P hw);rw[Z];intro z;injection z with z;injection z with z;injection z with z;rw[z,w2]at S;cases S
    ·obtain⟨v',Z,N⟩:=e8 m' f' d' q2;exact⟨v',q3 v' Z,old N⟩
   ·obtain⟨b,C2,dx2,G,Z,N,y3,S,y5,J,y7,y8⟩:=s.st i' os h2 n' k' fs' z;have Q:b≠a:=λw=>by
     subst w;rw[e6]at J;injection J with J;injection J with J _;exact hn J.symm
    refine⟨b,C2,dx2,G,Z,N,x b _ y3 Q,S,y5,by rw[hO1 b _ y3];exact J,y7,λm' f' d' z=>?_⟩
    obtain⟨v',x1,x2⟩:=y8 m' f' d' z;exact⟨v',x1,old x2⟩
  ·exact absurd (s.one i' j os' os z h2) Q
end
section
variable {X:Cx}{Y:Fx}{B:Hp}{ρ:En}{σ:Sg}{H:Hp}{a:Expr}{fa:En->R T}{p p' pos:Pos}
def SI.obA (I:SI Y B ρ σ H){k i j n:Nat}{fs:List (Str×Fd)}{os:List Ob}(h:nE k i j ρ=some (n,fs,os)):∃a C d vs,σ[i]?=some (some (V.ref a))/\Y.cl k=.ref C/\H a=some (.ins C d vs)/\vs.length=fs.length/\∀(m:Nat) (g:Str) (e:Fd),fs[m]?=some (g,e)->∃v,vs[m]?=some (g,v):=by
 obtain⟨Q,o,l⟩:=UK h;obtain⟨as,O,s⟩:=I.st;obtain⟨a,C,d,vs,x,G,S,e4,e5,e6,P,N⟩:=s.st j os o n k fs l;obtain⟨U,Z,J,D,f,y,_⟩:=s.ob i k n Q;rw[x]at f;cases f;exact⟨a,C,d,vs,y,G,S,P.1,λm g e u=>let ⟨v,z,_⟩:=N m g e u;⟨v,z⟩⟩
def my (k i j:Nat)(f:Str)(fa:En->R T):En->RS:=λρ=>(fa ρ).s λt=>match nE k i j ρ with
 |some (n,fs,os)=>if fs.length<1000 then .nx (ρ.set j (.st (os.set n (k,jN f (.tv t) fs))))else .bad
 |none=>.bad
def HE {k i j:Nat}{x f:Str}{l:Pos}{C:Addr}(N:PE X (.Name x l) (Jg i))(Q:Y.cl k=.ref C)(c:L2.Cls X.K C)(n:L2.NoAttr X.K C f)(S:Snd X Y a fa)(P:swapsWith a (some (.Attribute (.Name x l) f p')) pos.line X.env=pure false:=by rfl)(Z:f∈KK:=by decide):Jf X Y (.Assign [.Attribute (.Name x l) f p'] a pos) (my k i j f fa):=.mk λρ=>
 PS.imp (gG N (S ρ) P) λD σ H=>tSS.on λB I q=>jZ I q λt v H1 _ s1 J G d=>by
  split at d
  ·rename_i n' fs os e;split at d
   ·rename_i hl;obtain⟨a,C',U,vs,o,u,y,e4,e5⟩:=G.obA e;rw[Q]at u;cases u;exact⟨.ref a,o,a,C,U,vs,rfl,y,c,n,by rw[e4];exact hl,d _ _ _ (zr.refl _) (G.putF Z e o y ⟨rfl,J⟩)⟩
   ·exact d.elim
  ·exact d.elim
end
theorem PoM.up {Y:Fx}{B d:Hp}{r:R (T×En)}{f:Sg}{Q:VK}(s:zr B d)(h:PoM Y B r f Q):PoM Y d r f Q:=by
 unfold PoM at h⊢;split
 ·exact λv j i a=>h v j i (s.trans a)
 ·exact XP.up s h
 ·exact h
def F4 {l o:Type}{Y:Fx}{i:Hp->Hp->o->l->Prop}{f:En->R l}{k:l->R (T×En)}{ρ:En}{B:Hp}{j:Sg}{H:Hp}{Q:VK}{K:o->Hp->Prop}(I:SI Y B ρ j H)(h:PoM Y B ((f ρ).bind k) j Q)
  (n:∀a b d,f ρ=.ok a->zr H d->i (zN B H d) d b a->SI Y (zN B H d) ρ j d->PoM Y (zN B H d) (k a) j Q->K b d):tS Y i f ρ j H K:=by
 refine⟨B,I,?_⟩;cases e:f ρ with
 |bad=>rw[e]at h;exact h
 |ex c=>rw[e]at h;exact h
 |ok a=>
  rw[e]at h;exact λb d s r=>n a b d e s r (I.grow s) (PoM.up (zN.ge I.sB s) h)
section
variable {Y:Fx}{B:Hp}{ρ:En}{σ:Sg}{H:Hp}
def SI.back (I:SI Y B ρ σ H){k i j n:Nat}{fs:List (Str×Fd)}{os:List Ob}(h:nE k i j ρ=some (n,fs,os)){a:Addr}(ha:σ[i]?=some (some (V.ref a))):
  ∃Q,zr B Q/\zr Q H/\kN Y.cl k B Q H a fs/\zr Y.H0 Q/\∀(H' B':Hp) (fs':List (Str×Fd)),zr Q H'->zr B B'->zr B' H'->(∀b o,Q b=some o->B' b=B b)->kN Y.cl k B' Q H' a fs'->SI Y B' (ρ.set j (.st (os.set n (k,fs')))) σ H':=by
 classical
 obtain⟨h1,h2,h3⟩:=UK h;obtain⟨as,O,s⟩:=I.st;obtain⟨a1,C,dx,vs,e1,e2,e3,e4,e5,e6,e7,e8⟩:=s.st j os h2 n k fs h3;obtain⟨a',C',dx',vs',g1,g2,_⟩:=s.ob i k n h1;rw[e1]at g1;cases g1;rw[ha]at g2;cases g2
 let P:Addr->Prop:=λb=>b=a\/∃(m:Nat) (f:Str) (ts:List T),fs[m]?=some (f,.tl ts)/\vs[m]?=some (f,V.ref b)
 have lP:∀b,P b->b≠a->∃m xs,H b=some (.lst xs)/\B b=none/\Y.H0 b=none/\yF ρ σ b/\O b=some (n,m+1):=λb p hne=>by
  rcases p with z|⟨m,f,ts,z1,z2⟩
  ·exact absurd z hne
  ·obtain⟨v,y,l,xs,p1,p2,p3,p4,p5,p6,p7⟩:=e8 m f _ z1;rw[z2]at y;cases y;cases p1;exact⟨m,xs,p4,p2,p3,p6,p7⟩
 have nB:∀b o,B b=some o->¬P b:=λb o p hp=>by
  by_cases z:b=a
  ·rw[z,e4]at p;cases p
  ·obtain⟨_,_,_,q,_⟩:=lP b hp z;rw[q]at p;cases p
 have n0:∀b o,Y.H0 b=some o->¬P b:=λb o p hp=>by
  by_cases z:b=a
  ·rw[z,e5]at p;cases p
  ·obtain⟨_,_,_,_,q,_⟩:=lP b hp z;rw[q]at p;cases p
 let Q:Hp:=λb=>if P b then none else H b
 have S:∀{b o},H b=some o->¬P b->Q b=some o:=λ{b o} p hp=>by show (if P b then none else H b)=_;rw[if_neg hp];exact p
 have H0p:∀{b},P b->Q b=none:=λ{b} hp=>if_pos hp;refine⟨Q,λb o p=>S (I.sB b o p) (nB b o p),λb o p=>?_,⟨C,dx,vs,λb=>(O b).map Prod.snd,e2,e3,e4,H0p (.inl rfl),by show lE _ (O a)=_;rw[e6];rfl,e7,λm f d z=>?_⟩,λb o p=>S (I.sH b o p) (n0 b o p),λH' B' fs' s1 s2 s3 old ob'=>?_⟩
 ·have p:(if P b then none else H b)=some o:=p
  split at p
  ·cases p
  ·exact p
 ·obtain⟨v,y,G⟩:=e8 m f d z;refine⟨v,y,?_⟩;cases d with
  |tv t=>exact G
  |tl ts=>
   obtain⟨l,xs,p1,p2,p3,p4,p5,p6,p7⟩:=G;subst p1;exact⟨l,xs,rfl,p2,H0p (.inr ⟨m,f,ts,z,y⟩),p4,p5,by show lE _ (O l)=_;rw[p7];rfl⟩
 ·obtain⟨C',dx',us,O',c1,c2,c3,c4,c5,c6,c7⟩:=ob';rw[e2]at c1;cases c1;have x:∀{b o},H b=some o->¬P b->H' b=some o/\B' b=B b/\Q b≠none:=λ{b o} p hp=>⟨s1 _ _ (S p hp),old b o (S p hp),by rw[S p hp];exact ij _⟩
  have own:∀(D:Nat) (N:List T),(ρ.set j (.st (os.set n (k,fs'))))[D]?=some (Sl.ow N)->ρ[D]?=some (Sl.ow N):=λD N hw=>by
   rcases zt hw with ⟨_,z⟩|⟨_,z⟩
   ·cases z
   ·exact z
  have ok':∀b,yF ρ σ b->yF (ρ.set j _) σ b:=λb p D N hw=>p D N (own D N hw);have owP:∀{D N b xs},ρ[D]?=some (Sl.ow N)->σ[D]?=some (some (V.ref b))->H b=some (.lst xs)->¬P b:=λ{D N b xs} w1 w2 w3 hp=>by
   by_cases z:b=a
   ·rw[z,e3]at w3;cases w3
   ·obtain⟨_,_,_,_,_,q,_⟩:=lP b hp z;exact q D N w1 w2
  obtain⟨O2,hO1,hO2⟩:∃O2:Addr->Option (Nat×Nat),(∀b,Q b≠none->O2 b=O b)/\∀b m,Q b=none->O' b=some m->O2 b=some (n,m):=by
   refine⟨λb=>if Q b=none then (O' b).map λm=>(n,m)else O b,?_,?_⟩
   ·intro b p;exact if_neg p
   ·intro b m z1 z2;show (if Q b=none then (O' b).map λm=>(n,m)else O b)=_
    rw[if_pos z1,z2];rfl
  refine⟨I.s0,λb o p=>(x (I.sH b o p) (n0 b o p)).1,s3,λb o p=>?_,by rw[aw];exact I.len,λD u h=>?_,λD N h=>?_,λD c h=>?_,as,O2,s.pre,λi' os' h=>?_,λi1 i2 os1 os2 q1 q2=>?_,λi' k' n' h=>?_,λi' k' fs0 h=>?_,λi' os' h n' k' fs2 e=>?_⟩
  ·rw[(x (I.sH b o p) (n0 b o p)).2.1];exact I.old b o p
  ·rcases zt h with ⟨_,z⟩|⟨_,z⟩
   ·cases z
   ·obtain⟨v,y,G⟩:=I.vl D u z;exact⟨v,y,G.mono s2⟩
  ·have z:=own D N h;obtain⟨b,xs',y,G,y3,U,y5,X⟩:=I.ow D N z;obtain⟨w1,w2,_⟩:=x U (owP z y U);exact⟨b,xs',y,by rw[w2];exact G,y3,w1,y5.mono s2,λj2 J hj hw=>X j2 J hj (own j2 J hw)⟩
  ·rcases zt h with ⟨_,z⟩|⟨_,z⟩
   ·cases z
   ·obtain⟨b,y,G⟩:=I.xc D c z;exact⟨b,y,s2 _ _ G⟩
  ·rcases zt h with ⟨_,z⟩|⟨_,z⟩
   ·cases z;rw[aw];exact s.len j os h2
   ·exact s.len _ _ z
  ·have one:∀i1 os1,(ρ.set j (.st (os.set n (k,fs'))))[i1]?=some _->i1=j:=λi1 os1 q1=>by
    rcases zt q1 with ⟨e,_⟩|⟨_,z⟩
    ·exact e
    ·exact s.one i1 j os1 os z h2
   rw[one i1 os1 q1,one i2 os2 q2]
  ·rcases zt h with ⟨_,z⟩|⟨_,z⟩
   ·cases z
   ·obtain⟨b,C2,Z,J,y,G,y3,U,y5,X⟩:=s.ob i' k' n' z
    by_cases p:b=a
    ·subst p;rw[e3]at U;cases U;exact⟨b,_,dx',us,y,G,y3,c2,c3,X.1,c6.2⟩
    ·have hp:¬P b:=λhp=>by obtain⟨_,_,q,_⟩:=lP b hp p;rw[q]at U;cases U
     obtain⟨w1,w2,_⟩:=x U hp;exact⟨b,C2,Z,J,y,G,y3,w1,by rw[w2];exact y5,X⟩
  ·rcases zt h with ⟨_,z⟩|⟨_,z⟩
   ·cases z
   ·obtain⟨b,C2,Z,J,y,G,y3,U,y5⟩:=s.oc i' k' _ z;exact⟨b,C2,Z,J,y,G,y3,U,y5.mono s2 (zr.refl _)⟩
  ·rcases zt h with ⟨rfl,z⟩|⟨hne,z⟩
   ·cases z;rcases zt e with ⟨rfl,z⟩|⟨hn,z⟩
    ·cases z;refine⟨a,_,dx',us,e1,e2,c2,c3,e5,hO2 a 0 c4 c5,c6,λm f d z=>?_⟩;obtain⟨v,y,G⟩:=c7 m f d z;refine⟨v,y,?_⟩;cases d with
     |tv t=>exact G
     |tl ts=>
      obtain⟨l,xs,p1,p2,p3,p4,p5,p6⟩:=G;refine⟨l,xs,p1,p2,?_,p4,p5,λD N hw=>?_,hO2 l _ p3 p6⟩
      ·cases q:Y.H0 l with
       |none=>rfl
       |some o=>rw[S (I.sH l o q) (n0 l o q)]at p3;cases p3
      ·have w:=own D N hw;obtain⟨b,xs',q1,q2,q3,q4,_⟩:=I.ow D N w;rw[q1];intro z;injection z with z;injection z with z;injection z with z;exact(x q4 (owP w q1 q4)).2.2 (by rw[z];exact p3)
    ·obtain⟨b,C2,Z,J,y,G,y3,U,y5,X,y7,y8⟩:=s.st i' os h2 n' k' fs2 z;have p:b≠a:=λw=>by
      rw[w,e6]at X;injection X with X;injection X with X _;exact hn X.symm
     have hp:¬P b:=λhp=>by obtain⟨_,_,q,_⟩:=lP b hp p;rw[q]at y3;cases y3
     obtain⟨w1,w2,w3⟩:=x y3 hp;refine⟨b,C2,Z,J,y,G,w1,by rw[w2];exact U,y5,by rw[hO1 b w3];exact X,y7,λm' f' d' z=>?_⟩
     obtain⟨v',x1,x2⟩:=y8 m' f' d' z;refine⟨v',x1,?_⟩;cases d' with
     |tv t=>exact Rep.mono s2 x2
     |tl N=>
      obtain⟨l2,xs2,q1,q2,q3,q4,q5,q6,q7⟩:=x2;have hp:¬P l2:=λhp=>by
       by_cases z:l2=a
       ·rw[z,e3]at q4;cases q4
       ·obtain⟨m2,_,_,_,_,_,q⟩:=lP l2 hp z;rw[q]at q7;injection q7 with q7;injection q7 with q7 _;exact hn q7.symm
      obtain⟨w1,w2,w3⟩:=x q4 hp;exact⟨l2,xs2,q1,by rw[w2];exact q2,q3,w1,q5.mono s2,ok' l2 q6,by show O2 l2=_;rw[hO1 l2 w3];exact q7⟩
   ·exact absurd (s.one i' j os' os z h2) hne
end
def KN (k i j:Nat)(m:Str)(d:Nat)(g:List (Str×Fd)->List T->R (T×List (Str×Fd)))(a:En->R (List T)):En->R (T×En):=λρ=>match nE k i j ρ with
 |some (n,fs,os)=>if (fs.lookup m).isNone=true then (a ρ).bind λts=>if ts.length=d then (g fs ts).bind λp=>.ok (p.1,ρ.set j (.st (os.set n (k,p.2))))else .bad else .bad
 |none=>.bad
section
variable {X:Cx}{Y:Fx}{a e:Expr}{cl:Nat->Value}{k i j kk kj nn:Nat}{x m:Str}{px ap pos p':Pos}{C f:Addr}{fd:FuncData}{ps:List Str}{es:List Expr}{ga:En->R (List T)}{pl:Sem Bool}
def D1 {g:List (Str×Fd)->List T->R (T×List (Str×Fd))}(hv:PE X (.Name x px) (Jg i))(hy:Y.cl=cl)(hc:cl k=.ref C)(c:L2.Cls X.K C)(hm:L2.Meth X.K C m f)(F:ZX X.prog X.w X.K X.mg X.base (lH X.prog X.w) kj f fd ps (pN cl k nn g))(hr:Ze kk X.A)(hj:kj<=kk)(bd:L2.Binds X.K fd ps [])(hp:zS (lH X.prog X.w) X Y.E)(ha:JN X Y (a::es) ga)
  (G:starEach (a::es) X.env=(false,eval a X.env)::starEach es X.env:=by exact zC rfl) (D:((backTo pos (starEach es X.env)).any λx=>x.fst)=false:=by exact zX rfl)
  (ht:eval (.Call (.Attribute (.Name x px) m ap) (a::es) [] pos) X.env=(do
   let ov ←eval (.Name x px) X.env
   standAt ap.atName
   let (f,first) ←holding [ov] (getMethod ov m pl)
   callWith pos f first (backTo pos (starEach (a::es) X.env)) (backToKw pos (keywordEach [] X.env))):=by rfl):
  KM X Y (.Call (.Attribute (.Name x px) m ap) (a::es) [] pos) (KN k i j m nn g ga):=.mk λρ=>PE.imp (Ys hv c hm F (hr.mono hj) bd .nil hp (ha ρ) G D ht) λσ H Q zz=>by
 obtain⟨B,I,q⟩:=zz;unfold KN at q;split at q
 ·rename_i n fs os e;split at q
  ·rename_i hl;obtain⟨y,C',dx,vs,U,Z,e3,e4,al⟩:=I.obA e;subst hy;rw[hc]at Z;cases Z;have P:=qD e4 al (by simpa using hl)
   refine⟨.ref y,U,y,dx,vs,rfl,e3,P,?_⟩;refine F4 I q λts us H1 _ s1 r1 I1 l=>?_;split at l
   ·rename_i hn;rw[aW];obtain⟨H0,b1,b2,b3,b4,b5⟩:=I1.back e U;refine⟨y,us,ts,_,H0,fs,rfl,hn,b1,b2,b3,r1,?_⟩;revert l;cases g fs ts with
    |bad=>exact λl=>l
    |ex c2=>exact λl d o J u=>l d o (b4.trans J) u
    |ok p=>
     obtain⟨t,N⟩:=p;exact λl v o S J u z3 z4 z5 z6=>l v o S u (b5 o S N J u z3 z4 z5) z6
   ·exact l.elim
  ·exact q.elim
 ·exact q.elim
def oE (f:En->R (T×En)):En->RS:=λρ=>(f ρ).s λp=>.nx p.2
def EE {f:En->R (T×En)}(h:KM X Y e f)(d:swapsWith e none pos.line X.env=pure false:=by rfl):Jf X Y (.Expr e pos) (oE f):=.mk λρ=>PS.imp (Jh (h.go ρ) d) λD u H=>tSS.on λB I q=>⟨B,I,by
 unfold oE at q;revert q;cases f ρ with
 |bad=>exact λq=>q
 |ex c=>exact λq=>q
 |ok p=>exact λq v y l s o _=>q u y l s o⟩
end
section
variable {Y:Fx}{B:Hp}{ρ:En}{σ:Sg}{H:Hp}
def SI.made (I:SI Y B ρ σ H){i j k:Nat}{x:Addr}{os:List Ob}{fs:List (Str×Fd)}{B' H' H0:Hp}(h2:ρ[j]?=some (.st os))(hij:i≠j)(hi:i<ρ.length)(sH:zr H H0)(s1:zr H0 H')(s2:zr B B')(s3:zr B' H')(old:∀b o,H0 b=some o->B' b=B b)(ob:kN Y.cl k B' H0 H' x fs):
  SI Y B' ((ρ.set j (.st (os++[(k,fs)]))).set i (.ob k os.length)) (σ.set i (some (V.ref x))) H':=by
 classical
 obtain⟨as,O,s⟩:=I.st;obtain⟨C,dx,us,O',c1,c2,c3,c4,c5,c6,c7⟩:=ob;have hlen:=s.len j os h2;have p:∀{b o},H b=some o->H' b=some o/\B' b=B b/\H0 b≠none:=λ{b o} Q=>⟨s1 _ _ (sH _ _ Q),old b o (sH _ _ Q),by rw[sH _ _ Q];exact ij _⟩
 have get:∀{D:Nat} {y:Sl},((ρ.set j _).set i (.ob k os.length))[D]?=some y->(D=i/\y=.ob k os.length)\/(D≠i/\D=j/\y=.st (os++[(k,fs)]))\/(D≠i/\D≠j/\ρ[D]?=some y):=λ{D y} h=>by
  rcases zt h with ⟨a,b⟩|⟨a,b⟩
  ·exact .inl ⟨a,b⟩
  ·rcases zt b with ⟨c,d⟩|⟨c,d⟩
   ·exact .inr (.inl ⟨a,c,d⟩)
   ·exact .inr (.inr ⟨a,c,d⟩)
 have sg:∀{D:Nat},D≠i->(σ.set i (some (V.ref x)))[D]?=σ[D]?:=λ{D} h=>av (aY h);have own:∀{N:Nat} {X:List T},((ρ.set j _).set i (.ob k os.length))[N]?=some (Sl.ow X)->N≠i/\ρ[N]?=some (Sl.ow X):=λ{N X} hw=>by
  rcases get hw with ⟨_,z⟩|⟨_,_,z⟩|⟨a,_,z⟩
  ·cases z
  ·cases z
  ·exact⟨a,z⟩
 have ok':∀b,yF ρ σ b->yF _ _ b:=λb Q N X hw=>by
  obtain⟨h1,h2⟩:=own hw;rw[sg h1];exact Q N X h2
 obtain⟨O2,hO1,hO2⟩:∃O2:Addr->Option (Nat×Nat),(∀b,H0 b≠none->O2 b=O b)/\∀b m,H0 b=none->O' b=some m->O2 b=some (os.length,m):=by
  refine⟨λb=>if H0 b=none then (O' b).map λm=>(os.length,m)else O b,?_,?_⟩
  ·intro b Q;exact if_neg Q
  ·intro b m z1 z2;show (if H0 b=none then (O' b).map λm=>(os.length,m)else O b)=_
   rw[if_pos z1,z2];rfl
 have H0n:zr Y.H0 H0:=I.sH.trans sH;have asn:(as++[x])[os.length]?=some x:=by rw[aE 00,hlen,f_];rfl
 have aso:∀{Z:Nat} {b:Addr},as[Z]?=some b->(as++[x])[Z]?=some b:=λ{Z b} h=>by
  rw[aG (ak.mp h).1];exact h
 refine⟨I.s0,λb o Q=>(p (I.sH b o Q)).1,s3,λb o Q=>?_,by rw[aw,aw,aw];exact I.len,λN u h=>?_,λN X h=>?_,λN c h=>?_,as++[x],O2,s.pre.trans (List.prefix_append _ _),λD os' h=>?_,λi1 i2 U os2 q1 q2=>?_,λD k' Z h=>?_,λD k' fs0 h=>?_,λD os' h Z k' fs2 e=>?_⟩
 ·rw[(p (I.sH b o Q)).2.1];exact I.old b o Q
 ·rcases get h with ⟨_,z⟩|⟨_,_,z⟩|⟨a,_,z⟩
  ·cases z
  ·cases z
  ·obtain⟨v,P,J⟩:=I.vl N u z;exact⟨v,by rw[sg a];exact P,J.mono s2⟩
 ·obtain⟨a,z⟩:=own h;obtain⟨b,xs',P,J,y3,y4,y5,y6⟩:=I.ow N X z;obtain⟨w1,w2,_⟩:=p y4;refine⟨b,xs',by rw[sg a];exact P,by rw[w2];exact J,y3,w1,y5.mono s2,λj2 G hj hw=>?_⟩
  obtain⟨q1,q2⟩:=own hw;rw[sg q1];exact y6 j2 G hj q2
 ·rcases get h with ⟨_,z⟩|⟨_,_,z⟩|⟨a,_,z⟩
  ·cases z
  ·cases z
  ·obtain⟨b,P,J⟩:=I.xc N c z;exact⟨b,by rw[sg a];exact P,s2 _ _ J⟩
 ·rcases get h with ⟨_,z⟩|⟨_,_,z⟩|⟨_,nj,z⟩
  ·cases z
  ·cases z;rw[aB,aB,hlen];rfl
  ·exact absurd (s.one D j os' os z h2) nj
 ·have one:∀i1 U,((ρ.set j _).set i _)[i1]?=some (Sl.st U)->i1=j:=λi1 U q1=>by
   rcases get q1 with ⟨_,z⟩|⟨_,e,_⟩|⟨_,nj,z⟩
   ·cases z
   ·exact e
   ·exact s.one i1 j U os z h2
  rw[one i1 U q1,one i2 os2 q2]
 ·rcases get h with ⟨e,z⟩|⟨_,_,z⟩|⟨a,_,z⟩
  ·cases z;subst e;refine⟨x,C,dx,us,asn,aH (by rw[←I.len];exact hi),c1,c2,c3,?_,c6.2⟩
   cases q:Y.H0 x with
   |none=>rfl
   |some o=>rw[H0n _ _ q]at c4;cases c4
  ·cases z
  ·obtain⟨b,C2,S,G,P,J,y3,y4,y5,y6⟩:=s.ob D k' Z z;obtain⟨w1,w2,_⟩:=p y4;exact⟨b,C2,S,G,aso P,by rw[sg a];exact J,y3,w1,by rw[w2];exact y5,y6⟩
 ·rcases get h with ⟨_,z⟩|⟨_,_,z⟩|⟨a,_,z⟩
  ·cases z
  ·cases z
  ·obtain⟨b,C2,S,G,P,J,y3,y4,y5⟩:=s.oc D k' _ z;exact⟨b,C2,S,G,by rw[sg a];exact P,J,y3,y4,y5.mono s2 (zr.refl _)⟩
 ·rcases get h with ⟨_,z⟩|⟨_,ej,z⟩|⟨_,nj,z⟩
  ·cases z
  ·cases z
   by_cases hn:Z<os.length
   ·rw[aG hn]at e;obtain⟨b,C2,S,G,P,J,y3,y4,y5,y6,y7,y8⟩:=s.st j os h2 Z k' fs2 e;obtain⟨w1,w2,w3⟩:=p y3;refine⟨b,C2,S,G,aso P,J,w1,by rw[w2];exact y4,y5,by rw[hO1 b w3];exact y6,y7,λm' f' d' z=>?_⟩
    obtain⟨v',x1,x2⟩:=y8 m' f' d' z;refine⟨v',x1,?_⟩;cases d' with
    |tv t=>exact Rep.mono s2 x2
    |tl X=>
     obtain⟨l2,xs2,q1,q2,q3,q4,q5,q6,q7⟩:=x2;obtain⟨w1,w2,w3⟩:=p q4;exact⟨l2,xs2,q1,by rw[w2];exact q2,q3,w1,q5.mono s2,ok' l2 q6,by show O2 l2=_;rw[hO1 l2 w3];exact q7⟩
   ·rw[aE (Nat.not_lt.mp hn)]at e;have hn':Z=os.length:=by
     cases q:Z-os.length with
     |zero=>lia
     |succ r=>rw[q]at e;cases e
    subst hn';rw[f_]at e;cases e;have h0x:Y.H0 x=none:=by
     cases q:Y.H0 x with
     |none=>rfl
     |some o=>rw[H0n _ _ q]at c4;cases c4
    refine⟨x,C,dx,us,asn,c1,c2,c3,h0x,hO2 x 0 c4 c5,c6,λm f d z=>?_⟩;obtain⟨v,P,J⟩:=c7 m f d z;refine⟨v,P,?_⟩;cases d with
    |tv t=>exact J
    |tl ts=>
     obtain⟨l,xs,p1,p2,p3,p4,p5,p6⟩:=J;refine⟨l,xs,p1,p2,?_,p4,p5,λN X hw=>?_,hO2 l _ p3 p6⟩
     ·cases q:Y.H0 l with
      |none=>rfl
      |some o=>rw[H0n _ _ q]at p3;cases p3
     ·obtain⟨hj',w⟩:=own hw;obtain⟨b,xs',q1,q2,q3,q4,_⟩:=I.ow N X w;rw[sg hj',q1];intro z;injection z with z;injection z with z;injection z with z;exact(p q4).2.2 (by rw[z];exact p3)
  ·exact absurd (s.one D j os' os z h2) nj
end
def Ae (cl:Nat->Value)(k p n:Nat)(g:List (Str×Fd)->List T->R T):Sp:=λvs H Q E=>∃(x C l:Addr) (j:List (Str×V)) (f i:List V) (a d:List T) (B:Hp) (fs:List (Str×Fd)),vs=f++ .ref x::i/\a.length=p/\(a++d).length=n/\cl k=.ref C/\H x=some (.ins C l j)/\nL j/\FsO B H j fs/\zr B H/\zK B f a/\zK B i d/\Po ⟨B,H,E,cl,[]⟩ rC B H (g fs (a++d)) Q
def nF (k m:Nat)(fs:List (Str×Fd))(a d:List T):En:=a.map Sl.vl++(.oc k fs::(d.map Sl.vl++ac m .un))
def qG {k m:Nat}{fs:List (Str×Fd)}{a d:List T}{i:Nat}{s:Sl}(h:(nF k m fs a d)[i]?=some s):(i=a.length/\s=.oc k fs)\/(∃t,a[i]?=some t/\s=.vl t)\/(∃l t,i=a.length+1+l/\d[l]?=some t/\s=.vl t)\/s=.un:=by
 unfold nF at h
 by_cases j:i<a.length
 ·rw[aG (by simpa using j),aj,am j]at h
  exact .inr (.inl ⟨_,am j,(aA h).symm⟩)
 ·obtain⟨q,o⟩:∃q,i=a.length+q:=⟨i-a.length,by lia⟩
  rw[aE (by simpa using j),ah,o,fN]at h
  cases q with
  |zero=>exact .inl ⟨o,(aA h).symm⟩
  |succ q=>
   rw[bg]at h
   by_cases f:q<d.length
   ·rw[aG (by simpa using f),aj,am f]at h
    exact .inr (.inr (.inl ⟨q,_,by lia,am f,(aA h).symm⟩))
   ·rw[aE (by simpa using f),aF]at h
    split at h
    ·exact .inr (.inr (.inr (aA h).symm))
    ·cases h
def SI.startO {cl:Nat->Value}{k m:Nat}{B H:Hp}{x C P:Addr}{p:List (Str×V)}{fs:List (Str×Fd)}{E:XK}{f j:List V}{a d:List T}{N:List Str}(hN:N.length=(a++d).length+1+m)(Q:zr B H)(U:cl k=.ref C)(hx:H x=some (.ins C P p))(hi:nL p)(hf:FsO B H p fs)(G:zK B f a)(I:zK B j d):
  SI ⟨B,H,E,cl,[]⟩ B (nF k m fs a d) (L2.start N (f++ .ref x::j)) H:=by
 have o:=G.length;have l2:=I.length;have nY:(L2.start N (f++ .ref x::j))[a.length]?=some (some (V.ref x)):=by
  unfold L2.start;rw[c9,bj,aE (by simp[o]),ah,o,f_];rfl
 refine⟨Q,zr.refl _,Q,λ_ _ _=>rfl,?_,λi t h=>?_,λi t h=>?_,λi t h=>?_,[],λ_=>none,cJ _,λi os h=>?_,λi _ os _ h=>?_,λi S n h=>?_,λi S Z h=>?_,λi os h=>?_⟩
 ·unfold nF L2.start;simp only[aB,ax,ah,aS]at hN⊢;lia
 ·rcases qG h with ⟨_,e⟩|⟨t',y,D⟩|⟨J,t',X,y,D⟩|e
  ·cases e
  ·cases D;obtain⟨v,l,u⟩:=G.at y;refine⟨v,?_,u⟩;have hi:=(ak.mp l).1;unfold L2.start;rw[c9,bj,aG (by simpa using hi),aj,l];rfl
  ·cases D;obtain⟨v,l,u⟩:=I.at y;refine⟨v,?_,u⟩;have hi:=(ak.mp l).1;unfold L2.start;rw[X,c9,bj,aE (by simp[o];lia),ah,o,show a.length+1+J-a.length=J+1 by lia,aK,du,bg,aG (by simpa using hi),aj,l];rfl
  ·cases e
 all_goals (rcases qG h with ⟨e0,e⟩|⟨_,_,e⟩|⟨_,_,_,_,e⟩|e<;>try (cases e;done))
 cases e;subst e0;exact⟨x,C,P,p,nY,U,hx,hi,hf⟩
def SI.st0 {Y:Fx}{B:Hp}{ρ:En}{l:Sg}{H:Hp}(I:SI Y B ρ l H)(S:Y.as=[])(d:∀(i:Nat) (s:Sl),s.isO=true->ρ[i]?≠some s)(j:Nat):SI Y B (ρ.set j (.st [])) l H where
 s0:=I.s0
 sH:=I.sH
 sB:=I.sB
 old:=I.old
 len:=by rw[aw];exact I.len
 vl:=λi t h=>by
  rcases zt h with ⟨_,z⟩|⟨_,z⟩
  ·cases z
  ·exact I.vl i t z
 ow:=λi ts h=>by
  rcases zt h with ⟨_,z⟩|⟨_,z⟩
  ·cases z
  ·obtain⟨a,xs,p,x,G,J,D,Q⟩:=I.ow i ts z;refine⟨a,xs,p,x,G,J,D,λP N v o=>?_⟩;rcases zt o with ⟨_,z⟩|⟨_,z⟩
   ·cases z
   ·exact Q P N v z
 xc:=λi t h=>by
  rcases zt h with ⟨_,z⟩|⟨_,z⟩
  ·cases z
  ·exact I.xc i t z
 st:=by
  have one:∀i os,(ρ.set j (.st []))[i]?=some (Sl.st os)->i=j/\os=[]:=λi os h=>by
   rcases zt h with ⟨e,z⟩|⟨_,z⟩
   ·cases z;exact⟨e,rfl⟩
   ·exact(d i _ rfl z).elim
  refine⟨[],λ_=>none,by rw[S];exact cJ _,λi os h=>by rw[(one i os h).2];rfl,λi y os f h h'=>by rw[(one i os h).1,(one y f h').1],λi k n h=>?_,λi k u h=>?_,λi os h n k fs e=>?_⟩
  ·rcases zt h with ⟨_,z⟩|⟨_,z⟩
   ·cases z
   ·exact(d i _ rfl z).elim
  ·rcases zt h with ⟨_,z⟩|⟨_,z⟩
   ·cases z
   ·exact(d i _ rfl z).elim
  ·rw[(one i os h).2]at e;simp at e
def sP (n:Nat)(ts:List T):En:=(i4 n ts).set (n-1) (.st [])
def SI.startS {Y:Fx}{N:List Str}{vs:List V}{ts:List T}(s:zr Y.B0 Y.H0)(r:zK Y.B0 vs ts)(d:Y.as=[]):SI Y Y.B0 (sP N.length ts) (L2.start N vs) Y.H0:=
 (SI.start s r).st0 d (λi s a h=>U2 (λt z=>by rw[z]at a;cases a) (λz=>by rw[z]at a;cases a) h) _
section
variable {P:Program}{w:World}{K:aa}{mg:Str->Option Value}{base:Heap}
def Ff {cl:Nat->Value}{x d:Str}{st:Stmt}{f:Addr}{fd:FuncData}{N D:List Str}{k p n m Z:Nat}{G:En->RS}(F:Fun K x d st f fd)(S:Zk N D (zq st))(hn:D.length=n+1)(hN:N.length=n+1+m)
  (hb:∀(cdv:Value) (A:Around) (outer:List Env) (s:Shared) (H:Hp) (E:XK) (Y:Fx),Y.cl=cl->Y.E=E->Ze Z (A.deeper (envOfC d (zq st) s.1.1.size f cdv))->
   Jn (jc (lH P w) P w K mg base N d (zq st) f cdv A outer s H E) Y (zH st) G):ZX P w K mg base (lH P w) (Z+1) f fd D (Ae cl k p n λfs ts=>zx (G (nF k m fs (ts.take p) (ts.drop p)))):=by
 refine Fun.okX F S (λvs H Q E z=>?_) λcdv A outer s H vs Q E hr z=>?_
 ·obtain⟨x,C,dx,us,U,I,j,i,B,fs,e,y,o,_,_,_,_,_,J,X,_⟩:=z;rw[e,aB,ax,J.length,X.length,hn,←o,aB];rfl
 obtain⟨x,C,dx,us,U,I,j,i,B,fs,e,y,o,hc,hx,hi,hf,sB,J,X,q⟩:=z;subst e;have e1:(j++i).take p=j:=by rw[←y];simp
 have e2:(j++i).drop p=i:=by rw[←y];simp
 refine⟨_,hb cdv A _ s H E _ rfl rfl hr _,B,SI.startO (by rw[hN,o]) sB hc hx hi hf J X,?_⟩
 have q:Po _ rC B H (zx _) Q:=q;rw[e1,e2]at q;revert q;cases G _ with
 |rt t=>exact λq v u s r=>q v u s r
 |rf t=>exact λq a xs u B' s0 n e r _ l=>q _ u s0 (.lst (by rw[zD n];exact e) (r.mono l))
 |nx ρ=>exact λq σ' u B' s' I'=>q _ u I'.sH .non
 |bk ρ=>exact λq=>q.elim
 |ct ρ=>exact λq=>q.elim
 |ex c=>exact λq=>q
 |bad=>exact λq=>q
end
section
variable {X:Cx}{Y:Fx}{a b:Expr}{cl:Nat->Value}{k i j kk kj nn:Nat}{x m:Str}{px ap p pos p':Pos}{C f:Addr}{fd:FuncData}{ps:List Str}{es:List Expr}{ga:En->R (List T)}{pl:Sem Bool}
def obL (k i j:Nat)(ρ:En):Option (List (Str×Fd)):=match ρ[i]? with
 |some (.oc d fs)=>if d=k then some fs else none
 |_=>(nE k i j ρ).map λx=>x.2.1
theorem SI.obL {B:Hp}{ρ:En}{G:Sg}{H:Hp}(I:SI Y B ρ G H){fs:List (Str×Fd)}(h:obL k i j ρ=some fs):∃a C o vs,G[i]?=some (some (V.ref a))/\Y.cl k=.ref C/\H a=some (.ins C o vs)/\nL vs/\FsO B H vs fs:=by
 unfold PV.obL at h;obtain⟨as,O,s⟩:=I.st;split at h
 ·rename_i k' fs' e;split at h
  ·rename_i S;subst S;cases h;obtain⟨a,C,o,vs,u,y,D,P,N⟩:=s.oc i _ _ e;exact⟨a,C,o,vs,u,y,I.sH _ _ D,P,N.mono (zr.refl _) I.sH⟩
  ·cases h
 ·cases e:nE k i j ρ with
  |none=>rw[e]at h;cases h
  |some x=>
   obtain⟨n,fs',os⟩:=x;rw[e]at h;cases h;obtain⟨h1,Z,U⟩:=UK e;obtain⟨a,C,o,vs,u,y,D,P,N,e6,e7,e8⟩:=s.st j os Z n k _ U;obtain⟨a',C',dx',vs',J,g2,_⟩:=s.ob i k n h1;rw[u]at J;cases J;refine⟨a,C,o,vs,g2,y,D,e7.2,λm f d z=>?_⟩;obtain⟨v,z1,Q⟩:=e8 m f d z;refine⟨v,z1,?_⟩;cases d with
   |tv t=>exact Q
   |tl ts=>obtain⟨l,xs,p1,_,_,p4,p5,_⟩:=Q;exact⟨l,xs,p1,p4,p5⟩
def yN (k i j:Nat)(f:Str):En->R T:=λρ=>match obL k i j ρ with
 |some fs=>(match fs.lookup f with
  |some (.tv t)=>.ok t
  |_=>.bad)
 |none=>.bad
def HS (u:PE X (.Name x px) (Jg i))(D:Y.cl k=.ref C)(c:L2.Cls X.K C)(n:L2.NoAttr X.K C m)(hb:attributeBase (.Name x px) m X.env (eval (.Name x px) X.env)=eval (.Name x px) X.env:=by rfl):Snd X Y (.Attribute (.Name x px) m pos) (yN k i j m):=.mk λρ=>PE.imp (gF u hb) λσ H Q=>tS.on λB I q=>by
 unfold yN at q;split at q
 ·rename_i fs e;split at q
  ·rename_i t U;obtain⟨a,C',N,vs,J,d,S,e4,o⟩:=I.obL e;rw[D]at d;cases d;obtain⟨y,v,P,Z,z3⟩:=qB (λm g e G=>let ⟨v,z,_⟩:=o m g e G;⟨v,z⟩) U;obtain⟨v',l,y2⟩:=o y _ _ P;rw[Z]at l;cases l;exact⟨.ref a,J,a,C,N,vs,v,rfl,S,c,n,z3,lW I.sB q rfl y2⟩
  ·exact q.elim
 ·exact q.elim
def CM {B H:Hp}{I0:Hp}{r:R T}{Q:VK}(s:zr Y.H0 H)(q:Po Y rC B H r Q):Po ⟨B,H,Y.E,Y.cl,[]⟩ rC B H r Q:=by
 cases r with
 |bad=>exact q
 |ex c=>exact λd l o u=>q d l (s.trans o) u
 |ok t=>exact q
def JQ (k i j nn:Nat)(g:List (Str×Fd)->List T->R T)(ga:En->R (List T)):En->R T:=λρ=>match obL k i j ρ with
 |some fs=>(ga ρ).bind λts=>if ts.length=nn then g fs ts else .bad
 |none=>.bad
def z3b {g:List (Str×Fd)->List T->R T}(Z:PE X (.Name x px) (Jg i))(hy:Y.cl=cl)(D:cl k=.ref C)(c:L2.Cls X.K C)(hm:L2.Meth X.K C m f)(F:ZX X.prog X.w X.K X.mg X.base (lH X.prog X.w) kj f fd ps (Ae cl k 0 nn g))(hr:Ze kk X.A)(hj:kj<=kk)(bd:L2.Binds X.K fd ps [])(hp:zS (lH X.prog X.w) X Y.E)(ha:JN X Y (a::es) ga)(u:m∉KK:=by decide)
  (v:starEach (a::es) X.env=(false,eval a X.env)::starEach es X.env:=by exact zC rfl) (o:((backTo pos (starEach es X.env)).any λx=>x.fst)=false:=by exact zX rfl)
  (ht:eval (.Call (.Attribute (.Name x px) m ap) (a::es) [] pos) X.env=(do
   let ov ←eval (.Name x px) X.env
   standAt ap.atName
   let (f,first) ←holding [ov] (getMethod ov m pl)
   callWith pos f first (backTo pos (starEach (a::es) X.env)) (backToKw pos (keywordEach [] X.env))):=by rfl):
  Snd X Y (.Call (.Attribute (.Name x px) m ap) (a::es) [] pos) (JQ k i j nn g ga):=.mk λρ=>PE.imp (Ys Z c hm F (hr.mono hj) bd .nil hp (ha ρ) v o ht) λσ H Q=>tS.on λB I q=>by
 unfold JQ at q;split at q
 ·rename_i fs e;obtain⟨d,C',J,vs,e1,G,N,P,e5⟩:=I.obL e;subst hy;rw[D]at G;cases G;refine⟨.ref d,e1,d,J,vs,rfl,N,P m u,?_⟩;refine step I q λts us H1 _ y U S l=>?_;split at l
  ·rename_i hn;rw[aW];exact⟨d,C,J,vs,[],us,[],ts,_,fs,rfl,rfl,hn,D,y _ _ N,P,e5.mono (zN.ge I.sB y) y,S.sB,.nil,U,CM (I0:=H) S.sH l⟩
  ·exact l.elim
 ·exact q.elim
def Vr {g:List (Str×Fd)->List T->R T}(G:PE X (.Name x px) (Jg i))(hy:Y.cl=cl)(o:cl k=.ref C)(c:L2.Cls X.K C)(N:L2.Meth X.K C m f)(F:ZX X.prog X.w X.K X.mg X.base (lH X.prog X.w) kj f fd ps (Ae cl k 0 0 g))(hr:Ze kk X.A)(S:kj<=kk)(bd:L2.Binds X.K fd ps [])(hp:zS (lH X.prog X.w) X Y.E)(l:m∉KK:=by decide)
  (U:eval (.Call (.Attribute (.Name x px) m ap) [] [] pos) X.env=(do
   let ov ←eval (.Name x px) X.env
   standAt ap.atName
   let (f,first) ←holding [ov] (getMethod ov m pl)
   callWith pos f first (backTo pos (starEach [] X.env)) (backToKw pos (keywordEach [] X.env))):=by rfl):
  Snd X Y (.Call (.Attribute (.Name x px) m ap) [] [] pos) (JQ k i j 0 g zj):=.mk λρ=>PE.imp (vI G c N F (hr.mono S) bd .nil hp U) λZ H Q=>tS.on λB I q=>by
 unfold JQ at q;split at q
 ·rename_i fs e;obtain⟨d,C',D,vs,P,y,u,v,J⟩:=I.obL e;subst hy;rw[o]at y;cases y;exact⟨.ref d,P,d,D,vs,rfl,u,v m l,d,C,D,vs,[],[],[],[],_,fs,rfl,rfl,rfl,o,u,v,J,I.sB,.nil,.nil,CM (I0:=H) I.sH q⟩
 ·exact q.elim
def tO (f:En->R (T×En)):En->RS:=λρ=>(f ρ).s λp=>.rt p.1
def FH {f:En->R (T×En)}(h:KM X Y a f):Jf X Y (.Return (some a) pos) (tO f):=.mk λρ=>PS.imp (JC (h.go ρ)) λD u H=>tSS.on λB I q=>⟨B,I,by
 unfold tO at q;revert q;cases f ρ with
 |bad=>exact λq=>q
 |ex c=>exact λq=>q
 |ok p=>
  intro q v l o s d r;exact q v l d.sH (r.mono (by have:=YO d.sH d.old (zr.refl l) d.sB;rw[zN.self _ _ d.sB]at this;exact this))⟩
end
end PV
namespace PV
open PySem PySem.Spec PyProof.Rows L2
structure Fn (K:aa) (mg:Str->Option Value) (x:Str) (st:Stmt) (ps:List Str) (f:Addr) (fd:FuncData):Prop where
 F:Fun K x x st f fd
 b:L2.Binds K fd ps []
 m:mg x=some (.ref f)
structure oo (K:aa) (x qual:Str) (st:Stmt) (ps:List Str) (f:Addr) (fd:FuncData) (C:Addr):Prop where
 F:Fun K x qual st f fd
 b:L2.Binds K fd ps []
 m:L2.Meth K C x f
noncomputable abbrev FE (K:aa)(mg:Str->Option Value)(x:Str)(st:Stmt)(ps:List Str):Prop:=∃f fd,Fn K mg x st ps f fd
noncomputable abbrev FM (K:aa)(cl:Nat->Value)(c:Nat)(x:Str)(st:Stmt)(ps:List Str):Prop:=∃C qual f fd,cl c=.ref C/\oo K x qual st ps f fd C
noncomputable abbrev FI (K:aa)(mg:Str->Option Value)(cl:Nat->Value)(c:Nat)(y:Str)(st:Stmt)(ps:List Str):Prop:=∃C qual f fd,cl c=.ref C/\mg y=some (.ref C)/\L2.Mk K C f/\oo K "__init__" qual st ps f fd C
structure Zz where
 P:Program
 w:World
 K:aa
 mg:Str->Option Value
 base:Heap
 cl:Nat->Value
structure QQ (x:Str) (CX:mP) (k:Nat) (sp:Sp) (Z:Zz):Prop where
 ex:∃st ps f fd,Fn Z.K Z.mg x st ps f fd/\ZX Z.P Z.w Z.K Z.mg Z.base CX k f fd ps sp
structure CA (c:Nat) (as:List Str) (K:aa) (cl:Nat->Value):Prop where
 ex:∃C,cl c=.ref C/\L2.Cls K C/\∀f,as.contains f=true->L2.NoAttr K C f
structure QM (x:Str) (c k:Nat) (sp:Sp) (Z:Zz):Prop where
 ex:∃C qual st ps f fd,Z.cl c=.ref C/\L2.Cls Z.K C/\oo Z.K x qual st ps f fd C/\ZX Z.P Z.w Z.K Z.mg Z.base (lH Z.P Z.w) k f fd ps sp
structure QI (y:Str) (c k:Nat) (sp:Sp) (Z:Zz):Prop where
 ex:∃C qual st ps f fd,Z.cl c=.ref C/\Z.mg y=some (.ref C)/\L2.Mk Z.K C f/\oo Z.K "__init__" qual st ps f fd C/\ZX Z.P Z.w Z.K Z.mg Z.base (lH Z.P Z.w) k f fd ps sp
abbrev qP (Z:Zz)(x:Str)(n k:Nat)(c:List T->R T):Prop:=QQ x mM k (spP Z.cl n c) Z
abbrev qX (Z:Zz)(x:Str)(n k:Nat)(c:List T->R T):Prop:=QQ x (lH Z.P Z.w) k (spP Z.cl n c) Z
abbrev qF (Z:Zz)(x:Str)(n k:Nat)(c:List T->R T):Prop:=QQ x (lH Z.P Z.w) k (spF Z.cl n c) Z
abbrev qC (Z:Zz)(x:Str)(k:Nat)(c:Nat->R T):Prop:=QQ x mM k (rc Z.cl c) Z
abbrev qM (Z:Zz)(c:Nat)(x:Str)(n k:Nat)(g:List (Str×Fd)->List T->R (T×List (Str×Fd))):Prop:=QM x c k (pN Z.cl c n g) Z
abbrev qO (Z:Zz)(c:Nat)(x:Str)(n k:Nat)(g:List (Str×Fd)->List T->R T):Prop:=QM x c k (Ae Z.cl c 0 n g) Z
abbrev qI (Z:Zz)(c:Nat)(x:Str)(n k:Nat)(g:List (Str×Fd)->List T->R (T×List (Str×Fd))):Prop:=QI x c k (pN Z.cl c n g) Z
def oP (m:Nat)(b:En->RS):List T->R T:=λts=>zx (b (i4 m ts))
def oS (m:Nat)(b:En->RS):List T->R T:=λts=>zx (b (sP m ts))
def oC (m:Nat)(b:En->RS):Nat->R T:=λc=>zx (b (nJ m c))
def oM (k j:Nat)(b:En->R (T×En)):List (Str×Fd)->List T->R (T×List (Str×Fd)):=λfs ts=>kQ k j (b (nZ k j fs ts))
def oO (k m p:Nat)(b:En->RS):List (Str×Fd)->List T->R T:=λfs ts=>zx (b (nF k m fs (ts.take p) (ts.drop p)))
section
variable {P:Program}{w:World}{K:aa}{mg:Str->Option Value}{base:Heap}{cl:Nat->Value}{x:Str}{CX:mP}{k c:Nat}{sp:Sp}{G:Prop}{as:List Str}
def QQ.go (O:QQ x CX k sp ⟨P,w,K,mg,base,cl⟩)(h:∀st a f d,Fn K mg x st a f d->ZX P w K mg base CX k f d a sp->G):G:=by
 obtain⟨⟨st,a,f,d,C,F⟩⟩:=O;exact h st a f d C F
def QM.go (O:QM x c k sp ⟨P,w,K,mg,base,cl⟩)(h:∀C q st a f d,cl c=.ref C->L2.Cls K C->oo K x q st a f d C->ZX P w K mg base (lH P w) k f d a sp->G):G:=by
 obtain⟨⟨C,q,st,a,f,d,e,c,M,F⟩⟩:=O;exact h C q st a f d e c M F
def QI.go (O:QI x c k sp ⟨P,w,K,mg,base,cl⟩)(h:∀C q st a f d,cl c=.ref C->mg x=some (.ref C)->L2.Mk K C f->oo K "__init__" q st a f d C->ZX P w K mg base (lH P w) k f d a sp->G):G:=by
 obtain⟨⟨C,q,st,a,f,d,e,g,M,O,F⟩⟩:=O;exact h C q st a f d e g M O F
def CA.go (A:CA c as K cl)(h:∀C,cl c=.ref C->L2.Cls K C->(∀f,as.contains f=true->L2.NoAttr K C f)->G):G:=by
 obtain⟨⟨C,e,c,n⟩⟩:=A;exact h C e c n
end
section
variable {Z:Zz}{x y:Str}{st:Stmt}{ps:List Str}{c k n m j:Nat}{fb:En->RS}{fm:En->R (T×En)}
abbrev Sc (N ps:List Str)(st:Stmt):Prop:=Zk N ps (zq st)
def lU (C:FE Z.K Z.mg x st ps)(N:List Str) (d:∀(f:Addr) (cdv:Value) (A:Around) (outer:List Env) (s:Shared) (H:Hp) (E:XK) (Y:Fx),Y.cl=Z.cl->True->Ze k (A.deeper (envOfC x (zq st) s.1.1.size f cdv))->N.Nodup->True->
   Jn (jc mM Z.P Z.w Z.K Z.mg Z.base N x (zq st) f cdv A outer s H E).nox Y (zH st) fb)
  (S:Sc N ps st:=by refine⟨rfl,rfl,rfl,?_,rfl,?_,?_⟩<;>decide+kernel) (hn:n=ps.length:=by rfl) (a:m=N.length:=by rfl):qP Z x n (k+1) (oP m fb):=by
 obtain⟨f,i,C⟩:=C;subst a;exact⟨_,_,f,i,C,Hi C.F S hn (λcdv A outer s H E Y hy hr=>d f cdv A outer s H E Y hy trivial hr S.nd trivial) λ_ _=>rfl⟩
def nC (C:FE Z.K Z.mg x st ps)(N:List Str) (d:∀(f:Addr) (cdv:Value) (A:Around) (outer:List Env) (s:Shared) (H:Hp) (E:XK) (Y:Fx),Y.cl=Z.cl->Y.E=E->Ze k (A.deeper (envOfC x (zq st) s.1.1.size f cdv))->N.Nodup->zS (lH Z.P Z.w) (jc (lH Z.P Z.w) Z.P Z.w Z.K Z.mg Z.base N x (zq st) f cdv A outer s H E) Y.E->
   Jn (jc (lH Z.P Z.w) Z.P Z.w Z.K Z.mg Z.base N x (zq st) f cdv A outer s H E) Y (zH st) fb)
  (S:Sc N ps st:=by refine⟨rfl,rfl,rfl,?_,rfl,?_,?_⟩<;>decide+kernel) (hn:n=ps.length:=by rfl) (a:m=N.length:=by rfl):qX Z x n (k+1) (oP m fb):=by
 obtain⟨f,i,C⟩:=C;subst a;exact⟨_,_,f,i,C,GD C.F S hn (λcdv A outer s H E Y hy hE hr=>d f cdv A outer s H E Y hy hE hr S.nd (hE▸ug)) λ_ _=>rfl⟩
def og (C:FE Z.K Z.mg x st ps)(N:List Str)(a:W9 fb) (i:∀(f:Addr) (cdv:Value) (A:Around) (outer:List Env) (s:Shared) (H:Hp) (E:XK) (Y:Fx),Y.cl=Z.cl->Y.E=E->Ze k (A.deeper (envOfC x (zq st) s.1.1.size f cdv))->N.Nodup->zS (lH Z.P Z.w) (jc (lH Z.P Z.w) Z.P Z.w Z.K Z.mg Z.base N x (zq st) f cdv A outer s H E) Y.E->
   Jn (jc (lH Z.P Z.w) Z.P Z.w Z.K Z.mg Z.base N x (zq st) f cdv A outer s H E) Y (zH st) fb)
  (S:Sc N ps st:=by refine⟨rfl,rfl,rfl,?_,rfl,?_,?_⟩<;>decide+kernel) (hn:n=ps.length:=by rfl) (d:m=N.length:=by rfl):qF Z x n (k+1) (oP m fb):=by
 obtain⟨f,l,C⟩:=C;subst d;exact⟨_,_,f,l,C,kB C.F S hn (λcdv A outer s H E Y hy hE hr=>i f cdv A outer s H E Y hy hE hr S.nd (hE▸ug)) (λ_ _=>rfl) a⟩
def Hm {q:Str}(C:FE Z.K Z.mg x st [q])(N:List Str) (i:∀(f:Addr) (cdv:Value) (A:Around) (outer:List Env) (s:Shared) (H:Hp) (E:XK) (Y:Fx),Y.cl=Z.cl->True->Ze k (A.deeper (envOfC x (zq st) s.1.1.size f cdv))->N.Nodup->True->
   Jn (jc mM Z.P Z.w Z.K Z.mg Z.base N x (zq st) f cdv A outer s H E).nox Y (zH st) fb)
  (S:Sc N [q] st:=by refine⟨rfl,rfl,rfl,?_,rfl,?_,?_⟩<;>decide+kernel) (d:1<=N.length:=by decide) (a:m=N.length:=by rfl):qC Z x (k+1) (oC m fb):=by
 obtain⟨f,l,C⟩:=C;subst a;exact⟨_,_,f,l,C,GH C.F S d (λcdv A outer s H E Y hy hr=>i f cdv A outer s H E Y hy trivial hr S.nd trivial) λ_=>rfl⟩
abbrev BM (Z:Zz)(k:Nat)(qual:Str)(st:Stmt)(N:List Str)(G:Cx->Fx->Prop):Prop:=∀(f:Addr) (cdv:Value) (A:Around) (outer:List Env) (s:Shared) (H:Hp) (E:XK) (Y:Fx),Y.cl=Z.cl->Y.E=E->Ze k (A.deeper (envOfC qual (zq st) s.1.1.size f cdv))->N.Nodup->zS (lH Z.P Z.w) (jc (lH Z.P Z.w) Z.P Z.w Z.K Z.mg Z.base N qual (zq st) f cdv A outer s H E) Y.E->
   G (jc (lH Z.P Z.w) Z.P Z.w Z.K Z.mg Z.base N qual (zq st) f cdv A outer s H E) Y
variable {as:List Str}
def FX (ca:CA c as Z.K Z.cl)(C:FM Z.K Z.cl c x st ps)(N:List Str)(o:∀q,BM Z k q st N λX Y=>kO X Y (zH st) fm)
  (S:Sc N ps st:=by refine⟨rfl,rfl,rfl,?_,rfl,?_,?_⟩<;>decide+kernel) (hn:ps.length=n+1:=by rfl) (i:N.length=j+1:=by rfl) (l:n+1<=j:=by decide):qM Z c x n (k+1) (oM c j fm):=by
 obtain⟨C,q,f,d,e,M⟩:=C;obtain⟨p,a,cl,_⟩:=ca;rw[e]at a;cases a;exact⟨C,q,_,_,f,d,e,cl,M,xL M.F S hn i l λcdv A outer s H E Y hy hE hr=>o q f cdv A outer s H E Y hy hE hr S.nd (hE▸ug)⟩
def B9 (ca:CA c as Z.K Z.cl)(C:FM Z.K Z.cl c x st ps)(N:List Str)(l:∀q,BM Z k q st N λX Y=>Jn X Y (zH st) fb)
  (S:Sc N ps st:=by refine⟨rfl,rfl,rfl,?_,rfl,?_,?_⟩<;>decide+kernel) (hn:ps.length=n+1:=by rfl) (i:N.length=n+1+m:=by rfl):qO Z c x n (k+1) (oO c m 0 fb):=by
 obtain⟨C,q,f,d,e,M⟩:=C;obtain⟨o,a,cl,_⟩:=ca;rw[e]at a;cases a;exact⟨C,q,_,_,f,d,e,cl,M,Ff M.F S hn i λcdv A outer s H E Y hy hE hr=>l q f cdv A outer s H E Y hy hE hr S.nd (hE▸ug)⟩
def EO (C:FI Z.K Z.mg Z.cl c y st ps)(N:List Str)(i:∀q,BM Z k q st N λX Y=>kO X Y (zH st) fm)
  (S:Sc N ps st:=by refine⟨rfl,rfl,rfl,?_,rfl,?_,?_⟩<;>decide+kernel) (hn:ps.length=n+1:=by rfl) (a:N.length=j+1:=by rfl) (d:n+1<=j:=by decide):qI Z c y n (k+1) (oM c j fm):=by
 obtain⟨C,q,f,l,e,g,M,O⟩:=C;exact⟨C,q,_,_,f,l,e,g,M,O,xL O.F S hn a d λcdv A outer s H E Y hy hE hr=>i q f cdv A outer s H E Y hy hE hr S.nd (hE▸ug)⟩
def mh (C:FE Z.K Z.mg x st ps)(hn:n=ps.length:=by rfl):qP Z x n k (λ_=>.bad):=by
 obtain⟨f,a,C⟩:=C;exact⟨_,_,f,a,C,λvs H Q E h=>by rw[←hn];exact spP.len vs H Q E h,λA outer s H args d vs Q E _ _ _ _ ⟨B,ts,_,_,_,q⟩=>q.elim⟩
end
section
variable {X:Cx}{Y:Fx}{cl:Nat->Value}{k j n:Nat}{g:List T->R T}{x:Str}{a:Expr}{es:List Expr}{ga:En->R (List T)}{p pos:Pos}
def cZ (hy:Y.cl=cl)(O:QQ x mM j (spP cl n g) ⟨X.prog,X.w,X.K,X.mg,X.base,cl⟩)(hr:Ze k X.A)(o:JN X Y (a::es) ga)(f:j<=k:=by lia)(d:Gl X x:=by rfl)(hd:(x==("__debug__":Str))=false:=by decide)
  (i:starEach (a::es) X.env=(false,eval a X.env)::starEach es X.env:=by exact zC rfl) (l:((backTo pos (starEach es X.env)).any λx=>x.fst)=false:=by exact zX rfl):Snd X Y (.Call (.Name x p) (a::es) [] pos) (za n g ga):=
 O.go λ_ _ _ _ C F=>XZ hy F hr f d C.m C.F.kp C.b o hd i l
def cX (hy:Y.cl=cl)(hp:zS (lH X.prog X.w) X Y.E)(O:QQ x (lH X.prog X.w) j (spP cl n g) ⟨X.prog,X.w,X.K,X.mg,X.base,cl⟩)(hr:Ze k X.A)(o:JN X Y (a::es) ga)(f:j<=k:=by lia)(d:Gl X x:=by rfl)(hd:(x==("__debug__":Str))=false:=by decide)
  (i:starEach (a::es) X.env=(false,eval a X.env)::starEach es X.env:=by exact zC rfl) (l:((backTo pos (starEach es X.env)).any λx=>x.fst)=false:=by exact zX rfl):Snd X Y (.Call (.Name x p) (a::es) [] pos) (za n g ga):=
 O.go λ_ _ _ _ C F=>k8 hy hp F hr f d C.m C.F.kp C.b o hd i l
end
noncomputable def nu (N:List Str)(js:List Nat):List Str:=js.map λj=>N.getD j ""
noncomputable def sX:List Str->Bool
 |[]=>true
 |x::r=> !(r.contains x)&&sX r
theorem uu:∀{l:List Str},sX l=true->l.Nodup
 |[],_=>.nil
 |x::r,h=>by
  rw[sX,ai]at h;exact d0.mpr ⟨by simpa using h.1,uu h.2⟩
def KO (N N':List Str)(a scope:Scope)(k:Nat)(js:List Nat):Bool:=(k6 scope a&&k7 N N' scope a k js)&&sX N'
section
variable {cl:Nat->Value}{X:Cx}{Y:Fx}{x y:Str}{p p' p2:Pos}{kk:Nat}{iter elt:Expr}{ifs:List Expr}{scope:Scope}{js:List Nat}{fi:En->R (List T)}{ft:En->R Bool}{fe:En->R T}
def BB (hy:Y.cl=cl)(h:KO X.N (x::nu X.N js) X.env.scope scope 1 js=true)(d:((relabel scope X.env).names.lookup x==some .local)=true)(i:X.calm=true)(it:U3 X Y (.Name x p) iter fi)(tt:∀a,a.cl=cl->YY X scope (x::nu X.N js) λf=>Wx f a ifs ft)
  (k:∀a,a.cl=cl->xD X scope (x::nu X.N js) a.E λf=>Snd f a elt fe) (j:∀x,foldedSetIterable iter X.env x=pure x:=by intro _;rfl):W7 X Y (.Name x p) iter elt ifs scope (x::nu X.N js) 1 js fi (wf 0) (zW 0) ft fe:=by
 subst hy;rw[KO,ai]at h;have d:(relabel scope X.env).names.lookup x=some .local:=eq_of_beq d;exact xF _ _ _ rfl rfl h.1 i it (λ_ _ _ _ _ _=>jd (uu h.2) rfl (.inl d) (.inr d)) (vX 0) (V0 0) tt k j
def Et (hy:Y.cl=cl)(h:KO X.N (x::y::nu X.N js) X.env.scope scope 2 js=true)(d:((relabel scope X.env).names.lookup x==some .local&&(relabel scope X.env).names.lookup y==some .local)=true)(i:X.calm=true)(it:U3 X Y (.Tuple [.Name x p,.Name y p'] kk p2) iter fi)(tt:∀a,a.cl=cl->YY X scope (x::y::nu X.N js) λf=>Wx f a ifs ft)
  (o:∀a,a.cl=cl->xD X scope (x::y::nu X.N js) a.E λf=>Snd f a elt fe) (l:∀x,foldedSetIterable iter X.env x=pure x:=by intro _;rfl):W7 X Y (.Tuple [.Name x p,.Name y p'] kk p2) iter elt ifs scope (x::y::nu X.N js) 2 js fi (tP X.K 2 (Ye (wf 0) (Ye (wf 1) Cz))) (Zb 0 1) ft fe:=by
 subst hy;rw[KO,ai]at h;rw[ai]at d;have k:(relabel scope X.env).names.lookup x=some .local:=eq_of_beq d.1;have j:(relabel scope X.env).names.lookup y=some .local:=eq_of_beq d.2;exact xF _ _ _ rfl rfl h.1 i it (λ_ _ _ _ _ _=>xg i (JR (jd (uu h.2) rfl (.inl k) (.inr k)) (JR (jd (uu h.2) rfl (.inl j) (.inr j)) Yf))) (vY _ 0 1) (V1 0 1) tt o l
end
end PV
namespace L2
open PySem PySem.Spec PyProof.Rows
section
variable {X:Cx}{pins:List 000}{σ:St}{H:Hp}{s:Shared}{q:Nat}{x:Str}
def Inv.virt (I:Inv X pins σ H s)(k:X.N[q]?=some x)(j:X.env.scope.names.lookup x=none)(v:Option V):Inv X pins (σ.set q v) H s:=
 {I with
  loc:=let ⟨m,hn,hl⟩:=I.loc;⟨m,hn,λi y u d f a=>by
   by_cases h:i=q
   ·subst h;rw[k]at d;cases d;unfold oJ at a;rw[j]at a;rcases a with z|z|z<;>cases z
   ·rw[av (aY h)]at f;exact hl i y u d f a⟩
  len:=by rw[aw];exact I.len}
def Vs {d:Type}{l:List d}{q:Nat}{x a:d}(h:l[q]?=some a):(l.set q x).set q a=l:=by
 rw[List.set_set];obtain⟨f,rfl⟩:=ak.mp h;exact List.set_getElem_self f
def qH {e:Expr}{a:List Expr}{te:TE}{t:TA}(p:PE X e te)(hr:PA X a t)(f:X.N[q]?=some x)(j:X.env.scope.names.lookup x=none)(l:starEach (e::a) X.env=(false,eval e X.env)::starEach a X.env):
  PA X (e::a) (λσ H Q=>te σ H λv d=>t (σ.set q (some v)) d λvs i=>Q (v::vs) i):=by
 intro pos pins s σ H Q I h;rw[l];show wpAny _ _ (spliced ((false,eval e X.env)::backTo pos (starEach a X.env))) _ _ s;refine eN (lF (p pins s σ H _ I h) λu S G=>?_);obtain⟨x,d,J,k,y⟩:=G;refine lF (hr pos pins S _ d _ (J.virt f j (some x)) y) λU Z ⟨xs,i,P,o,D⟩=>⟨x::xs,i,?_,.cons k o,D⟩;have B:q<σ.length:=by rw[I.len];exact(ak.mp f).1
 have:=P.virt f j σ[q];rw[Vs (am B)]at this;exact this
end
end L2
namespace PV
open PySem PySem.Spec PyProof.Rows L2 PySem.W
section
variable {Y:Fx}{B:Hp}{ρ:En}{σ:Sg}{H:Hp}
def SI.cpO (I:SI Y B ρ σ H){q k n:Nat}{a:Addr}(h:ρ[q]?=some (.ob k n))(ha:σ[q]?=some (some (V.ref a)))(i:Nat):SI Y B (ρ.set i (.ob k n)) (σ.set i (some (V.ref a))) H:=by
 have get:∀{j:Nat} {y:Sl},(ρ.set i (.ob k n))[j]?=some y->(∀a b,y≠.ob a b)->ρ[j]?=some y/\(σ.set i (some (V.ref a)))[j]?=σ[j]?:=λ{j y} h hy=>by
  rcases zt h with ⟨_,z⟩|⟨e,z⟩
  ·exact absurd z (hy _ _)
  ·exact⟨z,av (aY e)⟩
 have no:∀b,yF ρ σ b->yF (ρ.set i (.ob k n)) (σ.set i (some (V.ref a))) b:=λb hb j P N=>by
  obtain⟨o,p⟩:=get N (λ_ _=>Sl.noConfusion);rw[p];exact hb j P o
 obtain⟨as,O,x⟩:=I.st;refine⟨I.s0,I.sH,I.sB,I.old,by rw[aw,aw];exact I.len,λj t e=>?_,λj ts e=>?_,λj c e=>?_,as,O,x.pre,λj os e=>x.len j os (get e (λ_ _=>Sl.noConfusion)).1,λj S os Q e e'=>x.one j S os Q (get e (λ_ _=>Sl.noConfusion)).1 (get e' (λ_ _=>Sl.noConfusion)).1,λj G n' e=>?_,λj G fs e=>?_,λj os e m G fs e'=>?_⟩
 ·obtain⟨o,p⟩:=get e (λ_ _=>Sl.noConfusion);rw[p];exact I.vl j t o
 ·obtain⟨o,p⟩:=get e (λ_ _=>Sl.noConfusion);obtain⟨b,xs,J,u,D,X,U,y6⟩:=I.ow j ts o;refine⟨b,xs,by rw[p];exact J,u,D,X,U,λS P Z N=>?_⟩
  obtain⟨e3,e4⟩:=get N (λ_ _=>Sl.noConfusion);rw[e4];exact y6 S P Z e3
 ·obtain⟨o,p⟩:=get e (λ_ _=>Sl.noConfusion);rw[p];exact I.xc j c o
 ·rcases zt e with ⟨rfl,z⟩|⟨Z,z⟩
  ·cases z;obtain⟨a',C,dx,vs,J,u,D⟩:=x.ob q k n h;rw[ha]at u;cases u;exact⟨a,C,dx,vs,J,aH (by rw[←I.len];exact ul e),D⟩
  ·rw[av (aY Z)];exact x.ob j G n' z
 ·obtain⟨o,p⟩:=get e (λ_ _=>Sl.noConfusion);rw[p];exact x.oc j G fs o
 ·obtain⟨b,C,dx,vs,J,u,D,X,U,y6,y7,y8⟩:=x.st j os (get e (λ_ _=>Sl.noConfusion)).1 m G fs e';refine⟨b,C,dx,vs,J,u,D,X,U,y6,y7,λm' f d z=>?_⟩;obtain⟨v,x1,x2⟩:=y8 m' f d z;refine⟨v,x1,?_⟩;cases d with
  |tv t=>exact x2
  |tl ts=>
   obtain⟨l,xs,p1,p2,p3,p4,p5,p6,p7⟩:=x2;exact⟨l,xs,p1,p2,p3,p4,p5,no l p6,p7⟩
end
def nh (q j k d:Nat)(g:List (Str×Fd)->List T->R (T×List (Str×Fd)))(a:En->R (List T)):En->R En:=λρ=>(a ρ).bind λts=>if ts.length=d/\q≠j/\q<ρ.length then (match ρ[j]? with
 |some (.st os)=>(match g [] ts with
  |.ok (.non,fs)=>.ok ((ρ.set j (.st (os++[(k,fs)]))).set q (.ob k os.length))
  |.ex c=>.ex c
  |_=>.bad)
 |_=>.bad)else .bad
end PV
namespace PV
open PySem PySem.Spec PyProof.Rows L2
end PV
namespace PV
open PySem PySem.Spec PyProof.Rows L2 PySem.W
section
variable {X:Cx}{pins:List 000}{σ:L2.St}{H0:Hp}{l q I D:Addr}{xs:List V}{R:Result->Shared->Prop}
def qJ {xs:List V}{a:List Value}{i:Nat}{u:Value}(r:zZ xs a)(e:a[i]?=some u):∃x,xs[i]?=some x/\Z8 x u:=by
 have hi:=(ak.mp e).1;rw[←r.length]at hi;obtain⟨j,d,f⟩:=r.get (am hi);rw[e]at d;cases d;exact⟨_,am hi,f⟩
def kR (a:Nat->Int)(hh:X.A.handled=none)(kw:List (Str×Value))(hl:∀H s,Inv X pins σ H s->zr H0 H->∃d:List Value,zZ xs d/\s.heap.IsList l d.toArray)(hlI:l≠I)(hDI:D≠I)(Q:wU X pins H0 I)(N:wU X pins H0 D)
  (turn:∀(i:Nat) (x:V) (v:Value),xs[i]?=some x->Z8 x v->∀(pn:List 000) (s:Shared) (H:Hp),Inv X (pins++pn) σ H s->zr H0 H->
   wpAny 05 X.A.in1 (call (.ref q) [v]) (λu s'=>∃t H',u=.int (a i) t/\Inv X (pins++pn) σ H' s'/\zr H H') (λ_ _=>False) s)
  (hR:∀(i:Nat) (x:V) (v:Value) H s,xs[i]?=some x->Z8 x v->(∀j,j<xs.length->a i<=a j/\(j<i->a i<a j))->Inv X pins σ H s->zr H0 H->R (.ok (.ret v)) s):
  ∀(r j i:Nat) (s:Shared) (H:Hp) (xb:V) (U:Value) (tb:Tok) (c:Nat),xs.length-(j+1)=r->j+1<=xs.length->Inv X pins σ H s->zr H0 H->H I=none->H D=none->
   s.heap.get? D=some (seqObj "list" #[U,.int (a i) tb] c)->s.heap.IsListIter I l (j+1)->xs[i]?=some xb->Z8 xb U->i<=j->(∀k,k<=j->a i<=a k/\(k<i->a i<a k))->
   codeAny 05 X.A (.builtin "min.loop" ⟨[.ref I,.ref q,.ref D],kw⟩) R s:=by
 have B:(toString "min"++toString ".loop":String)="min.loop":=by decide
 intro r
 induction r with
 |zero=>
  intro j i s H xb U tb c hr hj J sm hI hD gD Z hvb rb hij f;obtain⟨d,rv,hls⟩:=hl _ _ J sm;have W:=eS (prog:=X.prog) (w:=X.w) (A:=X.A.in1) hh I l hlI d.toArray;have hsz:d.toArray.size=xs.length:=by rw[aD,rv.length]
  have hin:j+1=xs.length:=by lia
  refine bS dU ?_;rw[di bN _];show wpAny _ X.A.in1 (seqItems? (.ref D)>>=_) _ _ _;refine a7 (bQ gD rfl ?_);show wpAny _ X.A.in1 (tryCatch (pyNext (.ref I)) _>>=_) _ _ _;refine a7 (cM (W.done _ _ _ ⟨by rw[hsz,←hin];exact Z,hls⟩ λh' tk' G=>?_))
  have J1:=J.turned (t':=tk') (λb o n e=>G b o (by simpa using n) e) hI Q.2.1 Q.2.2.2.1 Q.2.2.2.2.1 Q.2.2.2.2.2
  have gD':=G D _ (by simpa using hDI) gD
  show wpAny _ X.A.in1 (updateSeq D (λ_=>#[])>>=_) _ _ _;refine a7 (wpAny_updateSeq gD' rfl (a7 (dJ (au ?_))));exact hR i xb U H _ hvb rb (λk hj'=>f k 00) (J1.turned (it:=D) (λb o n e=>(b_ _ _ (aY n)).trans e) hD N.2.1 N.2.2.2.1 N.2.2.2.2.1 N.2.2.2.2.2) sm
 |succ r ih=>
  intro j i s H xb U tb c hr hj J sm hI hD gD Z hvb rb hij f;obtain⟨d,rv,hls⟩:=hl _ _ J sm;have W:=eS (prog:=X.prog) (w:=X.w) (A:=X.A.in1) hh I l hlI d.toArray;have hsz:d.toArray.size=xs.length:=by rw[aD,rv.length]
  have hlt:j+1<xs.length:=by lia
  refine bS dU ?_;rw[di bN _];show wpAny _ X.A.in1 (seqItems? (.ref D)>>=_) _ _ _;refine a7 (bQ gD rfl ?_);show wpAny _ X.A.in1 (tryCatch (pyNext (.ref I)) _>>=_) _ _ _;refine a7 (cM (W.item (j+1) _ _ _ (by rw[hsz];exact hlt) ⟨Z,hls⟩ λv h' tk' hP hst' G=>?_))
  obtain⟨x,hv,rx⟩:=qJ rv (show d[j+1]?=some v by simpa using hP)
  obtain⟨S,hoI',hoc,hod⟩:=id hst'.1;have J1:=J.turned (t':=tk') (λb o n e=>G b o (by simpa using n) e) hI Q.2.1 Q.2.2.2.1 Q.2.2.2.2.1 Q.2.2.2.2.2
  have gD':=G D _ (by simpa using hDI) gD
  have J2:Inv X (pins++[(D,seqObj "list" #[U,.int (a i) tb] c),(I,S)]) σ H _:=J1.pins_of λp hp=>by
   rcases bh.mp hp with hp|hp
   ·exact J1.pin p (aJ _ hp)
   ·rcases ay.mp hp with rfl|hp
    ·exact⟨gD',hD,N.2.1,N.2.2.1,λv z=>by cases z⟩
    ·rw[aQ.mp hp];exact⟨hoI',hI,Q.2.1,Q.2.2.1,λv z=>by rw[hod]at z;cases z⟩
  show wpAny _ X.A.in1 (tryCatch (holding [v] (call (.ref q) [v])) _>>=_) _ _ _;refine a7 (cM (bW (bF (turn (j+1) x v hv rx _ _ _ J2 sm) (λy s2 he=>?_) λ_ _ hF=>hF.elim)));obtain⟨t2,H2,rfl,J3,sm2⟩:=he;have pD:=J3.pin (D,seqObj "list" #[U,.int (a i) tb] c) (aJ _ (aJ _ (.head _)));have pI:=J3.pin (I,S) (aJ _ (aJ _ (.tail _ (.head _))));have J4:=J3.unpinned;show wpAny _ X.A.in1 (tryCatch (holding [v,.int (a (j+1)) t2] (richCompare .Lt (.int (a (j+1)) t2) (.int (a i) tb)>>=_)) _>>=_) _ _ _;refine a7 (cM (bW (a7 (CmpOf.ints_lt (prog:=X.prog) (w:=X.w) (A:=X.A.in1) (P:=λi v=>∃t,v=.int (a i) t) a (λi v h=>h) (j+1) i _ _ _ _ _ ⟨t2,rfl⟩ ⟨tb,rfl⟩ ?_))));refine a7 (bW (bi ?_));refine a7 (dJ (au ?_))
  by_cases hb':a (j+1)<a i
  ·obtain⟨c2,hc2⟩:∃c2,(s2.heap.update D (lB λ_=>#[v,.int (a (j+1)) t2])).get? D=some (seqObj "list" #[v,.int (a (j+1)) t2] c2):=⟨_,get?_update_seq pD.1 λ_=>#[v,.int (a (j+1)) t2]⟩;simp only[hb',decide_true,if_true];refine a7 ?_;refine wpAny_updateSeq pD.1 rfl (a7 (dJ ?_));rw[B];refine au ⟨cH bN _,ih (j+1) (j+1) _ H2 x v t2 c2 00 hlt (J4.turned (it:=D) (λb o n e=>(b_ _ _ (aY n)).trans e) pD.2.1 N.2.1 N.2.2.2.1 N.2.2.2.2.1 N.2.2.2.2.2) (sm.trans sm2) pI.2.1 pD.2.1 hc2 ⟨S,(b_ _ _ hDI).trans pI.1,hoc,hod⟩ hv rx (ar _) λk hj'=>?_⟩
   by_cases e:k=j+1
   ·subst e;exact⟨by lia,λ_=>by lia⟩
   ·have hb1:=f k 00
    have hb2:=hb1.1;exact⟨by lia,λ_=>by lia⟩
  ·simp only[hb',decide_false,a_,if_false];refine a7 (dJ ?_);rw[B];refine au ⟨cH bN _,ih (j+1) i _ H2 xb U tb c 00 hlt J4 (sm.trans sm2) pI.2.1 pD.2.1 pD.1 ⟨S,pI.1,hoc,hod⟩ hvb rb 00 λk hj'=>?_⟩
   by_cases e:k=j+1
   ·subst e;exact⟨by lia,λ_=>by lia⟩
   ·exact f k 00
def kS (a v d:Value):argsOk "min" ⟨[a],[(bf "key",v),(bf "default",d)]⟩:=by kernel_rfl
def kT {H:Hp}{s:Shared}{dv:Value}{Q E:Value->Shared->Prop}(B:Nat->Int)(hh:X.A.handled=none)(J:Inv X pins σ H s)(hl:∀P N,Inv X pins σ P N->zr H P->∃d:List Value,zZ xs d/\N.heap.IsList l d.toArray)
  (Z:∀(i:Nat) (x:V) (v:Value),xs[i]?=some x->Z8 x v->∀(pn:List 000) (s:Shared) (P:Hp),Inv X (pins++pn) σ P s->zr H P->
   wpAny 05 X.A.in1 (call (.ref q) [v]) (λu N=>∃t H2,u=.int (B i) t/\Inv X (pins++pn) σ H2 N/\zr P H2) (λ_ _=>False) s)
  (h0:xs=[]->∀N,Inv X pins σ H N->Q dv N)
  (hQ:∀(i:Nat) (x:V) (v:Value) P N,xs[i]?=some x->Z8 x v->(∀j,j<xs.length->B i<=B j/\(j<i->B i<B j))->Inv X pins σ P N->zr H P->Q v N):
  wpAny 05 X.A (call (.builtin "min") [.ref l] [(bf "key",.ref q),(bf "default",dv)]) Q E s:=by
 have k:(toString "min"++toString ".loop":String)="min.loop":=by decide
 obtain⟨its0,_,f⟩:=hl _ _ J (zr.refl _);obtain⟨ol,hol,_⟩:=id f;have hll:=az hol;refine kmb_tree PySem.F.kind_min PySem.F.plain_min PySem.F.entry_min (kS _ _ _) ?_;refine a7 (cF (show Builtin.Builtins.bindParams _ _ 0 _=pure [some (.ref q),some dv] from rfl) (a7 (au ?_)));refine a7 (cj f ?_);refine a7 (wpAny_newList ?_ (bu _));rw[k];obtain⟨G,e1⟩:∃G,G=s.heap.push {cls:=.type "list_iterator",data:=.fields #[.ref l,.int 0 0]}:=⟨_,rfl⟩;have hS:G.objs.size=s.1.1.size+1:=by rw[e1];exact size_push' ..
 rw[←e1];have J0:Inv X pins σ H {s with heap:=G.push (seqObj "list" #[] 0)}:=J.kept λb o e=>ag _ (by rw[e1];exact ag _ e)
 have gI:(G.push (seqObj "list" #[] 0)).get? s.1.1.size=some {cls:=.type "list_iterator",data:=.fields #[.ref l,.int 0 0]}:=ag _ (by rw[e1];exact ao _ rfl)
 have gD:(G.push (seqObj "list" #[] 0)).get? G.objs.size=some (seqObj "list" #[] 0):=ao _ rfl;have a:wU X pins H s.1.1.size:=J.fpOk (ar _) J.fresh;have U:wU X pins H G.objs.size:=J.fpOk 00 (J.hok.fresh 00)
 have hlI:l≠s.1.1.size:=aM hll;have hDI:G.objs.size≠s.1.1.size:=by lia
 obtain⟨d,rv,f⟩:=hl _ _ J0 (zr.refl _);have W:=eS (prog:=X.prog) (w:=X.w) (A:=X.A.in1) hh s.1.1.size l hlI d.toArray;have hsz:d.toArray.size=xs.length:=by rw[aD,rv.length]
 generalize G.objs.size=D at*;generalize s.1.1.size=I at*;refine au ⟨cH bN _,?_⟩;refine bS dU ?_;rw[di bN _];show wpAny _ X.A.in1 (seqItems? (.ref _)>>=_) _ _ _;refine a7 (bQ gD rfl ?_);show wpAny _ X.A.in1 (tryCatch (pyNext (.ref I)) _>>=_) _ _ _;rcases ix xs.length with hz|hp
 ·refine a7 (cM (W.done _ _ _ ⟨by rw[hsz,hz];exact⟨_,gI,rfl,rfl⟩,f⟩ λh' tk' S=>?_))
  exact a7 (dZ (au (h0 (ci hz) _ (J0.turned (t':=tk') (λb o n e=>S b o (by simpa using n) e) a.1 a.2.1 a.2.2.2.1 a.2.2.2.2.1 a.2.2.2.2.2))))
 ·refine a7 (cM (W.item 0 _ _ _ (by rw[hsz];exact hp) ⟨⟨_,gI,rfl,rfl⟩,f⟩ λv h' tk' hP hst' S=>?_))
  obtain⟨x,hv,rx⟩:=qJ rv (show d[0]?=some v by simpa using hP)
  obtain⟨oI',hoI',hoc,hod⟩:=id hst'.1;have J1:=J0.turned (t':=tk') (λb o n e=>S b o (by simpa using n) e) a.1 a.2.1 a.2.2.2.1 a.2.2.2.2.1 a.2.2.2.2.2
  have gD':=S D _ (by simpa using hDI) gD
  have J2:Inv X (pins++[(D,seqObj "list" #[] 0),(I,oI')]) σ H _:=J1.pins_of λp hp=>by
   rcases bh.mp hp with hp|hp
   ·exact J1.pin p (aJ _ hp)
   ·rcases ay.mp hp with rfl|hp
    ·exact⟨gD',U.1,U.2.1,U.2.2.1,λv z=>by cases z⟩
    ·rw[aQ.mp hp];exact⟨hoI',a.1,a.2.1,a.2.2.1,λv z=>by rw[hod]at z;cases z⟩
  show wpAny _ X.A.in1 (tryCatch (holding [v] (call (.ref q) [v])) _>>=_) _ _ _;refine a7 (cM (bW (bF (Z 0 x v hv rx _ _ _ J2 (zr.refl _)) (λy s2 he=>?_) λ_ _ hF=>hF.elim)));obtain⟨t2,H2,rfl,J3,sm2⟩:=he;have pD:=J3.pin (D,seqObj "list" #[] 0) (aJ _ (aJ _ (.head _)));have pI:=J3.pin (I,oI') (aJ _ (aJ _ (.tail _ (.head _))));obtain⟨c2,hc2⟩:∃c2,(s2.heap.update D (lB λ_=>#[v,.int (B 0) t2])).get? D=some (seqObj "list" #[v,.int (B 0) t2] c2):=⟨_,get?_update_seq pD.1 λ_=>#[v,.int (B 0) t2]⟩;show wpAny _ X.A.in1 (updateSeq D (λ_=>#[v,.int (B 0) t2])>>=_) _ _ _;refine a7 (wpAny_updateSeq pD.1 rfl ?_);rw[k];refine au ⟨cH bN _,kR B hh _ hl hlI hDI a U Z hQ _ 0 0 _ H2 x v t2 c2 rfl hp (J3.unpinned.turned (it:=D) (λb o n e=>(b_ _ _ (aY n)).trans e) pD.2.1 U.2.1 U.2.2.2.1 U.2.2.2.2.1 U.2.2.2.2.2) sm2 pI.2.1 pD.2.1 hc2 ⟨oI',(b_ _ _ hDI).trans pI.1,hoc,hod⟩ hv rx (ar _) λj' hj'=>?_⟩;have e:j'=0:=by lia
  subst e;exact⟨by lia,λh=>absurd h (bI _)⟩
end
section
variable {P:Program}{w:World}{K:Frag}{mg:Str->Option Value}{base:Heap}{N:List Str}{q x0:Str}{scope:Scope}{f:Addr}{cd:Value}{clos:List (Str×Addr)}{A:Around}{outer:List Env}{s:Shared}{H:Hp}{E:XK}
def Vt {B:L2.St}{j:Heap}{tk:Nat}{v0:V}{G:Value}{m:Str->Option Value}(S:A6 scope)(hd:A.handled=none)(a:Uu P w K mg base A outer s H)(C:qy base H scope clos N B)(Z:N.Nodup)(U:N[0]?=some x0)(J:scope.names.lookup x0=some .local)(Q:Z8 v0 G)(I:m x0=some G)(ns:j.Ns s.1.1.size m)(x:∀b o,s.heap.get? b=some o->j.get? b=some o):
  Inv (rh P w K mg base N q scope f cd clos A outer s H E) [] (B.set 0 (some v0)) H {s with heap:=j,toks:=tk}:=by
 have bk:=λb o e=>x b o (a.bs b o e).1;have l:∀b,b∉(rh P w K mg base N q scope f cd clos A outer s H E).ex:=λb z=>absurd (show b∈([]:List _) from z) (by simp)
 refine⟨⟨a.mod,S.kind,rfl,rfl,ar _,C.inj,λy hy=>?_,λy c h _=>(aN h).elim,λ_=>hd,hZ a.frames,.inr ⟨rfl,rfl⟩,λb z=>absurd z (l b),a.bs,a.bsz,λb _ _=>l b,λb z=>absurd z (l b),a.funs,a.frf⟩,
  rfl,a.bare,Un.kept x,⟨_,ns,λi y v j d X=>?_⟩,λy c h=>?_,a.hok.fresh (ar _),λy c h=>(C.cell y c h).2,λp hp=>absurd (show p∈([]:List _) from hp) (by simp),a.hok.kept x,by rw[aw];exact C.len⟩
 ·rcases hy with hy|hy
  ·exact absurd rfl (S.nocell _ (bz hy))
  ·exact C.has _ (bz hy) rfl
 ·cases i with
  |zero=>
   have j:N[0]?=some y:=j;rw[U]at j;cases j;rw[fO ]at d;have d:v0=v:=by
    cases z:B[0]? with
    |none=>rw[z]at d;cases d
    |some _=>rw[z]at d;exact aA (aA d)
   subst d;exact⟨G,Q,.inl ⟨J,I⟩⟩
  |succ i=>
   rw[av 00]at d
   obtain⟨u,c,r,e,D,k⟩:=C.loc (i+1) y v j d;exact⟨u,r,.inr ⟨.inr k,c,e,Wc bk D⟩⟩
 ·obtain⟨v,D⟩:=(C.cell y c h).1;exact⟨v,Wc bk D⟩
def Vu {k:Nat}{params:Arguments}{body:Expr}{pm ctv:Value}{c':Addr}{u:L2.St}{Q:VK}{te:TE}{v0:V}{d:Value}(S:A6 scope)(hr:Ze (k+1) A)(a:Uu P w K mg base A outer s H)(C:qy base H scope clos N u)(X:N.Nodup)(h0:N[0]?=some x0)(B:scope.names.lookup x0=some .local)(r0:Z8 v0 d)
  (Z:H f=some (.frz (kJ q params body scope clos pm ctv c') (.own f))) (D:WA H q c') (hp:bindArgs (kla_fn "<lambda>" q params body scope clos pm (.ref c') ctv) ⟨[d],[]⟩=pure [(x0,d)])
  (hb:PE (rh P w K mg base N q scope f (.ref c') clos A outer s H E) body te) (G:te (u.set 0 (some v0)) H Q):
  codeAny (model P w) A (.call (.ref f) ⟨[d],[]⟩) (CR (lH P w) outer P w H s Q E) s:=by
 have l:=a.mod.nolimit.keeps λb o e=>(a.bs b o e).1;refine kla_callFunE hr.depth (a.hok f _ Z).1 rfl S.co S.gen rfl (D.rec a.hok) ?_;rw[hp];refine au (wpAny_newFunctionEnv S.nocell (λy hy=>by rw[aQ.mp hy];exact B) (λh1 i j=>?_) S.kind)
 have p:=λb o e=>j.extBut b o (aM (az e)) (ag _ e);refine⟨l.keeps p,?_⟩;have I:=Vt (q:=q) (f:=f) (cd:=.ref c') (E:=E) (tk:=s.toks+[(x0,d)].length) S hr.hd a C X h0 B r0 (by simp) i p
 exact kla_codeExpr (bF (hb [] _ _ H Q I G) (λv s'=>EP.on λx U J r q=>⟨x,U,J.os,J.bare,J.base,J.hok,r,q⟩) λ_ _ z=>z)
end
section
variable {X:Cx}{Y:Fx}
def kU {p:List 000}{l:Sg}{H:Hp}{s:Shared}{scope:Scope}{clos:List (Str×Addr)}{N':List Str}{js:List Nat}(I:L2.Inv X p l H s)(Q:∀x,X.fn x=true)(a:∀x c,clos.lookup x=some c->X.env.cells.lookup x=some c)
  (B:∀x∈scope.names,x.2=NameKind.free->∃c,clos.lookup x.1=some c) (CP:Gr X scope N' 1 js):qy (xK s H (lV X.stack)) H scope clos N' (U4 1 js l):=by
 have up:∀x c,X.env.cells.lookup x=some c->∀v,s.heap.IsCell c v->(xK s H _).IsCell c v:=λx c e v ⟨o,ho,hd⟩=>⟨o,UJ ho (I.freeC x c e) λhb=>by
  rcases ay.mp (I.stkSub c hb)with z|z
  ·exact I.cne x c e z
  ·obtain⟨_,o2,G,_⟩:=I.ok.funs.mem z;exact absurd (az G) (Nat.not_lt.mpr (I.ok.cab x c (Q x) e)),hd⟩
 refine⟨λx y c P d=>I.ok.inj x y c (a _ _ P) (a _ _ d),B,λx c e=>⟨?_,I.freeC x c (a x c e)⟩,λi x v P d=>?_,by unfold U4;simp[CP.len,dO]⟩
 ·obtain⟨v,J⟩:=I.cell x c (a x c e);exact⟨v,up x c (a x c e) v J⟩
 ·cases i with
  |zero=>cases d
  |succ i=>
  have d:(js.map λj=>(l[j]?).getD none)[i]?=some (some v):=d;rw[aj]at d;cases S:js[i]? with
  |none=>rw[S]at d;cases d
  |some j=>
   rw[S]at d;have f:(l[j]?).getD _=some v:=aA d;have D:l[j]?=some (some v):=by
    cases Z:l[j]? with
    |none=>rw[Z]at f;cases f
    |some z=>rw[Z]at f;exact congrArg _ f
   obtain⟨y,U,G,e3,e4,e5⟩:=CP.cap i j S;rw[dO,P]at U;cases U;obtain⟨m,hn,N⟩:=I.loc;obtain⟨u,ru,lk⟩:=N j x v G D e3;obtain⟨c,ec⟩:=B _ (bz e4) rfl;rcases lk with ⟨k,_⟩|⟨_,c2,e6,J⟩
   ·rcases e5 with z|z<;>(rw[k]at z;cases z)
   ·have:=a x c ec;rw[e6]at this;cases this;exact⟨u,c,ru,ec,up x c e6 _ J,e4⟩
noncomputable def Jq (k:Int)(t:T):List Int->List T->T
 |d::a,t'::ts=>if d<k then Jq d t' a ts else Jq k t a ts
 |_,_=>t
noncomputable def WC (f:T->R T):List T->Option (List Int)
 |[]=>some []
 |t::ts=>match f t,WC f ts with
  |.ok (.int k),some a=>some (k::a)
  |_,_=>none
def Vv (js:List Nat)(fe fa d:En->R T):En->R T:=λρ=>(fa ρ).bind λt=>(d ρ).bind λu=>match t with
 |.lst []=>.ok u
 |.lst (t::ts)=>(match WC (λt=>fe ((wY 1 js ρ).set 0 (.vl t))) (t::ts)with|some (k::a)=>.ok (Jq k t a ts)|_=>.bad)
 |_=>.bad
theorem UN {f:T->R T}:∀{ts:List T} {a:List Int},WC f ts=some a->a.length=ts.length/\∀(i:Nat) (t:T),ts[i]?=some t->∃k,a[i]?=some k/\f t=.ok (.int k)
 |[],a,h=>by cases h;exact⟨rfl,λi t e=>by simp at e⟩
 |t::ts,a,h=>by
  unfold WC at h;split at h
  ·rename_i k l p d;cases h;obtain⟨o,j⟩:=UN d;refine⟨by simp[o],λi u e=>?_⟩
   cases i with
   |zero=>cases e;exact⟨k,rfl,p⟩
   |succ i=>exact j i u e
  ·cases h
noncomputable abbrev Al (kf:Nat->Int)(n i:Nat):Prop:=∀j,j<n->kf i<=kf j/\(j<i->kf i<kf j)
theorem WD:∀(d:List Int) (ts:List T) (k:Int) (t:T) (n m:Nat) (a:Nat->Int),d.length=ts.length->m<n->a m=k->(∀j,j<n->a m<=a j/\(j<m->a m<a j))->(∀j q,d[j]?=some q->a (n+j)=q)->
  ∃i,(i=m/\Jq k t d ts=t\/∃j,i=n+j/\ts[j]?=some (Jq k t d ts))/\∀j,j<n+d.length->a i<=a j/\(j<i->a i<a j)
 |[],ts,k,t,n,m,a,u,N,I,x,B=>⟨m,.inl ⟨rfl,by unfold Jq;rfl⟩,λj f=>x j (by simpa using f)⟩
 |v::d,[],k,t,n,m,a,u,_,_,_,_=>by simp at u
 |v::d,t'::ts,k,t,n,m,a,u,N,I,x,B=>by
  have J:=B 0 v rfl;rw[Nat.add_zero]at J;have l:∀j q,d[j]?=some q->a (n+1+j)=q:=λj q e=>by have:=B (j+1) q e;rw[←this];congr 1;lia
  have p:d.length=ts.length:=by simpa using u
  unfold Jq
  by_cases c:v<k
  ·rw[if_pos c];obtain⟨i,D,y⟩:=WD d ts v t' (n+1) n a p 00 J (λj f=>by
    by_cases z:j=n
    ·subst z;exact⟨l7 _,λz=>by lia⟩
    ·have:=x j 00;exact⟨by lia,λ_=>by lia⟩) l
   refine⟨i,?_,λj f=>y j (by rw[ax]at f;lia)⟩
   rcases D with ⟨G,o⟩|⟨j,G,o⟩
   ·exact .inr ⟨0,G,by rw[o];rfl⟩
   ·exact .inr ⟨j+1,by lia,o⟩
  ·rw[if_neg c];obtain⟨i,D,y⟩:=WD d ts k t (n+1) m a p 00 I (λj f=>by
    by_cases z:j=n
    ·subst z;exact⟨by lia,λz=>by lia⟩
    ·exact x j 00) l
   refine⟨i,?_,λj f=>y j (by rw[ax]at f;lia)⟩
   rcases D with z|⟨j,G,o⟩
   ·exact .inl z
   ·exact .inr ⟨j+1,by lia,o⟩
def MK (X:Cx)(k:Sg)(l f:V)(u:V)(Q:VK)(H3:Hp):Prop:=∃(a g:Addr) (xs:List V) (j:Nat->Int),(l=.ref a/\f=.ref g)/\H3 a=some (.lst xs)/\
 (∀(i:Nat) (x:V) (u:Value),xs[i]?=some x->Z8 x u->∀(pn:List 000) (s:Shared) (d:Hp),Inv X pn k d s->zr H3 d->
  wpAny 05 X.A.in1 (call (.ref g) [u]) (λu p=>∃t o,u=.int (j i) t/\Inv X pn k o p/\zr d o) (λ_ _=>False) s)/\
 (xs=[]->Q u H3)/\∀(i:Nat) (x:V) (d:Hp),xs[i]?=some x->Al j xs.length i->zr H3 d->Q x d
def kW {a b:Expr}{params:Arguments}{body:Expr}{scope:Scope}{lp p pos kp kp2:Pos}{ta tb tl:TE}(hh:X.A.handled=none)(gl:Gl X "min")(mg:X.mg "min"=none)(ha:PE X a ta)(hl:PE X (.Lambda params body scope lp) tl)(hb:PE X b tb)(P:lZ X a):
  PE X (.Call (.Name "min" p) [a] [⟨some "key",.Lambda params body scope lp,kp⟩,⟨some "default",b,kp2⟩] pos) (λd H Q=>ta d H λv k=>tl d k λg Z=>tb d Z λu H3=>([v].length=1/\[g,u].length=2)/\MK X d v g u Q H3):=by
 intro pins s d H Q I h;refine bG (ja I gl mg PyProof.Rows.Boot.«min» ?_ 03 03)
 refine callWith_kw (lF (zB ha zT P pos _ s d H (λvs k=>tl d k λg Z=>tb d Z λu H3=>(vs.length=1/\[g,u].length=2)/\MK X d (vs.headD .non) g u Q H3) I h) λus s1 hz=>?_) (by rw[P];rfl) (by rw[P];rfl) rfl rfl
 obtain⟨vs,k,I1,r1,q1⟩:=hz;refine lF (Yt hl (Yt hb gL) pos _ s1 d k (λj H3=>(vs.length=1/\j.length=2)/\MK X d (vs.headD .non) (j.headD .non) (j.tail.headD .non) Q H3) I1 q1) λws s2 hz=>?_;obtain⟨j,H3,I3,rz,⟨l1,l2⟩,a,g,xs,kf,⟨e1,e2⟩,hx,B,q0,qn⟩:=hz;obtain⟨v,rfl⟩:=g7.mp l1;cases j with
 |nil=>cases l2
 |cons y j=>
 obtain⟨z,rfl⟩:=g7.mp (fZ l2);obtain rfl:v=.ref a:=e1;obtain rfl:y=.ref g:=e2;obtain⟨u,rfl,ru⟩:=ZP r1;obtain rfl:u=Value.ref a:=ru;obtain⟨D,S,rfl,ry,rz'⟩:∃D S,ws=[D,S]/\Z8 (.ref g) D/\Z8 z S:=by
  cases rz with
  |cons r1 r2=>
   cases r2 with
   |cons r2 r3=>cases r3;exact⟨_,_,rfl,r1,r2⟩
 obtain rfl:D=Value.ref g:=ry;exact kT (xs:=xs) kf hh I3 (λl G J o=>let ⟨_,its,n,rv,_,ho⟩:=J.lstM (o _ _ hx);⟨its,rv,_,ho,rfl,n,rfl⟩) (λi x v N U pn G l J o=>B i x v N U _ G l J o) (λhn G J=>⟨z,H3,J,rz',q0 hn⟩)
  λi x v l G N U f J o=>⟨x,l,J,U,qn i x l N f o⟩
def Fa {cl:Nat->Value}{kE k:Nat}{q x0:Str}{c P:Addr}{a b:Expr}{params:Arguments}{body:Expr}{scope:Scope}{lp p pos kp kp2:Pos}{js:List Nat}{fe fa fb:En->R T}(hy:Y.cl=cl)(L:Lm X c P q)(hT:Y.H0 P=some (.tbl #[] q))(hfn:∀x,X.fn x=true)
  (hr:Ze k X.A) (hj:kE+2<=k) (gl:Gl X "min") (mg:X.mg "min"=none) (ha:Snd X Y a fa) (hfb:Snd X Y b fb)
  (N' N:List Str) (d:Scope) (hN:X.N=N) (h0:X.env.scope=d) (U:(k6 scope d&&k7 N N' scope d 1 js)=true) (hco:scope.isCoroutine=false) (hge:scope.isGenerator=false) (hnd:N'.Nodup) (hx0:N'[0]?=some x0) (hlx:scope.names.lookup x0=some .local)
  (hb:∀(base:Heap) (A:Around) (outer:List Env) (s:Shared) (H:Hp) (E:XK) (f c':Addr) (clos:List (Str×Addr)) (Y':Fx),X.K.In base->Y'.cl=cl->Y'.E=E->Ze kE (A.deeper (envX q scope s.1.1.size f (.ref c') clos))->Snd (rh X.prog X.w X.K X.mg base N' q scope f (.ref c') clos A outer s H E) Y' body fe)
  (hp:∀(clos:List (Str×Addr)) (pm cd ctv u:Value),bindArgs (kla_fn "<lambda>" q params body scope clos pm cd ctv) ⟨[u],[]⟩=pure [(x0,u)]:=by intros;rfl) (hdef:defaultsOf params X.env=([],[]):=by rfl) (hs:lZ X a:=by exact lS rfl):
  Snd X Y (.Call (.Name "min" p) [a] [⟨some "key",.Lambda params body scope lp,kp⟩,⟨some "default",b,kp2⟩] pos) (Vv js fe fa fb):=.mk λρ=>by
 rintro pins s σ H Q I ⟨B,J,po⟩
 subst hy;rw[ai]at U;have CS:=qd d h0 U.1;have CP:=U6 N d hN h0 U.2;have S:A6 _:=⟨CS.kind,hco,hge,CS.nocell⟩;obtain⟨clos,ecl,hcl,hcf⟩:=YS λx hx hf=>I.ok.has x.1 (CS.fre x hx hf);refine kW hr.hd gl mg (ha ρ) (DH (body:=body) (pos:=lp) L hdef ecl) (hfb ρ) hs pins s σ H Q I ?_;refine step J po λt v H1 _ s1 r1 I1 q1=>⟨I1.sH _ _ hT,λf c' pm ctv H2 s2 hf hc=>?_⟩;have I2:=I1.grow s2;refine step I2 (qx I1.sB s2 q1) λt' v' H3 _ s3 r3 I3 q3=>⟨⟨rfl,rfl⟩,?_⟩;have r1:=(r1.mono (zN.ge I1.sB s2)).mono (zN.ge I2.sB s3);cases r1 with
 |@lst l xs ts h r=>
  have hx:=I3.sB _ _ h;cases ts with
  |nil=>
   refine⟨l,f,xs,λ_=>0,⟨rfl,rfl⟩,hx,λi x u e _=>?_,λ_=>lW I3.sB q3 rfl r3,λi x y e=>?_⟩
   ·cases r;simp at e
   ·cases r;simp at e
  |cons t0 ts=>
   have q3:Po Y rC _ H3 (match WC (λt=>fe ((wY 1 js ρ).set 0 (.vl t))) (t0::ts)with|some (k::o)=>.ok (Jq k t0 o ts)|_=>.bad) Q:=q3
   split at q3
   ·rename_i k0 o ek;obtain⟨hl,hk⟩:=UN ek;refine⟨l,f,xs,λi=>((k0::o)[i]?).getD 0,⟨rfl,rfl⟩,hx,λi x u e ru pn s' y I' G=>?_,λhn=>(by subst hn;cases r),λi x y e Z G=>?_⟩
    ·obtain⟨t,et,rt⟩:=r.getV e;obtain⟨kk,ekk,fk⟩:=hk i t et;have hrm:Ze (kE+1) X.A.in1:=⟨hr.hd,by have:=hr.dp;show X.A.depth+3*(kE+1)+5<_;lia,by have:=hr.un;show X.A.units+1+16*(kE+1)+200<_;lia,hr.gd⟩
     have D:=I'.big;have e0':Uu X.prog X.w X.K X.mg (xK s' y (lV X.stack)) X.A.in1 X.stack s' y:=⟨D.frames,D.mod,D.bs,D.bsz,D.funs,D.frf,D.hok,D.bare⟩;refine dF (cD (Vu (te:=tS ⟨_,y,λ_ _ _=>False,Y.cl,[]⟩ rC fe ((wY 1 js ρ).set 0 (.vl t))) (Q:=λv H2=>v=.int kk/\zr y H2) (E:=λ_ _ _=>False) S hrm e0' (kU I' hfn hcl hcf CP) hnd hx0 hlx ru (G _ _ (s3 _ _ hf)) (hc.mono (s3.trans G)) (hp _ pm _ ctv _)
      ((hb _ X.A.in1 _ s' y _ f c' _ ⟨_,y,λ_ _ _=>False,Y.cl,[]⟩ D.mod.kin rfl rfl (hrm.deeper _)) _) ⟨_,((I3.grow G).blockS 1 js _ (zr.refl _)).setV 0 (rt.mono (zN.ge I3.sB G)),?_⟩) λr s2 hq=>?_)
     ·rw[fk];exact λv H2 s4 r4=>⟨by cases r4;rfl,s4⟩
     ·cases r with
      |error e=>
       obtain⟨_,_,_,_,_,_,_,z⟩:=hq;exact z.elim
      |ok fl=>
       cases fl with
       |ret u=>
        obtain⟨v,H2,I2,rv,rfl,sm2⟩:=I'.after hq;obtain⟨t,rfl⟩:=rv;exact⟨t,H2,by dsimp only;rw[ekk];rfl,I2,sm2⟩
       |next=>exact bC hq
       |brk=>exact bC hq
       |cont=>exact bC hq
    ·have hlt:o.length=ts.length:=by simpa using hl
     have hxl:xs.length=1+o.length:=by rw[r.length,ax,hlt];lia
     obtain⟨i',w1,w2⟩:=WD o ts k0 t0 1 0 (λi=>((k0::o)[i]?).getD 0) hlt 00 rfl (λj hj=>by
      obtain rfl:j=0:=by lia
      exact⟨l7 _,λz=>by lia⟩) (λj q e=>by
      show ((k0::o)[1+j]?).getD 0=q;rw[dO,bg,e];rfl)
     have hi:=(ak.mp e).1;have hi':i'<xs.length:=by
      rcases w1 with ⟨z,_⟩|⟨j,z,ej⟩
      ·lia
      ·have:=(ak.mp ej).1;lia
     obtain rfl:i=i':=by
      have a1:=Z i' hi';have a2:=w2 i 00
      dsimp only at a1 a2;rcases Nat.lt_trichotomy i i' with z|z|z
      ·have:=a2.2 z;have:=a1.1;lia
      ·exact z
      ·have:=a1.2 z;have:=a2.1;lia
     obtain⟨t,et,rt⟩:=r.getV e;have htt:t=Jq k0 t0 o ts:=by
      rcases w1 with ⟨z,z2⟩|⟨j,z,ej⟩
      ·rw[z]at et;cases et;exact z2.symm
      ·rw[z,dO,bg,ej]at et;exact(aA et).symm
     rw[htt]at rt;exact q3 x y G (rt.mono (zN.ge I3.sB G))
   ·exact q3.elim
 |_=>exact q3.elim
end
noncomputable abbrev nc (x:Str):Str:=x++".<locals>."++"<lambda>"
noncomputable abbrev FT (K:aa)(mg:Str->Option Value)(x:Str)(st:Stmt)(ps:List Str)(Pt:Addr):Prop:=∃f fd c,Fn K mg x st ps f fd/\fd.code=.ref c/\eB K c Pt=true
abbrev qT (Z:Zz)(x:Str)(n k:Nat)(c:List T->R T)(Pt:Addr)(q:Str):Prop:=QQ x (lH Z.P Z.w) k (vj Z.cl n c Pt q) Z
section
variable {Z:Zz}{x:Str}{st:Stmt}{ps:List Str}{k n m:Nat}{fb:En->RS}{f:Addr}{fd:FuncData}{Pt:Addr}{q:Str}
def EJ (C:FT Z.K Z.mg x st ps Pt)(a:Z.base.BuiltinsAt Z.mg Pt)(N:List Str) (j:∀(f c:Addr) (A:Around) (outer:List Env) (s:Shared) (H:Hp) (E:XK) (Y:Fx),Lm (jc (lH Z.P Z.w) Z.P Z.w Z.K Z.mg Z.base N x (zq st) f (.ref c) A outer s H E) c Pt (nc x)->Y.H0 Pt=some (.tbl #[] (nc x))->Y.cl=Z.cl->Y.E=E->Ze k (A.deeper (envOfC x (zq st) s.1.1.size f (.ref c)))->N.Nodup->zS (lH Z.P Z.w) (jc (lH Z.P Z.w) Z.P Z.w Z.K Z.mg Z.base N x (zq st) f (.ref c) A outer s H E) Y.E->
   Jn (jc (lH Z.P Z.w) Z.P Z.w Z.K Z.mg Z.base N x (zq st) f (.ref c) A outer s H E) Y (zH st) fb)
  (S:Sc N ps st:=by refine⟨rfl,rfl,rfl,?_,rfl,?_,?_⟩<;>decide+kernel) (hn:n=ps.length:=by rfl) (i:m=N.length:=by rfl):qT Z x n (k+1) (oP m fb) Pt (nc x):=by
 obtain⟨f,fd,c,C,d,hd⟩:=C;subst i;exact⟨_,_,f,fd,C,D5 C.F d S hn (λA outer s H E Y hy hE hT hr=>j f c A outer s H E Y ⟨rfl,hd,a,rfl⟩ hT hy hE hr S.nd (hE▸ug)) λ_ _=>rfl⟩
end
section
variable {X:Cx}{Y:Fx}{cl:Nat->Value}{k j n:Nat}{g:List T->R T}{x q:Str}{Pt:Addr}{a b:Expr}{es:List Expr}{ga:En->R (List T)}{p pos:Pos}
def cT (hT:Y.H0 Pt=some (.tbl #[] q))(hy:Y.cl=cl)(hp:zS (lH X.prog X.w) X Y.E)(O:QQ x (lH X.prog X.w) j (vj cl n g Pt q) ⟨X.prog,X.w,X.K,X.mg,X.base,cl⟩)(hr:Ze k X.A)(y:JN X Y (a::es) ga)(u:j<=k:=by lia)(J:Gl X x:=by rfl)(hd:(x==("__debug__":Str))=false:=by decide)
  (o:starEach (a::es) X.env=(false,eval a X.env)::starEach es X.env:=by exact zC rfl) (v:((backTo pos (starEach es X.env)).any λx=>x.fst)=false:=by exact zX rfl):Snd X Y (.Call (.Name x p) (a::es) [] pos) (za n g ga):=by
 subst hy;refine O.go λ_ _ _ _ C F=>.mk λρ=>PE.imp (Jj F (hr.mono u) J C.m C.F.kp C.b .nil hp (y ρ) hd o v) λP H Q=>tS.on λB I q=>step I q λts vs N _ S l i f=>?_;split at f
 ·rename_i hn;rw[aW];refine⟨i.sH _ _ hT,_,ts,hn,i.sB,l,?_⟩;revert f;cases g ts with
  |ok t=>exact λq=>q
  |bad=>exact λq=>q
  |ex c=>exact λq d D s G=>q d D (i.sH.trans s) G
 ·exact f.elim
def mK {c:Addr}{kE:Nat}{l:Str}{params:Arguments}{body:Expr}{scope:Scope}{Q kp o:Pos}{js:List Nat}{fe fa D:En->R T}(L:Lm X c Pt q)(hT:Y.H0 Pt=some (.tbl #[] q))(hy:Y.cl=cl)(hr:Ze k X.A)(J:X.mg "min"=none)
  (h:KO X.N (l::nu X.N js) X.env.scope scope 1 js=true) (i:((scope.names.lookup l==some .local)&& !scope.isCoroutine&& !scope.isGenerator)=true) (P:Snd X Y a fa) (v:Snd X Y b D)
  (U:∀(base:Heap) (A:Around) (outer:List Env) (s:Shared) (H:Hp) (E:XK) (f c':Addr) (clos:List (Str×Addr)) (y:Fx),X.K.In base->y.cl=cl->y.E=E->Ze kE (A.deeper (envX q scope s.1.1.size f (.ref c') clos))->Snd (rh X.prog X.w X.K X.mg base (l::nu X.N js) q scope f (.ref c') clos A outer s H E) y body fe)
  (I:kE+2<=k:=by lia) (S:Gl X "min":=by rfl) (B:∀x,X.fn x=true:=by exact λ_=>rfl)
  (hp:∀(clos:List (Str×Addr)) (pm cd ctv u:Value),bindArgs (kla_fn "<lambda>" q params body scope clos pm cd ctv) ⟨[u],[]⟩=pure [(l,u)]:=by intros;rfl) (d:defaultsOf params X.env=([],[]):=by rfl) (G:lZ X a:=by exact lS rfl):
  Snd X Y (.Call (.Name "min" p) [a] [⟨some "key",.Lambda params body scope Q,kp⟩,⟨some "default",b,o⟩] pos) (Vv js fe fa D):=by
 rw[KO,ai]at h;rw[ai,ai]at i;exact Fa hy L hT B hr I S J P v _ _ _ rfl rfl h.1 (by simpa using i.1.2) (by simpa using i.2) (uu h.2) rfl (eq_of_beq i.1.1) U hp d G
end
def PoW (Y:Fx)(B:Hp)(q:Nat)(r:R En)(i:Sg)(Q:VK):Prop:=match r with
 |.ok ρ'=>∀a d f k n,zr B f->SI Y f ρ' (i.set q (some (V.ref a))) d->ρ'[q]?=some (.ob k n)->Q (.ref a) d
 |.ex c=>XP Y B c
 |.bad=>False
def PoW.up {Y:Fx}{B i:Hp}{q:Nat}{r:R En}{j:Sg}{Q:VK}(s:zr B i)(h:PoW Y B q r j Q):PoW Y i q r j Q:=by
 cases r with
 |ok ρ=>exact λa f l k n p=>h a f l k n (s.trans p)
 |ex c=>exact λd f u o=>h d f u (s.trans o)
 |bad=>exact h
def tW (Y:Fx)(q:Nat)(m:En->R En)(ρ:En):TE:=λa H Q=>∃B,SI Y B ρ a H/\PoW Y B q (m ρ) a Q
structure Vw (X:Cx) (Y:Fx) (e:Expr) (q:Nat) (m:En->R En):Prop where
 go:∀ρ,PE X e (tW Y q m ρ)
section
variable {X:Cx}{Y:Fx}{a b:Expr}{cl:Nat->Value}{k i i2 q q2 j kk kj nn:Nat}{x y c w w2:Str}{pc px py pt pt2 pos pos':Pos}{kt k2:Nat}{C f:Addr}{fd:FuncData}{ps:List Str}{es:List Expr}{ga:En->R (List T)}
def Ao {g:List (Str×Fd)->List T->R (T×List (Str×Fd))}(hy:Y.cl=cl)(hc:cl k=.ref C)(M:L2.Mk X.K C f)(F:ZX X.prog X.w X.K X.mg X.base (lH X.prog X.w) kj f fd ps (pN cl k nn g))(hr:Ze kk X.A)(hj:kj+1<=kk)(gl:Gl X c)(mg:X.mg c=some (.ref C))(bd:L2.Binds X.K fd ps [])(hp:zS (lH X.prog X.w) X Y.E)(ha:JN X Y (a::es) ga)
  (hd:(c==("__debug__":Str))=false:=by decide) (hst:starEach (a::es) X.env=(false,eval a X.env)::starEach es X.env:=by exact zC rfl) (hpl:((backTo pos' (starEach es X.env)).any λx=>x.fst)=false:=by exact zX rfl):
  Vw X Y (.Call (.Name c pc) (a::es) [] pos') q (nh q j k nn g ga):=.mk λρ=>by
 refine PE.imp (Xl M F (hr.mono hj) gl mg bd .nil hp (ha ρ) hd hst hpl) λσ H Q zz=>?_;obtain⟨B,I,J⟩:=zz;generalize em:nh q j k nn g ga ρ=mr at J;have l:=em;unfold nh at l;refine⟨B,I,?_⟩;cases U:ga ρ with
 |bad=>rw[U]at l;subst l;exact J
 |ex c=>rw[U]at l;subst l;exact J
 |ok ts=>
  rw[U]at l;intro vs G s1 r1;have S:=I.grow s1;have o:=J.up (zN.ge I.sB s1);have l:(if ts.length=nn/\q≠j/\q<ρ.length then (match ρ[j]? with
   |some (.st os)=>(match g [] ts with
    |.ok (.non,fs)=>.ok ((ρ.set j (.st (os++[(k,fs)]))).set q (.ob k os.length))
    |.ex c=>.ex c
    |_=>.bad)
   |_=>.bad)else .bad:R En)=mr:=l
  subst hy;split at l
  ·rename_i hn;intro u P h1 h2 h3;rw[aW];split at l
   ·rename_i os ej;have sd:zr G (lf G P (.own u)):=zr.new h2 _;have D:lf G P (.own u) u=none:=by rw[zu (aY h3)];exact h1
    refine⟨u,vs,ts,_,lf G P (.own u),[],rfl,hn.1,S.sB.trans sd,zr.new D _,⟨C,P,[],λ_=>some 0,hc,zw,S.sB.free h1,D,rfl,⟨rfl,λ_ _=>rfl⟩,λm f d z=>by cases z⟩,r1,?_⟩
    revert l;cases g [] ts with
    |bad=>exact λe=>by subst e;exact o
    |ex c2=>exact λe=>by subst e;exact λd Z z1 N=>o d Z ((S.sH.trans sd).trans z1) N
    |ok p=>
     obtain⟨t,fs2⟩:=p;cases t with
     |non=>
      intro e v Z B' z1 N z3 z4 z5 z6;cases z6;refine⟨rfl,?_⟩;have em2:mr=.ok ((ρ.set j (.st (os++[(k,fs2)]))).set q (.ob k os.length)):=e.symm;subst em2;have S1:=S.made (i:=q) ej hn.2.1 hn.2.2 sd z1 N z3 z4 z5;exact(o.up N) u Z B' k os.length (zr.refl _) S1 (aH (by rw[aw];exact hn.2.2))
     |_=>exact λe=>by subst e;exact o.elim
   ·subst l;exact o.elim
  ·subst l;exact o.elim
def uv (i i2 q q2:Nat)(m p:En->R En):En->RS:=λρ=>(m ρ).s λl=>(p l).s λd=>match d[q]?,d[q2]? with
 |some (.ob k n),some (.ob o u)=>.nx ((((d.set i (.ob k n)).set i2 (.ob o u)).set q .un).set q2 .un)
 |_,_=>.bad
def Co {p:Type}(l:List p){i i2 q q2:Nat}(a b:p)(N:q≠i)(J:q≠i2)(G:q2≠i)(I:q2≠i2)(P:q≠q2){u v:p}(D:l[q]?=some u)(d:l[q2]?=some v):(((((l.set q a).set q2 b).set i a).set i2 b).set q u).set q2 v=(l.set i a).set i2 b:=by
 apply dg
 intro n;simp only[List.getElem?_set]
 by_cases o:q2=n
 ·subst o;simp only[aw,if_pos rfl,if_neg (aY I),if_neg (aY G)];rw[d,if_pos (ak.mp d).1];exact if_pos trivial
 ·by_cases B:q=n
  ·subst B;simp only[aw,if_pos rfl,if_neg o,if_neg (aY N),if_neg (aY J)];rw[D,if_pos (ak.mp D).1];exact if_pos trivial
  ·simp only[aw,if_neg o,if_neg B]
def Vx {m m2:En->R En}(hc':X.calm=true)(hN:X.N.Nodup)(hi:X.N[i]?=some x)(Z:X.N[i2]?=some y)(hij:i≠i2)(hx:X.env.scope.names.lookup x=some .local)(U:X.env.scope.names.lookup y=some .local)(hq:X.N[q]?=some w)(S:X.env.scope.names.lookup w=none)(o:X.N[q2]?=some w2)(p:X.env.scope.names.lookup w2=none)(hqq:q≠q2)
  (ha:Vw X Y a q m) (hb:Vw X Y b q2 m2) (hs:swappedStores [.Tuple [.Name x px,.Name y py] kt pt] (.Tuple [a,b] k2 pt2) X.env=pure (some [x,y])) (hs3:starEach [a,b] X.env=(false,eval a X.env)::starEach [b] X.env:=by exact zC rfl) (hs4:starEach [b] X.env=(false,eval b X.env)::starEach [] X.env:=by exact zC rfl)
  (hw:swapsWithSole [.Tuple [.Name x px,.Name y py] kt pt] (.Tuple [a,b] k2 pt2) pos.line X.env=pure false:=by rfl):
  Jf X Y (.Assign [.Tuple [.Name x px,.Name y py] kt pt] (.Tuple [a,b] k2 pt2) pos) (uv i i2 q q2 m m2):=.mk λρ=>by
 have P:PA X [b] (match m ρ with|.ok l=>(λu H Q=>tW Y q2 m2 l u H λv H1=>Q [v] H1)|_=>λ_ _ _=>False):=by
  cases m ρ with
  |ok l=>exact qH (hb.go l) zT o p hs4
  |ex c=>exact λ_ _ _ _ _ _ _ h=>h.elim
  |bad=>exact λ_ _ _ _ _ _ _ h=>h.elim
 refine PS.imp (xh hc' hN hi Z hij hx U (qH (ha.go ρ) P hq S hs3) hs hw) λD u H=>tSS.on λB I d=>⟨B,I,?_⟩;have nq:∀{i' q':Nat} {x' w':Str},X.N[q']?=some w'->X.env.scope.names.lookup w'=none->X.N[i']?=some x'->X.env.scope.names.lookup x'=some .local->q'≠i':=λh0 h0' h1 h2 e=>by
  subst e;rw[h0]at h1;cases h1;rw[h0']at h2;cases h2
 unfold uv at d;revert d;cases e1:m ρ with
 |bad=>exact λd=>d
 |ex c=>exact λd=>d
 |ok l=>
  intro d a1 H1 B1 k1 n1 sB1 I1 g1;refine⟨B1,I1,?_⟩;have d:=PoS.up sB1 d;revert d;show PoS Y B1 ((m2 l).s _) D->_;cases e2:m2 l with
  |bad=>exact λd=>d
  |ex c=>exact λd=>d
  |ok G=>
   intro d a2 H2 B2 k2 n2 sB2 I2 g2;have d:=PoS.up sB2 d;revert d;show PoS Y B2 (match G[q]?,G[q2]? with|some (.ob k n),some (.ob k' n')=>.nx ((((G.set i (.ob k n)).set i2 (.ob k' n')).set q .un).set q2 .un)|_,_=>.bad) D->_
   rw[g2];split
   ·rename_i k n k' n' g1' g2';cases g2';intro d;refine⟨_,_,rfl,?_⟩;have hl2:q2<u.length:=by
     have:=I2.len;rw[aw,aw]at this;have:=(ak.mp g2).1;lia
    have hl1:q<u.length:=by
     have:=I2.len;rw[aw,aw]at this;have:=(ak.mp g1').1;lia
    have v1:((u.set q (some (V.ref a1))).set q2 (some (V.ref a2)))[q]?=some (some (V.ref a1)):=by rw[av (aY hqq),aH hl1]
    have v2:(((u.set q (some (V.ref a1))).set q2 (some (V.ref a2))).set i (some (V.ref a1)))[q2]?=some (some (V.ref a2)):=by rw[av (aY (nq o p hi hx)),aH (by rw[aw];exact hl2)]
    have g3:(G.set i (.ob k n))[q2]?=some (.ob k2 n2):=by rw[av (aY (nq o p hi hx))];exact g2
    have J:=(((I2.cpO g1' v1 i).cpO g3 v2 i2).forget q u[q]).forget q2 u[q2];rw[Co u _ _ (nq hq S hi hx) (nq hq S Z U) (nq o p hi hx) (nq o p Z U) hqq (am hl1) (am hl2)]at J;exact d _ _ _ (zr.refl _) J
   ·exact λd=>d.elim
end
end PV
namespace PV
open PySem PySem.Spec PyProof.Rows L2
end PV
namespace PV
open PySem PySem.Spec PyProof.Rows L2 PySem.W
end PV
namespace L2
open PySem PySem.Spec PyProof.Rows
end L2
namespace PV
open PySem PySem.Spec PyProof.Rows L2 PySem.W
end PV
namespace L2
open PySem PySem.Spec PyProof.Rows PySem.W
end L2
namespace PV
open PySem PySem.Spec PyProof.Rows L2 PySem.W
end PV
namespace PV
open PySem PySem.Spec PyProof.Rows L2 PySem.W PySem.Calls
end PV
namespace PV
open PySem PySem.Spec PyProof.Rows L2 PySem.W
end PV
namespace L2
open PySem PySem.Spec PyProof.Rows
end L2
namespace PV
open PySem PySem.Spec PyProof.Rows L2 PySem.W
end PV
namespace PV
open PySem PySem.Spec PyProof.Rows L2 PySem.W PySem.Calls
end PV
namespace PV
open PySem PySem.Spec PyProof.Rows L2 PySem.W
end PV
namespace PV
open PySem PySem.Spec PyProof.Rows L2 PySem.W PySem.Calls
end PV
namespace PV
open PySem PySem.Spec PyProof.Rows L2 PySem.W
section
variable {X:Cx}{Y:Fx}{ib is jf iw iy:Nat}{b s f wo wy pl:Str}{fi fw fs ft fp:En->R T}{gp:List T->R T}{cl:Nat->Value}
 {p1 p2 p3 p4 p5 p6 p7 p8 p9 p10 p11 p12 p13 p14 p15 p16 p17 p18 p19 p20 p21 p22 p23 p24 p25 p26 p27 p28 p29 p30 p31 p32 p33 p34 p35 p36 p37 p38 p39 p40 p41 p42 p43 p44 p45 p46 p47 p48 p49 p50 p51:Pos} {k1 k2 k3 k4 k5 c1 c2 kP kr:Nat} {EI EW ES ET EP:Expr}
end
end PV
namespace PySem
open Sem (wp)
end PySem
namespace PySem
open Sem (wp)
open PySem.W
end PySem
namespace L2
open PySem PySem.Spec PyProof.Rows
end L2
namespace PV
open PySem PySem.Spec PyProof.Rows L2 PySem.W
end PV
namespace PySem
open PySem PySem.Calls PySem.NumText PyProof.Rows PySem.W
end PySem
namespace PySem
open Sem (wp)
open PySem.W PyProof.Rows
end PySem
namespace PySem
open PySem.W PyProof.Rows
section
variable {prog:Program}{w:World}{A:Around}{E:Value->Shared->Prop}{s:Shared}{env:Env}
variable {nm q:Str}{C N:Addr}{bs bm:List Value}{hdct:Bool}{sn:List Str}{sub:List Value}{ab:Bool}{col:Option Bool}{dd:Option Addr}{k0 k1 k2 k3 k5:Option Value}{newId:String}
end
end PySem
namespace L2
open PySem PySem.Spec PyProof.Rows PySem.W
end L2
namespace PySem
open Sem (wp)
end PySem
namespace PV
open PySem PySem.Spec PyProof.Rows L2
end PV
namespace PySem.W
open PySem PySem.Calls PyProof.Rows
end PySem.W
namespace L2
open PySem PySem.Spec PyProof.Rows PySem.W
end L2
namespace PySem
open PySem.W PyProof.Rows
end PySem
namespace L2
open PySem PySem.Spec PyProof.Rows PySem.W
end L2
namespace PV
open PySem PySem.Spec PyProof.Rows L2 PySem.W
end PV
namespace PySem
open PySem.W PyProof.Rows
end PySem
namespace L2
open PySem PySem.Spec PyProof.Rows
end L2
namespace PV
open PySem PySem.Spec PyProof.Rows L2 PySem.W
end PV
namespace PV
open PySem PySem.Spec PyProof.Rows L2
end PV
namespace PV
open PySem PySem.Spec PyProof.Rows L2 PySem.W
end PV
namespace PySem
open PySem.W PyProof.Rows
end PySem
namespace PV
open PySem PySem.Spec PyProof.Rows L2 PySem.W
end PV
namespace PV
open PySem PySem.Spec PyProof.Rows L2
def UO (n:Nat)(f d:List T->R T)(fi:En->R T)(a:En->R (List T)):En->R T:=λρ=>(fi ρ).bind λt=>match t with
 |.int i=>if i=0 then za n f a ρ else if i=1 then za n d a ρ else .bad
 |_=>.bad
section
variable {X:Cx}{Y:Fx}{a b:Expr}{fa:En->R T}{pos p p1 p2 p3 lp sp':Pos}
def UP {cl:Nat->Value}{n:Nat}{g0 g1:List T->R T}{G y:Addr}{J U:Str}{fi:En->R T}{N:List Expr}{u:En->R (List T)}(hy:Y.cl=cl)(hp:zS (lH X.prog X.w) X Y.E)(m0:X.mg J=some (.ref G))(m1:X.mg U=some (.ref y))
  (C0:Cb X cl n g0 G) (C1:Cb X cl n g1 y) (gl0:Gl X J) (gl1:Gl X U) (hi:Snd X Y b fi) (ha:JN X Y (a::N) u) (hb:uX b:=by exact λ_ _=>rfl)
  (hd0:(J==("__debug__":Str))=false:=by decide) (hd1:(U==("__debug__":Str))=false:=by decide)
  (hs:starEach (a::N) X.env=(false,eval a X.env)::starEach N X.env:=by exact zC rfl) (hz:((backTo pos (starEach N X.env)).any λx=>x.fst)=false:=by exact zX rfl):
  Snd X Y (.Call (.Subscript (.List [.Name J p1,.Name U p2] lp) b p) (a::N) [] pos) (UO n g0 g1 fi u):=.mk λρ=>by
 subst hy;have h3:PA X [.Name J p1,.Name U p2] (λσ H Q=>Q _ H):=zB (Wp (v:=.ref G) gl0 m0 rfl hd0) (zB (Wp (v:=.ref y) gl1 m1 rfl hd1) zT (zC rfl)) (zC rfl);refine PE.imp (Vp (gN Yw (u6 h3) (hi ρ) hb) (ha ρ) hp hs hz) λσ H Q=>tS.on λB I q=>?_;refine⟨by show 2<=sizeLine;decide,λl hl=>?_⟩
 have S0:zr H (lf H l (.lst [.ref G,.ref y])):=zr.new hl _;have I0:=I.grow S0;have q0:=qx I.sB S0 q;have P:∀{f:Addr} {g:List T->R T} {o B1:Hp},Cb X _ n g f->SI Y B1 ρ σ o->Po Y rC B1 o (za n g u ρ) Q->∃f' S n' g',V.ref f=.ref f'/\Cb X S n' g' f'/\tS Y AX u ρ σ o λvs H2=>spP S n' g' vs H2 Q Y.E:=λ{f g o B1} C Z j=>
  ⟨f,Y.cl,n,g,rfl,C,step Z j λts vs H2 _ s2 r2 I2 k=>by
   split at k
   ·rename_i hn;refine⟨_,ts,hn,I2.sB,r2,?_⟩;revert k;cases g ts with
    |bad=>exact λk=>k
    |ex c=>exact λk d H' s sB=>k d H' (I2.sH.trans s) sB
    |ok t=>exact λk=>k
   ·exact k.elim⟩
 refine step I0 q0 λt v o _ s1 r1 Z j=>?_;cases r1 with
 |int i=>
  have D:=s1 _ _ zw;have j:Po Y rC _ o (if i=0 then za n g0 u ρ else if i=1 then za n g1 u ρ else .bad) Q:=j
  by_cases h0:i=0
  ·subst h0;exact⟨l,_,0,.ref G,rfl,rfl,SqL.of D,rfl,P C0 Z j⟩
  ·rw[if_neg h0]at j
   by_cases h1:i=1
   ·subst h1;exact⟨l,_,1,.ref y,rfl,rfl,SqL.of D,rfl,P C1 Z j⟩
   ·rw[if_neg h1]at j;exact j.elim
 |_=>exact j.elim
end
end PV
namespace PV
open PySem PySem.Spec PyProof.Rows L2 PySem.W
section
variable {Z:Zz}{x q:Str}{st:Stmt}{ps:List Str}{k n m:Nat}{fb:En->RS}{f:Addr}{fd:FuncData}{Pt:Addr}
def HV (C:Fn Z.K Z.mg x st ps f fd)(N:List Str) (J:∀(cdv:Value) (A:Around) (outer:List Env) (s:Shared) (H:Hp) (E:XK) (Y:Fx),Y.H0 Pt=some (.tbl #[] q)->Y.cl=Z.cl->Y.E=E->Ze k (A.deeper (envOfC x (zq st) s.1.1.size f cdv))->N.Nodup->zS (lH Z.P Z.w) (jc (lH Z.P Z.w) Z.P Z.w Z.K Z.mg Z.base N x (zq st) f cdv A outer s H E) Y.E->
   Jn (jc (lH Z.P Z.w) Z.P Z.w Z.K Z.mg Z.base N x (zq st) f cdv A outer s H E) Y (zH st) fb)
  (S:Sc N ps st:=by refine⟨rfl,rfl,rfl,?_,rfl,?_,?_⟩<;>decide+kernel) (hn:n=ps.length:=by rfl) (o:m=N.length:=by rfl):ZX Z.P Z.w Z.K Z.mg Z.base (lH Z.P Z.w) (k+1) f fd ps (vj Z.cl n (oS m fb) Pt q):=by
 subst o hn;obtain⟨oc,od,kV,j,pm,X,cdv,ct,y,rfl,u,i⟩:=C.F.ex;refine vK u i S (λvs H Q E z=>spP.len vs H Q E z.2) λA outer s H vs Q E hr G=>?_;obtain⟨hT,B,ts,hl,U,r,q⟩:=G;refine⟨_,J cdv A _ s H E ⟨B,H,E,Z.cl,[]⟩ hT rfl rfl hr S.nd ug _,B,SI.startS U r rfl,?_⟩;have q:Po ⟨B,H,E,Z.cl,[]⟩ rC B H (zx (fb (sP N.length ts))) Q:=q;revert q;cases fb _ with
 |rt t=>exact λq v d s r=>q v d s r
 |rf t=>exact λq a xs d p D n e r _ l=>q _ d D (.lst (by rw[zD n];exact e) (r.mono l))
 |nx ρ=>exact λq σ' d p _ I=>q _ d I.sH .non
 |ex c=>exact λq=>q
 |bk ρ=>exact λq=>q.elim
 |ct ρ=>exact λq=>q.elim
 |bad=>exact λq=>q
end
def Vy:V->List V->Hp->VK->Prop:=λx vs H Q=>∃l xs,x=.ref l/\vs=[]/\H l=some (.lst xs)/\Q .non (lf H l (.lst xs.reverse))
def yO {X:Cx}:Aw X "list.reverse" Vy:=by
 intro a s o H x vs v p Q I i j h;obtain⟨l,xs,rfl,rfl,d,q⟩:=h;cases i;cases j;obtain⟨z,f,n,r,k,e⟩:=I.lstM d;refine dh eY ⟨_,e,rfl⟩ PySem.F.entry_list_reverse (PySem.F.args_list_reverse_1 _) (PySem.AutoListH.list_reverse_list_0 l _ n (by rw[aD];lia)) ⟨e,?_⟩
 exact⟨.non,_,I.lset d e (by simp) r.reverse (by rw[c8];exact z),rfl,q⟩
noncomputable def CJ:Sl->Bool
 |.un=>true
 |.vl _=>true
 |.st []=>true
 |_=>false
def vk (ρ:En):Bool:=ρ.all CJ
def uw {ρ:En}(h:vk ρ=true){i:Nat}{s:Sl}(e:ρ[i]?=some s):CJ s=true:=aI.mp h s (aT e)
def SI.anew {Y:Fx}{B f H l:Hp}{ρ ρ':En}{p σ':Sg}(I:SI Y B ρ p H)(hp:vk ρ'=true)(sH:zr Y.H0 l)(sB:zr f l)(old:∀b o,Y.H0 b=some o->f b=Y.B0 b)(len:ρ'.length=σ'.length)(vl:∀(i:Nat) (t:T),ρ'[i]?=some (.vl t)->∃v,σ'[i]?=some (some v)/\Rep f v t)
  (a:∀(i:Nat) (os:List Ob),ρ'[i]?=some (.st os)->ρ[i]?=some (.st os)):SI Y f ρ' σ' l where
 s0:=I.s0
 sH:=sH
 sB:=sB
 old:=old
 len:=len
 vl:=vl
 ow:=λi ts e=>nomatch uw hp e
 xc:=λi c e=>nomatch uw hp e
 st:=by
  obtain⟨as,O,x⟩:=I.st;exact⟨as,O,x.pre,λi os h=>x.len i os (a i os h),λi j os d h h'=>x.one i j os d (a i os h) (a j d h'),λi k n e=>(nomatch uw hp e),λi k fs e=>(nomatch uw hp e),λi os e n k fs z=>by
   have:=uw hp e;cases os with
   |nil=>cases z
   |cons _ _=>cases this⟩
section
variable {X:Cx}{i k j1:Nat}{tn x:Str}{px pt p1 a1 c1 q1 r1 p2 a2 q2 r2 pos:Pos}
def EY (hp:PassesOwn 05 X.A X.env X.xe)(hc:X.calm=true)(nd:X.N.Nodup)(hi:X.N[k]?=some x)(hx:Loc X.env.scope x)(hf:X.fn x=true\/X.env.scope.names.lookup x=some .local)(vt:PE X (.Name tn pt) (Jg i))(v1:PE X (.Name x p1) (Jg k))(v2:PE X (.Name x p2) (Jg k))
  (J:(a1.endLine==q1.line)=true:=by rfl) (hz2:(a2.endLine==q2.line)=true:=by rfl) (hb1:attributeBase (.Name x p1) "append" X.env (eval (.Name x p1) X.env)=eval (.Name x p1) X.env:=by rfl) (hb2:attributeBase (.Name x p2) "reverse" X.env (eval (.Name x p2) X.env)=eval (.Name x p2) X.env:=by rfl)
  (S:swapsWith (.Call (.Attribute (.Name x p1) "append" a1) [.Constant .none j1 c1] [] q1) none r1.line X.env=pure false:=by rfl) (hw2:swapsWith (.Call (.Attribute (.Name x p2) "reverse" a2) [] [] q2) none r2.line X.env=pure false:=by rfl):
  PS X (.For (.Name x px) (.Name tn pt) [.Expr (.Call (.Attribute (.Name x p1) "append" a1) [.Constant .none j1 c1] [] q1) r1,.Expr (.Call (.Attribute (.Name x p2) "reverse" a2) [] [] q2) r2] [] pos)
   (λD f H=>∃(l:Addr) (as:List Addr),f[i]?=some (some (V.ref l))/\H l=some (.lst (as.map V.ref))/\as.Nodup/\l∉as/\i≠k/\k<f.length/\(∀a∈as,∃xs,H a=some (.lst xs)/\xs.length<sizeLine)/\∀σ' p,(∀j,j≠k->σ'[j]?=f[j]?)->σ'.length=f.length->(∀b,b∉as->p b=H b)->D.nx σ' p):=by
 refine PS.imp (xi hp hc (Yg vt) (jd nd hi hx hf) (jy (Jh (yE bV f9 fg wm v1 (zB Yb zT) hb1 rfl J) S) (jR (Jh (gR bV eY PySem.F.type_list_reverse yO v2 hb2 hz2) hw2)))) λD f H zz=>?_;obtain⟨l,as,e1,e2,e3,e4,e5,e6,e7,e8⟩:=zz;refine⟨.ref l,e1,l,rfl,⟨_,SqL.of e2⟩,λn m σ' p=>m=as.length-n/\n<=as.length/\(∀j,j≠k->σ'[j]?=f[j]?)/\σ'.length=f.length/\(∀b,b∉as->p b=H b)/\∀j,n<=j->∀a,as[j]?=some a->p a=H a,⟨as.length,by simp,bu _,λ_ _=>rfl,rfl,λ_ _=>rfl,λ_ _ _ _=>rfl⟩,?_⟩
 rintro n m σ' p ⟨rfl,hn,g1,P,Q,g4⟩
 have U:p l=some (.lst (as.map V.ref)):=(Q l e4).trans e2
 by_cases d:n<as.length
 ·have G:=am d;obtain⟨xs,Z,hxl⟩:=e7 _ (fP d);refine .inr ⟨⟨_,.ref as[n],SqL.of U,by rw[aj,G];rfl⟩,λu B=>(∀j,j≠k->u[j]?=f[j]?)/\u.length=f.length/\(∀b,b∉as->B b=H b)/\∀j,n+1<=j->∀a,as[j]?=some a->B a=H a,λu B z=>⟨as.length-(n+1),by lia,rfl,d,z⟩,λv B y=>?_⟩
  obtain⟨rfl,y⟩:=y;have ev:v=.ref as[n]:=by
   have:=y _ (SqL.of U);rw[aj,G]at this;exact(aA this).symm
  subst ev;have hk:(σ'.set k (some (V.ref as[n])))[k]?=some (some (V.ref as[n])):=by rw[aH (by rw[P];exact e6)]
  have h0:=(g4 n (ar _) _ G).trans Z;refine⟨.ref as[n],hk,.inl ⟨rfl,_,SqL.of h0⟩,as[n],xs,.non,rfl,rfl,h0,hxl,?_⟩;refine⟨.ref as[n],hk,.inl ⟨rfl,_,SqL.of zw⟩,as[n],_,rfl,rfl,zw,?_⟩;refine⟨λj hj=>(av (aY hj)).trans (g1 j hj),by rw[aw];exact P,λb hb=>?_,λj hj a o=>?_⟩
  ·have:b≠as[n]:=λe=>hb (e▸fP d);rw[zu this,zu this];exact Q b hb
  ·have:a≠as[n]:=λe=>by
    have I:j<as.length:=by
     rcases iO j as.length with h|h
     ·exact h
     ·rw[aU h]at o;cases o
    have:=(List.getElem?_inj I e3).mp (o.trans ((congrArg some e).trans G.symm));lia
   rw[zu this,zu this];exact g4 j 00 a o
 ·exact .inl ⟨⟨_,SqL.of U,by rw[ah];lia⟩,e8 σ' p g1 P Q⟩
end
section
variable {X:Cx}{i:Nat}{tn y:Str}{p1 p2 pt pos:Pos}{elt:Expr}{sc1:Scope}
def kX {X:Cx}{y:Str}{pl d k:Pos}(f:Gl X "list")(j:X.mg "list"=none)(v:PE X (.Name y d) (Jg 0)):PE X (.Call (.Name "list" pl) [.Name y d] [] k) (tm (λxs H Q=>∃p a,xs=[.ref p]/\(SqL X.K H p a\/SqT X.K H p a)/\∀l,H l=none->Q (.ref l) (lf H l (.lst a))) (vH (Jg 0) gH)):=
 je ue f j (PyProof.Rows.Boot.«list») (zB v zT (lS rfl)) 03 03 (lS rfl) rfl
abbrev pH (K:aa):TE:=tm (λxs H Q=>∃p ys,xs=[.ref p]/\(SqL K H p ys\/SqT K H p ys)/\∀l,H l=none->Q (.ref l) (lf H l (.lst ys))) (vH (Jg 0) gH)
def Dm (H j:Hp)(as f:List Addr):Prop:=f.length=as.length/\∀(n:Nat) (d:Addr),f[n]?=some d->∃a xs,as[n]?=some a/\H a=some (.lst xs)/\j d=some (.lst xs)/\H d=none
def kY {i:Nat}{x:Str}{B iter:Expr}{scope:Scope}{N':List Str}{k:Nat}{js:List Nat}{pos pc p':Pos}{wi:TI}{g:TG}{te:TE}(S:rl X scope)(CP:Gr X scope N' k js)(hc:X.calm=true)(hi:PI X B iter wi)(hg:YY X scope N' λU=>PG U B g)(he:xD X scope N' (λ_ _ _=>False) λU=>PE U elt te)(hN:X.N.Nodup)(hi':X.N[i]?=some x)(hx:L2.Loc X.env.scope x)
  (hsw:swapsWith (.ListComp elt [⟨B,iter,[],0⟩] scope pc) (some (.Name x p')) pos.line X.env=pure true) (hf:X.fn x=true\/X.env.scope.names.lookup x=some .local) (hs:∀x,foldedSetIterable iter X.env x=pure x:=by intro _;rfl):
  PS X (.Assign [.Name x p'] (.ListComp elt [⟨B,iter,[],0⟩] scope pc) pos) (λD j H=>wi j H λJ H1=>∀d,H1 d=none->∃W,(∃m,W 0 m [] (U4 k js j) (lf H1 d (.lst [])))/\YW J d g (λ_ H Q=>Q true H) te (λ_ l=>D.nx (j.set i (some (.ref d))) l) W):=by
 rintro pins s j H D I h
 rw[exec_Assign_Name_used _ _ _ _ hsw];refine a7 (dz (a7 ?_));refine a7 (lF (JS (jA rfl) (F:=λd l=>D.nx (j.set i (some (.ref d))) l) S CP hc hi hg (λ_ _ _ _ _ _=>YU) he I h ?_ hs) λ_ s' hq=>au (au hq));intro d Cc l s' I' q' hC h0 hL f p hns;obtain⟨m,hm⟩:=hns;refine wpAny_assign_Name (we (v:=.ref d) I' hN hi' hx rfl (λs'' P zz=>?_) hf);obtain⟨a,Z,ha⟩:=zz;have G:Cc≠a:=by
  rcases ha with rfl|ha
  ·exact hL
  ·exact(f x a ha).symm
 refine⟨m,hm.sameBut Z G,λh' u=>⟨_,l,?_,q'⟩⟩;exact P.turned (λb o hb e=>u.extBut b o hb e) hC hL (.inr h0) f p
def DW {j:Nat}{x:Str}{p2 s2:Pos}{N:List Str}{u:Scope}(hc:X.calm=true)(vt:PE X (.Name tn pt) (Jg i))(hN:X.N=N)(h0:X.env.scope=u)(P:(k6 sc1 u&&k7 N [y] sc1 u 1 [])=true)(hg:YY X sc1 [y] λXC=>PG XC (.Name y p1) (wf 0))(he:xD X sc1 [y] (λ_ _ _=>False) λXC=>PE XC elt (pH X.K))(nd:X.N.Nodup)(B:X.N[j]?=some x)(hx:L2.Loc X.env.scope x)
  (hsw:swapsWith (.ListComp elt [⟨.Name y p1,.Name tn pt,[],0⟩] sc1 pos) (some (.Name x p2)) s2.line X.env=pure true) (hf:X.fn x=true\/X.env.scope.names.lookup x=some .local):
  PS X (.Assign [.Name x p2] (.ListComp elt [⟨.Name y p1,.Name tn pt,[],0⟩] sc1 pos) s2) (λDd σ H=>∃(l:Addr) (as:List Addr),σ[i]?=some (some (V.ref l))/\H l=some (.lst (as.map V.ref))/\as.length<=1000/\(∀a∈as,∃xs,H a=some (.lst xs))/\∀D f k,H D=none->zr H k->k D=some (.lst (f.map V.ref))->Dm H k as f->D∉f->Dd.nx (σ.set j (some (.ref D))) k):=by
 rw[ai]at P;refine PS.imp (kY (qd u h0 P.1) (U6 N u hN h0 P.2) hc (Yg vt) hg he nd B hx hsw hf) λDd σ H zz=>?_;obtain⟨l,as,e1,e2,e3,e4,e5⟩:=zz;refine⟨.ref l,e1,l,rfl,⟨_,SqL.of e2⟩,λD hD=>?_⟩;refine⟨λn m S σ' k=>m=as.length-n/\n<=as.length/\σ'.length=1/\zr H k/\∃f:List Addr,S=f.map V.ref/\f.length=n/\k D=some (.lst S)/\D∉f/\∀(j:Nat) (d:Addr),f[j]?=some d->∃a xs,as[j]?=some a/\H a=some (.lst xs)/\k d=some (.lst xs)/\H d=none,⟨as.length,by simp,bu _,rfl,zr.new hD _,[],rfl,rfl,zw,by simp,λj d h=>by cases h⟩,?_⟩
 rintro n m S σ' k ⟨rfl,hn,hs,U,f,rfl,hd,p,J,hds⟩
 refine⟨p,?_⟩;have hl:k l=some (.lst (as.map V.ref)):=U _ _ e2
 by_cases G:n<as.length
 ·have ha:=am G;obtain⟨xs,Z⟩:=e4 _ (fP G);refine .inr ⟨⟨_,.ref as[n],SqL.of hl,by rw[aj,ha];rfl⟩,λv H2 y=>?_⟩
  obtain⟨rfl,y⟩:=y;have ev:v=.ref as[n]:=by
   have:=y _ (SqL.of hl);rw[aj,ha]at this;exact(aA this).symm
  subst ev;have hk:(σ'.set 0 (some (V.ref as[n])))[0]?=some (some (V.ref as[n])):=by rw[aH (by rw[hs];decide)]
  refine⟨.ref as[n],hk,as[n],xs,rfl,.inl (SqL.of (U _ _ Z)),λd I=>?_⟩;have nD:D≠d:=λe=>by rw[e,I]at p;cases p
  have Q:H d=none:=by
   cases q:H d with
   |none=>rfl
   |some o=>rw[U _ _ q]at I;cases I
  have hDl:H D=none:=hD;refine⟨by rw[zu nD];exact p,?_,as.length-(n+1),by lia,rfl,G,by rw[aw];exact hs,λb o hb=>?_,f++[d],by rw[c9];rfl,by rw[aB,hd];rfl,by rw[zw],?_,λj d' B=>?_⟩
  ·rw[ah,hd];exact aP G (aC e3 03)
  ·rw[zu (zG hb hDl),zu (zG hb Q)];exact U _ _ hb
  ·intro h;rcases bh.mp h with h|h
   ·exact J h
   ·exact nD (aQ.mp h)
  ·by_cases hjl:j<f.length
   ·rw[aG hjl]at B;obtain⟨a,S,z1,z2,z3,z4⟩:=hds j d' B;have m1:d'≠D:=λe=>J (e▸aT B);have m2:d'≠d:=λe=>by rw[e,I]at z3;cases z3
    exact⟨a,S,z1,z2,by rw[zu m1,zu m2];exact z3,z4⟩
   ·rw[aE 00]at B
    have hj0:j-f.length=0:=by
     rcases ix (j-f.length)with h|h
     ·exact h
     ·rw[aU (by simp;lia)]at B;cases B
    rw[hj0]at B;have:d=d':=aA B;subst this;have:j=n:=by lia
    subst this;exact⟨_,xs,ha,Z,by rw[zu (aY nD),zw],Q⟩
 ·exact .inl ⟨⟨_,SqL.of hl,by rw[ah];lia⟩,e5 D f k hD U p ⟨by lia,hds⟩ J⟩
end
def mB (B H:Hp)(as:List Addr)(d:List T):Prop:=as.length=d.length/\∀(n:Nat) (a:Addr),as[n]?=some a->∃xs ts,d[n]?=some (.lst ts)/\H a=some (.lst xs)/\zK B xs ts
def Bj (Y:Fx)(B H:Hp)(r:R T)(Q:VK):Prop:=match r with
 |.ok (.lst i)=>∀l as d f,zr H d->H l=none->d l=some (.lst (as.map V.ref))->as.Nodup->l∉as->(∀a∈as,H a=none)->(∀a∈l::as,f a=none)->zr f (zN B H d)->mB f d as i->Q (.ref l) d
 |.ok _=>False
 |.ex c=>XP Y B c
 |.bad=>False
def sO (cl:Nat->Value)(n:Nat)(g:List T->R T):Sp:=λvs H Q E=>∃B ts,ts.length=n/\zr B H/\zK B vs ts/\Bj ⟨B,H,E,cl,[]⟩ B H (g ts) Q
def pV (a:List T):Bool:=decide (a.length<=1000)&&a.all λt=>match t with
 |.lst ts=>decide (ts.length<lM)
 |_=>false
def rM (i j k n:Nat)(c:List T->R T)(ρ:En)(ts:List T):RS:=if ts.length=n/\vk ρ=true/\i≠j/\i≠k/\j≠k/\i<ρ.length/\j<ρ.length/\k<ρ.length then (match c ts with
 |.ok (.lst a)=>if pV a=true then .nx (((ρ.set i .un).set j (.vl (.lst a))).set k .un)else .bad
 |.ex e=>.ex e
 |_=>.bad)else .bad
def pR (i j k n:Nat)(c:List T->R T)(a:En->R (List T)):En->RS:=λρ=>(a ρ).s (rM i j k n c ρ)
def Ua {ρ:En}(h:vk ρ=true)(i:Nat){s:Sl}(d:CJ s=true):vk (ρ.set i s)=true:=aI.mpr λx a=>by
 rcases List.mem_or_eq_of_mem_set a with h'|rfl
 ·exact aI.mp h x h'
 ·exact d
theorem Ub {B:Hp}:∀(vs:List V) (ts:List T),vs.length=ts.length->(∀(n:Nat) (v:V),vs[n]?=some v->∃t,ts[n]?=some t/\Rep B v t)->zK B vs ts
 |[],[],_,_=>.nil
 |[],_::_,h,_=>by cases h
 |_::_,[],h,_=>by cases h
 |v::vs,t::ts,h,p=>by
  obtain⟨u,e,r⟩:=p 0 v rfl;obtain rfl:t=u:=aA e;exact .cons r (Ub vs ts (fZ h) λn w a=>p (n+1) w a)
def rT {ρ:En}{i j k m:Nat}{s x:Sl}(e:(((ρ.set i .un).set j x).set k .un)[m]?=some s)(a:s≠.un):m≠k/\((m=j/\s=x)\/(m≠j/\m≠i/\ρ[m]?=some s)):=by
 have f:∀{ρ:En} {i:Nat} {x:Sl},(ρ.set i x)[m]?=some s->(m=i/\s=x)\/(m≠i/\ρ[m]?=some s):=λ{ρ i x} e=>by
  by_cases h:m=i
  ·subst h;refine .inl ⟨rfl,?_⟩;rw[fO]at e;cases q:ρ[m]? with
   |none=>rw[q]at e;cases e
   |some _=>rw[q]at e;exact(aA e).symm
  ·exact .inr ⟨h,by rw[av (aY h)]at e;exact e⟩
 rcases f e with ⟨_,h⟩|⟨o,e⟩
 ·exact absurd h a
 ·refine⟨o,?_⟩;rcases f e with h|⟨l,e⟩
  ·exact .inl h
  ·rcases f e with ⟨_,h⟩|⟨d,e⟩
   ·exact absurd h a
   ·exact .inr ⟨l,d,e⟩
def Hr {Y:Fx}{B H p G H3 S:Hp}{ρ:En}{X y:Sg}{i j k:Nat}{l D:Addr}{as Z:List Addr}{us:List T}(I:SI Y B ρ X H)(hp:vk ρ=true)(nij:i≠j)(nik:i≠k)(njk:j≠k)(lj:j<ρ.length)(s1:zr H p)(hl:H l=none)(U:p l=some (.lst (as.map V.ref)))(ha:∀a∈as,H a=none)(hB:∀a∈l::as,S a=none)(sB:zr S (zN B H p))(L:mB S p as us)
  (hD:p D=none) (s2:zr p G) (hD2:G D=some (.lst (Z.map V.ref))) (C:Dm p G as Z) (g1:∀m,m≠k->y[m]?=((X.set i (some (V.ref l))).set j (some (V.ref D)))[m]?) (g2:y.length=((X.set i (some (V.ref l))).set j (some (V.ref D))).length) (g3:∀b,b∉as->H3 b=G b):
  ∃x,zr B x/\SI Y x (((ρ.set i .un).set j (.vl (.lst us))).set k .un) y H3:=by
 have P:=s1.trans s2;have old:∀{b o},H b=some o->b∉l::as:=λ{b o} f h=>by
  rcases ay.mp h with e|h
  ·rw[e,hl]at f;cases f
  ·rw[ha b h]at f;cases f
 have nas:∀{b o},H b=some o->b∉as:=λf h=>old f (ae _ h)
 let x:Hp:=λb=>if b∈l::as then none else zN B H G b
 have J:∀{b},b∉l::as->x b=zN B H G b:=λh=>if_neg h;have bB:zr B x:=λb o f=>by
  have Q:=I.sB _ _ f;rw[J (old Q),zL Q];exact f
 have bB':zr S x:=λb o f=>by
  have hn:b∉l::as:=λh=>by rw[hB b h]at f;cases f
  rw[J hn];have:=sB _ _ f;cases q:H b with
  |none=>rw[zD q]at this⊢;exact s2 _ _ this
  |some u=>rw[zL q]at this⊢;exact this
 have fresh:∀{d},p d=none->d∉l::as/\H d=none:=λ{d} hd=>by
  refine⟨λh=>?_,?_⟩
  ·rcases ay.mp h with e|h
   ·rw[e,U]at hd;cases hd
   ·obtain⟨n,hn⟩:=ia h;obtain⟨xs,ts,_,z,_⟩:=L.2 n d hn;rw[z]at hd;cases hd
  ·cases q:H d with
   |none=>rfl
   |some o=>rw[s1 _ _ q]at hd;cases hd
 refine⟨x,bB,I.anew ?_ ?_ ?_ ?_ ?_ ?_ ?_⟩
 ·exact Ua (Ua (Ua hp i rfl) j rfl) k rfl
 ·intro b o f;have:=I.sH _ _ f;rw[g3 b (nas this)];exact P _ _ this
 ·intro b o f
  by_cases hm:b∈l::as
  ·have:x b=none:=if_pos hm;rw[this]at f;cases f
  ·rw[J hm]at f;rw[g3 b (λh=>hm (ae _ h))];cases q:H b with
   |none=>rw[zD q]at f;exact f
   |some u=>rw[zL q]at f;exact P _ _ (I.sB _ _ f)
 ·intro b o f;have Q:=I.sH _ _ f;rw[J (old Q),zL Q];exact I.old b o f
 ·rw[aw,aw,aw,g2,aw,aw];exact I.len
 ·intro m t e;obtain⟨mk,⟨rfl,w⟩|⟨mj,mi,w⟩⟩:=rT e (λh=>by cases h)
  ·cases w;refine⟨.ref D,?_,.lst ((J (fresh hD).1).trans ((zD (fresh hD).2).trans hD2)) (Ub _ _ (by rw[ah,C.1,L.1]) λn v N=>?_)⟩
   ·rw[g1 m mk,aH (by rw[aw,←I.len];exact lj)]
   ·rw[aj]at N;cases hd:Z[n]? with
    |none=>rw[hd]at N;cases N
    |some d=>
     rw[hd]at N;obtain rfl:V.ref d=v:=aA N;obtain⟨a,xs,z1,z2,z3,z4⟩:=C.2 n d hd;obtain⟨ys,ts,w1,w2,w3⟩:=L.2 n a z1;rw[w2]at z2;cases z2;exact⟨.lst ts,w1,.lst ((J (fresh z4).1).trans ((zD (fresh z4).2).trans z3)) (w3.mono bB')⟩
  ·obtain⟨v,e1,r⟩:=I.vl m t w;exact⟨v,by rw[g1 m mk,av (aY mj),av (aY mi)];exact e1,r.mono bB⟩
 ·intro m os e;obtain⟨_,⟨_,w⟩|⟨_,_,w⟩⟩:=rT e (λh=>by cases h)
  ·cases w
  ·exact w
section
variable {X:Cx}{Y:Fx}{cl:Nat->Value}{i j k n kj kk j1:Nat}{f tn an x y:Str}{a elt:Expr}{es:List Expr}{rest:List Stmt}{c:List T->R T}{ga:En->R (List T)}{g:En->RS}{sc1:Scope}{p1 pf pc s1 p2 p3 p4 p5 s2 px pt q0 a1 c1 q1 r1 q3 a2 q2 r2 s3:Pos}
def kZ (hy:Y.cl=cl)(hp:zS (lH X.prog X.w) X Y.E)(O:QQ f (lH X.prog X.w) kj (sO cl n c) ⟨X.prog,X.w,X.K,X.mg,X.base,cl⟩)(hr:Ze kk X.A)(nd:X.N.Nodup)(hi:X.N[i]?=some tn)(hj:X.N[j]?=some an)(hk:X.N[k]?=some x)
  (vt:∀{p},PE X (.Name tn p) (Jg i)) (vx:∀{p},PE X (.Name x p) (Jg k)) (N:List Str) (J:Scope) (hN:X.N=N) (h0:X.env.scope=J) (hck:(k6 sc1 J&&k7 N [y] sc1 J 1 [])=true) (hg:YY X sc1 [y] λXC=>PG XC (.Name y p3) (wf 0)) (he:xD X sc1 [y] (λ_ _ _=>False) λXC=>PE XC elt (pH X.K)) (ho:PassesOwn 05 X.A X.env X.xe) (hc:X.calm=true)
  (P:JN X Y (a::es) ga) (hl:Jn X Y rest g) (l1:Loc X.env.scope tn) (l2:Loc X.env.scope an) (l3:Loc X.env.scope x) (f1:X.fn tn=true\/X.env.scope.names.lookup tn=some .local) (f2:X.fn an=true\/X.env.scope.names.lookup an=some .local) (f3:X.fn x=true\/X.env.scope.names.lookup x=some .local) (hjk:kj<=kk:=by lia) (gl:Gl X f:=by rfl) (hd:(f==("__debug__":Str))=false:=by decide)
  (hs:starEach (a::es) X.env=(false,eval a X.env)::starEach es X.env:=by exact zC rfl) (hz:((backTo pc (starEach es X.env)).any λx=>x.fst)=false:=by exact zX rfl)
  (w1:swapsWith (.Call (.Name f pf) (a::es) [] pc) (some (.Name tn p1)) s1.line X.env=pure false:=by rfl) (w2:swapsWith (.ListComp elt [⟨.Name y p3,.Name tn p4,[],0⟩] sc1 p5) (some (.Name an p2)) s2.line X.env=pure true:=by rfl)
  (Z:(a1.endLine==q1.line)=true:=by rfl) (hz2:(a2.endLine==q2.line)=true:=by rfl) (hb1:attributeBase (.Name x q0) "append" X.env (eval (.Name x q0) X.env)=eval (.Name x q0) X.env:=by rfl) (hb2:attributeBase (.Name x q3) "reverse" X.env (eval (.Name x q3) X.env)=eval (.Name x q3) X.env:=by rfl)
  (hw1:swapsWith (.Call (.Attribute (.Name x q0) "append" a1) [.Constant .none j1 c1] [] q1) none r1.line X.env=pure false:=by rfl) (hw2:swapsWith (.Call (.Attribute (.Name x q3) "reverse" a2) [] [] q2) none r2.line X.env=pure false:=by rfl):
  Jn X Y (.Assign [.Name tn p1] (.Call (.Name f pf) (a::es) [] pc) s1::.Assign [.Name an p2] (.ListComp elt [⟨.Name y p3,.Name tn p4,[],0⟩] sc1 p5) s2::.For (.Name x px) (.Name tn pt) [.Expr (.Call (.Attribute (.Name x q0) "append" a1) [.Constant .none j1 c1] [] q1) r1,.Expr (.Call (.Attribute (.Name x q3) "reverse" a2) [] [] q2) r2] [] s3::rest) (zA (pR i j k n c ga) g):=O.go λ_ _ _ _ C F=>.mk λρ=>by
 subst hy;refine PSs.imp (jy (WY nd hi l1 (Jj F (hr.mono hjk) gl C.m C.F.kp C.b .nil hp (P ρ) hd hs hz) w1 f1) (jy (DW hc vt hN h0 hck hg he nd hj l2 w2 f2) (jy (u:=λD G H=>∃ρ',tSS Y g ρ' D G H) (EY ho hc nd hk l3 f3 vt vx vx Z hz2 hb1 hb2 hw1 hw2) (λpins s G H D I zz=>by
  obtain⟨ρ',q⟩:=zz;exact hl ρ' _ s G H D I q)))) ?_
 rintro D G H ⟨B,I,q⟩
 have eq:zA (pR i j k n c ga) g ρ=(ga ρ).s λts=>match rM i j k n c ρ ts with
   |.nx ρ'=>g ρ'
   |r=>r:=by
  unfold zA pR;cases ga ρ<;>rfl
 rw[eq]at q;refine jZ I q λts vs H0 _ s0 r0 I0 q0=>?_;unfold rM at q0
 by_cases hh:ts.length=n/\vk ρ=true/\i≠j/\i≠k/\j≠k/\i<ρ.length/\j<ρ.length/\k<ρ.length
 case neg=>rw[if_neg hh]at q0;exact q0.elim
 rw[if_pos hh]at q0;obtain⟨hn,hpl,S,U,njk,li,lj,lk⟩:=hh;rw[aW];refine⟨_,ts,hn,I0.sB,r0,?_⟩;revert q0;cases c ts with
 |bad=>exact λq0=>q0
 |ex e=>exact λq0 d H' s sB=>q0 d H' (I0.sH.trans s) sB
 |ok t=>
  cases t with
  |lst us=>
   dsimp only;intro q0 l as H1 B' e1 e2 e3 e4 e5 e6 e7 e8 e9
   by_cases o:pV us=true
   case neg=>rw[if_neg o]at q0;exact q0.elim
   rw[if_pos o]at q0;unfold pV at o;rw[ai,decide_eq_true_eq]at o;have Q:i<G.length:=by rw[←I0.len];exact li
   have hj':j<G.length:=by rw[←I0.len];exact lj
   have hk':k<G.length:=by rw[←I0.len];exact lk
   have v:∀a∈as,∃xs,H1 a=some (.lst xs)/\xs.length<sizeLine:=λa P=>by
    obtain⟨m,hm⟩:=ia P;obtain⟨xs,us',z1,z2,z3⟩:=e9.2 m a hm;have:=aI.mp o.2 _ (aT z1);exact⟨xs,z2,by rw[z3.length];exact xw (of_decide_eq_true this)⟩
   refine⟨l,as,?_,e3,by rw[e9.1];exact o.1,λa P=>let ⟨xs,z,_⟩:=v a P;⟨xs,z⟩,λD' ds H2 d1 d2 d3 d4 d5=>?_⟩
   ·rw[aH Q]
   refine⟨l,as,?_,d2 _ _ e3,e4,e5,U,by rw[aw,aw];exact hk',λa P=>let ⟨xs,z,w⟩:=v a P;⟨xs,d2 _ _ z,w⟩,λσ3 H3 g1 g2 g3=>?_⟩
   ·rw[av (aY S),aH Q]
   obtain⟨B3,sB3,I3⟩:=Hr I0 hpl S U njk lj e1 e2 e3 e6 e7 e8 e9 d1 d2 d3 d4 g1 g2 g3;exact⟨_,B3,I3,PoS.up sB3 q0⟩
  |_=>exact λq0=>q0.elim
end
def mY (B H a:Hp)(as:List Addr):Hp:=λb=>if b∈as then none else zN B H a b
def ux {B H a:Hp}{as:List Addr}{b:Addr}(h:b∈as):mY B H a as b=none:=if_pos h
def W0 {B H a:Hp}{as:List Addr}{b:Addr}(h:b∉as):mY B H a as b=zN B H a b:=if_neg h
def xM {B H i:Hp}{as:List Addr}(j:zr B H)(k:∀a∈as,H a=none):zr B (mY B H i as):=λb o h=>by
 have d:=j _ _ h;rw[W0 (λf=>by rw[k b f]at d;cases d),zL d];exact h
def SI.but {Y:Fx}{B H f:Hp}{ρ:En}{k:Sg}(I:SI Y B ρ k H)(hp:vk ρ=true)(s:zr H f){as:List Addr}(l:∀a∈as,H a=none):SI Y (mY B H f as) ρ k f:=by
 have old:∀{b o},H b=some o->b∉as:=λ{b o} d h=>by rw[l b h]at d;cases d
 refine I.anew hp (I.sH.trans s) (λb o d=>?_) (λb o d=>?_) I.len (λi t e=>?_) λ_ _ e=>e
 ·by_cases j:b∈as
  ·rw[ux j]at d;cases d
  ·rw[W0 j]at d;cases q:H b with
   |none=>rw[zD q]at d;exact d
   |some u=>rw[zL q]at d;exact s _ _ (I.sB _ _ d)
 ·have p:=I.sH _ _ d;rw[W0 (old p),zL p];exact I.old b o d
 ·obtain⟨v,x,r⟩:=I.vl i t e;exact⟨v,x,r.mono (xM I.sB l)⟩
def K0 {B H f l i:Hp}{as:List Addr}{a:Addr}(I:zr H f)(G:zr f l)(x:∀b∈as,∃o,f b=some o)(J:f a=none)(D:i a=none)(v:zr i (zN (mY B H f as) f l)):zr i (mY B H l (as++[a]))/\∀b∈as++[a],i b=none:=by
 have hn:∀b∈as++[a],i b=none:=λb d=>by
  rcases bh.mp d with d|d
  ·cases q:i b with
   |none=>rfl
   |some o=>
    obtain⟨u,y⟩:=x b d;have:=v _ _ q;rw[zL y,ux d]at this;cases this
  ·rw[aQ.mp d];exact D
 refine⟨λb o d=>?_,hn⟩;have p:b∉as++[a]:=λh=>by rw[hn b h]at d;cases d
 have k:b∉as:=λh=>p (cg _ h);have:=v _ _ d;rw[W0 p];cases j:f b with
 |none=>
  rw[zD j]at this;cases q:H b with
  |none=>rw[zD q];exact this
  |some u=>rw[I _ _ q]at j;cases j
 |some u=>
  rw[zL j,W0 k]at this;cases q:H b with
  |none=>rw[zD q]at this⊢;exact G _ _ this
  |some w=>rw[zL q]at this⊢;exact this
def Ep {B H f H3:Hp}{as bs:List Addr}(s:zr H f)(k:zr f H3)(j:∀b∈bs,f b=none):zr (mY B H f as) (mY B H H3 (as++bs)):=λb o h=>by
 by_cases d:b∈as
 ·rw[ux d]at h;cases h
 ·rw[W0 d]at h;cases q:H b with
  |none=>
   rw[zD q]at h;rw[W0 (λa=>(bh.mp a).elim d λa=>by rw[j b a]at h;cases h),zD q]
   exact k _ _ h
  |some u=>
   rw[zL q]at h;have i:=s _ _ q;rw[W0 (λa=>(bh.mp a).elim d λa=>by rw[j b a]at i;cases i),zL q]
   exact h
def HH (Y:Fx)(f:En->R (List T))(ρ:En):TA:=λj i K=>∃B H as,SI Y B ρ j H/\zr H i/\(∀a∈as,H a=none/\∃o,i a=some o)/\match f ρ with
 |.ok k=>∀bs d,zr i d->bs.Nodup->(∀b∈bs,i b=none/\∃o,d b=some o)->mB (mY B H d (as++bs)) d bs k->K (bs.map V.ref) d
 |.ex c=>XP Y B c
 |.bad=>False
noncomputable def oH:T->R T
 |.lst a=>.ok (.lst a)
 |_=>.bad
def W1 (n:Nat)(c:List T->R T)(a:En->R (List T)):En->R T:=λρ=>(a ρ).bind λts=>if ts.length=n then (c ts).bind oH else .bad
structure qK (X:Cx) (Y:Fx) (es:List Expr) (f:En->R (List T)):Prop where
 mk::
 go:∀ρ,vk ρ=true->PA X es (HH Y f ρ)
section
variable {X:Cx}{Y:Fx}{cl:Nat->Value}{n kj kk:Nat}{x:Str}{a:Expr}{es rest:List Expr}{p pos:Pos}{c:List T->R T}{ga gr:En->R (List T)}
def F5:qK X Y [] zj:=.mk λρ hp pos d s f H Q I i=>by
 obtain⟨B,j,as,I0,l,k,q⟩:=i;exact zT pos _ s f H Q I (q [] H (zr.refl _) .nil (λ_ h=>nomatch h) ⟨rfl,λn a h=>by cases h⟩)
def K1 (hy:Y.cl=cl)(hp:zS (lH X.prog X.w) X Y.E)(O:QQ x (lH X.prog X.w) kj (spF cl n c) ⟨X.prog,X.w,X.K,X.mg,X.base,cl⟩)(hr:Ze kk X.A)(ha:JN X Y (a::es) ga)(hs:qK X Y rest gr)(hj:kj<=kk:=by lia)(gl:Gl X x:=by rfl)(hd:(x==("__debug__":Str))=false:=by decide)
  (hst:starEach (a::es) X.env=(false,eval a X.env)::starEach es X.env:=by exact zC rfl) (hz:((backTo pos (starEach es X.env)).any λx=>x.fst)=false:=by exact zX rfl) (hs2:starEach (.Call (.Name x p) (a::es) [] pos::rest) X.env=(false,eval (.Call (.Name x p) (a::es) [] pos) X.env)::starEach rest X.env:=by exact zC rfl):
  qK X Y (.Call (.Name x p) (a::es) [] pos::rest) (z9 (W1 n c ga) gr):=O.go λ_ _ _ _ C F=>.mk λρ P S pins s σ i K J zz=>by
 subst hy;obtain⟨B,H,as,I,G,h0,q⟩:=zz;have I1:=I.but P G (λa h=>(h0 a h).1);have U:zr B (mY B H i as):=xM I.sB λa h=>(h0 a h).1;refine zB (Jj F (hr.mono hj) gl C.m C.F.kp C.b .nil hp (ha ρ) hd hst hz) (hs.go ρ P) hs2 S _ s σ i K J ?_;refine⟨_,I1,?_⟩;have q:match ((ga ρ).bind λts=>if ts.length=n then (c ts).bind oH else .bad).bind λt=>(gr ρ).bind λts=>.ok (t::ts)with
  |.ok N=>∀bs f,zr i f->bs.Nodup->(∀b∈bs,i b=none/\∃o,f b=some o)->mB (mY B H f (as++bs)) f bs N->K (bs.map V.ref) f
  |.ex c=>XP Y B c
  |.bad=>False:=q
 cases eg:ga ρ with
 |bad=>rw[eg]at q;exact q
 |ex e=>rw[eg]at q;exact λd H' u v=>q d H' u (U.trans v)
 |ok ts=>
  rw[eg]at q;intro vs Z j r1;show spF Y.cl n c (vs++[]) Z _ Y.E;rw[aW]
  by_cases hn:ts.length=n
  case neg=>
   have q:match (if ts.length=n then (c ts).bind oH else .bad).bind λt=>(gr ρ).bind λts=>.ok (t::ts)with
    |.ok N=>_
    |.ex c=>XP Y B c
    |.bad=>False:=q
   rw[if_neg hn]at q;exact q.elim
  have I1':=I1.grow j;have sBx:zr B (zN (mY B H i as) i Z):=U.trans (zN.ge I1.sB j);refine⟨_,ts,hn,I1'.sB,r1,?_⟩;have q:match (if ts.length=n then (c ts).bind oH else .bad).bind λt=>(gr ρ).bind λts=>.ok (t::ts)with
   |.ok N=>∀bs f,zr i f->bs.Nodup->(∀b∈bs,i b=none/\∃o,f b=some o)->mB (mY B H f (as++bs)) f bs N->K (bs.map V.ref) f
   |.ex c=>XP Y B c
   |.bad=>False:=q
  rw[if_pos hn]at q;cases ec:c ts with
  |bad=>rw[ec]at q;exact q
  |ex e=>rw[ec]at q;exact λd H' u v=>q d H' ((I1.sH.trans j).trans u) (sBx.trans v)
  |ok t=>
   rw[ec]at q;cases t with
   |lst us0=>
    intro w xs f B' y nw Q rr b0 D;have k:i w=none:=by
     cases z:i w with
     |none=>rfl
     |some o=>rw[j _ _ z]at nw;cases nw
    have h0w:H w=none:=by
     cases z:H w with
     |none=>rfl
     |some o=>rw[G _ _ z]at k;cases k
    refine⟨B,H,as++[w],I,G.trans (j.trans y),λb l=>?_,?_⟩
    ·rcases bh.mp l with l|l
     ·obtain⟨u,o,v⟩:=h0 b l;exact⟨u,o,y _ _ (j _ _ v)⟩
     ·rw[aQ.mp l];exact⟨h0w,_,Q⟩
    ·cases er:gr ρ with
     |bad=>rw[er]at q;exact q
     |ex e=>rw[er]at q;exact q
     |ok N=>
      rw[er]at q;intro bs H3 s3 nd l L;have e:as++w::bs=as++[w]++bs:=by simp
      refine q (w::bs) H3 (j.trans (y.trans s3)) (d0.mpr ⟨λh=>(by rw[(l w h).1]at Q;cases Q),nd⟩) (λb h=>?_) ?_
      ·rcases ay.mp h with rfl|h
       ·exact⟨k,_,s3 _ _ Q⟩
       ·obtain⟨u,v⟩:=l b h;refine⟨?_,v⟩;cases z:i b with
        |none=>rfl
        |some o=>rw[y _ _ (j _ _ z)]at u;cases u
      ·rw[e];refine⟨congrArg Nat.succ L.1,λm b hm=>?_⟩;cases m with
       |zero=>
        cases hm;rw[zN.trans j y]at D;have z:=(K0 G (j.trans y) (λb h=>(h0 b h).2) k b0 D).1;exact⟨xs,us0,rfl,s3 _ _ Q,(rr.mono z).mono (Ep (G.trans (j.trans y)) s3 λb h=>(l b h).1)⟩
       |succ m=>exact L.2 m b hm
   |_=>exact q.elim
end
def K2 (m:Nat)(ts:List T):vk (i4 m ts)=true:=aI.mpr λs a=>by
 unfold i4 at a;rcases bh.mp a with h|h
 ·obtain⟨t,_,rfl⟩:=aO.mp h;rfl
 ·rw[(cV.mp h).2];rfl
def BX (m:Nat)(d:En->R (List T)):List T->R T:=λts=>(d (i4 m ts)).bind λa=>if a.length<=1000 then .ok (.lst a)else .bad
def BV {Z:Zz}{x:Str}{st:Stmt}{k m n:Nat}{v:En->R (List T)}{G:List Str}(C:FE Z.K Z.mg x st G)(N:List Str)(hb:BM Z k x st N λX Y=>∃D pl pos,zH st=[.Return (some (.List D pl)) pos]/\qK X Y D v)
  (S:Sc N G st:=by refine⟨rfl,rfl,rfl,?_,rfl,?_,?_⟩<;>decide+kernel) (hn:n=G.length:=by rfl) (y:m=N.length:=by rfl):QQ x (lH Z.P Z.w) (k+1) (sO Z.cl n (BX m v)) Z:=by
 obtain⟨f,fd,C⟩:=C;subst y hn;refine⟨_,_,f,fd,C,Fun.okX C.F S (λvs H Q E zz=>?_) λcdv A outer s H vs Q E hr zz=>?_⟩
 ·obtain⟨B,ts,hl,_,r,_⟩:=zz;rw[r.length,hl]
 obtain⟨B,ts,hl,sB,r,q⟩:=zz;obtain⟨D,pl,pos,eb,F⟩:=hb f cdv A _ s H E ⟨B,H,E,Z.cl,[]⟩ rfl rfl hr S.nd ug;rw[eb];refine⟨_,jR (JC (u6 (F.go _ (K2 _ _)))),B,H,[],SI.start sB r,zr.refl _,(λ_ h=>nomatch h),?_⟩;have q:Bj ⟨B,H,E,Z.cl,[]⟩ B H ((v (i4 N.length ts)).bind λj=>if j.length<=1000 then .ok (.lst j)else .bad) Q:=q
 cases ef:v (i4 N.length ts)with
 |bad=>rw[ef]at q;exact q
 |ex c=>rw[ef]at q;exact q
 |ok j=>
  rw[ef]at q;have q:Bj ⟨B,H,E,Z.cl,[]⟩ B H (if j.length<=1000 then .ok (.lst j)else .bad) Q:=q
  by_cases I:j.length<=1000
  case neg=>rw[if_neg I]at q;exact q.elim
  rw[if_pos I]at q;intro bs H2 s2 nd p L;refine⟨by rw[ah,L.1];exact aC I 03,λl d=>?_⟩
  have hH:H l=none:=by
   cases z:H l with
   |none=>rfl
   |some o=>rw[s2 _ _ z]at d;cases d
  have J:l∉bs:=λh=>by
   obtain⟨_,o,z⟩:=p l h;rw[d]at z;cases z
  refine q l bs (lf H2 l _) (mY B H H2 ([]++bs)) (s2.trans (zr.new d _)) hH zw nd J (λa h=>(p a h).1) (λa h=>?_) (λb o h=>?_) ⟨L.1,λi a h=>?_⟩
  ·rcases ay.mp h with rfl|h
   ·exact(W0 (as:=[]++bs) J).trans ((zD hH).trans d)
   ·exact ux (as:=[]++bs) h
  ·by_cases y:b∈[]++bs
   ·rw[ux y]at h;cases h
   ·rw[W0 y]at h;cases z:H b with
    |none=>
     rw[zD z]at h⊢;rw[zu (λe=>by rw[e,d]at h;cases h)];exact h
    |some u=>rw[zL z]at h⊢;exact h
  ·obtain⟨xs,U,z1,z2,z3⟩:=L.2 i a h;have na:a≠l:=λe=>J (e▸aT h);exact⟨xs,U,z1,by rw[zu na];exact z2,z3⟩
def SI.in0 {Y:Fx}{B H a:Hp}{ρ:En}{d:Sg}(I:SI Y B ρ d H)(s:zr H a):zr B (zN Y.B0 Y.H0 a):=λb o h=>by
 cases q:Y.H0 b with
 |none=>rw[zD q];exact s _ _ (I.sB _ _ h)
 |some u=>rw[zL q,←I.old b u q];exact h
def PoN (Y:Fx)(B H:Hp)(r:R T)(Q:VK):Prop:=match r with
 |.ok (.lst i)=>∀a xs d f,zr H d->H a=none->d a=some (.lst xs)->zK f xs i->f a=none->zr f (zN B H d)->Q (.ref a) d
 |.ok _=>False
 |.ex c=>XP Y B c
 |.bad=>False
structure qL (X:Cx) (Y:Fx) (e:Expr) (f:En->R T):Prop where
 mk::
 go:∀ρ,PE X e (λσ H Q=>∃B,SI Y B ρ σ H/\PoN Y B H (f ρ) Q)
def Uc (f:En->R T):En->RS:=λρ=>(f (frz ρ)).s λt=>match t with
 |.lst a=>.rf a
 |_=>.bad
section
variable {X:Cx}{Y:Fx}{cl:Nat->Value}{n kj kk:Nat}{x:Str}{a e:Expr}{es:List Expr}{p pos:Pos}{c:List T->R T}{f:En->R T}{ga:En->R (List T)}
def F7 (hy:Y.cl=cl)(hp:zS (lH X.prog X.w) X Y.E)(O:QQ x (lH X.prog X.w) kj (spF cl n c) ⟨X.prog,X.w,X.K,X.mg,X.base,cl⟩)(hr:Ze kk X.A)(U:JN X Y (a::es) ga)(P:kj<=kk:=by lia)(gl:Gl X x:=by rfl)(hd:(x==("__debug__":Str))=false:=by decide)
  (u:starEach (a::es) X.env=(false,eval a X.env)::starEach es X.env:=by exact zC rfl) (S:((backTo pos (starEach es X.env)).any λx=>x.fst)=false:=by exact zX rfl):qL X Y (.Call (.Name x p) (a::es) [] pos) (W1 n c ga):=O.go λ_ _ _ _ C F=>.mk λρ=>by
 subst hy;refine PE.imp (Jj F (hr.mono P) gl C.m C.F.kp C.b .nil hp (U ρ) hd u S) λσ H Q zz=>?_;obtain⟨B,I,q⟩:=zz;refine⟨B,I,?_⟩;unfold W1 at q;cases k:ga ρ with
 |bad=>rw[k]at q;exact q
 |ex e=>rw[k]at q;exact q
 |ok ts=>
  rw[k]at q;intro vs J j G;show spF Y.cl n c (vs++[]) J Q Y.E;rw[aW];have v:=I.grow j;have q:PoN Y B H (if ts.length=n then (c ts).bind oH else .bad) Q:=q
  by_cases hn:ts.length=n
  case neg=>rw[if_neg hn]at q;exact q.elim
  rw[if_pos hn]at q;refine⟨_,ts,hn,v.sB,G,?_⟩;cases l:c ts with
  |bad=>rw[l]at q;exact q
  |ex e=>rw[l]at q;exact λd Z z1 z2=>q d Z (v.sH.trans z1) ((zN.ge I.sB j).trans z2)
  |ok t=>
   rw[l]at q;cases t with
   |lst us=>
    intro w xs H2 N D y ew rr b0 i;rw[zN.trans j D]at i;refine q w xs H2 N (j.trans D) ?_ ew rr b0 i;cases z:H w with
    |none=>rfl
    |some o=>rw[j _ _ z]at y;cases y
   |_=>exact q.elim
def D3 (h:qL X Y e f):Jf X Y (.Return (some e) pos) (Uc f):=.mk λρ=>
 PS.imp (JC (h.go (frz ρ))) λD u H=>tSS.on λB I q=>by
  refine⟨_,I.frz,?_⟩;have q:=PoS.up I.up q;unfold Uc at q;cases d:f (frz ρ)with
  |bad=>rw[d]at q;exact q
  |ex c=>rw[d]at q;exact q
  |ok t=>
   rw[d]at q;cases t with
   |lst v=>
    intro w xs j i s n e r k l;refine q w xs j i (I.sH.trans s) ?_ e r k (l.trans ((I.frz.grow s).in0 (zr.refl _)));cases z:Y.H0 w with
    |none=>rfl
    |some o=>rw[I.sH _ _ z]at n;cases n
   |_=>exact q.elim
def PoN.up {Y:Fx}{B H j:Hp}{r:R T}{Q:VK}(P:zr B H)(s:zr H j)(q:PoN Y B H r Q):PoN Y (zN B H j) j r Q:=by
 cases r with
 |bad=>exact q
 |ex c=>exact λd v y G=>q d v y ((zN.ge P s).trans G)
 |ok t=>
  cases t with
  |lst S=>
   intro w xs N u l k J D I i;rw[zN.trans s l]at i;refine q w xs N u (s.trans l) ?_ J D I i;cases z:H w with
   |none=>rfl
   |some o=>rw[s _ _ z]at k;cases k
  |_=>exact q
def Cq {b t:Expr}{j:En->R Bool}{fa o:En->R T}(y:Wt X Y t j)(J:qL X Y a fa)(G:qL X Y b o):qL X Y (.IfExp t a b pos) (md j fa o):=.mk λρ=>
 PE.imp (Ur (y ρ) (J.go ρ) (G.go ρ)) λP H Q D=>by
  obtain⟨B,I,q⟩:=D;refine⟨B,I,?_⟩;unfold md at q;cases i:j ρ with
  |bad=>rw[i]at q;exact q
  |ex c=>rw[i]at q;exact q
  |ok k=>
   rw[i]at q;intro v N d u;have l:=u;subst l;cases v with
   |true=>exact⟨_,I.grow d,PoN.up I.sB d q⟩
   |false=>exact⟨_,I.grow d,PoN.up I.sB d q⟩
def Ia {pl:Pos}(G:JN X Y es ga):qL X Y (.List es pl) (Zs ga):=.mk λρ=>
 PE.imp (u6 (G ρ)) λN H Q J=>by
  obtain⟨B,I,q⟩:=J;refine⟨B,I,?_⟩;unfold Zs at q;cases i:ga ρ with
  |bad=>rw[i]at q;exact q
  |ex c=>rw[i]at q;exact q
  |ok ts=>
   rw[i]at q;intro vs y k v;have D:=I.grow k;have q:PoN Y B H (if ts.length<=lM then .ok (.lst ts)else .bad) Q:=q
   by_cases hn:ts.length<=lM
   case neg=>rw[if_neg hn]at q;exact q.elim
   rw[if_pos hn]at q;refine⟨by rw[v.length];exact Zy hn,λl h=>q l vs _ (zN B H y) (k.trans (zr.new h _)) ?_ zw v ?_ λb o j=>?_⟩
   ·cases z:H l with
    |none=>rfl
    |some o=>rw[k _ _ z]at h;cases h
   ·cases z:zN B H y l with
    |none=>rfl
    |some o=>have:=D.sB _ _ z;rw[h]at this;cases this
   ·have d:=D.sB _ _ j;cases z:H b with
    |none=>rw[zD z,zu (zG d h)];exact d
    |some u=>rw[zL z]at j⊢;exact j
def jD:W9 (Uc f):=λρ t e=>by
 unfold Uc at e;cases q:f (frz ρ)with
 |ok u=>
  rw[q]at e;cases u<;>cases e
 |_=>rw[q]at e;cases e
end
def rZ (i:Nat):En->RS:=λρ=>match ρ[i]? with
 |some (.ow ts)=>.rf ts
 |_=>.bad
def FW {X:Cx}{Y:Fx}{i:Nat}{x:Str}{f pos:Pos}(j:PE X (.Name x f) (Jg i)):Jf X Y (.Return (some (.Name x f)) pos) (rZ i):=.mk λρ=>
 PS.imp (JC j) λD v H=>tSS.on λB I q=>by
  unfold rZ at q;split at q
  ·rename_i ts e;obtain⟨a,xs,l,p,u,o,k,d⟩:=I.ow i ts e;exact⟨.ref a,l,q a xs H B I.sH u o k p (I.in0 (zr.refl _))⟩
  ·exact q.elim
def jE {i:Nat}:W9 (rZ i):=λρ t e=>by
 unfold rZ at e;split at e<;>cases e
def mn (c:List T->R T):List T->R T:=λts=>(c ts).bind oH
abbrev AK (Z:Zz)(x:Str)(n k:Nat)(c:List T->R T):Prop:=QQ x (lH Z.P Z.w) k (sO Z.cl n c) Z
section
variable {P:Program}{w:World}{K:aa}{mg:Str->Option Value}{base:Heap}{cl:Nat->Value}{x:Str}{k n:Nat}{g:List T->R T}
def QQ.of {sp d:Sp}(O:QQ x (lH P w) k sp ⟨P,w,K,mg,base,cl⟩)(a:∀vs H Q E,d vs H Q E->sp vs H Q E):QQ x (lH P w) k d ⟨P,w,K,mg,base,cl⟩:=by
 obtain⟨⟨st,j,f,u,C,F⟩⟩:=O;exact⟨st,j,f,u,C,λvs H Q E h=>F.len vs H Q E (a vs H Q E h),λA outer s H args o vs Q E hr l p i h=>F.run A outer s H args o vs Q E hr l p i (a vs H Q E h)⟩
def Do (O:QQ x (lH P w) k (spF cl n g) ⟨P,w,K,mg,base,cl⟩):QQ x (lH P w) k (spP cl n (mn g)) ⟨P,w,K,mg,base,cl⟩:=
 O.of λvs H Q E ⟨B,ts,f,i,r,q⟩=>⟨B,ts,f,i,r,by
  unfold mn at q;revert q;cases g ts with
  |bad=>exact λq=>q
  |ex c=>exact λq=>q
  |ok t=>
   cases t with
   |lst o=>exact λq a xs d j s n e r _ l=>q _ d s (.lst (by rw[zD n];exact e) (r.mono l))
   |_=>exact λq=>q.elim⟩
def Hj (O:QQ x (lH P w) k (sO cl n g) ⟨P,w,K,mg,base,cl⟩):QQ x (lH P w) k (spP cl n (mn g)) ⟨P,w,K,mg,base,cl⟩:=
 O.of λvs H Q E ⟨B,ts,p,G,r,q⟩=>⟨B,ts,p,G,r,by
  unfold mn at q;revert q;cases g ts with
  |bad=>exact λq=>q
  |ex c=>exact λq=>q
  |ok t=>
   cases t with
   |lst J=>
    intro q l as i I s n e _ _ j _ f L;refine q _ i s (.lst (by rw[zD n];exact e) (Ub _ _ (by rw[ah];exact L.1) λm v d=>?_))
    rw[aj]at d;cases hd:as[m]? with
    |none=>rw[hd]at d;cases d
    |some a=>
     rw[hd]at d;cases d;obtain⟨xs,u,o,y,D⟩:=L.2 m a hd;exact⟨_,o,.lst (by rw[zD (j a (aT hd))];exact y) (D.mono f)⟩
   |_=>exact λq=>q.elim⟩
end
section
variable {Z:Zz}{x:Str}{st:Stmt}{ps:List Str}{k n:Nat}
def rL (C:FE Z.K Z.mg x st ps)(hn:n=ps.length:=by rfl):qF Z x n k (λ_=>.bad):=by
 obtain⟨f,a,C⟩:=C;subst hn;exact⟨_,_,f,a,C,spF.len,λA outer s H args d vs Q E _ _ _ _ ⟨B,ts,_,_,_,q⟩=>q.elim⟩
end
def KP:T->T->R T
 |.lst xs,.lst a=>if xs.length+a.length<=lM then .ok (.lst (xs++a))else .bad
 |_,_=>.bad
def Ef {X:Cx}{Y:Fx}{a b:Expr}{fa N:En->R T}{pos:Pos}(ha:Snd X Y a fa)(hb:Snd X Y b N):qL X Y (.BinOp a .Add b pos) (zd KP fa N):=.mk λρ=>
 PE.imp (gv xl (ha ρ) (hb ρ)) λσ H Q zz=>by
  obtain⟨B,I,q⟩:=zz;refine⟨B,I,?_⟩;unfold zd at q;cases D:fa ρ with
  |bad=>rw[D]at q;exact q
  |ex c=>rw[D]at q;exact q
  |ok t=>
   rw[D]at q;intro v S Z x;have k:=I.grow Z;have d:=PoN.up I.sB Z q;refine⟨_,k,?_⟩;cases y:N ρ with
   |bad=>rw[y]at d;exact d
   |ex c=>rw[y]at d;exact d
   |ok t'=>
    rw[y]at d;intro v' U P r2;have u:=k.grow P;have f:PoN Y _ U (KP t t') Q:=PoN.up k.sB P d;have x:=x.mono (zN.ge k.sB P);cases x with
    |@lst l xs ts h1 i=>
     cases r2 with
     |@lst l' ys J h2 j=>
      by_cases G:ts.length+J.length<=lM
      ·rw[show KP (.lst ts) (.lst J)=.ok _ from if_pos G]at f;refine⟨l,l',xs,ys,rfl,rfl,u.sB _ _ h1,u.sB _ _ h2,by rw[i.length,j.length];exact Zy G,λp hp=>f p _ _ _ (zr.new hp _) hp zw (i.append j) ?_ (zN.ge u.sB (zr.new hp _))⟩
       cases z:zN (zN B H S) S U p with
       |none=>rfl
       |some o=>have:=u.sB _ _ z;rw[hp]at this;cases this
      ·rw[show KP (.lst ts) (.lst J)=.bad from if_neg G]at f;exact f.elim
     |_=>exact f.elim
    |_=>exact f.elim
def jF {i:Nat}{a:En->R (List T)}:W9 (WW i a):=λρ t e=>by
 unfold WW at e;cases q:a ρ with
 |ok ts=>
  rw[q]at e;have e:(if ts.length<=lM then RS.nx (ρ.set i (.ow ts))else .bad)=.rt t:=e
  split at e<;>cases e
 |_=>rw[q]at e;cases e
def Jr {i:Nat}{fa:En->R T}:W9 (UA i fa):=λρ t e=>by
 unfold UA at e;split at e
 ·rename_i ts _;cases q:fa ρ with
  |ok u=>
   rw[q]at e;have e:(if ts.length<lM then RS.nx (ρ.set i (.ow (ts++[u])))else .bad)=.rt t:=e
   split at e<;>cases e
  |_=>rw[q]at e;cases e
 ·cases e
theorem WF {g:T->En->R En}{i:En->RS}(h:W9 i):∀(ts:List T) (ρ:En) (t:T),ZK g i ts ρ≠.rt t
 |[],ρ,t=>λe=>nomatch e
 |u::ts,ρ,t=>λe=>by
  unfold ZK at e;cases q:g u ρ with
  |ok d=>
   rw[q]at e;cases f:i d with
   |nx a=>simp only[f]at e;exact WF h ts a t e
   |ct a=>simp only[f]at e;exact WF h ts a t e
   |rt v=>exact h d v f
   |_=>simp only[f]at e;cases e
  |_=>rw[q]at e;cases e
def Js {fi:En->R (List T)}{g:T->En->R En}{a:En->RS}(h:W9 a):W9 (jM fi g a):=λρ t e=>by
 unfold jM at e;cases q:fi ρ with
 |ok ts=>rw[q]at e;exact WF h ts ρ t e
 |_=>rw[q]at e;cases e
end PV
namespace G
open PySem PySem.Spec PyProof.Rows L2 PV
noncomputable def okX (c:Nat):Bool:=decide (c<6)
noncomputable def Jt (c:Nat):Bool:=c==0
noncomputable def jT (c:Nat):Bool:=c==1
noncomputable def Ju (c:Nat):Bool:=c==2
noncomputable def jU (c:Nat):Bool:=c==3
noncomputable def wD (c:Nat):Bool:=c==4
noncomputable def Jv (c:Nat):Bool:=c==5
noncomputable def ZT (_:Nat):Bool:=true
def pF:En->RS:=
  zA (lK (zI mH (vB 1) (lG Zv (vB 0))) (zJ (zd i3 04 (vE 1))) (lL))
  (zA (lK (zI ko (vB 0) (Zs (zj))) (zJ (cE (.int 0))) (lL))
  (zJ (zd zE (zd Z7 (zd i3 04 (zd Jl (vE 1) (lG Zv (vB 0)))) (cE (.int 31))) (vE 1))))
def o5:List T->R T:=λts=>zx (pF  (i4 2 ts))
def Di (a:List T->R T):En->RS:=
  zA (zY 3 (zd Jl (zd Z7 (zd zE (za 2 a (z9 04 06)) (zd Z7 (cE (.int 6151)) (zd zE (vE 1) 01))) (cE (.int 40692))) (cE (.int 2147483399))))
  (zJ (zd Jl (zd Jl (zd zE (zd Z7 (vE 3) (vE 3)) (zd wV (vE 3) (cE (.int 31)))) (cE (.int 2147483629))) (vE 2)))
def me:List T->R T:=λts=>zx (Di (o5) (i4 4 ts))
def t7 (a:List T->R T):En->RS:=
  zA (zY 2 (cE (.str "abcdefghijklmnopqrstuvwxyz")))
  (zA (lK (zI ml (za 3 a (z9 04 (z9 (vE 1) (z9 (cE (.int 6)) (zj))))) (cE (.int 0))) (zJ (zd i3 (Zs (z9 (cE (.str "a")) (z9 (cE (.str "b")) (z9 (cE (.str "ab")) (z9 (cE (.str "cab")) (zj)))))) (za 3 a (z9 04 (z9 (zd zE (vE 1) 01) (z9 (cE (.int 4)) (zj))))))) (lL))
  (zJ (lG (Gy "") (Z9 (Zl (zd zE 01 (za 3 a (z9 04 (z9 (zd zE (vE 1) 01) (z9 (cE (.int 3)) (zj))))))) (zW 0) (Zh) (zd i3 (vE 3) (za 3 a (z9 (vE 1) (z9 (zd zE (zd zE (vE 2) 08) 04) (z9 (cE (.int 26)) (zj)))))) 1 [0,1,2]))))
def KQ:List T->R T:=λts=>zx (t7 (me) (i4 3 ts))
def sj (a:List T->R T)(d:List T->R T):En->RS:=
  zA (lK (zI ml (za 3 a (z9 04 (z9 (vE 1) (z9 (cE (.int 3)) (zj))))) (cE (.int 0))) (zA (zY 2 (zd jb (za 3 a (z9 04 (z9 (zd zE (vE 1) 01) (z9 (cE (.int 7)) (zj))))) (cE (.int 3))))
  (zA (lK (zI ko (za 3 a (z9 04 (z9 (zd zE (vE 1) (cE (.int 3))) (z9 (cE (.int 8)) (zj))))) (cE (.int 0))) (zY 2 (zd i3 (Zs (z9 (vP (cE (.int 20))) (z9 (cE (.int 17)) (z9 (cE (.int 20)) (zj))))) (za 3 a (z9 04 (z9 (zd zE (vE 1) (cE (.int 4))) (z9 (cE (.int 3)) (zj))))))) (lL))
  (zJ (Zr (z9 (cE (.str "whole")) (z9 (vE 2) (z9 (zd yI (cE (.int 20)) (zd zE (vE 2) (za 3 a (z9 04 (z9 (zd zE (vE 1) 08) (z9 (cE (.int 4)) (zj))))))) (zj)))))))) (lL))
  (zA (WW 3 (zj))
  (zA (jM (Zl (zd zE 01 (za 3 a (z9 04 (z9 (zd zE (vE 1) 01) (z9 (cE (.int 4)) (zj))))))) (zW 4) (zA (zY 5 (za 2 d (z9 04 (z9 (zd zE (zd zE (vE 1) (cE (.int 5))) (zd Z7 (cE (.int 5)) (vE 4))) (zj)))))
  (lK (zI vQ (vB 5) (vB 3)) (UA 3 (vE 5)) (lL))))
  (zJ (Zr (z9 (cE (.str "pick")) (z9 (lG sF (Z9 (XX (vE 3)) (Zb 0 1) (Zh) (Zr (z9 (vE 1) (z9 (zd zE 01 (za 3 a (z9 (vE 2) (z9 (zd zE (zd zE (vE 3) (cE (.int 30))) 04) (z9 (cE (.int 20)) (zj)))))) (zj)))) 2 [0,1])) (zj)))))))
def pk:List T->R T:=λts=>zx (sj (me) (KQ) (i4 6 ts))
def Ac (a:List T->R T)(d:List T->R T)(f:List T->R T):En->RS:=
  zA (zY 3 (za 3 a (z9 04 (z9 (vE 1) (z9 (cE (.int 5)) (zj))))))
  (zA (lK (ma (zI ko (vB 2) 01) (zI mH (vB 3) 08)) (zJ (za 2 d (z9 04 (z9 (zd zE (vE 1) 01) (zj))))) (lL))
  (zA (lK (zI mH (vB 3) (cE (.int 4))) (zA (zY 4 (Z9 (Zl (zd zE 01 (za 3 a (z9 04 (z9 (zd zE (vE 1) 01) (z9 (cE (.int 3)) (zj))))))) (zW 0) (Zh) (za 3 f (z9 (vE 1) (z9 (zd zE (zd zE (zd Z7 (cE (.int 3)) (vE 2)) (cE (.int 40))) (zd Z7 (cE (.int 50)) 04)) (z9 (zd jb (vE 3) 01) (zj))))) 1 [0,1,2]))
  (zJ (Zr (z9 (cE (.str "row")) (z9 (lG sF (vE 4)) (zj)))))) (lL))
  (zA (zY 5 (za 3 a (z9 04 (z9 (zd zE (vE 1) 01) (z9 (cE (.int 3)) (zj))))))
  (zJ (Zr (z9 (cE (.str "many")) (z9 (za 3 f (z9 04 (z9 (zd zE (zd Z7 (cE (.int 3)) (vE 1)) (cE (.int 40))) (z9 (zd jb (vE 2) 01) (zj))))) (z9 (vE 5) (z9 (zd yI (cE (.int 3)) (zd zE (vE 5) (za 3 a (z9 04 (z9 (zd zE (vE 1) 08) (z9 (cE (.int 3)) (zj))))))) (zj))))))))))
def nK:Nat->Nat->List T->R T
 |0,_=>λ_=>.bad
 |n+1,_=>λts=>zx (Ac (me) (pk) (nK n 0) (i4 6 ts))
abbrev nS (n:Nat):List T->R T:=nK n 0
def Ab:En->RS:=
  zA (zY 1 (Zs (z9 (Zr (zj)) (zj))))
  (zA (jM (j3 04) (zW 2) (zA (WW 3 (zj))
  (zA (jM (j3 (vE 1)) (zW 4) (YQ 3 (Z9 (j3 (vE 2)) (zW 0) (Zh) (zd zE (vE 1) (Zr (z9 04 (zj)))) 1 [4])))
  (tN 1 3))))
  (zJ (vE 1)))
def mf:List T->R T:=λts=>zx (Ab  (i4 5 ts))
def mw (a:List T->R T)(d:List T->R T):En->RS:=
  zA (lK (zI ko 02 (cE (.str "whole"))) (zJ (sL (JP (zd i3 04 01) (zd zE (zd i3 04 08) 01)))) (lL))
  (zA (lK (zI ko 02 (cE (.str "pick"))) (zJ (Z9 (j3 (zd i3 04 01)) (Zb 0 1) (Zh) 04 2 [])) (lL))
  (zA (lK (zI ko 02 (cE (.str "row"))) (zJ (za 1 d (z9 (Z9 (j3 (zd i3 04 01)) (zW 0) (Zh) (za 1 a (z9 04 (zj))) 1 []) (zj)))) (lL))
  (zA (WW 1 (zj))
  (zA (jM (JP (zd i3 04 08) (zd zE (zd i3 04 (cE (.int 3))) 01)) (zW 2) (YQ 1 (za 1 d (z9 (zd Z7 (Zs (z9 (za 1 a (z9 (zd i3 04 01) (zj))) (zj))) (vE 2)) (zj)))))
  (zJ (vE 1))))))
def oQ:Nat->Nat->List T->R T
 |0,_=>λ_=>.bad
 |n+1,_=>λts=>zx (mw (oQ n 0) (mf) (i4 3 ts))
abbrev m4 (n:Nat):List T->R T:=oQ n 0
def mV (d:List T->R T)(a:List T->R T):En->RS:=
  zA (lK (zI ms 02 (Zr (z9 (cE (.str "whole")) (z9 (cE (.str "pick")) (zj))))) (zJ (lG Zv (za 1 d (z9 04 (zj))))) (lL))
  (zA (zY 1 (md (zI ko 02 (cE (.str "row"))) (Z9 (j3 (zd i3 04 01)) (zW 0) (Zh) (za 1 a (z9 04 (zj))) 1 []) (Zs (zj))))
  (zA (zY 2 01)
  (zA (jM (j3 (vE 1)) (zW 3) (zY 2 (zd Z7 (vE 2) (vE 3))))
  (zA (lK (zI ko 02 (cE (.str "many"))) (zA (zY 4 (za 1 a (z9 (zd i3 04 01) (zj))))
  (zA (zY 2 (zd zE (lG qf (jI ko (zd i3 04 08) (cE (.int 0)))) (zd Z7 (vE 4) (lG qf (mo lQ lQ (zd i3 04 08) 01 (zd i3 04 (cE (.int 3))))))))
  (zA (zY 2 (zd zE (vE 2) (zd Z7 (zd Z7 (vE 4) (vE 4)) (lG qf (mo lQ lQ (zd i3 04 08) 08 (zd i3 04 (cE (.int 3))))))))
  (zY 2 (zd zE (vE 2) (zd Z7 (zd Z7 (zd Z7 (vE 4) (vE 4)) (vE 4)) (lG qf (jI ko (zd i3 04 (cE (.int 3))) (cE (.int 3)))))))))) (lL))
  (zJ (vE 2))))))
def tZ:Nat->Nat->List T->R T
 |0,_=>λ_=>.bad
 |n+1,_=>λts=>zx (mV (m4 8) (tZ n 0) (i4 5 ts))
abbrev rF (n:Nat):List T->R T:=tZ n 0
def tq (d:List T->R T)(a:List T->R T):En->RS:=
  zA (zY 3 (za 3 d (z9 04 (z9 (vE 1) (z9 (cE (.int 3)) (zj))))))
  (zA (jM (Zl (cE (.int 3))) (zW 4) (zA (lK (zI lQ (za 1 a (z9 (vE 3) (zj))) (vB 2)) (zJ (vE 3)) (lL))
  (zY 3 (za 3 d (z9 04 (z9 (zd zE (zd zE (vE 1) (cE (.int 500))) (zd Z7 (cE (.int 700)) (vE 4))) (z9 08 (zj))))))))
  (zJ (md (zI lQ (za 1 a (z9 (vE 3) (zj))) (vB 2)) (vE 3) (Zr (z9 (cE (.str "whole")) (z9 (vP 01) (z9 08 (zj))))))))
def KR:List T->R T:=λts=>zx (tq (nS 8) (rF 8) (i4 5 ts))
def tF (a:List T->R T)(d:List T->R T):En->RS:=
  zA (zY 3 (za 3 a (z9 04 (z9 (vE 1) (z9 (cE (.int 9)) (zj))))))
  (zA (lK (G9 (zI ml (vB 2) 01) (zI ml (vB 3) (cE (.int 5)))) (zA (zY 4 (za 3 d (z9 04 (z9 (zd zE (zd Z7 08 (vE 1)) (cE (.int 11))) (z9 (zd jb (vE 2) 01) (zj))))))
  (zA (lK (zI ko (vB 3) (cE (.int 6))) (zJ (Zr (z9 (cE (.str "no")) (z9 (vE 4) (zj))))) (lL))
  (zJ (Zr (z9 (zd i3 (Zs (z9 (cE (.str "all")) (z9 (cE (.str "some")) (zj)))) (zd jb (vE 3) (cE (.int 7)))) (z9 (vE 4) (z9 (za 3 d (z9 04 (z9 (zd zE (zd Z7 08 (vE 1)) (cE (.int 24))) (z9 (zd jb (vE 2) 01) (zj))))) (zj)))))))) (lL))
  (zA (zY 5 (zd jb (za 3 a (z9 04 (z9 (zd zE (vE 1) 01) (z9 (cE (.int 9)) (zj))))) (cE (.int 4))))
  (zA (lK (zI mH (zd Jl (vE 3) (cE (.int 6))) 08) (zJ (Zr (z9 (cE (.str "sum")) (z9 (vE 5) (z9 (zd jb (zd zE (vE 5) (za 3 a (z9 04 (z9 (zd zE (vE 1) 08) (z9 (cE (.int 5)) (zj)))))) 01) (zj)))))) (lL))
  (zA (lK (zI ko (zd Jl (vE 3) (cE (.int 6))) 08) (zJ (Zr (z9 (cE (.str "size")) (z9 (za 3 a (z9 04 (z9 (zd zE (vE 1) 01) (z9 (cE (.int 3)) (zj))))) (z9 (za 3 a (z9 04 (z9 (zd zE (vE 1) 08) (z9 (cE (.int 4)) (zj))))) (zj)))))) (lL))
  (zA (lK (zI ko (zd Jl (vE 3) (cE (.int 6))) (cE (.int 3))) (zJ (Zr (z9 (cE (.str "word")) (z9 (zd i3 (Zs (z9 (cE (.str "a")) (z9 (cE (.str "b")) (z9 (cE (.str "ab")) (z9 (cE (.str "zz")) (zj)))))) (za 3 a (z9 04 (z9 (zd zE (vE 1) 01) (z9 (cE (.int 4)) (zj)))))) (zj))))) (lL))
  (zJ (md (zI ko (zd Jl (vE 3) (cE (.int 6))) (cE (.int 4))) (Zr (z9 (cE (.str "rising")) (zj))) (Zr (z9 (cE (.str "unlike")) (zj))))))))))
def oa:Nat->Nat->List T->R T
 |0,_=>λ_=>.bad
 |n+1,_=>λts=>zx (tF (me) (oa n 0) (i4 6 ts))
abbrev Ad (n:Nat):List T->R T:=oa n 0
def Df:En->RS:=
  zJ (jg (lG (Y4 "int") (vB 0)) (vT (lG (Y4 "bool") (vB 0))))
def mO:List T->R T:=λts=>zx (Df  (i4 1 ts))
def pJ (a:List T->R T):En->RS:=
  zJ (jg (za 1 a (z9 04 (zj))) (jg (za 1 a 06) (pi lQ lQ lQ (vB 2) (vB 0) (vB 1) (vB 3))))
def sV:List T->R T:=λts=>zx (pJ (mO) (i4 4 ts))
def C3:En->RS:=
  zJ (jg (lG (Y4 "tuple") (vB 0)) (mo lQ lQ (vB 1) (lG Zv (vB 0)) (vB 2)))
def mS:List T->R T:=λts=>zx (C3  (i4 3 ts))
def C8:En->RS:=
  zA (lK (ma (JD (jJ (lG (Y4 "str") (vB 0)))) (JD (oI lQ lQ 01 (lG Zv (vB 0)) (cE (.int 3))))) (zJ (cE (.bl false))) (lL))
  (zJ (lG xv (Z9 (j3 04) (zW 0) (Zh) (mo lQ lQ (cE (.str "a")) (vB 0) (cE (.str "z"))) 1 [])))
def oz:List T->R T:=λts=>zx (C8  (i4 1 ts))
def sZ (d:List T->R T)(a:List T->R T)(f:List T->R T):En->RS:=
  zJ (jg (za 3 a (z9 04 (z9 08 (z9 08 (zj))))) (jg (za 1 f (z9 02 (zj))) (jg (za 1 d (z9 (zd i3 04 01) (zj))) (mo lQ lQ 01 (zd i3 04 01) (cE (.int 20))))))
def rd:List T->R T:=λts=>zx (sZ (mO) (mS) (oz) (i4 1 ts))
def sN (d:List T->R T)(a:List T->R T):En->RS:=
  zA (lK (ma (JD (jJ (za 3 d (z9 04 (z9 01 (z9 (cE (.int 4)) (zj))))))) (JD (jJ (lG xv (Z9 (j3 04) (zW 0) (Zh) (za 1 a (z9 04 (zj))) 1 []))))) (zJ (cE (.bl false))) (lL))
  (zA (zY 1 (Z9 (j3 04) (zW 0) (Zh) 02 1 []))
  (zJ (jI ko (lG V4 (vB 1)) (lG Zv (vB 1)))))
def rD:List T->R T:=λts=>zx (sN (mS) (rd) (i4 2 ts))
def t6 (a:List T->R T)(i:List T->R T)(d:List T->R T)(f:List T->R T):En->RS:=
  zA (lK (ma (zI ko (vB 1) (cE (.int 0))) (ma (JD (jJ (lG (Y4 "tuple") (vB 0)))) (zI ko (lG Zv (vB 0)) (cE (.int 0))))) (zJ (cE (.bl false))) (lL))
  (zA (lK (zI ko 02 (cE (.str "whole"))) (zJ (jg (jI ko (lG Zv (vB 0)) (cE (.int 3))) (za 4 a (z9 (zd i3 04 01) (z9 (zd i3 04 08) (z9 (vP (cE (.int 20))) (z9 (cE (.int 20)) (zj)))))))) (lL))
  (zA (lK (zI ko 02 (cE (.str "pick"))) (zJ (jg (jI ko (lG Zv (vB 0)) 08) (za 1 d (z9 (zd i3 04 01) (zj))))) (lL))
  (zA (lK (zI ko 02 (cE (.str "row"))) (zJ (jg (jI ko (lG Zv (vB 0)) 08) (za 2 f (z9 (zd i3 04 01) (z9 (zd jb (vE 1) 01) (zj)))))) (lL))
  (zA (lK (zI ko 02 (cE (.str "many"))) (zJ (jg (jI ko (lG Zv (vB 0)) (cE (.int 4))) (jg (za 4 a (z9 (zd i3 04 08) (z9 (zd i3 04 (cE (.int 3))) (z9 (cE (.int 0)) (z9 (cE (.int 3)) (zj)))))) (za 2 i (z9 (zd i3 04 01) (z9 (zd jb (vE 1) 01) (zj))))))) (lL))
  (zJ (cE (.bl false)))))))
def sS (a:List T->R T)(d:List T->R T):En->RS:=
  zJ (jg (za 3 a (z9 04 (z9 01 (z9 (cE (.int 3)) (zj))))) (lG xv (Z9 (j3 04) (zW 0) (Zh) (za 2 d (z9 04 06)) 1 [1])))
def mE:Nat->Nat->List T->R T
 |0,_=>λ_=>.bad
 |n+1,0=>λts=>zx (t6 (sV) (mE n 0) (rD) (mE n 1) (i4 2 ts))
 |n+1,_=>λts=>zx (sS (mS) (mE n 0) (i4 2 ts))
abbrev CF (n:Nat):List T->R T:=mE n 0
abbrev AA (n:Nat):List T->R T:=mE n 1
def tU (a:List T->R T):En->RS:=
  zJ (za 2 a (z9 04 (z9 (cE (.int 3)) (zj))))
def pM:List T->R T:=λts=>zx (tU (CF 20) (i4 1 ts))
def tH (a:List T->R T):En->RS:=
  lK (JD (jJ (za 1 a (z9 04 (zj))))) (J7 0) (lL)
def nr:List T->R T:=λts=>zx (tH (pM) (i4 1 ts))
def sU (a:List T->R T)(d:List T->R T):En->RS:=
  zA (lK (zI ko 02 (cE (.str "whole"))) (zJ (zd zE (zd jb (zd i3 04 08) (zd i3 04 01)) 01)) (lL))
  (zA (lK (zI ko 02 (cE (.str "pick"))) (zJ (lG Zv (zd i3 04 01))) (lL))
  (zA (lK (zI ko 02 (cE (.str "row"))) (zJ (za 1 a (z9 (zd i3 04 01) (zj)))) (lL))
  (zJ (za 2 d (z9 04 (z9 (zd zE (zd i3 04 (cE (.int 3))) 01) (zj)))))))
def ph (a:List T->R T):En->RS:=
  zA (zY 1 01)
  (zA (jM (j3 04) (zW 2) (zY 1 (zd Z7 (vE 1) (za 1 a (z9 (vE 2) (zj))))))
  (zJ (vE 1)))
def re (a:List T->R T):En->RS:=
  zJ (lG Ve (Z9 (JP (zd i3 04 08) (vE 1)) (zW 0) (Zh) (za 1 a (z9 (zd Z7 (Zs (z9 (zd i3 (vE 1) 01) (zj))) 04) (zj))) 1 [0]))
def mU:Nat->Nat->List T->R T
 |0,_=>λ_=>.bad
 |n+1,0=>λts=>zx (sU (mU n 1) (mU n 2) (i4 1 ts))
 |n+1,1=>λts=>zx (ph (mU n 0) (i4 3 ts))
 |n+1,_=>λts=>zx (re (mU n 1) (i4 2 ts))
abbrev m9 (n:Nat):List T->R T:=mU n 0
abbrev Cs (n:Nat):List T->R T:=mU n 1
abbrev oK (n:Nat):List T->R T:=mU n 2
def sk:En->RS:=
  zJ (Z9 (j3 (zd i3 04 01)) (zW 0) (Zh) 02 1 [])
def mL:List T->R T:=λts=>zx (sk  (i4 1 ts))
def sM (f:List T->R T)(a:List T->R T)(d:List T->R T):En->RS:=
  zA (lK (zI ko 02 (cE (.str "whole"))) (zJ (zd zE (zd i3 04 01) (vE 1))) (lL))
  (zA (lK (zI ko 02 (cE (.str "pick"))) (zJ (zd i3 (za 1 f (z9 04 (zj))) (vE 1))) (lL))
  (zA (lK (zI ko 02 (cE (.str "row"))) (zJ (za 2 d (z9 (zd i3 04 01) 06))) (lL))
  (zJ (za 2 a (z9 04 06)))))
def rX (a:List T->R T)(d:List T->R T):En->RS:=
  zA (zY 2 (zd i3 04 08))
  (zA (ZA (zI lQ (za 2 a (z9 04 (z9 (zd zE (vE 2) 01) (zj)))) (vB 1)) (zY 2 (zd zE (vE 2) 01)) (8))
  (zJ (za 2 d (z9 (zd Z7 (Zs (z9 (zd i3 04 01) (zj))) (vE 2)) (z9 (zd jb (vE 1) (za 2 a (z9 04 (z9 (vE 2) (zj))))) (zj))))))
def rn (d:List T->R T)(a:List T->R T):En->RS:=
  zA (WW 2 (zj))
  (zA (zY 3 (vE 1))
  (zA (jM (AS 04) (zW 4) (zA (zY 5 (za 1 d (z9 (vE 4) (zj))))
  (zA (UA 2 (za 2 a (z9 (vE 4) (z9 (zd Jl (vE 3) (vE 5)) (zj)))))
  (zY 3 (zd wV (vE 3) (vE 5))))))
  (zJ (lG Vl (vE 2)))))
def m3:Nat->Nat->List T->R T
 |0,_=>λ_=>.bad
 |n+1,0=>λts=>zx (sM (mL) (m3 n 1) (m3 n 2) (i4 2 ts))
 |n+1,1=>λts=>zx (rX (oK 20) (m3 n 2) (i4 3 ts))
 |n+1,_=>λts=>zx (rn (m9 20) (m3 n 0) (i4 6 ts))
abbrev oX (n:Nat):List T->R T:=m3 n 0
abbrev Bf (n:Nat):List T->R T:=m3 n 1
abbrev Bv (n:Nat):List T->R T:=m3 n 2
def sA (a:List T->R T)(f:List T->R T)(i:List T->R T)(d:List T->R T):En->RS:=
  zA (ZR (za 1 a (z9 04 (zj))))
  (zA (lK (ma (JD (jJ (za 1 f 06))) (JD (oI lQ mH (cE (.int 0)) (vB 1) (za 1 i (z9 04 (zj)))))) (J7 1) (lL))
  (zJ (za 2 d (z9 04 06))))
def sT:List T->R T:=λts=>zx (sA (nr) (mO) (m9 20) (oX 20) (i4 2 ts))
def oW (a:List T->R T)(f:List T->R T)(d:List T->R T):En->RS:=
  zA (ZR (za 1 a (z9 04 (zj))))
  (zA (zY 1 (za 1 f (z9 04 (zj))))
  (zA (lK (zI ml (vB 1) (cE (.int 500))) (J7 3) (lL))
  (Y6 (Zl (vE 1)) (zW 0) (Zh) (za 2 d (z9 (vE 1) (z9 04 (zj)))) 1 [0])))
def ny:List T->R T:=λts=>zx (oW (nr) (m9 20) (oX 20) (i4 2 ts))
def AF (a:List T->R T):En->RS:=
  zJ (jg (za 1 a (z9 04 (zj))) (mo lQ lQ (vP (cE (.int 50))) (vB 0) (cE (.int 50))))
def su:List T->R T:=λts=>zx (AF (mO) (i4 1 ts))
def sI (f:List T->R T)(d:List T->R T)(a:List T->R T):En->RS:=
  zA (lK (ma (zI ko (vB 1) (cE (.int 0))) (ma (JD (jJ (lG (Y4 "tuple") (vB 0)))) (zI ko (lG Zv (vB 0)) (cE (.int 0))))) (zJ (cE (.bl false))) (lL))
  (zA (lK (ma (zI ko 02 (cE (.str "sum"))) (zI ko 02 (cE (.str "size")))) (zJ (jg (jI ko (lG Zv (vB 0)) (cE (.int 3))) (jg (za 1 a (z9 (zd i3 04 01) (zj))) (za 1 a (z9 (zd i3 04 08) (zj)))))) (lL))
  (zA (lK (zI ko 02 (cE (.str "word"))) (zJ (jg (jI ko (lG Zv (vB 0)) 08) (za 1 f (z9 (zd i3 04 01) (zj))))) (lL))
  (zA (lK (ma (zI ko 02 (cE (.str "rising"))) (zI ko 02 (cE (.str "unlike")))) (zJ (jI ko (lG Zv (vB 0)) 01)) (lL))
  (zA (lK (zI ko 02 (cE (.str "no"))) (zJ (jg (jI ko (lG Zv (vB 0)) 08) (za 2 d (z9 (zd i3 04 01) (z9 (zd jb (vE 1) 01) (zj)))))) (lL))
  (zA (lK (ma (zI ko 02 (cE (.str "all"))) (zI ko 02 (cE (.str "some")))) (zJ (jg (jI ko (lG Zv (vB 0)) (cE (.int 3))) (jg (za 2 d (z9 (zd i3 04 01) (z9 (zd jb (vE 1) 01) (zj)))) (za 2 d (z9 (zd i3 04 08) (z9 (zd jb (vE 1) 01) (zj))))))) (lL))
  (zJ (cE (.bl false))))))))
def se:Nat->Nat->List T->R T
 |0,_=>λ_=>.bad
 |n+1,_=>λts=>zx (sI (oz) (se n 0) (su) (i4 2 ts))
abbrev Dj (n:Nat):List T->R T:=se n 0
def Dh (a:List T->R T):En->RS:=
  zJ (za 2 a (z9 04 (z9 (cE (.int 3)) (zj))))
def BN:List T->R T:=λts=>zx (Dh (Dj 8) (i4 1 ts))
def sE (a:List T->R T):En->RS:=
  lK (JD (jJ (za 1 a (z9 04 (zj))))) (J7 2) (lL)
def oN:List T->R T:=λts=>zx (sE (BN) (i4 1 ts))
def sw (a:List T->R T):En->RS:=
  zA (lK (JD (jJ (lG (Y4 "tuple") (vB 0)))) (zJ (Zs (z9 04 (zj)))) (lL))
  (zA (WW 1 (zj))
  (zA (jM (j3 04) (zW 2) (YQ 1 (za 1 a (z9 (vE 2) (zj)))))
  (zJ (vE 1))))
def pP:Nat->Nat->List T->R T
 |0,_=>λ_=>.bad
 |n+1,_=>λts=>zx (sw (pP n 0) (i4 3 ts))
abbrev oZ (n:Nat):List T->R T:=pP n 0
def Cu (d:List T->R T)(a:List T->R T):En->RS:=
  zJ (Z9 (j3 (za 1 a (z9 04 (zj)))) (zW 0) (jJ (za 1 d (z9 04 (zj)))) 04 1 [])
def t9:List T->R T:=λts=>zx (Cu (mO) (oZ 8) (i4 1 ts))
def pQ:En->RS:=
  zJ (md (jJ (lG (Y4 "tuple") (vB 0))) 04 (Zr (z9 04 (zj))))
def sh:List T->R T:=λts=>zx (pQ  (i4 1 ts))
def Ci:En->RS:=
  zJ (lG xv (Z9 (kv 04 (mD 04 (j0 01) (mI))) (Zb 0 1) (Zh) (jI lQ (vB 0) (vB 1)) 2 []))
def BO:List T->R T:=λts=>zx (Ci  (i4 1 ts))
def CC:En->RS:=
  zJ (vT (lG Cy (Z9 (wC 04) (Zb 0 1) (Zh) (jI ms (vB 1) (mD (vE 2) (mI) (j0 04))) 2 [0])))
def AV:List T->R T:=λts=>zx (CC  (i4 1 ts))
def sD (d:List T->R T)(j:List T->R T)(a:List T->R T)(f:List T->R T)(i:List T->R T):En->RS:=
  zA (lK (zI ko 02 (cE (.str "sum"))) (zJ (mo lQ lQ (zd i3 04 01) (lG Ve (za 1 a 06)) (zd i3 04 08))) (lL))
  (zA (lK (zI ko 02 (cE (.str "size"))) (zJ (mo lQ lQ (zd i3 04 01) (lG Zv (za 1 d 06)) (zd i3 04 08))) (lL))
  (zA (lK (zI ko 02 (cE (.str "word"))) (zJ (jI ms (zd i3 04 01) (za 1 j 06))) (lL))
  (zA (lK (zI ko 02 (cE (.str "rising"))) (zJ (za 1 f (z9 (za 1 a 06) (zj)))) (lL))
  (zJ (za 1 i (z9 (za 1 d 06) (zj)))))))
def pA:List T->R T:=λts=>zx (sD (sh) (oZ 8) (t9) (BO) (AV) (i4 2 ts))
def tL (a:List T->R T)(d:List T->R T):En->RS:=
  zA (lK (zI ko 02 (cE (.str "no"))) (zJ (vT (za 2 a (z9 (zd i3 04 01) 06)))) (lL))
  (zA (lK (zI ko 02 (cE (.str "all"))) (zJ (jg (za 2 a (z9 (zd i3 04 01) 06)) (za 2 a (z9 (zd i3 04 08) 06)))) (lL))
  (zA (lK (zI ko 02 (cE (.str "some"))) (zJ (o9 (za 2 a (z9 (zd i3 04 01) 06)) (za 2 a (z9 (zd i3 04 08) 06)))) (lL))
  (zJ (za 2 d (z9 04 06)))))
def nz:Nat->Nat->List T->R T
 |0,_=>λ_=>.bad
 |n+1,_=>λts=>zx (tL (nz n 0) (pA) (i4 2 ts))
abbrev nV (n:Nat):List T->R T:=nz n 0
def nQ (d:List T->R T)(a:List T->R T)(f:List T->R T):En->RS:=
  zA (ZR (za 1 a 06))
  (Y6 (j3 (za 1 d (z9 04 (zj)))) (zW 0) (jJ (za 2 f (z9 (vE 1) (z9 04 (zj))))) 04 1 [1])
def nW:List T->R T:=λts=>zx (nQ (ny) (oN) (nV 8) (i4 2 ts))
def ng (f:List T->R T)(d:List T->R T)(i:List T->R T)(a:List T->R T):En->RS:=
  zA (lK (zI ko 02 (cE (.str "whole"))) (zJ (jg (za 1 f 06) (mo lQ lQ (zd i3 04 01) (vB 1) (zd i3 04 08)))) (lL))
  (zA (lK (zI ko 02 (cE (.str "pick"))) (zJ (jI ms (vB 1) (za 1 i (z9 04 (zj))))) (lL))
  (zA (lK (zI ko 02 (cE (.str "row"))) (zJ (jg (za 3 d (z9 (vE 1) (z9 (lG Zv (zd i3 04 01)) (z9 (lG Zv (zd i3 04 01)) (zj))))) (za 2 a (z9 (zd i3 04 01) 06)))) (lL))
  (zJ (jg (za 3 d (z9 (vE 1) (z9 (zd i3 04 08) (z9 (zd i3 04 (cE (.int 3))) (zj))))) (za 2 a (z9 (zd Z7 (Zs (z9 (zd i3 04 01) (zj))) (lG Zv (vB 1))) 06))))))
def tu (a:List T->R T):En->RS:=
  zJ (lG xv (Z9 (kv 04 (vE 1)) (Zb 0 1) (Zh) (za 2 a (z9 04 06)) 2 []))
def m8:Nat->Nat->List T->R T
 |0,_=>λ_=>.bad
 |n+1,0=>λts=>zx (ng (mO) (mS) (mL) (m8 n 1) (i4 2 ts))
 |n+1,_=>λts=>zx (tu (m8 n 0) (i4 2 ts))
abbrev Bd (n:Nat):List T->R T:=m8 n 0
abbrev A0 (n:Nat):List T->R T:=m8 n 1
def tI (a:List T->R T)(d:List T->R T):En->RS:=
  zA (ZR (za 1 a (z9 04 (zj))))
  (zJ (za 2 d (z9 04 06)))
def o0:List T->R T:=λts=>zx (tI (nr) (Bd 20) (i4 2 ts))
def tV (a:List T->R T):En->RS:=
  lK (JD (jJ (za 2 a (z9 04 06)))) (J7 1) (lL)
def rV:List T->R T:=λts=>zx (tV (o0) (i4 2 ts))
def sv:En->RS:=
  zJ (zd yI (zd Db (cE (.int 0)) (zd i3 04 01)) (zd i3 04 08))
def nT:List T->R T:=λts=>zx (sv  (i4 1 ts))
def rQ (a:List T->R T):En->RS:=
  zA (zY 2 (za 1 a (z9 04 (zj))))
  (zA (lK (zI ko (vB 1) (vB 2)) (Uc (Zs (zj))) (lL))
  (Uc (md (zI ml (vB 1) (vB 2)) (Zs (z9 (zd jb (vE 1) 01) (zj))) (Zs (z9 (zd zE (vE 1) 01) (zj))))))
def rj:List T->R T:=λts=>zx (rQ (nT) (i4 3 ts))
def rm (a:List T->R T):En->RS:=
  zA (zY 2 (za 1 a (z9 04 (zj))))
  (zA (zY 3 (Vb Va (vB 2) (vB 1)))
  (Uc (md (zI ml (vB 3) (cE (.int 0))) (Zs (z9 (zd i3 (vE 2) (zd jb (vE 3) 01)) (zj))) (Zs (zj)))))
def pq:List T->R T:=λts=>zx (rm (mL) (i4 4 ts))
def o7:En->RS:=
  zA (lK (zI ko (lG Zv (vB 1)) (zd i3 04 08)) (Uc (Zs (zj))) (lL))
  (Y6 (Zl (lG Zv (vB 1))) (zW 0) (Zh) (zd zE (mD (vE 1) (mI) (j0 04)) (mD (vE 1) (j0 (zd zE 04 01)) (mI))) 1 [1])
def pB:List T->R T:=λts=>zx (o7  (i4 2 ts))
def nU (d:List T->R T)(f:List T->R T)(i:List T->R T)(a:List T->R T):En->RS:=
  zA (lK (zI ko 02 (cE (.str "whole"))) (Uc (W1 2 d (z9 04 06))) (lL))
  (zA (lK (zI ko 02 (cE (.str "pick"))) (Uc (W1 2 f (z9 04 06))) (lL))
  (zA (lK (zI ko 02 (cE (.str "row"))) (Uc (W1 2 a (z9 (zd i3 04 01) 06))) (lL))
  (Uc (zd KP (za 2 (mn i) (z9 04 06)) (za 2 (mn a) (z9 (zd Z7 (Zs (z9 (zd i3 04 01) (zj))) (lG Zv (vB 1))) 06))))))
def pW (a:List T->R T):En->RS:=
  zA (WW 2 (zj))
  (zA (jM (wC (vE 1)) (Zb 3 4) (jM (j3 (za 2 (mn a) (z9 (zd i3 04 (vE 3)) (z9 (vE 4) (zj))))) (zW 5) (UA 2 (zd zE (zd zE (mD (vE 1) (mI) (j0 (vE 3))) (Zr (z9 (vE 5) (zj)))) (mD (vE 1) (j0 (zd zE (vE 3) 01)) (mI))))))
  (rZ 2))
def m7:Nat->Nat->List T->R T
 |0,_=>λ_=>.bad
 |n+1,0=>λts=>zx (nU (rj) (pq) (pB) (m7 n 1) (i4 2 ts))
 |n+1,_=>λts=>zx (pW (m7 n 0) (i4 6 ts))
abbrev Dc (n:Nat):List T->R T:=m7 n 0
abbrev Cp (n:Nat):List T->R T:=m7 n 1
def rk (d:List T->R T)(a:List T->R T):En->RS:=
  zA (ZR (za 2 d (z9 04 06)))
  (Uc (W1 2 a (z9 04 06)))
def pd:List T->R T:=λts=>zx (rk (rV) (Dc 20) (i4 2 ts))
def rW (d:List T->R T)(f:List T->R T)(a:List T->R T):En->R (List T):=
  z9 (W1 1 d (z9 04 (zj))) (z9 (W1 2 f (z9 04 06)) (z9 (W1 2 a (z9 04 (z9 (vE 2) (zj)))) (zj)))
def KS:List T->R T:=BX 3 (rW (ny) (nW) (pd))
def oi (f:List T->R T)(d:List T->R T)(a:List T->R T):En->RS:=
  zA (lK (zI ko 02 (cE (.str "whole"))) (zJ (lG Bu (zd jb (vE 1) (za 1 d (z9 04 (zj)))))) (lL))
  (zA (lK (zI ko 02 (cE (.str "pick"))) (zJ (Vb Va (za 1 f (z9 04 (zj))) (vB 1))) (lL))
  (zA (lK (zI ko 02 (cE (.str "row"))) (zJ (za 2 a (z9 (zd i3 04 01) 06))) (lL))
  (zJ (zd jb (zd zE (za 2 a (z9 (zd Z7 (Zs (z9 (zd i3 04 01) (zj))) (lG Zv (vB 1))) 06)) (lG Zv (vB 1))) (zd i3 04 08)))))
def tM (a:List T->R T):En->RS:=
  zJ (lG Ve (Z9 (kv 04 (vE 1)) (Zb 0 1) (Zh) (za 2 a (z9 04 06)) 2 []))
def mW:Nat->Nat->List T->R T
 |0,_=>λ_=>.bad
 |n+1,0=>λts=>zx (oi (mL) (nT) (mW n 1) (i4 2 ts))
 |n+1,_=>λts=>zx (tM (mW n 0) (i4 2 ts))
abbrev oU (n:Nat):List T->R T:=mW n 0
abbrev ro (n:Nat):List T->R T:=mW n 1
def tE (d:List T->R T)(a:List T->R T)(i:List T->R T)(f:List T->R T):En->RS:=
  zA (ZR (za 1 a 06))
  (zA (zY 2 (Z9 (j3 (za 1 d (z9 04 (zj)))) (zW 0) (JD (jJ (za 2 i (z9 (vE 1) (z9 04 (zj)))))) 04 1 [1]))
  (zJ (Vv [0] (za 2 f (z9 (vE 1) (z9 04 (zj)))) (vE 2) (cE .non))))
def o6:List T->R T:=λts=>zx (tE (ny) (oN) (nV 8) (oU 20) (i4 3 ts))
def tj (a:List T->R T)(d:List T->R T):En->R (T×En):=
  J8 (ZR (za 1 a 06))
  (J8 (my 102 0 2 "kind" (vE 1))
  (J8 (my 102 0 2 "first" (cE (.int 0)))
  (J8 (my 102 0 2 "last" (zd jb (za 1 d 06) 01))
  (J8 (my 102 0 2 "answered" (cE (.int 0)))
  (Bq)))))
def nH:List (Str×Fd)->List T->R (T×List (Str×Fd)):=λfs ts=>kQ 102 2 (tj (nr) (m9 20) (nZ 102 2 fs ts))
def C4:En->RS:=
  zJ (zd zE (zd jb (yN 102 0 1 "last") (yN 102 0 1 "first")) 01)
def nv:List (Str×Fd)->List T->R T:=λfs ts=>zx (C4  (nF 102 1 fs (ts.take 0) (ts.drop 0)))
def sR (a:List (Str×Fd)->List T->R T):En->RS:=
  zA (lK (zI ko (JQ 102 0 1 0 a zj) 01) (J7 4) (lL))
  (zJ (zd zE (yN 102 0 1 "first") (zd wV (JQ 102 0 1 0 a zj) 08)))
def nX:List (Str×Fd)->List T->R T:=λfs ts=>zx (sR (nv) (nF 102 1 fs (ts.take 0) (ts.drop 0)))
def Aa (a:List (Str×Fd)->List T->R T):En->R (T×En):=
  J8 (zY 2 (JQ 102 0 3 0 a zj))
  (J8 (lK (jJ (vB 1)) (my 102 0 3 "last" (zd jb (vE 2) 01)) (my 102 0 3 "first" (vE 2)))
  (J8 (my 102 0 3 "answered" (zd zE (yN 102 0 3 "answered") 01))
  (Bq)))
def KT:List (Str×Fd)->List T->R (T×List (Str×Fd)):=λfs ts=>kQ 102 3 (Aa (nX) (nZ 102 3 fs ts))
def pO:En->RS:=
  zJ (yN 102 0 1 "answered")
def Af:List (Str×Fd)->List T->R T:=λfs ts=>zx (pO  (nF 102 1 fs (ts.take 0) (ts.drop 0)))
noncomputable def ZU:List T->R T:=λ_=>.bad
def rg (a:List T->R T)(d:List T->R T):En->RS:=
  zJ (za 2 a (z9 04 (z9 (za 2 d (z9 04 06)) (zj))))
def pY:List T->R T:=λts=>zx (rg (ZU) (nW) (i4 2 ts))
noncomputable def Wd:List T->R T:=λ_=>.bad
def pS (d:List T->R T)(a:List T->R T):En->RS:=
  zA (ZR (za 2 d (z9 04 06)))
  (zJ (za 2 a (z9 04 06)))
def rP:List T->R T:=λts=>zx (pS (rV) (Wd) (i4 2 ts))
noncomputable def jk:List T->R T:=λ_=>.bad
def pT (f:List T->R T)(d:List T->R T)(i:List T->R T)(a:List T->R T):En->RS:=
  zA (ZR (za 1 d (z9 (vE 2) (zj))))
  (zA (ZR (za 2 f (z9 04 06)))
  (zA (lK (jJ (za 2 i (z9 (vE 2) 06))) (J7 1) (lL))
  (zA (WW 3 06)
  (zA (zY 4 (za 3 a (z9 04 (z9 (vE 1) (z9 (vE 2) (zj))))))
  (zA (ZA (zI ml (lG Zv (vB 4)) (cE (.int 0))) (zA (UA 3 (zd i3 (vE 4) (cE (.int 0))))
  (zY 4 (za 3 a (z9 04 (z9 (zd i3 (vE 4) (cE (.int 0))) (z9 (vE 2) (zj))))))) (8))
  (zJ (vE 3)))))))
def pp:List T->R T:=λts=>zx (pT (rV) (oN) (nV 8) (jk) (i4 5 ts))
def CL:En->RS:=
  zA (WW 1 (z9 (wA 0 okX wD) (z9 (wA 0 okX Jt) (z9 (wA 0 okX Ju) (z9 (wA 0 okX Jv) (zj))))))
  (zA (YQ 1 (Zs (z9 (wA 0 okX jT) (z9 (wA 0 okX jU) (zj)))))
  (zA (lK (ma (zI lX (Vb Aj (vB 1) (cE (.bl true))) 01) (JD (jJ (wA 0 okX ZT)))) (zJ (cE (.str "wrong"))) (lL))
  (zJ (zd i3 (Zs (z9 (cE (.str "ended")) (z9 (cE (.str "no kind")) (z9 (cE (.str "no rule")) (z9 (cE (.str "no text")) (z9 (cE (.str "no worth")) (z9 (cE (.str "too many")) (zj)))))))) (Vb Va (vB 1) (cE (.bl true)))))))
def Dy:Nat->R T:=λc=>zx (CL  (nJ 2 c))
def sr (d:List T->R T)(k:List T->R T)(i:Nat->R T)(l:List T->R T)(a:List T->R T)(j:List T->R T)(f:List T->R T):En->RS:=
  zA (zY 4 (cE .non))
  (zA (zY 5 (cE .non))
  (zA (GE 4 okX (lK (zI mH (vB 0) 08) (zY 5 (UO 2 l a 04 (z9 (vE 1) (z9 (vE 2) (zj))))) (lK (zI mH (vB 0) (cE (.int 4))) (zY 5 (UO 2 d (mn j) (zd jb 04 08) (z9 (vE 1) (z9 (vE 2) (zj))))) (zY 5 (md (zI ko (vB 0) (cE (.int 4))) (za 3 f (z9 (vE 1) (z9 (vE 2) (z9 (vE 3) (zj))))) (za 1 k 06))))))
  (zA (lK (Az 4) (zJ (vE 5)) (lL))
  (zJ (kd 4 i)))))
def mX:List T->R T:=λts=>zx (sr (rP) (ny) (Dy) (nW) (pY) (pd) (pp) (i4 7 ts))
def tX (o:List T->R T)(v:List T->R T)(j:List T->R T)(l:List T->R T)(x:List T->R T)(i:List T->R T)(a:List T->R T)(d:List T->R T)(p:List (Str×Fd)->List T->R (T×List (Str×Fd)))(f:List (Str×Fd)->List T->R T)(y:List (Str×Fd)->List T->R T)(u:List (Str×Fd)->List T->R (T×List (Str×Fd)))(k:List (Str×Fd)->List T->R T):En->RS:=
  zA (GB 1 2 (z9 (za 3 l (z9 04 (z9 (cE (.int 0)) (z9 (cE (.int 24)) (zj))))) (z9 (za 3 x (z9 04 (z9 (cE (.int 4000)) (z9 08 (zj))))) (zj))))
  (zA (zY 3 (za 2 o (z9 (vE 1) (z9 (za 3 v (z9 04 (z9 (cE (.int 4100)) (z9 (lG Zv (za 1 j 06)) (zj))))) (zj)))))
  (zA (pR 4 5 6 3 d (z9 (vE 1) (z9 (vE 2) (z9 (vE 3) (zj)))))
  (zA (lK (ma (zI lX (za 3 (mn d) (z9 (vE 1) (z9 (vE 2) (z9 (vE 3) (zj))))) (vB 5)) (zI lX (za 2 i (z9 (vE 1) (z9 (vE 2) (zj)))) (za 2 i (z9 (vE 1) (z9 (vE 2) (zj)))))) (zJ (cE (.bl false))) (lL))
  (zA (uv 6 7 11 12 (nh 11 13 102 1 p 06) (nh 12 13 102 1 p 06))
  (zA (ZA (zI ml (JQ 102 7 13 0 f zj) 01) (zA (ZR (JQ 102 7 13 0 y zj))
  (oE (KN 102 7 13 "answer" 1 u (z9 (cE (.bl false)) (zj))))) (20))
  (zA (lK (ma (zI lX (JQ 102 6 13 0 f zj) (lG Zv (za 1 j 06))) (ma (zI lX (JQ 102 6 13 0 k zj) (cE (.int 0))) (zI lX (JQ 102 7 13 0 f zj) 01))) (zJ (cE (.bl false))) (lL))
  (zA (zY 8 (Zr (z9 (cE (.str "row")) (z9 (Zr (z9 (Zr (z9 (cE (.str "whole")) (z9 (cE (.int 0)) (z9 (cE (.int 19)) (zj))))) (z9 (Zr (z9 (cE (.str "whole")) (z9 01 (z9 (cE (.int 6)) (zj))))) (z9 (Zr (z9 (cE (.str "whole")) (z9 (cE (.int 0)) (z9 (cE (.int 4)) (zj))))) (zj))))) (zj)))))
  (zA (rY (Zr (z9 (Zr (z9 (cE (.str "whole")) (z9 08 (z9 01 (zj))))) (z9 (Zr (z9 (cE (.str "sum")) (z9 01 (zj)))) (zj)))) (Zb 9 10))
  (zA (zY 4 (zd zE (Z9 (Zl 08) (zW 0) (Zh) (za 4 a (z9 04 (z9 (vE 1) (z9 (vE 2) (z9 (cE .non) (zj)))))) 1 [9,10]) (Zs (z9 (za 4 a (z9 (cE (.int 4)) (z9 (vE 9) (z9 (cE .non) (z9 (vE 10) (zj)))))) (zj)))))
  (zA (lK (ma (zI lX (vB 4) (zd Z7 (Zs (z9 (cE (.str "no rule")) (zj))) (cE (.int 3)))) (zI lX (Z9 (j3 (Zr (z9 08 (z9 (cE (.int 3)) (zj))))) (zW 0) (Zh) (za 4 a (z9 04 (z9 (vE 1) (z9 (cE .non) (z9 (cE .non) (zj)))))) 1 [9]) (zd Z7 (Zs (z9 (cE (.str "no kind")) (zj))) 08))) (zJ (cE (.bl false))) (lL))
  (zA (zY 4 (Zs (z9 (za 4 a (z9 (cE (.int 0)) (z9 (vE 8) (z9 (vE 10) (z9 (cE .non) (zj)))))) (z9 (za 4 a (z9 (cE (.int 0)) (z9 (vE 8) (z9 (vE 2) (z9 (cE .non) (zj)))))) (z9 (za 4 a (z9 (cE (.int 5)) (z9 (vE 8) (z9 (cE .non) (z9 (cE .non) (zj)))))) (zj))))))
  (zA (lK (ma (zI lX (vB 4) (Zs (z9 (cE (.str "no rule")) (z9 (cE (.str "too many")) (z9 (cE (.str "too many")) (zj)))))) (zI lX (za 4 a (z9 08 (z9 (vE 8) (z9 (cE .non) (z9 (cE .non) (zj)))))) (cE (.str "no worth")))) (zJ (cE (.bl false))) (lL))
  (tO (sx (jg (jI ko (za 3 (mn d) (z9 (vE 1) (z9 (vE 2) (z9 (vE 3) (zj))))) (vB 5)) (jI ko (JQ 102 6 13 0 f zj) (lG Zv (za 1 j 06))))))))))))))))))
def nR:List T->R T:=λts=>zx (tX (sT) (me) (m4 8) (KR) (Ad 8) (o6) (mX) (KS) (nH) (nv) (nX) (KT) (Af) (sP 14 ts))
end G
namespace G
open PySem L2 PV
noncomputable abbrev lN (ns:List Int):T:=.fz (ns.map T.int)
def K3 (ns:List Int)(k:Int)(u:0<=k):∃c,o5 [lN ns,.int k]=.ok (.int c):=by
 have l:o5 [lN ns,.int k]=zx (if decide (k<((ns.map T.int).length))=true then (l0 (ns.map T.int) k).s (λt=>.rt t)else
   match (ko (lN ns) (.lst [])).s (λb=>if b=true then RS.rt (.int 0)else .nx [.vl (lN ns),.vl (.int k)])with
   |.nx ρ'=>zJ (zd zE (zd Z7 (zd i3 04 (zd Jl (vE 1) (lG Zv (vB 0)))) (cE (.int 31))) (vE 1)) ρ'
   |r=>r):=by
  show zx (match (if decide _=true then (l0 _ k).s (λt=>RS.rt t)else .nx _)with
   |.nx ρ'=>_
   |r=>r)=_
  cases decide (k<((ns.map _).length:Int))with
  |true=>
   unfold l0;cases mv _ k<;>rfl
  |false=>rfl
 rw[l,ah]
 by_cases i:k<(ns.length)
 ·obtain⟨v,d⟩:∃v,ns[k.toNat]?=some v:=⟨ns[k.toNat]'(by lia),am 00⟩
  have f:mv (ns.map T.int) k=some (.int v):=by
   have:k=((k.toNat):Int):=by lia
   rw[this];exact ZZ (by rw[aj,d];rfl)
  rw[decide_eq_true i];exact⟨v,by unfold l0;rw[f];rfl⟩
 ·rw[decide_eq_false i];cases ns with
  |nil=>exact⟨0,rfl⟩
  |cons x xs=>
   have j:=lq k (show (((x::xs).length):Int)≠0 by simp only[ax];lia)
   have p:=iz k (show (0)<(((x::xs).length):Int) by simp only[ax];lia)
   obtain⟨v,d⟩:∃v,(x::xs)[(k%(((x::xs).length):Int)).toNat]?=some v:=⟨_,am 00⟩
   have f:mv ((x::xs).map T.int) (k%(((x::xs).length):Int))=some (.int v):=by
    have e:k%(((x::xs).length):Int)=(((k%(((x::xs).length):Int)).toNat:Nat):Int):=by lia
    rw[e];exact ZZ (by rw[aj,d];rfl)
   have o:uV v 31:=.inr ⟨by decide,by decide⟩
   have hp:(0:Int)<(((x::xs).map T.int).length):=by simp only[ah,ax];lia
   refine⟨v*31+k,?_⟩;show zx (((((if 0<(((x::xs).map _).length:Int)then R.ok _ else .bad).bind λy=>i3 _ y).bind λa=>Z7 a _).bind λa=>zE a _).s λt=>.rt t)=_
   rw[if_pos hp];show zx ((((l0 _ _).bind λa=>Z7 a _).bind λa=>zE a _).s λt=>.rt t)=_;rw[ah];unfold l0;rw[f];show zx ((((if uV v 31 then R.ok _ else .bad)).bind λa=>zE a _).s λt=>.rt t)=_
   rw[if_pos o];rfl
def zV (ns:List Int)(k m:Int)(o:0<=k)(i:0<m):∃p,me [lN ns,.int k,.int m]=.ok (.int p)/\0<=p/\p<m:=by
 obtain⟨c,j⟩:=K3 ns k o;have f:uV (c+6151*(k+1)) 40692:=.inr ⟨by decide,by decide⟩
 generalize hd:(c+6151*(k+1))*40692%2147483399=d;have a:uV d d:=.inl ⟨by lia,by lia⟩
 refine⟨(d*d+d/31)%2147483629%m,?_,lq _ 00,iz _ i⟩
 have l:me [lN ns,.int k,.int m]=zx (match ((((((o5 _).bind λx=>(Z7 (.int 6151) (.int _)).bind λy=>zE x y).bind λx=>Z7 x _).bind λx=>Jl x _)).s λt=>RS.nx _)with
   |.nx ρ'=>zJ _ ρ'
   |r=>r):=rfl
 rw[l,j];show zx (match ((((if uV _ _ then R.ok _ else .bad)).bind λx=>Jl x _).s λt=>RS.nx _)with
   |.nx ρ'=>_
   |r=>r)=_
 rw[if_pos f];show zx (zJ _ _)=_;rw[hd];show zx (((((if uV d d then R.ok _ else .bad).bind λx=>zE x _).bind λx=>Jl x _).bind λx=>Jl x _).s λt=>RS.rt t)=_
 rw[if_pos a];show zx ((if 0<m then R.ok _ else .bad).s λt=>RS.rt t)=_
 rw[if_pos i];rfl
def qN {ft:En->R Bool}{fe:En->R T}:∀(ts:List T) (ρ:En) (x:Sl),zR (zW 0) ft fe ts (ρ.set 0 x)=zR (zW 0) ft fe ts ρ
 |[],_,_=>rfl
 |t::ts,ρ,x=>by
  unfold zR zW;rw[List.set_set]
theorem jl {ft:En->R Bool}{fe:En->R T}{p:T->Bool}{h:T->T}:∀(ts:List T) (ρ:En),(∀t∈ts,ft (ρ.set 0 (.vl t))=.ok (p t)/\(p t=true->fe (ρ.set 0 (.vl t))=.ok (h t)))->zR (zW 0) ft fe ts ρ=.ok ((ts.filter p).map h)
 |[],_,_=>rfl
 |t::ts,ρ,H=>by
  obtain⟨d,a⟩:=H t aq;have i:=jl ts ρ λu f=>H u (ae _ f);have e:zR (zW 0) ft fe (t::ts) ρ=(ft _).bind λk=>if k=true then (fe _).bind λv=>(zR _ ft fe ts _).bind λvs=>.ok _ else zR _ ft fe ts _:=rfl
  rw[e,d,qN,i];show (if p t=true then _ else _)=_
  cases hp:p t with
  |true=>rw[a hp,List.filter_cons_of_pos hp];rfl
  |false=>rw[if_neg aN,List.filter_cons_of_neg (by rw[hp];exact aN)]
def qQ {fe:En->R T}{h:T->T}(ts:List T)(ρ:En)(H:∀t∈ts,fe (ρ.set 0 (.vl t))=.ok (h t)):zR (zW 0) Zh fe ts ρ=.ok (ts.map h):=by
 have:=jl (ft:=Zh) ts ρ λt a=>⟨rfl,λ_=>H t a⟩;rw[this,List.filter_eq_self.mpr (λ_ _=>rfl)]
def Z1 {fe:En->R T}{h:T->T}{k:Nat}{js:List Nat}{ρ:En}(ts:List T)(a:ts.length<=lM)(H:∀t∈ts,fe ((wY k js ρ).set 0 (.vl t))=.ok (h t)):zM (zW 0) Zh fe k js ρ ts=.ok (ts.map h):=by
 unfold zM;rw[if_pos a,qQ ts _ H];rfl
theorem JT (p:T->Bool):∀ts:List T,uk (ts.map λt=>T.bl (p t))=some (ts.all p)
 |[]=>rfl
 |t::ts=>by
  show (match uk (ts.map λt=>T.bl _)with|some j=>some _|none=>none)=_
  rw[JT p ts];rfl
noncomputable def CZ:T->Bool
 |.int _=>true
 |_=>false
def JU (t:T):mO [t]=.ok (.bl (CZ t)):=by cases t<;>rfl
noncomputable def Vz (a b:Nat):T->Bool
 |.tup xs=>decide (a<=xs.length)&&decide (xs.length<=b)
 |_=>false
def ZH (t:T)(a b:Nat):mS [t,.int a,.int b]=.ok (.bl (Vz a b t)):=by
 cases t with
 |tup xs=>
  show zx ((if decide _=true then R.ok _ else .ok _).s λt=>.rt t)=_
  have f:decide ((a:Int)<=(xs.length))=decide (a<=xs.length):=by simp
  have d:decide ((xs.length:Int)<=(b))=decide (xs.length<=b):=by simp
  rw[f,d];show _=R.ok (T.bl (decide _&&decide _));cases decide (a<=xs.length)<;>rfl
 |_=>rfl
noncomputable def JH (lo hi:Int):T->T->Bool
 |.int i,.int j=>decide (lo<=i)&&decide (i<=j)&&decide (j<=hi)
 |_,_=>false
def qR (t u:T)(lo hi:Int):sV [t,u,.int lo,.int hi]=.ok (.bl (JH lo hi t u)):=by
 cases t with
 |int i=>
  cases u with
  |int j=>
   show zx ((if decide _=true then (if decide _=true then R.ok _ else .ok _)else .ok _).s λt=>.rt t)=_
   show _=R.ok (T.bl (decide _&&decide _&&decide _));cases decide (lo<=i)<;>cases decide (i<=j)<;>rfl
  |_=>rfl
 |_=>cases u<;>rfl
noncomputable def ZB (c:Nat):Bool:=decide (97<=c)&&decide (c<=122)
def Zp:T->Bool
 |.str x=>decide (1<=x.length)&&decide (x.length<=3)&&x.cps.toList.all ZB
 |_=>false
def xN (a b:Nat):decide ([a]<[b])=decide (a<b):=by
 by_cases h:a<b
 ·rw[decide_eq_true h];exact decide_eq_true (List.Lex.rel h)
 ·rw[decide_eq_false h];refine decide_eq_false λz=>?_;cases z with
  |rel h'=>exact h h'
  |cons h'=>cases h'
def K4 (c:Nat)(ρ:En):mo lQ lQ (cE (.str "a")) (vB 0) (cE (.str "z")) ((Sl.vl (.str ⟨#[c]⟩))::ρ)=.ok (.bl (ZB c)):=by
 have a:lQ (.str "a") (.str ⟨#[c]⟩)=.ok (decide (97<=c)):=by
  show R.ok (!decide ([c]<[97]))=_;rw[xN]
  by_cases h:c<97
  ·rw[decide_eq_true h,decide_eq_false 00];rfl
  ·rw[decide_eq_false h,decide_eq_true 00];rfl
 have d:lQ (.str ⟨#[c]⟩) (.str "z")=.ok (decide (c<=122)):=by
  show R.ok (!decide ([122]<[c]))=_;rw[xN]
  by_cases h:122<c
  ·rw[decide_eq_true h,decide_eq_false 00];rfl
  ·rw[decide_eq_false h,decide_eq_true 00];rfl
 show (lQ (.str "a") (.str _)).bind (λk=>if k=true then (lQ (.str _) (.str "z")).bind λf=>R.ok (T.bl f)else R.ok _)=_
 rw[a,d];unfold ZB;cases decide (97<=c)<;>rfl
def K5:T->Prop
 |.str x=>x.length<=lM
 |_=>True
def qS (t:T)(a:K5 t):oz [t]=.ok (.bl (Zp t)):=by
 cases t with
 |str x=>
  have d:=a;have f:Zv (.str x)=.ok _:=if_pos d;have i:zM (zW 0) Zh (mo lQ lQ (cE (.str "a")) (vB 0) (cE (.str "z"))) 1 [] [.vl (.str x)] (wv x)=.ok (x.cps.toList.map λc=>T.bl (ZB c)):=by
   have j:(wv x).length<=lM:=by unfold wv;rw[ah];exact d
   have:=Z1 (h:=λt=>match t with|.str y=>T.bl (ZB (y.cps.toList.headD 0))|t=>t) (k:=1) (js:=[]) (ρ:=[.vl (.str x)]) _ j λt a=>by
    obtain⟨c,_,rfl⟩:=aO.mp a;exact K4 c []
   rw[this];unfold wv;rw[bv];rfl
  have u:uk (x.cps.toList.map λc=>T.bl (ZB c))=some (x.cps.toList.all ZB):=by
   have:=JT (λt=>match t with|.str y=>ZB (y.cps.toList.headD 0)|_=>true) (wv x)
   unfold wv at this;rw[bv,iK]at this;exact this
  have p:oz [.str x]=zx (match ((((Zv (.str x)).bind λy=>(lQ _ y).bind λk=>if k=true then lQ y _ else .ok _).bind λb=>.ok _).s λk=>if k=true then RS.rt _ else .nx _)with
    |.nx ρ'=>zJ _ ρ'
    |r=>r):=rfl
  rw[p,f];have l:decide ((1:Int)<=(x.length))=decide (1<=x.length):=by
   by_cases h:1<=x.length
   ·rw[decide_eq_true h];exact decide_eq_true 00
   ·rw[decide_eq_false h];exact decide_eq_false 00
  have o:decide ((x.length:Int)<=(3))=decide (x.length<=3):=by
   by_cases h:x.length<=3
   ·rw[decide_eq_true h];exact decide_eq_true 00
   ·rw[decide_eq_false h];exact decide_eq_false 00
  show zx (match ((((if decide _=true then R.ok _ else .ok _)).bind λb=>.ok _).s λk=>if k=true then RS.rt _ else .nx _)with
    |.nx ρ'=>_
    |r=>r)=_
  rw[l,o];show _=R.ok (T.bl (decide _&&decide _&&x.cps.toList.all _));cases decide (1<=x.length)with
  |false=>rfl
  |true=>
   cases decide (x.length<=3)with
   |false=>rfl
   |true=>
    show zx ((((zM _ _ _ 1 [] [.vl _] _).bind λvs=>.ok _).bind xv).s λt=>.rt t)=_;rw[i];show zx ((match uk (x.cps.toList.map λc=>T.bl _)with|some k=>R.ok _|none=>.bad).s λt=>.rt t)=_
    rw[u];rfl
 |_=>rfl
def af {d i:Type}(a:d)(f:d->R i):(R.ok a).bind f=f a:=rfl
def ZI {d:Type}(a:d)(f:d->RS):(R.ok a).s f=f a:=rfl
def wE (r:R T):zx (r.s λt=>.rt t)=r:=by cases r<;>rfl
def Zj (f:En->R T)(ρ:En):zJ f ρ=(f (frz ρ)).s λt=>.rt t:=rfl
def zQ {g:List T->R T}{f:En->R T}{ρ:En}:za 1 g (z9 f zj) ρ=(f ρ).bind λx=>g [x]:=by
 unfold za z9 zj;cases f ρ<;>rfl
def zU {g:List T->R T}{f d:En->R T}{ρ:En}:za 2 g (z9 f (z9 d zj)) ρ=(f ρ).bind λx=>(d ρ).bind λy=>g [x,y]:=by
 unfold za z9 zj;cases f ρ with
 |ok a=>cases d ρ<;>rfl
 |ex c=>rfl
 |bad=>rfl
def Zi {g:List T->R T}{f i d:En->R T}{ρ:En}:za 3 g (z9 f (z9 i (z9 d zj))) ρ=(f ρ).bind λx=>(i ρ).bind λy=>(d ρ).bind λz=>g [x,y,z]:=by
 unfold za z9 zj;cases f ρ with
 |ok a=>
  cases i ρ with
  |ok b=>cases d ρ<;>rfl
  |ex c=>rfl
  |bad=>rfl
 |ex c=>rfl
 |bad=>rfl
def FS {g:List T->R T}{f i d j:En->R T}{ρ:En}:za 4 g (z9 f (z9 i (z9 d (z9 j zj)))) ρ=(f ρ).bind λx=>(i ρ).bind λy=>(d ρ).bind λz=>(j ρ).bind λw=>g [x,y,z,w]:=by
 unfold za z9 zj;cases f ρ with
 |ok a=>
  cases i ρ with
  |ok b=>
   cases d ρ with
   |ok c=>cases j ρ<;>rfl
   |ex c=>rfl
   |bad=>rfl
  |ex c=>rfl
  |bad=>rfl
 |ex c=>rfl
 |bad=>rfl
def tw (r k:R T):R T:=r.bind λx=>match x with
 |.bl true=>k
 |.bl false=>.ok (.bl false)
 |_=>.bad
def J9 (f g:En->R T)(ρ:En):jg f g ρ=tw (f ρ) (g ρ):=rfl
def Zw (a:Bool)(k:R T):tw (.ok (.bl a)) k=if a=true then k else .ok (.bl false):=by cases a<;>rfl
def v0 {t:T}{ρ:En}:vE 0 (.vl t::ρ)=.ok t:=rfl
def v1 {t:T}{a:Sl}{ρ:En}:vE 1 (a::.vl t::ρ)=.ok t:=rfl
def w0 {t:T}{ρ:En}:vB 0 (.vl t::ρ)=.ok t:=rfl
def w1 {t:T}{a:Sl}{ρ:En}:vB 1 (a::.vl t::ρ)=.ok t:=rfl
def Z2 {t:T}{ρ:En}:cE t ρ=.ok t:=rfl
def zv {g:T->T->R T}{f a:En->R T}{ρ:En}:zd g f a ρ=(f ρ).bind λx=>(a ρ).bind λy=>g x y:=rfl
def jm {t:T}{ρ:En}:frz (.vl t::ρ)=.vl t::frz ρ:=rfl
def WG {ρ:En}:frz (.un::ρ)=.un::frz ρ:=rfl
def jV:frz []=[]:=rfl
def qU {g a:T->T->R Bool}{fa d f:En->R T}{ρ:En}:mo g a fa d f ρ=(fa ρ).bind λx=>(d ρ).bind λy=>(g x y).bind λk=>if k=true then (f ρ).bind λz=>(a y z).bind λi=>.ok (.bl i)else .ok (.bl false):=rfl
def Zq {g:T->R T}{f:En->R T}{ρ:En}:lG g f ρ=(f ρ).bind g:=rfl
def WH {i j:Int}:lQ (.int i) (.int j)=.ok (decide (i<=j)):=rfl
def j4 {g:T->T->R Bool}{f a:En->R T}{ρ:En}:jI g f a ρ=(f ρ).bind λx=>(a ρ).bind λy=>(g x y).bind λb=>.ok (.bl b):=rfl
def Ja {xs:List T}:Zv (.tup xs)=.ok (.int xs.length):=rfl
def Dw {xs:List T}:Zv (.lst xs)=.ok (.int xs.length):=rfl
mutual
noncomputable def sOk:T->Prop
 |.str x=>x.length<=lM
 |.tup xs=>UQ xs
 |.lst xs=>UQ xs
 |.fz xs=>UQ xs
 |_=>True
noncomputable def UQ:List T->Prop
 |[]=>True
 |t::ts=>sOk t/\UQ ts
end
theorem Jb:∀{ts:List T} {t:T},UQ ts->t∈ts->sOk t
 |u::ts,t,h,a=>by
  have h':=by simpa only[UQ]using h
  rcases ay.mp a with rfl|a
  ·exact h'.1
  ·exact Jb h'.2 a
theorem sOk.str {t:T}(h:sOk t):K5 t:=by
 cases t with
 |str x=>
  have h':=by simpa only[sOk]using h
  exact h'
 |_=>trivial
def WI {xs:List T}(h:sOk (.tup xs)):UQ xs:=by simpa only[sOk]using h
def Z6:T->Bool
 |.tup [w,.int i]=>Zp w&&decide (1<=i)&&decide (i<=20)
 |_=>false
def qV (t:T)(a:sOk t):rd [t]=.ok (.bl (Z6 t)):=by
 have e:rd [t]=zx (sZ _ _ _ [.vl t]):=rfl;rw[e,sZ];simp only[Zj,wE,jm,jV,J9,Zi,zQ,v0,Z2,af,zv,qU];rw[show mS [t,.int 2,.int 2]=.ok _ from ZH t 2 2,Zw];cases t with
 |tup xs=>
  match xs,a with
  |[],_=>rfl
  |[_],_=>rfl
  |_::_::_::_,_=>simp[Vz,Z6]
  |[w,n],a=>
   have d:sOk w:=Jb (WI a) (by simp)
   show (if true=true then tw (oz [w]) (tw (mO [n]) ((lQ _ n).bind λk=>if k=true then (lQ n _).bind λf=>R.ok _ else .ok _))else _)=_
   rw[qS w d.str,JU,Zw,Zw];cases n with
   |int i=>
    show (if Zp w=true then (if true=true then (if decide _=true then R.ok _ else .ok _)else _)else _)=R.ok (T.bl (Zp w&&decide _&&decide _))
    cases Zp w<;>cases decide (1<=i)<;>rfl
   |_=>
    cases Zp w<;>rfl
 |_=>rfl
def Za (f g:En->RS)(ρ:En):zA f g ρ=match f ρ with|.nx ρ'=>g ρ'|r=>r:=rfl
def ZV (g:En->R Bool)(d a:En->RS)(ρ:En):lK g d a ρ=(g ρ).s λk=>if k=true then d ρ else a ρ:=rfl
def yP (f g:En->R Bool)(ρ:En):ma f g ρ=(f ρ).bind λx=>if x=true then .ok true else g ρ:=rfl
def wF (f:En->R Bool)(ρ:En):JD f ρ=(f ρ).bind λx=>.ok (!x):=rfl
def JI (f:En->R T)(ρ:En):jJ f ρ=(f ρ).bind Bt:=rfl
def uy (k:Bool):Bt (.bl k)=.ok k:=rfl
def JJ (i:Nat)(f:En->R T)(ρ:En):zY i f ρ=(f ρ).s λt=>.nx (ρ.set i (.vl t)):=rfl
def zO {g:T->T->R Bool}{f a:En->R T}{ρ:En}:zI g f a ρ=(f ρ).bind λx=>(a ρ).bind λy=>g x y:=rfl
def Zf {fi:En->R (List T)}{g:T->En->R En}{ft:En->R Bool}{fe:En->R T}{k:Nat}{js:List Nat}{ρ:En}:Z9 fi g ft fe k js ρ=(fi ρ).bind λts=>(zM g ft fe k js ρ ts).bind λvs=>.ok (.lst vs):=rfl
def Jc {f:En->R T}{ρ:En}:j3 f ρ=(f ρ).bind ww:=rfl
noncomputable def ZW:T->Str
 |.tup (.str w::_)=>w
 |_=>⟨#[]⟩
def UR:T->Bool
 |.tup a=>decide (1<=a.length)&&decide (a.length<=4)&&a.all Z6&&decide ((dd [] (a.map ZW)).length=a.length)
 |_=>false
def uz {c:T}(h:Z6 c=true):∃w n,c=.tup [.str w,n]:=by
 unfold Z6 at h;split at h
 ·rename_i w i;cases w with
  |str x=>exact⟨x,_,rfl⟩
  |_=>cases h
 ·cases h
theorem We:∀{a:List T},a.all Z6=true->Y5 (a.map λc=>T.str (ZW c))=some (a.map ZW)
 |[],_=>rfl
 |c::a,h=>by
  rw[d6,ai]at h;have d:=We h.2;show (match Y5 (a.map λc=>T.str _)with|some f=>some _|none=>none)=_
  rw[d];rfl
def yQ (t:T)(o:sOk t):rD [t]=.ok (.bl (UR t)):=by
 have e:rD [t]=zx (sN _ _ [.vl t,.un]):=rfl;rw[e,sN];simp only[Za,ZV,yP,wF,JI,Zi,v0,Z2,af];rw[show mS [t,.int 1,.int 4]=.ok _ from ZH t 1 4];cases t with
 |tup a=>
  have p:Vz 1 4 (.tup a)=(decide _&&decide _):=rfl;rw[p];show _=R.ok (T.bl (decide _&&decide _&&a.all _&&decide _));cases f:(decide (1<=a.length)&&decide (a.length<=4))with
  |false=>rfl
  |true=>
   rw[ai,decide_eq_true_eq,decide_eq_true_eq]at f;have l:a.length<=lM:=aC f.2 03
   have u:zM _ _ (za 1 rd (z9 04 zj)) 1 [] [.vl (.tup a),.un] a=.ok (a.map λc=>T.bl _):=
    Z1 a l λc i=>by
     exact qV c (Jb (WI o) i)
   simp only[fo,a_,if_false,Zq,Zf,Jc,v0,af,ww,u];have B:xv (.lst (a.map λc=>T.bl (Z6 c)))=.ok (.bl (a.all Z6)):=by
    show (match uk (a.map λc=>T.bl _)with|some k=>R.ok _|none=>.bad)=_
    rw[JT]
   rw[B];simp only[af,uy,ZI];cases d:a.all _ with
   |false=>rfl
   |true=>
    have D:zM _ _ 02 1 [] [.vl (.tup a),.un] a=.ok (a.map λc=>T.str (ZW c)):=
     Z1 a l λc i=>by
      obtain⟨w,n,rfl⟩:=uz (aI.mp d c i);rfl
    simp only[fo,a_,if_false,lL,JJ,Zf,Jc,v0,af,ww,D,ZI,Zj];show zx (((V4 (.lst (a.map λc=>T.str _))).bind λx=>(Zv (.lst (a.map λc=>T.str _))).bind λy=>(ko x y).bind λb=>R.ok _).s λt=>.rt t)=_;have v:V4 (.lst (a.map λc=>T.str (ZW c)))=.ok (.int (dd [] (a.map ZW)).length):=by
     show (match Y5 (a.map λc=>T.str _)with|some G=>if (a.map λc=>T.str _).length+1<4096 then R.ok _ else .bad|none=>.bad)=_
     rw[We d];exact if_pos (by rw[ah];lia)
    rw[v,Dw,ah];show R.ok _=_;congr 2
    by_cases j:(dd [] (a.map ZW)).length=a.length
    ·rw[j];simp
    ·rw[decide_eq_false j];simp only[io,beq_eq_false_iff_ne];lia
 |_=>rfl
noncomputable def isS (w:Str):T->Bool
 |.str s=>s==w
 |_=>false
def DZ (h:T)(w:Str):ko h (.str w)=.ok (isS w h):=by cases h<;>rfl
def mQ (i j:Int):ko (.int i) (.int j)=.ok (i==j):=rfl
def nY {h:T}{r:List T}:i3 (.tup (h::r)) (.int 0)=.ok h:=by
 show l0 _ 0=_;unfold l0;rw[show mv _ 0=some h from ZZ rfl]
def rS {h a:T}{r:List T}:i3 (.tup (h::a::r)) (.int 1)=.ok a:=by
 show l0 _ 1=_;unfold l0;rw[show mv _ 1=some a from ZZ rfl]
def Bm {h a b:T}{r:List T}:i3 (.tup (h::a::b::r)) (.int 2)=.ok b:=by
 show l0 _ 2=_;unfold l0;rw[show mv _ 2=some b from ZZ rfl]
def Dz {h a b c:T}{r:List T}:i3 (.tup (h::a::b::c::r)) (.int 3)=.ok c:=by
 show l0 _ 3=_;unfold l0;rw[show mv _ 3=some c from ZZ rfl]
noncomputable def wG (k:T->Bool):T->Bool
 |.tup a=>decide (1<=a.length)&&decide (a.length<=3)&&a.all k
 |_=>false
def uA:List T->Bool
 |[a,b]=>JH (-20) 20 a b
 |_=>false
def qW:List T->Bool
 |[c]=>UR c
 |_=>false
def sf (k:T->Bool):List T->Bool
 |[c]=>wG k c
 |_=>false
def qY (k:T->Bool):List T->Bool
 |[c,a,b]=>JH 0 3 a b&&k c
 |_=>false
def yR (k:T->Bool):T->Bool
 |.tup (h::r)=>if isS "whole" h=true then uA r else if isS "pick" h=true then qW r else if isS "row" h=true then sf k r else if isS "many" h=true then qY k r else false
 |_=>false
def mq:Nat->T->Bool
 |0,_=>false
 |d+1,t=>yR (mq d) t
def qZ {a:Type}(xs:List a)(n:Nat):((xs.length:Int)==(n:Int))=decide (xs.length=n):=by
 by_cases h:xs.length=n
 ·rw[h];simp
 ·rw[decide_eq_false h,beq_eq_false_iff_ne];lia
def xO {f:En->R T}{ρ:En}:vP f ρ=(f ρ).bind λx=>match x with|.int i=>.ok (.int (-i))|_=>.bad:=rfl
def Zg {i j:Int}:jb (.int i) (.int j)=.ok (.int (i-j)):=rfl
set_option maxHeartbeats 1000000 in
def K6 {n:Nat}{d:Nat}{k:T->Bool}(D:∀t,sOk t->mE n 0 [t,.int d]=.ok (.bl (k t)))(o:∀t,sOk t->mE n 1 [t,.int d]=.ok (.bl (wG k t)))(t:T)(B:sOk t):
  mE (n+1) 0 [t,.int ((d+1:Nat):Int)]=.ok (.bl (yR k t)):=by
 have e:mE (n+1) 0 [t,.int ((d+1:Nat))]=zx (t6 sV _ rD _ [.vl t,.vl (.int _)]):=rfl;have x:(((d+1:Nat):Int)==0)=false:=by rw[beq_eq_false_iff_ne];lia
 have i:((d+1:Nat))-1=(d:Int):=by lia
 rw[e,t6];simp only[Za,ZV,yP,wF,JI,zO,w0,w1,Z2,af,mQ,x,a_,if_false,Zq];cases t with
 |tup xs=>
  cases xs with
  |nil=>rfl
  |cons h r=>
   have p:=WI B;have f:∀u∈r,sOk u:=λu v=>Jb p (ae _ v);have y:(((h::r).length:Int)==0)=false:=by rw[beq_eq_false_iff_ne];simp only[ax];lia
   have G:Y4 "tuple" (.tup (h::r))=.ok (.bl true):=rfl;simp only[G,af,uy,fo,a_,if_false,Ja,mQ,y,ZI,lL,zv,v0,v1,Z2,nY,DZ,Zj,jm,jV,J9,j4,Zq,w0,FS,zQ,zU,xO,Zg,i];show _=R.ok (T.bl (if isS "whole" h=true then uA r else if isS "pick" h=true then qW r else if isS "row" h=true then sf k r else if isS "many" h=true then qY k r else false))
   have l3:(((h::r).length:Int)==3)=decide _:=qZ (h::r) 3;have l:(((h::r).length:Int)==2)=decide _:=qZ (h::r) 2;have j:(((h::r).length:Int)==4)=decide _:=qZ _ 4;simp only[l,l3,j,Zw];cases isS _ h with
   |true=>
    match r,f with
    |[],_=>rfl
    |[_],_=>rfl
    |_::_::_::_,_=>simp[uA,ZI,zx]
    |[a,b],_=>
     simp only[rS,Bm,af,qR];rfl
   |false=>
    simp only[a_,if_false,v0,v1,w0,af,nY,ZI,jm,jV,Ja,mQ,l,j,Zw,Zg,i];cases isS _ h with
    |true=>
     match r,f with
     |[],_=>rfl
     |_::_::_,_=>simp[qW,ZI,zx]
     |[c],f=>
      simp only[rS,af,yQ c (f c (by simp))]
      rfl
    |false=>
     simp only[a_,if_false,v0,v1,w0,af,nY,ZI,jm,jV,Ja,mQ,l,j,Zw,Zg,i];cases isS _ h with
     |true=>
      match r,f with
      |[],_=>rfl
      |_::_::_,_=>simp[sf,ZI,zx]
      |[c],f=>
       simp only[rS,af,o c (f c (by simp))]
       rfl
     |false=>
      simp only[a_,if_false,v0,v1,w0,af,nY,ZI,jm,jV,Ja,mQ,l,j,Zw,Zg,i];cases isS _ h with
      |true=>
       match r,f with
       |[],_=>rfl
       |[_],_=>rfl
       |[_,_],_=>rfl
       |_::_::_::_::_,_=>simp[qY,ZI,zx]
       |[c,a,b],f=>
        simp only[rS,Bm,Dz,af,qR,D c (f c (by simp)),Zw]
        show zx (match (if JH 0 3 a b=true then R.ok _ else .ok _).s (λt=>RS.rt t)with|.nx _=>RS.rt _|r=>r)=R.ok (T.bl (JH 0 3 a b&&k c))
        cases JH 0 3 a b<;>rfl
      |false=>rfl
 |_=>rfl
def EC {n:Nat}{d:Nat}{k:T->Bool}(i:∀t,sOk t->mE n 0 [t,.int d]=.ok (.bl (k t)))(t:T)(l:sOk t):mE (n+1) 1 [t,.int d]=.ok (.bl (wG k t)):=by
 have e:mE (n+1) 1 [t,.int d]=zx (sS mS (mE n 0) [.vl t,.vl (.int d)]):=rfl;rw[e,sS];simp only[Zj,wE,jm,jV,J9,Zi,v0,Z2,af];rw[show mS [t,.int 1,.int 3]=.ok (.bl (Vz 1 3 t)) from ZH t 1 3,Zw];cases t with
 |tup a=>
  show (if (decide (1<=a.length)&&decide (a.length<=3))=true then _ else _)=R.ok (T.bl (decide (1<=a.length)&&decide (a.length<=3)&&a.all k))
  cases f:(decide (1<=a.length)&&decide (a.length<=3))with
  |false=>rfl
  |true=>
   rw[ai,decide_eq_true_eq,decide_eq_true_eq]at f;have o:a.length<=lM:=aC f.2 03
   have j:zM (zW 0) Zh (za 2 (mE n 0) (z9 04 (z9 (vE 1) zj))) 1 [1] [.vl (.tup a),.vl (.int d)] a=.ok (a.map λc=>T.bl (k c)):=
    Z1 (h:=λc=>T.bl (k c)) a o λc p=>by
     show za 2 (mE n 0) (z9 04 (z9 (vE 1) zj)) [.vl c,.vl (.int d)]=_;rw[zU,v0,v1,af,af];exact i c (Jb (WI l) p)
   simp only[if_true,Zq,Zf,Jc,v0,af,ww,j];show (match uk (a.map λc=>T.bl (k c))with|some k=>R.ok (T.bl k)|none=>.bad)=_
   rw[JT];rfl
 |_=>rfl
theorem Ud:∀(d n:Nat),2*d+1<=n->∀t,sOk t->mE n 0 [t,.int d]=.ok (.bl (mq d t))
 |0,n+1,_,t,_=>rfl
 |d+1,n+2,h,t,i=>K6 (n:=n+1) (λu a=>Ud d (n+1) 00 u a) (λu a=>EC (λv f=>Ud d n 00 v f) u a) t i
def yS (t:T)(a:sOk t):pM [t]=.ok (.bl (mq 3 t)):=by
 have e:pM [t]=zx (tU (CF 20) [.vl t]):=rfl;rw[e,tU];simp only[Zj,wE,jm,jV,zU,v0,Z2,af];exact Ud 3 20 00 t a
noncomputable def n9 (lo hi:Int):T->Bool
 |.int i=>decide (lo<=i)&&decide (i<=hi)
 |_=>false
theorem uB:∀(a acc:List Str),(dd acc a).length<=acc.length+a.length
 |[],acc=>ar _
 |w::a,acc=>by
  unfold dd;have:=uB a (if w∈acc then acc else acc++[w])
  by_cases h:w∈acc
  ·rw[if_pos h]at this⊢;simp only[ax];lia
  ·rw[if_neg h]at this⊢;rw[aB,aX]at this;simp only[ax];lia
theorem WJ:∀(a acc:List Str),((dd acc a).length=acc.length+a.length)↔∀(k:Nat) (w:Str),a[k]?=some w->w∉acc++a.take k
 |[],acc=>by simp[dd]
 |w::a,acc=>by
  unfold dd
  by_cases h:w∈acc
  ·rw[if_pos h];have:=uB a acc;constructor
   ·intro e;simp only[ax]at e;lia
   ·intro H;exact absurd (cg _ h) (H 0 w rfl)
  ·rw[if_neg h];have d:=WJ a (acc++[w]);rw[aB,aX]at d;rw[show acc.length+(w::a).length=acc.length+1+a.length by simp only[ax];lia,d]
   constructor
   ·intro H k v e;cases k with
    |zero=>simp at e;subst e;simpa using h
    |succ k=>
     have:=H k v (by simpa using e)
     simpa[bj]using this
   ·intro H k v e;have:=H (k+1) v (by simpa using e)
    simpa[bj]using this
def A7 (i j:Int):mH (.int i) (.int j)=.ok (decide (i<j)):=rfl
def v2 {t:T}{a b:Sl}{ρ:En}:vE 2 (a::b::.vl t::ρ)=.ok t:=rfl
def v3 {t:T}{a b c:Sl}{ρ:En}:vE 3 (a::b::c::.vl t::ρ)=.ok t:=rfl
def w2 {t:T}{a b:Sl}{ρ:En}:vB 2 (a::b::.vl t::ρ)=.ok t:=rfl
def w3 {t:T}{a b c:Sl}{ρ:En}:vB 3 (a::b::c::.vl t::ρ)=.ok t:=rfl
def w5 {t:T}{a b c d e:Sl}{ρ:En}:vB 5 (a::b::c::d::e::.vl t::ρ)=.ok t:=rfl
def v4 {t:T}{a b c d:Sl}{ρ:En}:vE 4 (a::b::c::d::.vl t::ρ)=.ok t:=rfl
def K7 (f g:En->R Bool)(ρ:En):G9 f g ρ=(f ρ).bind λx=>if x=true then g ρ else .ok false:=rfl
theorem US (w:Str):∀a:List Str,wS (λy=>lI 30 y (.str w)) (a.map T.str)=some (decide (w∈a))
 |[]=>rfl
 |x::a=>by
  have d:=US w a;show (match wS (λy=>lI 30 y (.str w)) (a.map T.str)with|none=>none|some c=>some ((x==w)||c))=_
  rw[d];show some ((x==w)||decide (w∈a))=_
  congr 1
  by_cases h:x=w
  ·subst h;simp
  ·have h':¬w=x:=λz=>h z.symm;simp[h,h']
def xP {xs:List T}{k:Nat}{t:T}(h:xs[k]?=some t):i3 (.lst xs) (.int k)=.ok t:=by
 show l0 xs k=_;unfold l0;rw[ZZ h]
def EK {i j:Nat}{f d:En->R T}{ρ:En}:GB i j (z9 f (z9 d zj)) ρ=(f ρ).s λx=>(d ρ).s λy=>.nx ((ρ.set i (.vl x)).set j (.vl y)):=by
 unfold GB z9 zj;cases f ρ with
 |ok a=>cases d ρ<;>rfl
 |ex c=>rfl
 |bad=>rfl
def VA {f:En->R T}{l h:En->R (Option Int)}{ρ:En}:mD f l h ρ=(f ρ).bind λt=>(l ρ).bind λlo=>(h ρ).bind λhi=>oV t lo hi:=rfl
def sQ {ρ:En}:mI ρ=.ok none:=rfl
def Dt (i j:Int):ml (.int i) (.int j)=.ok (decide (i>j)):=rfl
def Z3 (i j:Int):zE (.int i) (.int j)=.ok (.int (i+j)):=rfl
def Ht (p:Int)(a:0<=p)(d:p<26):i3 (.str "abcdefghijklmnopqrstuvwxyz") (.int p)=.ok (.str ⟨#[97+p.toNat]⟩):=by
 obtain⟨n,rfl⟩:=cN a;have h:n<26:=by lia
 iterate 26 (refine(Nat.lt_or_eq_of_le (Nat.le_of_lt_succ h)).elim (λh=>?_) (λe=>e▸rfl))
 exact absurd h (lu _)
abbrev pb:En->R T:=zd i3 (vE 3) (za 3 me (z9 (vE 1) (z9 (zd zE (zd zE (vE 2) 08) 04) (z9 (cE (.int 26)) (zj)))))
def Fp (ns:List Int)(k:Int)(f:0<=k)(j:Nat):∃c:Nat,(97<=c/\c<=122)/\pb [.vl (.int (j:Int)),.vl (lN ns),.vl (.int k),.vl (.str "abcdefghijklmnopqrstuvwxyz")]=.ok (.str ⟨#[c]⟩):=by
 obtain⟨p,e,a,d⟩:=zV ns (k+2+j) 26 00 00
 refine⟨97+p.toNat,⟨by lia,by lia⟩,?_⟩
 simp only[pb,zv,v3,af,Zi,v1,v2,v0,Z2,Z3,e];exact Ht p a d
def yT (ns:List Int)(k:Int)(u:0<=k):∃w:Str,KQ [lN ns,.int k]=.ok (.str w)/\Zp (.str w)=true:=by
 have e:KQ [lN ns,.int k]=zx (t7 _ [.vl _,.vl _,.un]):=rfl;obtain⟨p,x,I,J⟩:=zV ns k 6 u 00
 have f:∀t,([Sl.vl (lN ns),Sl.vl (.int k),.un]).set 2 _=[Sl.vl _,Sl.vl _,.vl t]:=λ_=>rfl;rw[e,t7];simp only[Za,ZV,JJ,Z2,ZI,f,zO,Zi,v0,v1,af,x,Dt];cases hp:decide (p>0)with
 |true=>
  obtain⟨q,l,B,G⟩:=zV ns (k+1) 4 00 00
  simp only[if_true,Zj,jm,jV,zv,Zi,v0,v1,Z2,af,Z3,l];have i:q=0\/q=1\/q=2\/q=3:=by lia
  rcases i with rfl|rfl|rfl|rfl
  ·exact⟨"a",rfl,by decide⟩
  ·exact⟨"b",rfl,by decide⟩
  ·exact⟨"ab",rfl,by decide⟩
  ·exact⟨"cab",rfl,by decide⟩
 |false=>
  obtain⟨q,l,B,G⟩:=zV ns (k+1) 3 00 00
  simp only[a_,if_false,lL,Zj,wE,jm,jV,Zq,Zf];obtain⟨g,o⟩:=j_.mp (Fp ns k u);have v:Zl (zd zE 01 (za 3 me (z9 04 (z9 (zd zE (vE 1) 01) (z9 (cE (.int 3)) (zj)))))) [Sl.vl (lN ns),Sl.vl (.int k),.vl (.str "abcdefghijklmnopqrstuvwxyz")]=.ok (rng 0 (1+q).toNat):=by
   unfold Zl;simp only[zv,Zi,v0,v1,Z2,af,Z3,l];rw[if_pos ⟨by lia,by lia⟩]
  have y:∀n,n<=3->zM _ _ _ 1 [0,1,2] [Sl.vl _,Sl.vl _,.vl _] _=.ok ((rng 0 n).map λt=>match t with|.int j=>.str ⟨#[g j.toNat]⟩|t=>t):=λn hn=>
   Z1 _ (by unfold rng;rw[ah,bO];exact aC hn 03) λt D=>by
    obtain⟨j,_,rfl⟩:=aO.mp D;rw[eK];exact(o j).2
  rw[v,af,y _ 00,af]
  have d:∀j,ZB _=true:=λj=>by
   obtain⟨a,b⟩:=(o j).1;unfold ZB;rw[decide_eq_true a,decide_eq_true b];rfl
  have i:q=0\/q=1\/q=2:=by lia
  rcases i with rfl|rfl|rfl
  ·refine⟨⟨#[g 0]⟩,rfl,?_⟩;show (ZB _&&true)=true;rw[d 0];rfl
  ·refine⟨⟨#[g 0,g 1]⟩,rfl,?_⟩;show (ZB _&&(ZB _&&true))=true;rw[d 0,d 1];rfl
  ·refine⟨⟨#[g 0,g 1,g 2]⟩,rfl,?_⟩;show (ZB _&&(ZB _&&(ZB _&&true)))=true;rw[d 0,d 1,d 2];rfl
def Hz (j:Int):Z7 (.int 5) (.int j)=.ok (.int (5*j)):=by
 show (if uV 5 j then R.ok _ else .bad)=_
 rw[if_pos (.inl ⟨by decide,by decide⟩)]
def VB {f g:En->R T}{ρ:En}{x y:T}(d:f ρ=.ok x)(a:g ρ=.ok y):Zr (z9 f (z9 g zj)) ρ=.ok (.tup [x,y]):=by
 unfold Zr z9 zj;rw[d,a];rfl
def pG {f g h:En->R T}{ρ:En}{x y z:T}(i:f ρ=.ok x)(a:g ρ=.ok y)(d:h ρ=.ok z):Zr (z9 f (z9 g (z9 h zj))) ρ=.ok (.tup [x,y,z]):=by
 unfold Zr z9 zj;rw[i,a,d];rfl
def BU {f g h i:En->R T}{ρ:En}{x y z w:T}(j:f ρ=.ok x)(a:g ρ=.ok y)(d:h ρ=.ok z)(hi:i ρ=.ok w):Zr (z9 f (z9 g (z9 h (z9 i zj)))) ρ=.ok (.tup [x,y,z,w]):=by
 unfold Zr z9 zj;rw[j,a,d,hi];rfl
noncomputable def Dst (a:List Str):Prop:=∀(k:Nat) (w:Str),a[k]?=some w->w∉a.take k
def Dst.add {d:List Str}(h:Dst d){w:Str}(j:w∉d):Dst (d++[w]):=λk x a=>by
 by_cases i:k<d.length
 ·rw[aG i]at a;rw[List.take_append_of_le_length 00]
  exact h k x a
 ·rw[aE 00]at a
  have f:k=d.length:=by
   rcases iO (k-d.length) 1 with z|z
   ·lia
   ·rw[aU (by simpa using z)]at a;cases a
  subst f;rw[f_]at a;cases a;rw[List.take_left']
  ·exact j
  ·rfl
abbrev uC:En->RS:=zA (zY 5 (za 2 KQ (z9 04 (z9 (zd zE (zd zE (vE 1) (cE (.int 5))) (zd Z7 (cE (.int 5)) (vE 4))) (zj)))))
  (lK (zI vQ (vB 5) (vB 3)) (UA 3 (vE 5)) (lL))
theorem wH (ns:List Int)(k:Int)(X:0<=k):∀(js:List Nat) (d:List Str) (v o:Sl),js.length+d.length<=4->Dst d->(∀w∈d,Zp (.str w)=true)->
  ∃f p B,ZK (zW 4) uC (js.map λ(j:Nat)=>T.int (0+(j:Int))) [.vl (lN ns),.vl (.int k),.un,.ow (d.map T.str),v,o]=.nx [.vl (lN ns),.vl (.int k),.un,.ow (f.map T.str),p,B]/\f.length<=4/\Dst f/\(∀w∈f,Zp (.str w)=true)/\(0<js.length+d.length->0<f.length)
 |[],d,v,o,S,hd,D=>⟨d,v,o,rfl,by simpa using S,hd,D,λh=>by simpa using h⟩
 |j::js,d,v,o,S,hd,D=>by
  obtain⟨w,ew,U⟩:=yT ns (k+5+5*(0+(j:Int))) 00
  have hl':js.length+d.length+1<=4:=by simpa[ax,Nat.add_right_comm]using S
  have e:ZK (zW 4) uC ((j::js).map λ(j:Nat)=>T.int (0+(j:Int))) [.vl (lN ns),.vl (.int k),.un,.ow (d.map T.str),v,o]=match uC [.vl (lN ns),.vl (.int k),.un,.ow (d.map T.str),.vl (.int (0+(j:Int))),o]with
   |.nx i=>ZK (zW 4) uC (js.map λ(j:Nat)=>T.int (0+(j:Int))) i
   |.ct i=>ZK (zW 4) uC (js.map λ(j:Nat)=>T.int (0+(j:Int))) i
   |.bk i=>.nx i
   |r=>r:=rfl
  have Z:uC [.vl (lN ns),.vl (.int k),.un,.ow (d.map T.str),.vl (.int (0+(j:Int))),o]=.nx [.vl (lN ns),.vl (.int k),.un,.ow ((if w∈d then d else d++[w]).map T.str),.vl (.int (0+(j:Int))),.vl (.str w)]:=by
   have I:∀(a b c:Sl) (ts:List T) (ρ:En),vB 3 (a::b::c::.ow ts::ρ)=.ok _:=λ_ _ _ _ _=>rfl;have u:∀t,([.vl _,.vl (.int k),.un,.ow (d.map T.str),.vl (.int (0+(j:Int))),o]:En).set 5 (.vl t)=[.vl (lN ns),.vl (.int k),.un,.ow (d.map T.str),.vl _,.vl t]:=λ_=>rfl;have en:vQ (.str w) (.lst (d.map T.str))=.ok (!decide (w∈d)):=by
    show ((match wS (λy=>lI 30 y (.str w)) (d.map _)with|some b=>R.ok b|none=>.bad)).bind (λb=>R.ok _)=_
    rw[US];rfl
   simp only[uC,Za,JJ,zU,v0,v1,v4,zv,Z2,af,Z3,Hz,ew,ZI,u,ZV,zO,w5,I,en]
   by_cases l:w∈d
   ·rw[decide_eq_true l,if_pos l];rfl
   ·rw[decide_eq_false l,if_neg l];have hb:(d.map T.str).length<lM:=by rw[ah];exact cb (show d.length<=4 by lia) 03
    show (if (d.map _).length<lM then RS.nx _ else .bad)=_
    rw[if_pos hb,c9];rfl
  rw[e,Z]
  by_cases l:w∈d
  ·rw[if_pos l];obtain⟨f,p,B,G,N,J,P,Q⟩:=wH ns k X js d _ _ 00 hd D
   exact⟨f,p,B,G,N,J,P,λ_=>Q (by have:=List.length_pos_of_mem l;lia)⟩
  ·rw[if_neg l];obtain⟨f,p,B,G,N,J,P,Q⟩:=wH ns k X js _ _ _ (by simp only[aB,ax,cq];lia) (hd.add l) (λx hx=>by
    rcases bh.mp hx with z|z
    ·exact D x z
    ·rw[aQ.mp z];exact U)
   exact⟨f,p,B,G,N,J,P,λ_=>Q (by simp only[aB,ax,cq];lia)⟩
abbrev si:En->R T:=Zr (z9 (vE 1) (z9 (zd zE 01 (za 3 me (z9 (vE 2) (z9 (zd zE (zd zE (vE 3) (cE (.int 30))) 04) (z9 (cE (.int 20)) (zj)))))) (zj)))
theorem UT (ns:List Int)(k:Int)(J:0<=k):∀(a:List Str) (i:Nat) (j f:Sl),(∀w∈a,Zp (.str w)=true)->∃d:List T,zR (Zb 0 1) Zh si (((a.map T.str).zipIdx i).map λp=>T.tup [.int (p.2:Nat),p.1]) [j,f,.vl (lN ns),.vl (.int k)]=.ok d/\d.all Z6=true/\d.map ZW=a
 |[],i,j,f,_=>⟨[],rfl,rfl,rfl⟩
 |w::a,i,j,f,l=>by
  obtain⟨p,e,N,P⟩:=zV ns (k+30+i) 20 00 00
  obtain⟨d,o,B,D⟩:=UT ns k J a _ _ _ λx I=>l x (ae _ I);have y:si [.vl (.int (i)),.vl (.str w),.vl (lN ns),.vl (.int k)]=.ok (.tup [.str w,.int (1+p)]):=by
   have G:za 3 me (z9 (vE 2) (z9 (zd zE (zd zE (vE 3) (cE (.int 30))) 04) (z9 (cE (.int 20)) (zj)))) [.vl (.int (i)),.vl (.str w),.vl (lN ns),.vl (.int k)]=.ok (.int p):=by
    simp only[Zi,v2,v3,v0,zv,Z2,af,Z3,e]
   have u:zd zE 01 (za 3 me (z9 (vE 2) (z9 (zd zE (zd zE (vE 3) (cE (.int 30))) 04) (z9 (cE (.int 20)) (zj))))) [.vl (.int (i)),.vl (.str w),.vl (lN ns),.vl (.int k)]=.ok (.int (1+p)):=by
    rw[zv,G];rfl
   exact VB v1 u
  refine⟨.tup [.str w,.int (1+p)]::d,?_,?_,?_⟩
  ·show ((si [.vl _,.vl _,.vl _,.vl _]).bind λv=>(zR _ _ _ (((a.map _).zipIdx _).map λp=>T.tup _) [.vl _,.vl _,.vl _,.vl _]).bind λvs=>R.ok _)=_;rw[y,o];rfl
  ·rw[d6,B,Bool.and_true];show (Zp _&&decide _&&decide _)=true;rw[l w aq,decide_eq_true 00,decide_eq_true 00];rfl
  ·rw[aK,D];rfl
def xQ (i j:Int):yI (.int i) (.int j)=.ok (.int (if j<i then j else i)):=rfl
def K8 (ns:List Int)(k:Int)(J:0<=k):∃t,pk [lN ns,.int k]=.ok t/\∀d,mq (d+1) t=true:=by
 have e:pk [lN ns,.int k]=zx (sj me KQ [.vl (lN ns),.vl (.int k),.un,.un,.un,.un]):=rfl;obtain⟨p,Z,p0,p1⟩:=zV ns k 3 J 00
 rw[e,sj,Za];simp only[ZV,zO,Zi,v0,v1,Z2,af,Z,Dt,ZI];cases hp:decide (p>0)with
 |true=>
  obtain⟨q,y,X,q1⟩:=zV ns (k+1) 7 00 00
  obtain⟨q3,e3,_,_⟩:=zV ns (k+3) 8 00 00
  obtain⟨N,D,a4,b4⟩:=zV ns (k+4) 3 00 00
  obtain⟨Q,e2,a2,b2⟩:=zV ns (k+2) 4 00 00
  have f:∀t x,([.vl (lN ns),.vl (.int k),x,.un,.un,.un]:En).set 2 (.vl t)=[.vl (lN ns),.vl (.int k),.vl t,.un,.un,.un]:=λ_ _=>rfl;have j:∀a:Int, -20<=a->a<=20->∃t,zx (zJ (Zr (z9 (cE (.str "whole")) (z9 (vE 2) (z9 (zd yI (cE (.int 20)) (zd zE (vE 2) (za 3 me (z9 04 (z9 (zd zE (vE 1) 08) (z9 (cE (.int 4)) (zj))))))) (zj))))) [.vl (lN ns),.vl (.int k),.vl (.int a),.un,.un,.un])=.ok t/\∀d,mq (d+1) t=true:=by
   intro a v hl2;refine⟨.tup [.str "whole",.int a,.int (if a+Q<20 then a+Q else 20)],?_,λd=>?_⟩
   ·rw[Zj,wE];refine pG rfl rfl ?_;simp only[jm,WG,jV,zv,v2,v0,v1,Zi,Z2,af,Z3,e2,xQ]
   ·show (decide (-20<=a)&&decide (a<=_)&&decide (_<=(20:Int)))=true;rw[decide_eq_true v,decide_eq_true (by split<;>lia),decide_eq_true (by split<;>lia)];rfl
  simp only[if_true,Za,JJ,ZV,zv,Zi,v0,v1,Z2,af,Z3,y,Zg,ZI,f,zO,e3,mQ];cases hq:(q3==0)with
  |true=>
   have h3:N=0\/N=1\/N=2:=by lia
   rcases h3 with rfl|rfl|rfl
   ·obtain⟨t,r,s⟩:=j (-20) 00 00
    refine⟨t,?_,s⟩;rw[←r];simp only[if_true,D,af];have o:∀ρ,(Zs (z9 (vP (cE (.int 20))) (z9 (cE (.int 17)) (z9 (cE (.int 20)) (zj)))) ρ)=.ok (.lst [.int (-20),.int 17,.int 20]):=λ_=>rfl;simp only[o,af];have u:i3 (.lst [.int (-20),.int 17,.int 20]) (.int 0)=.ok (.int (-20)):=rfl;simp only[u,ZI,f,Zj];generalize Zr _ _=z;cases z<;>rfl
   ·obtain⟨t,r,s⟩:=j (17) 00 00
    refine⟨t,?_,s⟩;rw[←r];simp only[if_true,D,af];have o:∀ρ,(Zs (z9 (vP (cE (.int 20))) (z9 (cE (.int 17)) (z9 (cE (.int 20)) (zj)))) ρ)=.ok (.lst [.int (-20),.int 17,.int 20]):=λ_=>rfl;simp only[o,af];have u:i3 (.lst [.int (-20),.int 17,.int 20]) (.int 1)=.ok (.int (17)):=rfl;simp only[u,ZI,f,Zj];generalize Zr _ _=z;cases z<;>rfl
   ·obtain⟨t,r,s⟩:=j (20) 00 00
    refine⟨t,?_,s⟩;rw[←r];simp only[if_true,D,af];have o:∀ρ,(Zs (z9 (vP (cE (.int 20))) (z9 (cE (.int 17)) (z9 (cE (.int 20)) (zj)))) ρ)=.ok (.lst [.int (-20),.int 17,.int 20]):=λ_=>rfl;simp only[o,af];have u:i3 (.lst [.int (-20),.int 17,.int 20]) (.int 2)=.ok (.int (20)):=rfl;simp only[u,ZI,f,Zj];generalize Zr _ _=z;cases z<;>rfl
  |false=>
   obtain⟨t,r,s⟩:=j (q-3) 00 00
   refine⟨t,?_,s⟩;rw[←r];simp only[a_,if_false,lL,Zj];generalize Zr _ _=z;cases z<;>rfl
 |false=>
  obtain⟨q,y,X,q1⟩:=zV ns (k+1) 4 00 00
  simp only[a_,if_false,lL,Za];have ei:Zl (zd zE 01 (za 3 me (z9 04 (z9 (zd zE (vE 1) 01) (z9 (cE (.int 4)) (zj)))))) [.vl (lN ns),.vl (.int k),.un,.ow [],.un,.un]=.ok (rng 0 (1+q).toNat):=by
   unfold Zl;simp only[zv,Zi,v0,v1,Z2,af,Z3,y];rw[if_pos ⟨by lia,by lia⟩]
  have el:WW 3 zj [.vl (lN ns),.vl (.int k),.un,.un,.un,.un]=.nx [.vl (lN ns),.vl (.int k),.un,.ow [],.un,.un]:=rfl;rw[el];have hn:(aZ (1+q).toNat).length=(1+q).toNat:=bO;obtain⟨l,I,G,r1,r2,r3,r4,r5⟩:=wH ns k J (aZ (1+q).toNat) [] .un .un (by rw[hn,cq];lia) (λk w h=>by cases h) (λw h=>by cases h)
  have P:0<l.length:=r5 (by rw[hn,cq];lia)
  have ef:jM (Zl (zd zE 01 (za 3 me (z9 04 (z9 (zd zE (vE 1) 01) (z9 (cE (.int 4)) (zj))))))) (zW 4) uC [.vl (lN ns),.vl (.int k),.un,.ow [],.un,.un]=.nx [.vl (lN ns),.vl (.int k),.un,.ow (l.map T.str),I,G]:=by
   unfold jM;rw[ei,ZI];exact r1
  obtain⟨i,s1,s2,S⟩:=UT ns k J l 0 .un .un r4;have B:i.length=l.length:=by rw[←S,ah]
  refine⟨.tup [.str "pick",.tup i],?_,λd=>?_⟩
  ·dsimp only;rw[ef];dsimp only;rw[Zj,wE];refine VB rfl ?_;rw[Zq,Zf];have U:XX (vE 3) (frz [.vl (lN ns),.vl (.int k),.un,.ow (l.map T.str),I,G])=.ok (jK (l.map T.str)):=rfl;rw[U,af];unfold zM;rw[if_pos (by unfold jK;rw[ah,iA,ah];exact aC r2 03)]
   have ec:zR (Zb 0 1) Zh si (jK (l.map T.str)) (wY 2 [0,1] (frz [.vl (lN ns),.vl (.int k),.un,.ow (l.map T.str),I,G]))=.ok i:=s1;rw[ec];rfl
  ·show (decide (1<=i.length)&&decide (i.length<=4)&&i.all Z6&&decide ((dd [] (i.map ZW)).length=i.length))=true;have hd:(dd [] (i.map ZW)).length=i.length:=by
    rw[S,B];have:=(WJ l []).mpr (λk w h=>by simpa using r3 k w h)
    simpa using this
   rw[decide_eq_true 00,decide_eq_true 00,s2,decide_eq_true hd];rfl
def Q0 (c:Int)(j:Int)(a:uV c j):Z7 (.int c) (.int j)=.ok (.int (c*j)):=by
 show (if uV c j then R.ok _ else .bad)=_
 rw[if_pos a]
def Dq (j:Int):Z7 (.int 3) (.int j)=.ok (.int (3*j)):=Q0 _ _ (.inl ⟨by decide,by decide⟩)
def FA (j:Int):Z7 (.int 50) (.int j)=.ok (.int (50*j)):=Q0 _ _ (.inl ⟨by decide,by decide⟩)
abbrev tK (c:List T->R T):En->R T:=za 3 c (z9 (vE 1) (z9 (zd zE (zd zE (zd Z7 (cE (.int 3)) (vE 2)) (cE (.int 40))) (zd Z7 (cE (.int 50)) 04)) (z9 (zd jb (vE 3) 01) (zj))))
theorem Ue (ns:List Int):∀(d n:Nat),d<=n->1<=d->∀k:Int,0<=k->∃t,nK n 0 [lN ns,.int k,.int (d:Int)]=.ok t/\mq d t=true
 |d+1,n+1,hn,_,k,h0=>by
  have e:nK (n+1) 0 [lN ns,.int k,.int ((d+1:Nat))]=zx (Ac me pk (nK n 0) [.vl (lN ns),.vl (.int k),.vl _,.un,.un,.un]):=rfl;obtain⟨p,e0,p0,p1⟩:=zV ns k 5 h0 00
  obtain⟨l,el,hl⟩:=K8 ns (k+1) 00
  have x:([.vl (lN ns),.vl (.int k),.vl (.int ((d+1:Nat))),.un,.un,.un]:En).set 3 (.vl (.int p))=[.vl (lN ns),.vl (.int k),.vl _,.vl (.int p),.un,.un]:=rfl;rw[e,Ac];simp only[Za,JJ,ZV,yP,zO,Zi,zU,v0,v1,v2,Z2,af,e0,ZI,x,w2,w3,mQ,A7,Z3,Zj,jm,WG,jV,zv,el];have G:((((d+1:Nat):Int)==1))=decide (d=0):=by
   by_cases h:d=0
   ·subst h;rfl
   ·rw[decide_eq_false h,beq_eq_false_iff_ne];lia
  rw[G]
  by_cases f:d=0\/p<2
  ·refine⟨l,?_,hl d⟩;rcases f with h|h
   ·rw[decide_eq_true h];rfl
   ·rw[decide_eq_true h];cases decide (d=0)<;>rfl
  ·have N:¬d=0:=λz=>f (.inl z);have J:¬p<2:=λz=>f (.inr z);have i:((d+1:Nat))-1=(d:Int):=by lia
   rw[decide_eq_false N,decide_eq_false J];simp only[a_,if_false,ZI,lL,w3,v0,v1,v2,af,A7,Z2];cases hp:decide (p<4)with
   |true=>
    obtain⟨q,B,Z,q1⟩:=zV ns (k+1) 3 00 00
    have hj:∀j:Nat,∃t,tK (nK n 0) [.vl (.int (0+(j:Int))),.vl (lN ns),.vl (.int k),.vl (.int ((d+1:Nat)))]=.ok t/\mq d t=true:=λj=>by
     obtain⟨t,r,s⟩:=Ue ns d n 00 00 (3*k+40+50*(0+(j:Int))) 00
     refine⟨t,?_,s⟩;simp only[tK,Zi,v0,v1,v2,v3,zv,Z2,af,Dq,FA,Z3,Zg,i,r]
    obtain⟨g,P⟩:=j_.mp hj;have X:Zl (zd zE 01 (za 3 me (z9 04 (z9 (zd zE (vE 1) 01) (z9 (cE (.int 3)) (zj)))))) [.vl (lN ns),.vl (.int k),.vl (.int ((d+1:Nat))),.vl (.int p),.un,.un]=.ok (rng 0 (1+q).toNat):=by
     unfold Zl;simp only[zv,Zi,v0,v1,Z2,af,Z3,B];rw[if_pos ⟨by lia,by lia⟩]
    have S:zM (zW 0) Zh (tK (nK n 0)) 1 [0,1,2] [.vl (lN ns),.vl (.int k),.vl _,.vl (.int p),.un,.un] _=.ok ((rng 0 (1+q).toNat).map λt=>match t with|.int j=>g j.toNat|t=>t):=
     Z1 _ (by unfold rng;rw[ah,bO];exact aC (show (1+q).toNat<=3 by lia) 03) λt y=>by
      obtain⟨j,_,rfl⟩:=aO.mp y;show tK (nK n 0) [.vl _,.vl (lN ns),.vl (.int k),.vl _]=.ok (g _);rw[(P j).1,eK,bY]
    generalize o:((rng 0 (1+q).toNat).map λt=>match t with|.int j=>g j.toNat|t=>t)=cs at S
    have Q:cs.length=(1+q).toNat:=by rw[←o];unfold rng;rw[ah,ah,bO]
    have v:∀t∈cs,mq d t=true:=λt y=>by
     rw[←o]at y;obtain⟨u,hu,rfl⟩:=aO.mp y;obtain⟨j,_,rfl⟩:=aO.mp hu;exact(P _).2
    refine⟨.tup [.str "row",.tup cs],?_,?_⟩
    ·have D:([.vl (lN ns),.vl (.int k),.vl (.int ((d+1:Nat))),.vl (.int p),.un,.un]:En).set 4 (.vl (.lst cs))=[.vl (lN ns),.vl (.int k),.vl _,.vl (.int p),.vl (.lst cs),.un]:=rfl;simp only[if_true,Zf,X,af,S,ZI,D,jm,WG,jV];rfl
    ·show (decide _&&decide _&&cs.all _)=true;rw[decide_eq_true 00,decide_eq_true 00,aI.mpr v];rfl
   |false=>
    obtain⟨q,B,Z,q1⟩:=zV ns (k+1) 3 00 00
    obtain⟨U,e2,_,_⟩:=zV ns (k+2) 3 00 00
    obtain⟨t,r,s⟩:=Ue ns d n 00 00 (3*k+40) 00
    refine⟨.tup [.str "many",t,.int q,.int (if q+U<3 then q+U else 3)],?_,?_⟩
    ·have I:([.vl (lN ns),.vl (.int k),.vl (.int ((d+1:Nat))),.vl (.int p),.un,.un]:En).set 5 (.vl (.int q))=[.vl _,.vl _,.vl _,.vl _,.un,.vl _]:=rfl;simp only[a_,if_false,v0,v1,zv,Z2,af,Z3,B,ZI,I,jm,WG,jV,wE];refine BU rfl ?_ rfl ?_
     ·simp only[Zi,v0,v1,v2,zv,Z2,af,Dq,Z3,Zg,i,r]
     ·have v5:∀{t:T} {a b c d e:Sl} {ρ:En},vE 5 (a::b::c::d::e::.vl t::ρ)=.ok t:=rfl;simp only[Zi,v0,v1,v5,zv,Z2,af,Z3,e2,xQ]
    ·show (JH 0 3 _ _&&mq d t)=true;rw[s,Bool.and_true];show (decide _&&decide _&&decide _)=true;rw[decide_eq_true 00,decide_eq_true (by split<;>lia),decide_eq_true (by split<;>lia)];rfl
mutual
noncomputable def ot:T->Nat
 |.tup xs=>vm xs+1
 |.lst xs=>vm xs+1
 |_=>1
noncomputable def vm:List T->Nat
 |[]=>0
 |t::ts=>max (ot t) (vm ts)
end
mutual
noncomputable def oq:T->Nat
 |.tup xs=>vn xs+1
 |.lst xs=>vn xs+1
 |_=>1
noncomputable def vn:List T->Nat
 |[]=>0
 |t::ts=>oq t+vn ts
end
def JK {w:Str}{t:T}(h:isS w t=true):t=.str w:=by
 cases t with
 |str s=>
  have:=h;rw[eq_of_beq this]
 |_=>cases h
def Uf {lo hi:Int}{t:T}(h:n9 lo hi t=true):∃i,t=.int i:=by
 cases t with
 |int i=>exact⟨i,rfl⟩
 |_=>cases h
def JV {lo hi:Int}{a b:T}(h:JH lo hi a b=true):∃i j,a=.int i/\b=.int j:=by
 cases a with
 |int i=>
  cases b with
  |int j=>exact⟨i,j,rfl,rfl⟩
  |_=>cases h
 |_=>cases h
structure A9 (D S:Nat) (t:T):Prop where
 so:sOk t
 dp:ot t<=D
 sz:oq t<=S
def yU {c:T}(h:Z6 c=true):A9 2 3 c:=by
 unfold Z6 at h;split at h
 ·rename_i w i;have d:=by
   rw[ai,ai]at h;exact h.1.1
  cases w with
  |str x=>
   have a:(decide _&&decide _&&x.cps.toList.all _)=true:=d;rw[ai,ai,decide_eq_true_eq,decide_eq_true_eq]at a;refine⟨?_,?_,?_⟩
   ·simp only[sOk,UQ,and_true];exact aC a.1.2 03
   ·simp[ot,vm]
   ·simp[oq,vn]
  |_=>cases d
 ·cases h
theorem AU {D S:Nat}:∀{f:List T},(∀c∈f,A9 D S c)->UQ f/\vm f<=D/\vn f<=S*f.length
 |[],_=>⟨by simp only[UQ],bu _,bu _⟩
 |c::f,h=>by
  obtain⟨a,b,d⟩:=AU λx i=>h x (ae _ i);obtain⟨x,y,z⟩:=h c aq;refine⟨?_,?_,?_⟩
  ·exact⟨x,a⟩
  ·simp only[vm];lia
  ·simp only[vn,ax,Nat.mul_add,Nat.mul_one];lia
theorem JW:∀(d:Nat) (t:T),mq d t=true->A9 (2*d+2) (15*4^d) t
 |0,_,h=>by cases h
 |d+1,t,h=>by
  have k:1<=4^d:=Nat.pow_pos 00
  have h:yR _ t=true:=h;unfold yR at h;split at h
  ·rename_i hd r;split at h
   ·rename_i e;rw[JK e];unfold uA at h;split at h
    ·obtain⟨i,j,rfl,rfl⟩:=JV h;refine⟨by simp only[sOk,UQ,and_true];decide,by simp only[ot,vm];lia,by simp only[oq,vn];lia⟩
    ·cases h
   ·split at h
    ·rename_i e;rw[JK e];unfold qW at h;split at h
     ·unfold UR at h;split at h
      ·rw[ai,ai,ai,decide_eq_true_eq,decide_eq_true_eq]at h;obtain⟨a,b,z⟩:=AU λc f=>yU (aI.mp h.1.2 c f);refine⟨by simp only[sOk,UQ,and_true];exact⟨by decide,a⟩,by simp only[ot,vm];lia,by simp only[oq,vn];lia⟩
      ·cases h
     ·cases h
    ·split at h
     ·rename_i e;rw[JK e];unfold sf at h;split at h
      ·unfold wG at h;split at h
       ·rename_i l;rw[ai,ai,decide_eq_true_eq,decide_eq_true_eq]at h;obtain⟨a,b,z⟩:=AU λc f=>JW d c (aI.mp h.2 c f);have:15*4^d*l.length<=15*4^d*3:=Nat.mul_le_mul_left _ h.1.2;refine⟨by simp only[sOk,UQ,and_true];exact⟨by decide,a⟩,by simp only[ot,vm];lia,by simp only[oq,vn];lia⟩
       ·cases h
      ·cases h
     ·split at h
      ·rename_i e;rw[JK e];unfold qY at h;split at h
       ·rename_i c a b;rw[ai]at h;obtain⟨i,j,rfl,rfl⟩:=JV h.1;obtain⟨x,y,z⟩:=JW d c h.2;refine⟨by simp only[sOk,UQ,and_true];exact⟨by decide,x⟩,by simp only[ot,vm];lia,by simp only[oq,vn];lia⟩
       ·cases h
      ·cases h
  ·cases h
def BJ {f:En->R T}{ρ:En}{x:T}(a:f ρ=.ok x):Zr (z9 f zj) ρ=.ok (.tup [x]):=by
 unfold Zr z9 zj;rw[a];rfl
def El {xs:List T}{j:Nat}{x:T}(h:xs[j]?=some x):i3 (.tup xs) (.int (j:Int))=.ok x:=by
 show l0 xs j=_;unfold l0;rw[ZZ h]
def xR {xs:List T}{i:Nat}(h:i<xs.length):oV (.tup xs) none (some (i:Int))=.ok (.tup (xs.take i)):=by
 show R.ok _=_;have:mR xs none (some (i))=xs.take i:=by
  unfold mR;rw[HT.sIx_none,HT.sIx_nat,eG 00,Nat.sub_zero,eT]
 rw[this]
def xS {xs:List T}{i:Nat}(h:i<=xs.length):oV (.tup xs) (some (i:Int)) none=.ok (.tup (xs.drop i)):=by
 show R.ok _=_;have:mR xs (some (i)) none=xs.drop i:=by
  unfold mR;rw[HT.sIx_none,HT.sIx_nat,eG h];exact dS (by rw[dq];lia)
 rw[this]
def UU {xs a:List T}(h:xs.length+a.length<=lM):zE (.tup xs) (.tup a)=.ok (.tup (xs++a)):=if_pos h
def UV {f:En->R T}{ρ:En}{i:Int}(h:f ρ=.ok (.int i)):j0 f ρ=.ok (some i):=by
 unfold j0;rw[h];rfl
def Wf (ρ:En):lL ρ=.nx ρ:=rfl
inductive Kd where
 |whole (lo hi:Int)
 |pick (cs:List (Str×Int))
 |row (ks:List Kd)
 |many (k:Kd) (lo hi:Nat)
noncomputable def W2 (c:Str×Int):T:=.tup [.str c.1,.int c.2]
mutual
noncomputable def Kd.t:Kd->T
 |.whole lo hi=>.tup [.str "whole",.int lo,.int hi]
 |.pick d=>.tup [.str "pick",.tup (d.map W2)]
 |.row a=>.tup [.str "row",.tup (Kd.ts a)]
 |.many k lo hi=>.tup [.str "many",k.t,.int (lo:Int),.int (hi:Int)]
noncomputable def Kd.ts:List Kd->List T
 |[]=>[]
 |k::a=>k.t::Kd.ts a
end
theorem Kd.ts_map:∀a:List Kd,Kd.ts a=a.map Kd.t
 |[]=>by simp only[Kd.ts,ce]
 |k::a=>by simp only[Kd.ts,aK,Kd.ts_map a]
def Kd.Ok:Nat->Kd->Prop
 |0,_=>False
 |_+1,.whole lo hi=> -20<=lo/\lo<=hi/\hi<=20
 |_+1,.pick a=>1<=a.length/\a.length<=4/\(∀c∈a,Zp (.str c.1)=true/\1<=c.2/\c.2<=20)/\Dst (a.map (·.1))
 |d+1,.row f=>1<=f.length/\f.length<=3/\∀k∈f,Kd.Ok d k
 |d+1,.many k lo hi=>lo<=hi/\hi<=3/\Kd.Ok d k
def Q1 {c:T}(h:Z6 c=true):∃p:Str×Int,c=W2 p/\Zp (.str p.1)=true/\1<=p.2/\p.2<=20:=by
 unfold Z6 at h;split at h
 ·rename_i w i;rw[ai,ai,decide_eq_true_eq,decide_eq_true_eq]at h;cases w with
  |str x=>exact⟨(x,i),rfl,h.1.1,h.1.2,h.2⟩
  |_=>cases h.1.1
 ·cases h
theorem Ug {i:Type}{P:T->Prop}{Q:i->Prop}{f:i->T}(H:∀t,P t->∃a,t=f a/\Q a):∀(ts:List T),(∀t∈ts,P t)->∃as:List i,ts=as.map f/\∀a∈as,Q a
 |[],_=>⟨[],rfl,λ_ h=>nomatch h⟩
 |t::ts,h=>by
  obtain⟨a,rfl,k⟩:=H t (h t aq);obtain⟨as,rfl,has⟩:=Ug H ts λu j=>h u (ae _ j);exact⟨a::as,rfl,λb d=>by
   rcases ay.mp d with rfl|d
   ·exact k
   ·exact has b d⟩
theorem Uh:∀(d:Nat) (t:T),mq d t=true->∃k:Kd,t=k.t/\k.Ok d
 |0,_,h=>by cases h
 |d+1,t,h=>by
  have h:yR _ t=true:=h;unfold yR at h;split at h
  ·rename_i hd r;split at h
   ·rename_i e;rw[JK e];unfold uA at h;split at h
    ·obtain⟨i,j,rfl,rfl⟩:=JV h;have h:(decide _&&decide _&&decide _)=true:=h;rw[ai,ai,decide_eq_true_eq,decide_eq_true_eq,decide_eq_true_eq]at h;exact⟨.whole i j,by simp only[Kd.t],h.1.1,h.1.2,h.2⟩
    ·cases h
   ·split at h
    ·rename_i e;rw[JK e];unfold qW at h;split at h
     ·unfold UR at h;split at h
      ·rename_i o;rw[ai,ai,ai,decide_eq_true_eq,decide_eq_true_eq,decide_eq_true_eq]at h;obtain⟨⟨⟨f,l⟩,D⟩,y⟩:=h;obtain⟨as,rfl,has⟩:=Ug (λt u=>Q1 u) o λc p=>aI.mp D c p;rw[ah]at f l;refine⟨.pick as,by simp only[Kd.t],f,l,has,?_⟩
       have J:(as.map W2).map ZW=as.map (·.1):=by rw[bv];rfl
       rw[J]at y;have:=(WJ _ []).mp (by rw[y,ah];simp)
       exact λk w I G=>this k w I (by simpa using G)
      ·cases h
     ·cases h
    ·split at h
     ·rename_i e;rw[JK e];unfold sf at h;split at h
      ·unfold wG at h;split at h
       ·rename_i o;rw[ai,ai,decide_eq_true_eq,decide_eq_true_eq]at h;obtain⟨N,rfl,v⟩:=Ug (λt u=>Uh d t u) o λc p=>aI.mp h.2 c p;rw[ah]at h;exact⟨.row N,by simp only[Kd.t,Kd.ts_map],h.1.1,h.1.2,v⟩
       ·cases h
      ·cases h
     ·split at h
      ·rename_i e;rw[JK e];unfold qY at h;split at h
       ·rename_i c a b;rw[ai]at h;obtain⟨f,l⟩:=h;obtain⟨i,j,rfl,rfl⟩:=JV f;obtain⟨k,rfl,B⟩:=Uh d c l;have f:(decide _&&decide _&&decide _)=true:=f;rw[ai,ai,decide_eq_true_eq,decide_eq_true_eq,decide_eq_true_eq]at f;obtain⟨⟨x,P⟩,Q⟩:=f;obtain⟨m,rfl⟩:=cN x;obtain⟨n,rfl⟩:=cN (Int.le_trans x P);exact⟨.many k m n,by simp only[Kd.t],by lia,by lia,B⟩
       ·cases h
      ·cases h
  ·cases h
noncomputable def ZD (made:List (List T)):List (List T)->List (List T)
 |[]=>made
 |d::r=>ZD (made.flatMap λa=>d.map λx=>a++[x]) r
abbrev Y7 (ls:List (List T)):List T:=(ZD [[]] ls).map T.tup
mutual
noncomputable def Kd.all:Kd->List T
 |.whole lo hi=>(aZ (hi+1-lo).toNat).map λ(i:Nat)=>T.int (lo+(i:Int))
 |.pick d=>d.map λc=>T.str c.1
 |.row a=>Y7 (Kd.alls a)
 |.many k lo hi=>(aZ (hi+1-lo)).flatMap λi=>Y7 (ac (lo+i) k.all)
noncomputable def Kd.alls:List Kd->List (List T)
 |[]=>[]
 |k::a=>k.all::Kd.alls a
end
theorem Kd.alls_map:∀a:List Kd,Kd.alls a=a.map Kd.all
 |[]=>by simp only[Kd.alls,ce]
 |k::a=>by simp only[Kd.alls,aK,Kd.alls_map a]
noncomputable def lT:List Nat->Nat
 |[]=>1
 |n::r=>n*lT r
theorem wI:∀{ns:List Nat},(∀n∈ns,1<=n)->1<=lT ns
 |[],_=>ar _
 |n::ns,h=>f7 (h n aq) (wI λm a=>h m (ae _ a))
theorem JX {d i:Type}(f:d->List i)(n:Nat):∀as:List d,(∀a∈as,(f a).length=n)->(as.flatMap f).length=as.length*n
 |[],_=>by simp
 |a::as,h=>by
  rw[bP,aB,h a aq,JX f n as λb j=>h b (ae _ j),ax,l8,cG,dO]
theorem wJ:∀(d:List (List T)) (made:List (List T)),(ZD made d).length=made.length*lT (d.map (·.length))
 |[],made=>by simp[ZD,lT]
 |l::d,made=>by
  rw[ZD,wJ d,JX _ _ _ λa _=>ah ..,aK,lT,d8]
abbrev sW:En->RS:=YQ 3 (Z9 (j3 (vE 2)) (zW 0) (Zh) (zd zE (vE 1) (Zr (z9 04 (zj)))) 1 [4])
theorem UW {L M:T}{l:List T}(i:l.length<=lM):∀(as:List (List T)) (acc:List T) (x:Sl),(∀a∈as,a.length<=1000)->acc.length+as.length*l.length<=lM->
  ∃y,ZK (zW 4) sW (as.map T.tup) [.vl L,.vl M,.vl (.lst l),.ow acc,x]=.nx [.vl L,.vl M,.vl (.lst l),.ow (acc++(as.flatMap λa=>l.map λx=>a++[x]).map T.tup),y]
 |[],acc,x,_,_=>⟨x,by simp[ZK]⟩
 |a::as,acc,x,j,f=>by
  have p:=j a aq;have v:lM=16777216:=rfl;rw[ax,l8]at f;have o:zM _ _ (zd zE (vE 1) (Zr (z9 04 (zj)))) 1 [4] [.vl L,.vl M,.vl (.lst l),.ow acc,.vl (.tup a)] l=.ok (l.map λx=>T.tup _):=
   Z1 l i λx B=>by
    exact UU (by rw[aX];lia)
  have k:sW [.vl L,.vl M,.vl (.lst l),.ow acc,.vl (.tup a)]=.nx [.vl L,.vl M,.vl (.lst l),.ow (acc++l.map λx=>T.tup (a++[x])),.vl (.tup a)]:=by
   show (((zM _ _ _ _ _ _ l).bind _).s _)=_;rw[o,af];show (if _ then _ else _)=_
   rw[if_pos (by rw[ah];lia)]
   rfl
  obtain⟨y,u⟩:=UW i as (acc++l.map λx=>T.tup _) _ (λb f=>j b (ae _ f)) (by rw[aB,ah];lia)
  refine⟨y,?_⟩;have e:ZK (zW 4) _ ((a::as).map T.tup) [.vl L,.vl M,.vl (.lst l),.ow acc,x]=match sW [.vl L,.vl M,.vl _,.ow acc,.vl _]with
   |.nx d=>ZK _ _ _ d
   |.ct d=>ZK _ _ _ d
   |.bk d=>.nx d
   |r=>r:=rfl
  rw[e,k];dsimp only;rw[u,bP,c9,bv,bj];rfl
abbrev VC:En->RS:=(zA (WW 3 (zj))
  (zA (jM (j3 (vE 1)) (zW 4) sW)
  (tN 1 3)))
theorem uD {L:T}(m:Nat):∀(i:List (List T)) (made:List (List T)) (k:Nat) (x y z:Sl),(∀a∈made,a.length<=k)->k+i.length<=1000->(∀l∈i,1<=l.length)->made.length*lT (i.map (·.length))<=lM->1<=made.length->
  ∃B I v,ZK (zW 2) VC (i.map T.lst) [.vl L,.vl (.lst (made.map T.tup)),x,y,z]=.nx [.vl L,.vl (.lst ((ZD made i).map T.tup)),B,I,v]
 |[],made,k,x,y,z,_,_,_,_,_=>⟨x,y,z,by simp[ZK,ZD]⟩
 |l::i,made,k,x,y,z,Q,P,d,o,S=>by
  have N:=wI λn hn=>by
   obtain⟨p,j,rfl⟩:=aO.mp hn;exact d p (ae _ j)
  rw[aK,lT,←d8]at o;have D:=aC (cO _ N) o;have J:=aC (Nat.le_mul_of_pos_left _ S) D;rw[ax]at P;obtain⟨w,U⟩:=UW J _ [] z (λa G=>aC (Q a G) 00) (by rw[cq];lia)
  have es:VC [.vl L,.vl (.lst (made.map T.tup)),.vl (.lst l),y,z]=.nx [.vl L,.vl (.lst ((made.flatMap λa=>l.map λx=>a++[x]).map T.tup)),.vl (.lst l),.vl (.lst ((made.flatMap λa=>l.map λx=>a++[x]).map T.tup)),w]:=by
   have e0:WW 3 (zj) [.vl L,.vl (.lst (made.map T.tup)),.vl (.lst l),y,z]=.nx [.vl L,.vl _,.vl _,.ow [],z]:=rfl;have X:jM (j3 (vE 1)) _ _ [.vl L,.vl (.lst _),.vl _,.ow [],z]=.nx [.vl L,.vl _,.vl _,.ow ((made.flatMap λa=>l.map λx=>a++[x]).map _),w]:=U;unfold VC;rw[Za,e0];dsimp only;rw[Za,X];rfl
  obtain⟨B,I,v,ih⟩:=uD m i (made.flatMap λa=>l.map λx=>a++[x]) (k+1) _ (.vl (.lst ((made.flatMap λa=>l.map λx=>a++[x]).map _))) w (λa G=>by
   obtain⟨b,o,Z⟩:=cP.mp G;obtain⟨u,_,rfl⟩:=aO.mp Z;have:=Q b o;rw[aB,aX];lia) 00 (λp j=>d p (ae _ j)) (by
    rw[JX _ _ _ λa _=>ah ..];exact o) (by
    rw[JX _ _ _ λa _=>ah ..];exact f7 S (d l aq))
  refine⟨B,I,v,?_⟩;have e:ZK (zW 2) _ ((l::i).map T.lst) [.vl L,.vl (.lst (made.map T.tup)),x,y,z]=match VC [.vl L,.vl _,.vl _,y,z]with
   |.nx f=>ZK _ _ _ f
   |.ct f=>ZK _ _ _ f
   |.bk f=>.nx f
   |r=>r:=rfl
  rw[e,es];exact ih
def Q2 (d:List (List T))(u:d.length<=1000)(f:∀l∈d,1<=l.length)(k:lT (d.map (·.length))<=lM):mf [.lst (d.map T.lst)]=.ok (.lst (Y7 d)):=by
 obtain⟨y,x,v,i⟩:=uD 0 d [[]] 0 .un .un .un (λa o=>by rw[aQ.mp o];exact ar _) 00 f (by rw[aX,cG];exact k) (ar _)
 have e:mf [.lst (d.map T.lst)]=zx (Ab [.vl _,.un,.un,.un,.un]):=rfl;have j:zY 1 (Zs (z9 (Zr (zj)) (zj))) [.vl (.lst (d.map T.lst)),.un,.un,.un,.un]=.nx [.vl _,.vl _,.un,.un,.un]:=rfl;have p:jM (j3 04) _ _ [.vl (.lst _),.vl (.lst [.tup []]),.un,.un,.un]=.nx _:=i;rw[e,Ab,Za,j];dsimp only;rw[Za,p];rfl
theorem jn (n:Nat):∀m:Nat,lT (ac m n)=n^m
 |0=>rfl
 |m+1=>by rw[bA,lT,jn n m,g_,dr]
def JY (a:List (List T)):(Y7 a).length=lT (a.map (·.length)):=by
 rw[ah,wJ,aX,cG]
noncomputable def pw (n lo hi:Nat):Nat:=((aZ (hi+1-lo)).map λi=>n^(lo+i)).sum
def jG (k:Kd)(lo hi:Nat):(Kd.many k lo hi).all.length=pw k.all.length lo hi:=by
 rw[Kd.all,List.length_flatMap,pw];congr 1
 refine cu λi _=>?_;rw[JY,ba,jn]
def Jw (a:List Kd):(Kd.row a).all.length=lT (a.map λk=>k.all.length):=by
 rw[Kd.all,JY,Kd.alls_map,bv];rfl
def Jd (lo hi:Int):(Kd.whole lo hi).all.length=(hi+1-lo).toNat:=by
 rw[Kd.all,ah,bO]
def WK (a:List (Str×Int)):(Kd.pick a).all.length=a.length:=by
 rw[Kd.all,ah]
def K9 {lo hi:Nat}(h:lo<=hi)(a:hi<=3):(lo=0/\hi=0)\/(lo=0/\hi=1)\/(lo=0/\hi=2)\/(lo=0/\hi=3)\/(lo=1/\hi=1)\/(lo=1/\hi=2)\/(lo=1/\hi=3)\/(lo=2/\hi=2)\/(lo=2/\hi=3)\/(lo=3/\hi=3):=(by decide:∀hi lo:Fin 4,lo.1<=hi.1->(lo.1=0/\hi.1=0)\/(lo.1=0/\hi.1=1)\/(lo.1=0/\hi.1=2)\/(lo.1=0/\hi.1=3)\/(lo.1=1/\hi.1=1)\/(lo.1=1/\hi.1=2)\/(lo.1=1/\hi.1=3)\/(lo.1=2/\hi.1=2)\/(lo.1=2/\hi.1=3)\/(lo.1=3/\hi.1=3)) ⟨hi,iP a⟩ ⟨lo,iP (aC h a)⟩ h
noncomputable def iv (b:Bool):Nat:=if b then 1 else 0
def Ka (n:Nat){lo hi:Nat}(h:lo<=hi)(a:hi<=3):pw n lo hi=iv (lo==0)+n*iv (decide (lo<=1)&&decide (1<=hi))+n*n*iv (decide (lo<=2)&&decide (2<=hi))+n*n*n*iv (hi==3):=by
 rcases K9 h a with ⟨rfl,rfl⟩|⟨rfl,rfl⟩|⟨rfl,rfl⟩|⟨rfl,rfl⟩|⟨rfl,rfl⟩|⟨rfl,rfl⟩|⟨rfl,rfl⟩|⟨rfl,rfl⟩|⟨rfl,rfl⟩|⟨rfl,rfl⟩<;>
  simp[pw,lw,iv,g_]
 all_goals lia
def Hf {n:Nat}(hn:1<=n){lo hi:Nat}(h:lo<=hi)(a:hi<=3):1<=pw n lo hi:=by
 have d:=f7 hn hn;have f:=f7 d hn;rw[Ka n h a];rcases K9 h a with ⟨rfl,rfl⟩|⟨rfl,rfl⟩|⟨rfl,rfl⟩|⟨rfl,rfl⟩|⟨rfl,rfl⟩|⟨rfl,rfl⟩|⟨rfl,rfl⟩|⟨rfl,rfl⟩|⟨rfl,rfl⟩|⟨rfl,rfl⟩<;>
  simp[iv]<;>lia
def Fc {n N:Nat}(hn:n<=N){lo hi:Nat}(h:lo<=hi)(a:hi<=3):pw n lo hi<=1+N+N*N+N*N*N:=by
 have d:=dj hn hn;have f:=dj d hn;rw[Ka n h a];rcases K9 h a with ⟨rfl,rfl⟩|⟨rfl,rfl⟩|⟨rfl,rfl⟩|⟨rfl,rfl⟩|⟨rfl,rfl⟩|⟨rfl,rfl⟩|⟨rfl,rfl⟩|⟨rfl,rfl⟩|⟨rfl,rfl⟩|⟨rfl,rfl⟩<;>
  simp[iv]<;>lia
theorem xT {N:Nat}(d:1<=N):∀(ns:List Nat),(∀n∈ns,n<=N)->lT ns<=N^ns.length
 |[],_=>ar _
 |n::ns,h=>by
  rw[lT,dr];exact dj (xT d ns λm a=>h m (ae _ a)) (h n aq)
theorem ZJ:∀(d:Nat) (k:Kd),k.Ok d->1<=k.all.length
 |0,_,h=>h.elim
 |d+1,.whole lo hi,h=>by
  obtain⟨_,f,_⟩:=h;rw[Jd];lia
 |d+1,.pick j,h=>by
  rw[WK];exact h.1
 |d+1,.row i,h=>by
  rw[Jw];refine wI λn hn=>?_;obtain⟨k,a,rfl⟩:=aO.mp hn;exact ZJ d k (h.2.2 k a)
 |d+1,.many k lo hi,h=>by
  rw[jG];exact Hf (ZJ d k h.2.2) h.1 h.2.1
noncomputable def mx:Nat->Nat
 |0=>0
 |1=>41
 |d+1=>1+mx d+mx d*mx d+mx d*mx d*mx d
def xU (d:Nat):41<=mx (d+1):=by
 induction d with
 |zero=>exact ar _
 |succ d a=>
  show 41<=1+mx _+mx _*mx _+mx _*mx _*mx _;lia
def Q3 (d:Nat)(n:Nat)(h:n<=41):n<=mx (d+1):=aC h (xU d)
def Kb {N m:Nat}(a:1<=N)(h:m<=3):N^m<=1+N+N*N+N*N*N:=by
 have:m=0\/m=1\/m=2\/m=3:=by lia
 rcases this with rfl|rfl|rfl|rfl<;>simp[g_]<;>lia
theorem jO:∀(d:Nat) (k:Kd),k.Ok d->k.all.length<=mx d
 |0,_,h=>h.elim
 |d+1,.whole lo hi,h=>by
  obtain⟨i,f,a⟩:=h;rw[Jd];exact Q3 d _ 00
 |d+1,.pick o,h=>by
  rw[WK];exact Q3 d _ (aC h.2.1 00)
 |1,.row j,h=>by
  obtain⟨i,f,a⟩:=h
  match j,i,a with
  |k::_,_,a=>exact(a k aq).elim
 |d+2,.row j,h=>by
  obtain⟨i,f,a⟩:=h;rw[Jw];have hp:=aC (by lia:1<=41) (xU d)
  have:=xT hp (j.map λk=>k.all.length) λn hn=>by
   obtain⟨k,l,rfl⟩:=aO.mp hn;exact jO _ k (a k l)
  rw[ah]at this;exact aC this (Kb hp f)
 |1,.many k lo hi,h=>h.2.2.elim
 |d+2,.many k lo hi,h=>by
  rw[jG];exact Fc (jO _ k h.2.2) h.1 h.2.1
def zb {f g:En->RS}{ρ ρ':En}(h:f ρ=.nx ρ'):zA f g ρ=g ρ':=by rw[Za,h]
def m5 {x w:Str}{r:List T}{ρ:En}:zI ko 02 (cE (.str w)) (.vl (.tup (.str x::r))::ρ)=.ok (x==w):=by
 rw[zO,zv,v0,af,Z2,af,nY,Z2,af];rfl
def JL {a b:T}{r:List T}{ρ:En}:zd i3 04 01 (.vl (.tup (a::b::r))::ρ)=.ok b:=by
 rw[zv,v0,af,Z2,af,rS]
def uE {a b c:T}{r:List T}{ρ:En}:zd i3 04 08 (.vl (.tup (a::b::c::r))::ρ)=.ok c:=by
 rw[zv,v0,af,Z2,af,Bm]
def KU {a b c d:T}{r:List T}{ρ:En}:zd i3 04 (cE (.int 3)) (.vl (.tup (a::b::c::d::r))::ρ)=.ok d:=by
 rw[zv,v0,af,Z2,af,Dz]
def Ui {f:En->R T}{ρ:En}{i:Int}(h:f ρ=.ok (.int i)):zd zE f 01 ρ=.ok (.int (i+1)):=by
 rw[zv,h,af,Z2,af,Z3]
def Uj {f g:En->R T}{ρ:En}{i j:Int}(d:f ρ=.ok (.int i))(a:g ρ=.ok (.int j))(h: -1000000<i/\i<1000000/\ -1000000<j/\j<1000000):JP f g ρ=.ok (rng i (j-i).toNat):=by
 unfold JP;rw[d,a];exact if_pos h
theorem Q4:∀(a:List (Str×Int)) (x y:Sl),zR (Zb 0 1) Zh 04 (a.map W2) [x,y]=.ok (a.map λc=>T.str c.1)
 |[],_,_=>rfl
 |c::a,x,y=>by
  have e:zR (Zb 0 1) Zh 04 ((c::a).map W2) [x,y]=(zR _ _ _ _ [.vl _,.vl _]).bind λvs=>.ok _:=rfl;rw[e,Q4 a];rfl
def Wg {x:T}{m:Nat}(h:m<=3):Z7 (.lst [x]) (.int (m:Int))=.ok (.lst (ac m [x]).flatten):=by
 unfold Z7;dsimp only;have c:0<=(m:Int)/\(m:Int)<1000000/\[x].length*(m:Int).toNat<=lM:=by
  have a:3<=lM:=by decide
  refine⟨by lia,by lia,?_⟩
  rw[aX,cG];exact aC h a
 rw[if_pos c,bY]
theorem j5 {a:Type}(x:a):∀m:Nat,(ac m [x]).flatten=ac m x
 |0=>rfl
 |m+1=>by rw[bA,f6,j5 x m];rfl
abbrev Uk (ca cr:List T->R T):En->RS:=YQ 1 (za 1 cr (z9 (zd Z7 (Zs (z9 (za 1 ca (z9 (zd i3 04 01) (zj))) (zj))) (vE 2)) (zj)))
def xV {f:En->R T}{ρ:En}{x:T}(a:f ρ=.ok x):Zs (z9 f zj) ρ=.ok (.lst [x]):=by
 unfold Zs z9 zj;rw[a];rfl
theorem uF {ca:List T->R T}{k:Kd}{t:T}{lo:Nat}{d:List T}(u:ca [t]=.ok (.lst d))(o:1<=d.length){a b c:T}:∀(js:List Nat) (acc:List T) (x:Sl),(∀j∈js,lo+j<=3)->acc.length+(js.map λj=>d.length^(lo+j)).sum<=lM->
  ∃y,ZK (zW 2) (Uk ca mf) (js.map λ(j:Nat)=>T.int ((lo:Int)+(j:Int))) [.vl (.tup [a,t,b,c]),.ow acc,x]=.nx [.vl (.tup [a,t,b,c]),.ow (acc++js.flatMap λj=>Y7 (ac (lo+j) d)),y]
 |[],acc,x,_,_=>⟨x,by simp[ZK]⟩
 |j::js,acc,x,B,U=>by
  have I:=B j aq;rw[aK,eC]at U;have D:mf [.lst ((ac (lo+j) d).map _)]=.ok _:=Q2 _ (by rw[aS];lia) (λl P=>by rw[bR P];exact o) (by rw[ba,jn];lia)
  have v:(Y7 (ac (lo+j) d)).length=d.length^(lo+j):=by rw[JY,ba,jn]
  have N:Z7 (.lst [.lst d]) (.int ((lo)+(j)))=.ok (.lst ((ac (lo+j) d).map T.lst)):=by
   have p:(lo:Int)+(j)=((lo+j:Nat)):=by lia
   rw[p,Wg 00,j5,ba]
  have G:Uk ca mf [.vl (.tup [a,t,b,c]),.ow acc,.vl (.int ((lo)+(j)))]=.nx [.vl (.tup [a,t,b,c]),.ow (acc++Y7 (ac (lo+j) d)),.vl (.int ((lo)+(j)))]:=by
   have p:za 1 mf (z9 (zd Z7 (Zs (z9 (za 1 ca (z9 (zd i3 04 01) (zj))) (zj))) (vE 2)) (zj)) [.vl (.tup [a,t,b,c]),.ow acc,.vl (.int ((lo)+(j)))]=.ok (.lst (Y7 (ac (lo+j) d))):=by
    have Q:za 1 ca (z9 (zd i3 04 01) (zj)) [.vl (.tup [a,t,b,c]),.ow acc,.vl (.int ((lo)+(j)))]=.ok (.lst d):=by
     rw[zQ,JL,af,u]
    rw[zQ,zv,xV Q,af,v2,af,N,af,D]
   show ((za 1 _ _ _).s λt=>match t with|.lst S=>if acc.length+S.length<=lM then RS.nx _ else .bad|_=>.bad)=_
   rw[p];show (if _ then _ else _)=_
   rw[if_pos 00]
   rfl
  obtain⟨y,J⟩:=uF (k:=k) u o js (acc++Y7 (ac (lo+j) d)) _ (λi hi=>B i (ae _ hi)) (by rw[aB];lia)
  refine⟨y,?_⟩;have e:ZK (zW 2) (Uk ca mf) ((j::js).map λ(j:Nat)=>T.int ((lo)+(j))) [.vl (.tup [a,t,b,c]),.ow acc,x]=match Uk ca _ [.vl _,.ow acc,.vl _]with
   |.nx f=>ZK _ _ (js.map λ(j)=>T.int _) f
   |.ct f=>ZK _ _ (js.map λ(j)=>T.int _) f
   |.bk f=>.nx f
   |r=>r:=rfl
  rw[e,G];dsimp only;rw[J,bP,bj]
def VD {ca:List T->R T}{a t:T}{lo hi:Nat}(k:lo<=hi)(i:hi<=3){x:Sl}{acc:List T}{r:RS}
  (f:ZK (zW 2) (Uk ca mf) ((aZ (hi+1-lo)).map λ(j:Nat)=>T.int ((lo:Int)+(j:Int))) [.vl (.tup [a,t,.int (lo:Int),.int (hi:Int)]),.ow acc,x]=r):
  jM (JP (zd i3 04 08) (zd zE (zd i3 04 (cE (.int 3))) 01)) (zW 2) (Uk ca mf) [.vl (.tup [a,t,.int (lo:Int),.int (hi:Int)]),.ow acc,x]=r:=by
 have hn:((hi:Int)+1-(lo)).toNat=hi+1-lo:=by lia
 have d: -1000000<(lo:Int)/\(lo:Int)<1000000/\ -1000000<(hi:Int)+1/\(hi:Int)+1<1000000:=by lia
 have e:jM (JP (zd i3 04 08) (zd zE (zd i3 04 (cE (.int 3))) 01)) (zW 2) (Uk ca mf) [.vl (.tup [a,t,.int (lo),.int (hi)]),.ow acc,x]=(JP _ _ _).s λts=>ZK _ _ ts _:=rfl;rw[e,Uj uE (Ui KU) d,hn];exact f
def F6 {n L lo hi:Nat}(e:L=pw n lo hi)(h:L<=1000000):([]:List T).length+((aZ (hi+1-lo)).map λj=>n^(lo+j)).sum<=lM:=by
 have h':pw n lo hi<=lM:=aC (e▸h) 03
 rw[cq,h9];exact h'
def Q5 {ca:List T->R T}(d:Nat)(lo hi:Int)(h:(Kd.whole lo hi).Ok (d+1))(f:(Kd.whole lo hi).all.length<=1000000)(H:∀a:Kd,a.Ok d->ca [a.t]=.ok (.lst a.all)):zx (mw ca mf (i4 3 [(Kd.whole lo hi).t]))=.ok (.lst (Kd.whole lo hi).all):=by
 have e:zx (mw ca mf (i4 3 [(Kd.whole lo hi).t]))=zx (mw ca _ [.vl _,.un,.un]):=rfl;rw[e,mw,Za,ZV];obtain⟨k,j,i⟩:=h;simp only[Kd.t];rw[Zj,jm,WG];unfold sL;rw[Uj JL (Ui uE) ⟨by lia,by lia,by lia,by lia⟩]
 rfl
def VE {ca:List T->R T}(d:Nat)(a:List (Str×Int))(h:(Kd.pick a).Ok (d+1))(k:(Kd.pick a).all.length<=1000000)(H:∀f:Kd,f.Ok d->ca [f.t]=.ok (.lst f.all)):zx (mw ca mf (i4 3 [(Kd.pick a).t]))=.ok (.lst (Kd.pick a).all):=by
 have j:lM=16777216:=rfl;have e:zx (mw ca mf (i4 3 [(Kd.pick a).t]))=zx (mw ca _ [.vl _,.un,.un]):=rfl;rw[e,mw,Za,ZV];simp only[Kd.t];rw[m5,ZI,show (("pick":Str)=="whole")=false from rfl,if_neg aN,Wf];dsimp only;rw[Za,ZV,Zj,jm,WG,WG,jV,Zf,Jc,JL];have l:=h.2.1;have i:zM (Zb 0 1) Zh 04 2 [] [.vl (.tup [.str "pick",.tup (a.map W2)]),.un,.un] (a.map W2)=.ok (a.map λc=>T.str c.1):=by
  unfold zM;rw[if_pos (by rw[ah];lia)]
  show quiet (zR _ _ _ _ [.un,.un])=_;rw[Q4];rfl
 show zx (match ((((R.ok _).bind λts=>(zM _ _ _ 2 [] _ ts).bind λvs=>.ok _)).s λt=>.rt t)with|.nx ρ'=>_|r=>r)=_
 rw[af,i];rfl
def Kc {ca:List T->R T}(d:Nat)(a:List Kd)(h:(Kd.row a).Ok (d+1))(p:(Kd.row a).all.length<=1000000)(H:∀f:Kd,f.Ok d->ca [f.t]=.ok (.lst f.all)):zx (mw ca mf (i4 3 [(Kd.row a).t]))=.ok (.lst (Kd.row a).all):=by
 have I:lM=16777216:=rfl;have e:zx (mw ca mf (i4 3 [(Kd.row a).t]))=zx (mw ca _ [.vl _,.un,.un]):=rfl;rw[e,mw,Za,ZV];obtain⟨N,J,u⟩:=h;simp only[Kd.t];rw[m5,ZI,show (("row":Str)=="whole")=false from rfl,if_neg aN,Wf];dsimp only;rw[Za,ZV,m5,ZI,show (("row":Str)=="pick")=false from rfl,if_neg aN,Wf];dsimp only;rw[Za,ZV,Zj,jm,WG,WG,jV,zQ,Kd.ts_map];have B:zM (zW 0) Zh (za 1 ca (z9 04 (zj))) 1 [] [.vl (.tup [.str "row",.tup (a.map Kd.t)]),.un,.un] (a.map Kd.t)=.ok ((a.map Kd.all).map T.lst):=by
  unfold zM;rw[if_pos (by rw[ah];lia)]
  show quiet (zR _ _ _ _ [.un])=_;have:∀(a:List Kd) (x:Sl),(∀k∈a,k.Ok d)->zR (zW 0) Zh (za 1 ca (z9 04 (zj))) (a.map Kd.t) [x]=.ok ((a.map Kd.all).map T.lst):=by
   intro a
   induction a with
   |nil=>intro _ _;rfl
   |cons k a G=>
    intro x i;have D:zR (zW 0) Zh (za 1 ca (z9 04 (zj))) ((k::a).map _) [x]=(za 1 ca _ [.vl k.t]).bind λv=>(zR _ _ _ _ [.vl k.t]).bind λvs=>.ok _:=rfl;rw[D,zQ,v0,af,H k (i k aq),G _ λf j=>i f (ae _ j)];rfl
  rw[this a .un u];rfl
 have o:=Jw a;have y:mf [.lst ((a.map Kd.all).map _)]=.ok _:=Q2 _ (by rw[ah];lia) (λl p=>by
  obtain⟨k,i,rfl⟩:=aO.mp p;exact ZJ d k (u k i)) (by
  rw[bv];show lT (a.map λk=>k.all.length)<=lM;lia)
 show zx (match ((((R.ok _).bind λts=>(zM _ _ _ 1 [] _ ts).bind λvs=>.ok _).bind λx=>mf [x]).s λt=>.rt t)with|.nx ρ'=>_|r=>r)=_
 rw[af,B,af,af,y,Kd.all,Kd.alls_map];rfl
def VF {ca:List T->R T}(d:Nat)(k:Kd)(lo hi:Nat)(h:(Kd.many k lo hi).Ok (d+1))(p:(Kd.many k lo hi).all.length<=1000000)(H:∀f:Kd,f.Ok d->ca [f.t]=.ok (.lst f.all)):zx (mw ca mf (i4 3 [(Kd.many k lo hi).t]))=.ok (.lst (Kd.many k lo hi).all):=by
 have G:lM=16777216:=rfl;have e:zx (mw ca mf (i4 3 [(Kd.many k lo hi).t]))=zx (mw ca mf [.vl (Kd.many k lo hi).t,.un,.un]):=rfl;rw[e,mw,Za,ZV];obtain⟨x,v,l⟩:=h;have i:=jG k lo hi;simp only[Kd.t];rw[m5,ZI,show (("many":Str)=="whole")=false from rfl,if_neg aN,Wf];dsimp only;rw[Za,ZV,m5,ZI,show (("many":Str)=="pick")=false from rfl,if_neg aN,Wf];dsimp only;rw[Za,ZV,m5,ZI,show (("many":Str)=="row")=false from rfl,if_neg aN,Wf];dsimp only;have u:WW 1 (zj) [.vl (.tup [.str "many",k.t,.int (lo:Int),.int (hi:Int)]),.un,.un]=.nx [.vl (.tup [.str "many",k.t,.int (lo:Int),.int (hi:Int)]),.ow [],.un]:=rfl;rw[Za,u];dsimp only;obtain⟨y,B⟩:=uF (k:=k) (lo:=lo) (H k l) (ZJ d k l) (a:=.str "many") (b:=.int (lo:Int)) (c:=.int (hi:Int)) (aZ (hi+1-lo)) [] .un (λj D=>by have:=bn.mp D;lia) (F6 i p)
 have o:=VD (ca:=ca) (t:=k.t) x v B;rw[ck]at o;rw[zb o,Kd.all];rfl
def VG {ca:List T->R T}(d:Nat)(k:Kd)(h:k.Ok (d+1))(a:k.all.length<=1000000)(H:∀f:Kd,f.Ok d->ca [f.t]=.ok (.lst f.all)):zx (mw ca mf (i4 3 [k.t]))=.ok (.lst k.all):=by
 cases k with
 |whole lo hi=>exact Q5 d lo hi h a H
 |pick i=>exact VE d i h a H
 |row j=>exact Kc d j h a H
 |many k lo hi=>exact VF d k lo hi h a H
theorem Q6:∀(d n:Nat),d<=n->d<=3->∀k:Kd,k.Ok d->k.all.length<=1000000->oQ n 0 [k.t]=.ok (.lst k.all)
 |0,_,_,_,_,h,_=>h.elim
 |d+1,0,hn,_,_,_,_=>by lia
 |d+1,n+1,hn,hd,k,h,i=>by
  have e:oQ (n+1) 0 [k.t]=zx (mw (oQ n 0) mf (i4 3 [k.t])):=rfl;rw[e];refine VG d k h i λf a=>Q6 d n 00 00 f a ?_
  have j:=jO d f a;have:mx d<=1000000:=by
   have:d=0\/d=1\/d=2:=by lia
   rcases this with rfl|rfl|rfl<;>decide
  lia
def Hh {x a b:Str}{r:List T}{ρ:En}:zI ms 02 (Zr (z9 (cE (.str a)) (z9 (cE (.str b)) (zj)))) (.vl (.tup (.str x::r))::ρ)=ms (.str x) (.tup [.str a,.str b]):=by
 rw[zO,zv,v0,af,Z2,af,nY,af,VB Z2 Z2,af]
def JZ {g:En->R Bool}{a d:En->RS}{ρ:En}(h:g ρ=.ok true):lK g a d ρ=a ρ:=by rw[ZV,h,ZI,if_pos rfl]
def Cf {g:En->R Bool}{d a:En->RS}{ρ:En}(h:g ρ=.ok false):lK g d a ρ=a ρ:=by rw[ZV,h,ZI,if_neg aN]
def zF {g:En->R Bool}{a:En->RS}{ρ:En}(h:g ρ=.ok false):lK g a lL ρ=.nx ρ:=by rw[Cf h];rfl
def Z4 {i:Nat}{f:En->R T}{ρ:En}{t:T}(h:f ρ=.ok t):zY i f ρ=.nx (ρ.set i (.vl t)):=by rw[JJ,h,ZI]
def zy {f:En->R T}{ρ:En}{t:T}(h:f (frz ρ)=.ok t):zJ f ρ=.rt t:=by rw[Zj,h,ZI]
def wK {g:T->En->R En}{f:En->RS}{t:T}{ts:List T}{ρ a d:En}(i:g t ρ=.ok a)(j:f a=.nx d):ZK g f (t::ts) ρ=ZK g f ts d:=by
 rw[ZK,i];dsimp only;rw[j]
def zP {f g:En->RS}{ρ:En}{t:T}(h:f ρ=.rt t):zA f g ρ=.rt t:=by rw[Za,h]
def Q7 {i j:Nat}(h:i<2^60):Z7 (.int (i:Int)) (.int (j:Int))=.ok (.int ((i*j:Nat):Int)):=by
 rw[Q0 _ _ (.inl ⟨by lia,by lia⟩),ll]
def Dg {d n:Nat}(h:n<=mx d)(hd:d<=3):n<2^60:=by
 have:d=0\/d=1\/d=2\/d=3:=by lia
 have a:mx 3<2^60:=by decide
 have f:mx 2<2^60:=by decide
 have j:mx 1<2^60:=by decide
 have i:mx 0<2^60:=by decide
 rcases this with rfl|rfl|rfl|rfl<;>lia
theorem UX {a b:Sl}:∀(ns:List Nat) (m:Nat) (x y:Sl),(∀n∈ns,1<=n)->m*lT ns<2^60->∃i,ZK (zW 3) (zY 2 (zd Z7 (vE 2) (vE 3))) (ns.map λ(n:Nat)=>T.int (n:Int)) [a,b,.vl (.int (m:Int)),x,y]=.nx [a,b,.vl (.int ((m*lT ns:Nat):Int)),i,y]
 |[],m,x,y,_,_=>⟨x,by simp[ZK,lT]⟩
 |n::ns,m,x,y,hp,l=>by
  have j:=wI λk d=>hp k (ae _ d);have hn:=hp n aq;have o:m<=m*lT (n::ns):=cO _ (f7 hn j);have f:=cb o l;rw[lT,←d8]at l;obtain⟨i,u⟩:=UX ns _ _ y (λk d=>hp k (ae _ d)) l;refine⟨i,?_⟩;have v:zY 2 (zd Z7 (vE 2) (vE 3)) [a,b,.vl (.int (m)),.vl (.int (n)),y]=.nx [a,b,.vl (.int ((m*n):Int)),.vl (.int (n)),y]:=by
   rw[JJ,zv,v2,af,v3,af,Q7 f];rfl
  have p:zW 3 (T.int (n)) [a,b,.vl (.int (m)),x,y]=.ok _:=rfl;rw[aK,wK p v,lT,←d8];exact u
def VH:∀(d:Nat) (lo hi:Int),(Kd.whole lo hi).Ok (d+1)->(Kd.whole lo hi).Ok 1
 |_,_,_,h=>h
def VI:∀(d:Nat) (a:List (Str×Int)),(Kd.pick a).Ok (d+1)->(Kd.pick a).Ok 1
 |_,_,h=>h
def uG {a:List T->R T}(k:Kd)(h:k.Ok 1){x:Str}{r:List T}(i:k.t=.tup (.str x::r))(d:ms (.str x) (.tup [.str "whole",.str "pick"])=.ok true):zx (mV (m4 8) a (i4 5 [k.t]))=.ok (.int (k.all.length:Int)):=by
 have j:m4 8 _=.ok _:=Q6 1 8 00 00 k h (aC (jO 1 k h) 03)
 have e:zx (mV (m4 8) a (i4 5 [k.t]))=zx (mV _ a [.vl k.t,.un,.un,.un,.un]):=rfl;have l:zI ms 02 (Zr (z9 (cE (.str "whole")) (z9 (cE (.str "pick")) (zj)))) [.vl k.t,.un,.un,.un,.un]=.ok true:=by
  rw[i,Hh,d]
 have f:zJ (lG Zv (za 1 (m4 8) (z9 04 (zj)))) [.vl k.t,.un,.un,.un,.un]=.rt (.int (k.all.length)):=by
  refine zy ?_;rw[jm,Zq,zQ,v0,af,j,af,Dw]
 rw[e,mV,zP (by rw[JZ l,f])]
 rfl
def Fu (b:Bool):b2 b=(iv b:Int):=by cases b<;>rfl
def VJ {i:List T->R T}{d:Nat}(hd:d+1<=3)(f:List Kd)(h:(Kd.row f).Ok (d+1))(H:∀k:Kd,k.Ok d->i [k.t]=.ok (.int (k.all.length:Int))):zx (mV (m4 8) i (i4 5 [(Kd.row f).t]))=.ok (.int ((Kd.row f).all.length:Int)):=by
 have j:=Dg (jO _ _ h) hd;rw[Jw]at j⊢;obtain⟨S,G,u⟩:=h;simp only[Kd.t,Kd.ts_map];have e:zx (mV (m4 8) i (i4 5 [.tup [.str "row",.tup (f.map Kd.t)]]))=zx (mV _ i [.vl _,.un,.un,.un,.un]):=rfl;have o:zI ms 02 (Zr (z9 (cE (.str "whole")) (z9 (cE (.str "pick")) (zj)))) [.vl (.tup [.str "row",.tup (f.map Kd.t)]),.un,.un,.un,.un]=.ok false:=by
  rfl
 have B:zM (zW 0) Zh (za 1 i (z9 04 (zj))) 1 [] [.vl (.tup [.str "row",.tup (f.map Kd.t)]),.un,.un,.un,.un] (f.map Kd.t)=.ok ((f.map λk=>k.all.length).map λ(n:Nat)=>T.int (n)):=by
  unfold zM;rw[if_pos (by rw[ah];exact aC G 03)]
  have:∀(f:List Kd) (x:Sl),(∀k∈f,k.Ok d)->zR (zW 0) Zh (za 1 i (z9 04 (zj))) (f.map Kd.t) [x]=.ok ((f.map λk=>k.all.length).map λ(n:Nat)=>T.int (n)):=by
   intro f
   induction f with
   |nil=>intro _ _;rfl
   |cons k f N=>
    intro x l;have o:zR (zW 0) Zh (za 1 i (z9 04 (zj))) ((k::f).map _) [x]=(za 1 i _ [.vl k.t]).bind λv=>(zR _ _ _ _ [.vl k.t]).bind λvs=>.ok _:=rfl;rw[o,zQ,v0,af,H k (l k aq),N _ λD p=>l D (ae _ p)];rfl
  show quiet (zR _ _ _ _ [.un])=_;rw[this f .un u];rfl
 have J:md (zI ko 02 (cE (.str "row"))) (Z9 (j3 (zd i3 04 01)) (zW 0) (Zh) (za 1 i (z9 04 (zj))) 1 []) (Zs (zj)) [.vl (.tup [.str "row",.tup (f.map Kd.t)]),.un,.un,.un,.un]=.ok (.lst ((f.map λk=>k.all.length).map λ(n:Nat)=>T.int (n))):=by
  unfold md;rw[m5,af,show (("row":Str)=="row")=true from rfl,if_pos rfl,Zf,Jc,JL];show ((R.ok _).bind _)=_;rw[af,B,af]
 obtain⟨U,y⟩:=UX (a:=.vl _) (f.map λk=>k.all.length) 1 .un .un (λn hn=>by
  obtain⟨k,l,rfl⟩:=aO.mp hn;exact ZJ d k (u k l)) (by rw[cG];exact j)
 rw[cG]at y;have I:jM (j3 (vE 1)) _ _ [.vl _,.vl (.lst ((f.map λk=>k.all.length).map λ(n:Nat)=>T.int (n))),.vl (.int 1),.un,.un]=_:=y;rw[e,mV,zb (zF o),zb (Z4 J)];have Q:([.vl (.tup [.str "row",.tup (f.map Kd.t)]),.un,.un,.un,.un]:En).set 1 (.vl (.lst ((f.map λk=>k.all.length).map λ(n:Nat)=>T.int (n))))=[.vl _,.vl (.lst ((f.map λk=>k.all.length).map λ(n:Nat)=>T.int (n))),.un,.un,.un]:=rfl;rw[Q,zb (Z4 Z2)];have P:([.vl (.tup [.str "row",.tup (f.map Kd.t)]),.vl (.lst ((f.map λk=>k.all.length).map λ(n:Nat)=>T.int (n))),.un,.un,.un]:En).set 2 (.vl (.int 1))=[.vl _,.vl (.lst ((f.map λk=>k.all.length).map λ(n)=>T.int _)),.vl _,.un,.un]:=rfl;rw[P,zb I];rfl
def C6 {f g:En->R T}{ρ:En}{i j c:Int}(d:f ρ=.ok (.int i))(a:g ρ=.ok (.int j)):mo lQ lQ f (cE (.int c)) g ρ=.ok (.bl (decide (i<=c)&&decide (c<=j))):=by
 rw[qU,d,af,Z2,af,WH,a];cases decide (i<=c)<;>rfl
def Wh (a b:Nat):decide ((a:Int)<=(b:Int))=decide (a<=b):=by
 by_cases h:a<=b
 ·rw[decide_eq_true h];exact decide_eq_true 00
 ·rw[decide_eq_false h];exact decide_eq_false 00
def UY (a b:Nat):((a:Int)==(b:Int))=(a==b):=by
 by_cases h:a=b
 ·subst h;simp
 ·rw[beq_eq_false_iff_ne.mpr h,beq_eq_false_iff_ne];lia
def tQ {f:En->R T}{ρ:En}{b:Bool}(h:f ρ=.ok (.bl b)):lG qf f ρ=.ok (.int ((iv b:Nat):Int)):=by
 rw[Zq,h];show R.ok _=_;rw[Fu]
def Q8 {f g:En->R T}{ρ:En}{i j:Nat}(d:f ρ=.ok (.int (i:Int)))(a:g ρ=.ok (.int (j:Int))):zd zE f g ρ=.ok (.int ((i+j:Nat):Int)):=by
 rw[zv,d,af,a,af,Z3,Int.natCast_add]
def Jx {f g:En->R T}{ρ:En}{i j:Nat}(h:i<2^60)(d:f ρ=.ok (.int (i:Int)))(a:g ρ=.ok (.int (j:Int))):zd Z7 f g ρ=.ok (.int ((i*j:Nat):Int)):=by
 rw[zv,d,af,a,af,Q7 h]
def Ke {d n:Nat}(h:n<=mx d)(hd:d+1<=3)(o:1<=d):n*n*n<2^60/\n*n<2^60/\n<2^60:=by
 have a:n<=70644:=by
  have:d=1\/d=2:=by lia
  have f:mx 2=70644:=by decide
  have a:mx 1=41:=by decide
  rcases this with rfl|rfl<;>lia
 have f:=dj a a;have i:=dj f a;have k:70644*70644*70644<2^60:=by decide
 have j:70644*70644<2^60:=by decide
 have l:70644<2^60:=by decide
 exact⟨cb i k,cb f j,cb a l⟩
noncomputable abbrev mt (t:T)(lo hi:Nat):T:=.tup [.str "many",t,.int (lo:Int),.int (hi:Int)]
def oR {t:T}{a b c d:Sl}{ρ:En}:vE 4 (a::b::c::d::.vl t::ρ)=.ok t:=rfl
def Q9 {t:T}{a x:Sl}{lo hi n:Nat}(v:n*n*n<2^60)(u:n*n<2^60)(d:n<2^60):
  zA (zY 2 (zd zE (lG qf (jI ko (zd i3 04 08) (cE (.int 0)))) (zd Z7 (vE 4) (lG qf (mo lQ lQ (zd i3 04 08) 01 (zd i3 04 (cE (.int 3))))))))
  (zA (zY 2 (zd zE (vE 2) (zd Z7 (zd Z7 (vE 4) (vE 4)) (lG qf (mo lQ lQ (zd i3 04 08) 08 (zd i3 04 (cE (.int 3))))))))
  (zY 2 (zd zE (vE 2) (zd Z7 (zd Z7 (zd Z7 (vE 4) (vE 4)) (vE 4)) (lG qf (jI ko (zd i3 04 (cE (.int 3))) (cE (.int 3))))))))
  [.vl (mt t lo hi),a,.vl (.int 1),x,.vl (.int (n:Int))]=.nx [.vl (mt t lo hi),a,.vl (.int ((iv (lo==0)+n*iv (decide (lo<=1)&&decide (1<=hi))+n*n*iv (decide (lo<=2)&&decide (2<=hi))+n*n*n*iv (hi==3):Nat):Int)),x,.vl (.int (n:Int))]:=by
 have o:∀{p q r s:Sl},lG _ (mo lQ lQ _ _ _) [.vl (mt t lo hi),p,q,r,s]=.ok (.int ((iv (decide (lo<=1)&&decide (1<=hi))):Int)):=λ{p q r s}=>tQ (by
  rw[C6 uE KU];rw[show decide ((lo:Int)<=1)=decide _ from Wh lo 1,show decide ((1:Int)<=(hi))=decide _ from Wh 1 hi])
 have k:∀{p q r s:Sl},lG _ (mo lQ lQ _ _ _) [.vl (mt t lo hi),p,q,r,s]=.ok (.int ((iv (decide (lo<=2)&&decide (2<=hi))):Int)):=λ{p q r s}=>tQ (by
  rw[C6 uE KU];rw[show decide ((lo:Int)<=2)=decide _ from Wh lo 2,show decide ((2:Int)<=(hi))=decide _ from Wh 2 hi])
 have j:∀{p q r s:Sl},lG _ (jI ko (zd i3 _ _) (cE _)) [.vl (mt t lo hi),p,q,r,s]=.ok _:=λ{p q r s}=>tQ (by
  rw[j4,uE,af,Z2,af,mQ,af,show ((lo:Int)==0)=(lo==0) from UY lo 0])
 have f:∀{p q r s:Sl},lG _ (jI ko (zd i3 _ _) (cE _)) [.vl (mt t lo hi),p,q,r,s]=.ok _:=λ{p q r s}=>tQ (by
  rw[j4,KU,af,Z2,af,mQ,af,show ((hi:Int)==3)=(hi==3) from UY hi 3])
 have l:=Z4 (i:=2) (Q8 (j (p:=a) (q:=.vl (.int 1)) (r:=x)) (Jx d oR o));have l:zY 2 _ _=.nx [.vl _,a,.vl _,x,.vl _]:=l;rw[zb l];generalize iv _+n*iv _=m1;have y:=Z4 (i:=2) (Q8 (v2 (t:=.int (m1)) (b:=a) (ρ:=[x,.vl _])) (Jx u (Jx d oR oR) k));rw[zb y];generalize m1+n*n*iv _=m2;have B:=Z4 (i:=2) (Q8 (v2 (t:=.int (m2)) (b:=a) (ρ:=[x,.vl _])) (Jx v (Jx u (Jx d oR oR) oR) f));exact B
def Qa {f:List T->R T}{d:Nat}(hd:d+1<=3)(k:Kd)(lo hi:Nat)(h:(Kd.many k lo hi).Ok (d+1))(H:∀k:Kd,k.Ok d->f [k.t]=.ok (.int (k.all.length:Int))):zx (mV (m4 8) f (i4 5 [(Kd.many k lo hi).t]))=.ok (.int ((Kd.many k lo hi).all.length:Int)):=by
 obtain⟨v,u,i⟩:=h;have j:1<=d:=by
  cases d with
  |zero=>exact i.elim
  |succ d=>lia
 obtain⟨I,Q,y⟩:=Ke (jO d k i) hd j;rw[jG,Ka _ v u];simp only[Kd.t];have l:=H k i;generalize k.all.length=n at*;generalize k.t=t at*;have e:zx (mV (m4 8) f (i4 5 [mt t lo hi]))=zx (mV _ f [.vl _,.un,.un,.un,.un]):=rfl;have G:zI ms 02 (Zr (z9 (cE (.str "whole")) (z9 (cE (.str "pick")) (zj)))) [.vl (mt t lo hi),.un,.un,.un,.un]=.ok false:=by
  rfl
 have N:md (zI ko 02 (cE (.str "row"))) (Z9 (j3 (zd i3 04 01)) (zW 0) (Zh) (za 1 f (z9 04 (zj))) 1 []) (Zs (zj)) [.vl (mt t lo hi),.un,.un,.un,.un]=.ok (.lst []):=by
  rfl
 have X:([.vl (mt t lo hi),.un,.un,.un,.un]:En).set 1 (.vl (.lst []))=[.vl _,.vl _,.un,.un,.un]:=rfl;have S:([.vl (mt t lo hi),.vl (.lst []),.un,.un,.un]:En).set 2 (.vl (.int 1))=[.vl _,.vl _,.vl _,.un,.un]:=rfl;have B:jM (j3 (vE 1)) (zW 3) (zY 2 (zd Z7 (vE 2) (vE 3))) [.vl (mt t lo hi),.vl (.lst []),.vl (.int 1),.un,.un]=.nx _:=rfl;have D:zI ko 02 (cE (.str "many")) [.vl (mt t lo hi),.vl (.lst []),.vl (.int 1),.un,.un]=.ok true:=by
  rfl
 have o:za 1 f (z9 (zd i3 04 01) (zj)) [.vl (mt t lo hi),.vl (.lst []),.vl (.int 1),.un,.un]=.ok (.int (n)):=by
  rw[zQ,JL,af,l]
 have J:([.vl (mt t lo hi),.vl (.lst []),.vl (.int 1),.un,.un]:En).set 4 (.vl (.int (n)))=[.vl _,.vl _,.vl _,.un,.vl _]:=rfl;have U:=Q9 (t:=t) (a:=.vl (.lst [])) (x:=.un) (lo:=lo) (hi:=hi) I Q y;rw[e,mV,zb (zF G),zb (Z4 N),X,zb (Z4 Z2),S,zb B];have p:∀(P:En->RS),lK _ (zA _ P) lL _=P _:=λP=>by
  rw[JZ D,zb (Z4 o),J]
 rw[zb (Eq.trans (p _) U)];rfl
theorem Qb:∀(d n:Nat),d<=n->d<=3->∀k:Kd,k.Ok d->tZ n 0 [k.t]=.ok (.int (k.all.length:Int))
 |0,_,_,_,_,h=>h.elim
 |d+1,0,hn,_,_,_=>by lia
 |d+1,n+1,hn,hd,k,h=>by
  have H:=λi a=>Qb d n 00 00 i a
  cases k with
  |whole lo hi=>exact uG _ (VH d lo hi h) (x:="whole") (r:=[.int lo,.int hi]) (by simp only[Kd.t]) rfl
  |pick f=>exact uG _ (VI d f h) (x:="pick") (r:=[.tup (f.map W2)]) (by simp only[Kd.t]) rfl
  |row j=>exact VJ 00 j h H
  |many k lo hi=>exact Qa 00 k lo hi h H
theorem Ok.mono:∀(d:Nat) (k:Kd),k.Ok d->k.Ok (d+1)
 |0,_,h=>h.elim
 |d+1,.whole _ _,h=>h
 |d+1,.pick _,h=>h
 |d+1,.row f,h=>⟨h.1,h.2.1,λk a=>Ok.mono d k (h.2.2 k a)⟩
 |d+1,.many k _ _,h=>⟨h.1,h.2.1,Ok.mono d k h.2.2⟩
def Kf (j:Int):Z7 (.int 700) (.int j)=.ok (.int (700*j)):=Q0 _ _ (.inl ⟨by decide,by decide⟩)
def CY (ns:List Int)(d:Nat)(j:1<=d)(l:d<=8)(k:Int)(f:0<=k):∃q:Kd,nS 8 [lN ns,.int k,.int (d:Int)]=.ok q.t/\q.Ok d:=by
 obtain⟨t,a,hi⟩:=Ue ns d 8 l j k f;obtain⟨q,rfl,i⟩:=Uh d t hi;exact⟨q,a,i⟩
abbrev ox:En->RS:=zA (lK (zI lQ (za 1 (rF 8) (z9 (vE 3) (zj))) (vB 2)) (zJ (vE 3)) (lL))
  (zY 3 (za 3 (nS 8) (z9 04 (z9 (zd zE (zd zE (vE 1) (cE (.int 500))) (zd Z7 (cE (.int 700)) (vE 4))) (z9 08 (zj))))))
abbrev ni (ns:List Int)(a:Int)(m:Nat)(k:Kd)(x:Sl):En:=[.vl (lN ns),.vl (.int a),.vl (.int (m:Int)),.vl k.t,x]
def Qc {ns:List Int}{a:Int}{m:Nat}{k:Kd}{x:Sl}(d:k.Ok 3):zI lQ (za 1 (rF 8) (z9 (vE 3) (zj))) (vB 2) (ni ns a m k x)=.ok (decide (k.all.length<=m)):=by
 have e:rF 8 _=.ok _:=Qb 3 8 00 00 k d
 rw[zO,zQ,v3,af,e,af,w2,af,WH,Wh]
def Kg (ns:List Int){a:Int}{m:Nat}(o:0<=a){k:Kd}(f:k.Ok 3)(j:Nat):(k.all.length<=m/\ox (ni ns a m k (.vl (.int (0+(j:Int)))))=.rt k.t)\/∃i:Kd,i.Ok 3/\ox (ni ns a m k (.vl (.int (0+(j:Int)))))=.nx (ni ns a m i (.vl (.int (0+(j:Int))))):=by
 by_cases h:k.all.length<=m
 ·refine .inl ⟨h,?_⟩;refine zP ?_;rw[JZ (by rw[Qc f,decide_eq_true h])]
  exact zy rfl
 ·obtain⟨q,d,l⟩:=CY ns 2 00 00 (a+500+700*(0+(j))) 00
  refine .inr ⟨q,Ok.mono 2 q l,?_⟩;unfold ox;rw[zb (zF (by rw[Qc f,decide_eq_false h]))]
  have d:nS 8 [lN ns,.int _,.int 2]=.ok q.t:=d;have e:za 3 (nS 8) (z9 04 (z9 (zd zE (zd zE (vE 1) (cE (.int 500))) (zd Z7 (cE (.int 700)) (vE 4))) (z9 08 (zj)))) (ni ns a m k (.vl (.int (0+(j)))))=.ok q.t:=by
   rw[Zi,v0,af,zv,zv,v1,af,Z2,af,Z3,af,zv,Z2,af,v4,af,Kf,af,Z3,af,Z2,af,d]
  rw[Z4 e];rfl
def E8 {g:T->En->R En}{d:En->RS}{t:T}{ts:List T}{ρ a:En}{r:T}(f:g t ρ=.ok a)(i:d a=.rt r):ZK g d (t::ts) ρ=.rt r:=by
 rw[ZK,f];dsimp only;rw[i]
theorem Qd (ns:List Int){a:Int}{m:Nat}(o:0<=a):∀(js:List Nat) (k:Kd) (x:Sl),k.Ok 3->(∃d:Kd,d.Ok 3/\d.all.length<=m/\ZK (zW 4) ox (js.map λ(j:Nat)=>T.int (0+(j:Int))) (ni ns a m k x)=.rt d.t)\/
  ∃(d:Kd) (u:Sl),d.Ok 3/\ZK (zW 4) ox (js.map λ(j:Nat)=>T.int (0+(j:Int))) (ni ns a m k x)=.nx (ni ns a m d u)
 |[],k,x,f=>.inr ⟨k,x,f,rfl⟩
 |j::js,k,x,f=>by
  have p:zW 4 (T.int (0+(j))) (ni ns a m k x)=.ok _:=rfl;rw[aK];rcases Kg ns o f j with ⟨l,i⟩|⟨d,l,i⟩
  ·exact .inl ⟨k,f,l,E8 p i⟩
  ·rw[wK p i];exact Qd ns o js d _ l
def VL (ns:List Int)(a:Int)(o:0<=a)(m:Nat)(u:4<=m):∃k:Kd,k.Ok 3/\k.all.length<=m/\KR [lN ns,.int a,.int (m:Int)]=.ok k.t:=by
 obtain⟨q,i,v⟩:=CY ns 3 00 00 a o
 have i:nS 8 [lN ns,.int a,.int 3]=.ok q.t:=i;have e:KR [lN ns,.int a,.int (m)]=zx (tq _ _ [.vl _,.vl _,.vl _,.un,.un]):=rfl;have y:za 3 (nS 8) (z9 04 (z9 (vE 1) (z9 (cE (.int 3)) (zj)))) [.vl (lN ns),.vl (.int a),.vl (.int (m)),.un,.un]=.ok q.t:=by
  rw[Zi,v0,af,v1,af,Z2,af,i]
 have B:([.vl _,.vl _,.vl _,.un,.un]:En).set 3 _=ni ns a m q .un:=rfl;rw[e,tq,zb (Z4 y),B];rcases Qd ns o _ q .un v with ⟨k,d,p,f⟩|⟨k,x,d,f⟩
 ·refine⟨k,d,p,?_⟩;have j:jM (Zl (cE (.int 3))) (zW 4) ox _=.rt k.t:=f;rw[zP j];rfl
 ·have j:jM (Zl (cE (.int 3))) (zW 4) ox _=.nx _:=f;rw[zb j];have l:zI lQ _ _ (frz (ni ns a m k x))=.ok _:=Qc d
  by_cases h:k.all.length<=m
  ·refine⟨k,d,h,?_⟩;rw[zy]
   ·rfl
   ·unfold md;rw[l,decide_eq_true h];rfl
  ·refine⟨.whole (-1) 2,⟨by lia,by lia,by lia⟩,by exact u,?_⟩
   rw[zy]
   ·rfl
   ·unfold md;rw[l,af,decide_eq_false h,if_neg aN];rfl
mutual
noncomputable def Kd.has:Kd->T->Bool
 |.whole lo hi=>λt=>n9 lo hi t
 |.pick d=>λt=>match t with|.str x=>d.any λc=>c.1==x|_=>false
 |.row a=>λt=>match t with|.tup xs=>xs.length==a.length&&Kd.hass a xs|_=>false
 |.many k lo hi=>λt=>match t with|.tup xs=>decide (lo<=xs.length)&&decide (xs.length<=hi)&&xs.all k.has|_=>false
noncomputable def Kd.hass:List Kd->List T->Bool
 |[]=>λ_=>true
 |k::a=>λxs=>match xs with|[]=>true|x::xs=>k.has x&&Kd.hass a xs
end
theorem WL:∀(a:List Kd) (xs:List T),Kd.hass a xs=(a.zip xs).all λq=>q.1.has q.2
 |[],_=>by simp[Kd.hass]
 |k::a,[]=>by simp[Kd.hass]
 |k::a,x::xs=>by simp[Kd.hass,WL a xs]
noncomputable def yV:List (List T)->List T->Prop
 |[],[]=>True
 |l::a,x::xs=>x∈l/\yV a xs
 |_,_=>False
theorem wL:∀(i made:List (List T)) (xs:List T),xs∈ZD made i↔∃a∈made,∃b,yV i b/\xs=a++b
 |[],made,xs=>by
  rw[ZD];constructor
  ·exact λh=>⟨xs,h,[],trivial,by simp⟩
  ·rintro⟨a,f,b,d,rfl⟩
   cases b with
   |nil=>simpa using f
   |cons=>exact d.elim
 |l::i,made,xs=>by
  rw[ZD,wL i];constructor
  ·rintro⟨p,j,b,d,rfl⟩
   obtain⟨a,f,o⟩:=cP.mp j;obtain⟨x,k,e⟩:=aO.mp o;exact⟨a,f,x::b,⟨k,d⟩,by rw[←e];simp⟩
  ·rintro⟨a,f,b,d,rfl⟩
   cases b with
   |nil=>exact d.elim
   |cons x b=>exact⟨a++[x],cP.mpr ⟨a,f,aO.mpr ⟨x,d.1,rfl⟩⟩,b,d.2,by simp⟩
def WM (d:List (List T))(t:T):t∈Y7 d↔∃xs,yV d xs/\t=.tup xs:=by
 rw[aO];constructor
 ·rintro⟨xs,h,rfl⟩
  obtain⟨a,i,b,f,rfl⟩:=(wL d _ xs).mp h;rw[aQ.mp i];exact⟨b,f,rfl⟩
 ·rintro⟨xs,h,rfl⟩
  exact⟨xs,(wL d _ xs).mpr ⟨[],aQ.mpr rfl,xs,h,rfl⟩,rfl⟩
theorem WN (l:List T):∀(m:Nat) (xs:List T),yV (ac m l) xs↔xs.length=m/\∀x∈xs,x∈l
 |0,[]=>by simp[yV]
 |0,x::xs=>by simp[yV]
 |m+1,[]=>by simp[yV,bA]
 |m+1,x::xs=>by
  show x∈l/\yV _ xs↔_;rw[WN l m xs];simp;constructor
  ·rintro⟨a,b,c⟩;exact⟨b,a,c⟩
  ·rintro⟨a,b,c⟩;exact⟨b,a,c⟩
theorem uH:∀(d:List Kd),(∀k∈d,∀x,x∈k.all↔k.has x=true)->∀xs,yV (d.map Kd.all) xs↔(xs.length==d.length&&Kd.hass d xs)=true
 |[],_,[]=>by simp[yV,Kd.hass]
 |[],_,x::xs=>by simp[yV]
 |k::d,h,[]=>by simp[yV]
 |k::d,h,x::xs=>by
  show x∈k.all/\yV _ xs↔_;rw[uH d (λi f=>h i (ae _ f)) xs,h k aq x];simp[Kd.hass];constructor
  ·rintro⟨a,b,c⟩;exact⟨b,a,c⟩
  ·rintro⟨a,b,c⟩;exact⟨b,a,c⟩
mutual
theorem jo:∀(k:Kd) (x:T),x∈k.all↔k.has x=true
 |.whole lo hi,x=>by
  rw[Kd.all,Kd.has,aO];constructor
  ·rintro⟨i,a,rfl⟩
   rw[bn]at a;simp[n9];lia
  ·intro h;obtain⟨i,rfl⟩:=Uf h;simp[n9]at h;exact⟨(i-lo).toNat,by rw[bn];lia,by congr 1;lia⟩
 |.pick j,x=>by
  rw[Kd.all,Kd.has,aO];constructor
  ·rintro⟨c,d,rfl⟩
   simp only[fQ];exact⟨c,d,by simp⟩
  ·intro h;dsimp only at h;split at h
   ·rw[fQ]at h;obtain⟨c,d,e⟩:=h;exact⟨c,d,by rw[eq_of_beq e]⟩
   ·cases h
 |.row f,x=>by
  rw[Kd.all,Kd.has,WM,Kd.alls_map];have:=uH f (UZ f);constructor
  ·rintro⟨xs,h,rfl⟩
   exact(this xs).mp h
  ·intro h;dsimp only at h;split at h
   ·rename_i xs;exact⟨xs,(this xs).mpr h,rfl⟩
   ·cases h
 |.many k lo hi,x=>by
  rw[Kd.all,Kd.has,cP];constructor
  ·rintro⟨i,a,h⟩
   rw[WM]at h;obtain⟨xs,h,rfl⟩:=h;rw[WN]at h;rw[bn]at a;simp only[ai,decide_eq_true_eq,aI];exact⟨⟨by lia,by lia⟩,λy hy=>(jo k y).mp (h.2 y hy)⟩
  ·intro h;dsimp only at h;split at h
   ·rename_i xs;simp only[ai,decide_eq_true_eq,aI]at h;refine⟨xs.length-lo,by rw[bn];lia,?_⟩
    rw[WM];exact⟨xs,(WN _ _ _).mpr ⟨by lia,λy hy=>(jo k y).mpr (h.2 y hy)⟩,rfl⟩
   ·cases h
theorem UZ:∀(a:List Kd),∀k∈a,∀x,x∈k.all↔k.has x=true
 |[],_,h=>nomatch h
 |k::a,d,h=>by
  rcases ay.mp h with e|h
  ·intro x;rw[e];exact jo k x
  ·exact UZ a d h
end
theorem Wi {c:List T->R T}:∀(a:List (Kd×T)) (x y:Sl),(∀q∈a,c [q.1.t,q.2]=.ok (.bl (q.1.has q.2)))->zR (Zb 0 1) Zh (za 2 c (z9 04 06)) (a.map λq=>T.tup [q.1.t,q.2]) [x,y]=.ok (a.map λq=>T.bl (q.1.has q.2))
 |[],_,_,_=>rfl
 |q::a,x,y,h=>by
  have e:za 2 c (z9 04 06) [.vl q.1.t,.vl q.2]=.ok (.bl (q.1.has q.2)):=by
   rw[zU,v0,af,v1,af,h q aq]
  have f:=Wi a (.vl q.1.t) (.vl q.2) λr hr=>h r (ae _ hr);have d:zR (Zb 0 1) Zh (za 2 c (z9 04 06)) ((q::a).map λq=>T.tup [q.1.t,q.2]) [x,y]=
   (za 2 c _ [.vl _,.vl q.2]).bind λv=>(zR _ _ _ (a.map λq=>T.tup _) [.vl _,.vl q.2]).bind λvs=>.ok _:=rfl
  rw[d,e,af,f,af,aK]
theorem WO {d:Type}(p:d->Bool):∀a:List d,uk (a.map λq=>T.bl (p q))=some (a.all p)
 |[]=>rfl
 |q::a=>by
  have e:uk ((q::a).map λq=>T.bl (p q))=match uk (a.map λq=>T.bl _)with|some j=>some _|none=>none:=rfl
  rw[e,WO p a];rfl
def Dl (a:List Kd)(xs:List T):vh (a.map Kd.t) xs=(a.zip xs).map λq=>T.tup [q.1.t,q.2]:=by
 unfold vh;rw[List.zip_map_left,bv];rfl
def y9 {c:List T->R T}{s:T}(a:List Kd)(xs:List T)(j:Jp s=.ok (a.map Kd.t))(d:a.length<=3)(H:∀q∈a.zip xs,c [q.1.t,q.2]=.ok (.bl (q.1.has q.2))):
  zx (tu c (i4 2 [s,.tup xs]))=.ok (.bl ((a.zip xs).all λq=>q.1.has q.2)):=by
 have f:kv 04 (vE 1) [.vl s,.vl (.tup xs)]=.ok ((a.zip xs).map λq=>T.tup [q.1.t,q.2]):=by
  show (Jp s).bind _=_;rw[j,←Dl];rfl
 have l:((a.zip xs).map λq=>T.tup [q.1.t,q.2]).length<=lM:=by
  rw[ah,hU];exact aC (lx _ _) (aC d 03)
 have i:zM (Zb 0 1) Zh (za 2 c (z9 04 06)) 2 [] [.vl s,.vl (.tup xs)] ((a.zip xs).map λq=>T.tup [q.1.t,q.2])=.ok ((a.zip xs).map λq=>T.bl (q.1.has q.2)):=by
  unfold zM;rw[if_pos l];show quiet (zR _ _ _ _ [.un,.un])=_;rw[Wi _ _ _ H];rfl
 rw[tu,zy]
 ·rfl
 ·show lG _ _ [.vl s,.vl _]=_;rw[Zq,Zf,f,af,i,af];show (match uk ((a.zip xs).map λq=>T.bl _)with|some k=>_|none=>_)=_
  rw[WO]
def w8 (a:List (Str×Int))(h:a.length<=4):mL [(Kd.pick a).t]=.ok (.lst (a.map λc=>T.str c.1)):=by
 have e:mL [(Kd.pick a).t]=zx (sk [.vl (.tup [.str "pick",.tup (a.map W2)])]):=by rfl
 have i:(a.map W2).length<=lM:=by rw[ah];exact aC h 03
 have d:zM _ _ 02 1 [] [.vl (.tup [.str "pick",.tup (a.map W2)])] _=.ok ((a.map W2).map λc=>match c with|.tup (w::_)=>w|_=>c):=
  Z1 _ i λt f=>by
   obtain⟨c,_,rfl⟩:=aO.mp f;rfl
 rw[e,sk,zy]
 ·rfl
 ·show Z9 _ _ _ _ _ _ [.vl _]=_;show ((zM _ _ _ _ _ _ _).bind _)=_;rw[d,bv];rfl
theorem ya (t:T):∀a:List (Str×Int),wS (λy=>lI 30 y t) (a.map λc=>T.str c.1)=some ((Kd.pick a).has t)
 |[]=>by cases t<;>rfl
 |c::a=>by
  have f:=ya t a;have e:wS (λy=>lI 30 y t) ((c::a).map λc=>T.str c.1)=match lI 30 _ t with
   |none=>none
   |some b=>match wS (λy=>lI 30 y t) (a.map λc=>T.str c.1)with
    |none=>none
    |some d=>some _:=rfl
  rw[e,f];cases t<;>rfl
abbrev lJ (a b:T):En:=[.vl a,.vl b]
def wa {x w:Str}{r:List T}{b:T}(h:(x==w)=false){f:En->RS}:lK (zI ko 02 (cE (.str w))) f lL (lJ (.tup (.str x::r)) b)=.nx (lJ (.tup (.str x::r)) b):=
 zF (by rw[m5,h])
def Qe {x:Str}{r:List T}{b:T}{f:En->RS}:lK (zI ko 02 (cE (.str x))) f lL (lJ (.tup (.str x::r)) b)=f (lJ (.tup (.str x::r)) b):=
 JZ (by rw[m5,beq_self_eq_true])
def Qf {cp:List T->R T}(lo hi:Int)(x:T):zx (ng mO mS mL cp (i4 2 [(Kd.whole lo hi).t,x]))=.ok (.bl ((Kd.whole lo hi).has x)):=by
 have e:i4 2 [(Kd.whole lo hi).t,x]=lJ (.tup [.str "whole",.int lo,.int hi]) x:=by rfl
 rw[e,ng,zP]
 ·rfl
 ·rw[Qe,zy];show jg _ _ (lJ _ x)=_;rw[J9,zQ,v1,af,JU];cases x with
  |int i=>
   rw[qU,JL,af,w1,af,WH,af,uE,af,WH];show _=R.ok (T.bl (decide _&&decide _));cases decide (lo<=i)<;>rfl
  |_=>rfl
def VM {cp:List T->R T}(a:List (Str×Int))(f:a.length<=4)(x:T):zx (ng mO mS mL cp (i4 2 [(Kd.pick a).t,x]))=.ok (.bl ((Kd.pick a).has x)):=by
 have e:i4 2 [(Kd.pick a).t,x]=lJ (.tup [.str "pick",.tup (a.map W2)]) x:=by rfl
 have d:=w8 a f;rw[Kd.t]at d;rw[e,ng,zb (wa 03),zP]
 ·rfl
 ·rw[Qe,zy];show jI _ _ _ (lJ _ x)=_;rw[j4,w1,af,zQ,v0,af,d];show ((match wS (λy=>lI 30 y x) (a.map λ(c:Str×Int)=>T.str c.1)with|some b=>R.ok b|none=>.bad).bind _)=_
  rw[ya];rfl
def Kh {cp:List T->R T}(a:List Kd)(f:a.length<=3)(x:T)(H:∀xs,x=.tup xs->cp [.tup (a.map Kd.t),x]=.ok (.bl ((a.zip xs).all λq=>q.1.has q.2))):zx (ng mO mS mL cp (i4 2 [(Kd.row a).t,x]))=.ok (.bl ((Kd.row a).has x)):=by
 have e:i4 2 [(Kd.row a).t,x]=lJ (.tup [.str "row",.tup (a.map Kd.t)]) x:=by rw[Kd.t,Kd.ts_map];rfl
 rw[e,ng,zb (wa 03),zb (wa 03),zP]
 ·rfl
 ·rw[Qe,zy];show jg _ _ (lJ _ x)=_;have d:lG Zv (zd i3 04 01) (lJ (.tup [.str "row",.tup (a.map Kd.t)]) x)=.ok (.int (a.length)):=by
   rw[Zq,JL,af,Ja,ah]
  rw[J9,Zi,v1,af,d,af,af,ZH,Zw,zU,JL,af,v1,af];cases x with
  |tup xs=>
   rw[H xs rfl];show (if (decide _&&decide _)=true then _ else _)=R.ok (T.bl (xs.length==a.length&&Kd.hass a xs))
   rw[WL]
   by_cases h:xs.length=a.length
   ·simp[h]
   ·rw[if_neg (by simp;lia)]
    simp[h]
  |_=>rfl
theorem Qg (k:Kd):∀xs:List T,((ac xs.length k).zip xs).all (λq=>q.1.has q.2)=xs.all k.has
 |[]=>rfl
 |x::xs=>by
  rw[ax,bA,iB,d6,d6,Qg k xs]
def VN {cp:List T->R T}(k:Kd)(lo hi:Nat)(i:hi<=3)(x:T)(H:∀xs,x=.tup xs->xs.length<=3->cp [.lst ((ac xs.length k).map Kd.t),x]=.ok (.bl (((ac xs.length k).zip xs).all λq=>q.1.has q.2))):zx (ng mO mS mL cp (i4 2 [(Kd.many k lo hi).t,x]))=.ok (.bl ((Kd.many k lo hi).has x)):=by
 have e:i4 2 [(Kd.many k lo hi).t,x]=lJ (.tup [.str "many",k.t,.int (lo),.int (hi)]) x:=by rfl
 rw[e,ng,zb (wa 03),zb (wa 03),zb (wa 03),zy]
 ·rfl
 ·show jg _ _ (lJ _ x)=_;rw[J9,Zi,v1,af,uE,af,KU,af,ZH,Zw];cases x with
  |tup xs=>
   show (if (decide _&&decide _)=true then _ else _)=R.ok (T.bl (decide _&&decide _&&xs.all _))
   cases f:(decide (lo<=xs.length)&&decide (xs.length<=hi))with
   |false=>rfl
   |true=>
    rw[ai,decide_eq_true_eq,decide_eq_true_eq]at f;have a:xs.length<=3:=by lia
    have d:zd Z7 (Zs (z9 (zd i3 04 01) (zj))) (lG Zv (vB 1)) (lJ (.tup [.str "many",k.t,.int (lo),.int (hi)]) (.tup xs))=.ok (.lst ((ac xs.length k).map Kd.t)):=by
     rw[zv,xV JL,af,Zq,w1,af,Ja,af,Wg a,j5,ba]
    rw[zU,d,af,v1,af,H xs rfl a,Qg];rfl
  |_=>rfl
theorem xW:∀(d n:Nat),2*d<=n->∀(k:Kd) (x:T),k.Ok d->m8 n 0 [k.t,x]=.ok (.bl (k.has x))
 |0,_,_,_,_,h=>h.elim
 |d+1,n+2,hn,k,x,h=>by
  have j:=xW d n 00
  have e:m8 (n+2) 0 [k.t,x]=zx (ng mO mS mL (m8 (n+1) 1) (i4 2 [k.t,x])):=by rw[m8]
  have i:∀s y,m8 (n+1) 1 [s,y]=zx _:=λs y=>by rw[m8];intro h;cases h
  cases k with
  |whole lo hi=>exact Qf lo hi x
  |pick p=>exact VM p h.2.1 x
  |row l=>
   refine Kh l h.2.1 x λxs f=>?_;rw[i,f,y9 l xs rfl h.2.1 λq a=>j q.1 q.2 (h.2.2 q.1 (cA a).1)]
  |many k lo hi=>
   refine VN k lo hi h.2.1 x λxs f o=>?_;rw[i,f,y9 _ xs rfl (by rw[aS];exact o) λq a=>j q.1 q.2 (by
    rw[bR (cA a).1];exact h.2.2)]
theorem yb:∀(d:Nat) (k:Kd),k.Ok d->mq d k.t=true
 |0,_,h=>h.elim
 |d+1,.whole lo hi,h=>by
  have e:mq (d+1) (Kd.whole lo hi).t=(decide (-20<=lo)&&decide (lo<=hi)&&decide (hi<=20)):=by rfl
  obtain⟨l,j,i⟩:=h;rw[e];simp;lia
 |d+1,.pick f,h=>by
  have e:mq (d+1) (Kd.pick f).t=(decide (1<=(f.map W2).length)&&decide ((f.map W2).length<=4)&&(f.map W2).all Z6&&decide ((dd [] ((f.map W2).map ZW)).length=(f.map W2).length)):=by rfl
  obtain⟨l,j,i,x⟩:=h;have B:(f.map W2).map ZW=f.map (·.1):=by rw[bv];rfl
  have D:=(WJ _ []).mpr λk w y=>by simpa using x k w y
  rw[e,B,D,ah];simp only[ai,decide_eq_true_eq,aI];refine⟨⟨⟨l,j⟩,λc u=>?_⟩,by simp⟩
  obtain⟨p,hp,rfl⟩:=aO.mp u;obtain⟨a,b,c⟩:=i p hp;show (Zp _&&decide _&&decide _)=true;rw[a];simp;lia
 |d+1,.row o,h=>by
  have e:mq (d+1) (Kd.row o).t=(decide (1<=(o.map Kd.t).length)&&decide ((o.map Kd.t).length<=3)&&(o.map Kd.t).all (mq d)):=by rw[Kd.t,Kd.ts_map];rfl
  obtain⟨l,j,i⟩:=h;rw[e,ah];simp only[ai,decide_eq_true_eq,aI];refine⟨⟨l,j⟩,λc u=>?_⟩;obtain⟨k,v,rfl⟩:=aO.mp u;exact yb d k (i k v)
 |d+1,.many k lo hi,h=>by
  have e:mq (d+1) (Kd.many k lo hi).t=((decide ((0:Int)<=(lo:Int))&&decide ((lo:Int)<=(hi))&&decide ((hi:Int)<=3))&&mq d k.t):=by rfl
  obtain⟨l,j,i⟩:=h;rw[e,yb d k i];simp;lia
theorem WP:∀(a:List Kd) (xs:List T),xs.length=a.length->Kd.hass a xs=true->∀x∈xs,∃k∈a,k.has x=true
 |[],[],_,_,_,h=>nomatch h
 |k::a,[],h,_,_,_=>by cases h
 |[],x::xs,h,_,_,_=>by cases h
 |k::a,x::xs,f,h,y,hy=>by
  rw[Kd.hass]at h;rw[ai]at h;rcases ay.mp hy with rfl|hy
  ·exact⟨k,aq,h.1⟩
  ·obtain⟨i,d,j⟩:=WP a xs (by simpa using f) h.2 y hy
   exact⟨i,ae _ d,j⟩
def JM (t:T)(d:sOk t):nr [t]=if mq 3 t=true then .ok .non else .ex 0:=by
 have e:nr [t]=zx (tH _ [.vl t]):=rfl;have a:JD (jJ (za 1 pM (z9 04 (zj)))) [.vl t]=.ok (!mq 3 t):=by
  rw[wF,JI,zQ,v0,af,yS t d,af,uy,af]
 rw[e,tH,ZV,a];cases mq 3 t<;>rfl
def Ul (k:Kd)(a:k.Ok 3)(x:T):o0 [k.t,x]=.ok (.bl (k.has x)):=by
 have hi:=yb 3 k a;have e:o0 [k.t,x]=zx (tI _ _ (lJ k.t x)):=rfl;have d:ZR (za 1 nr (z9 04 (zj))) (lJ k.t x)=.nx (lJ k.t x):=by
  show (za 1 _ _ _).s _=_;rw[zQ,v0,af,JM _ (JW 3 _ hi).so,hi,if_pos rfl,ZI]
 have f:Bd 20 _=.ok _:=xW 3 20 00 k x a
 rw[e,tI,zb d,zy]
 ·rfl
 ·show za 2 _ _ (lJ k.t x)=_;rw[zU,v0,af,v1,af,f]
theorem yc {l o:Type}(f:l->List o)(m:Nat):∀(as:List l) (i j:Nat),(∀a∈as,(f a).length=m)->j<m->(as.flatMap f)[i*m+j]?=(as[i]?).bind λa=>(f a)[j]?
 |[],i,j,_,_=>by simp
 |a::as,0,j,h,d=>by
  have k:=h a aq;rw[bP,Nat.zero_mul,h9,aG 00]
  rfl
 |a::as,i+1,j,h,d=>by
  have k:=h a aq;have e:(i+1)*m=i*m+m:=by rw[l8,cG]
  rw[bP,aE 00,k,e,show i*m+m+j-m=i*m+j by lia,yc f m as i j (λb p=>h b (ae _ p)) d]
  rfl
theorem uI {i k:Type}(f:i->List k):∀(as:List i) (q j:Nat) (a:i),as[q]?=some a->j<(f a).length->(as.flatMap f)[((as.take q).map λb=>(f b).length).sum+j]?=(f a)[j]?
 |[],q,j,a,h,_=>by simp at h
 |b::as,0,j,a,h,d=>by
  have e:=by simpa using h
  subst e;rw[bP,List.take_zero,ce,List.sum_nil,h9,aG d]
 |b::as,q+1,j,a,h,d=>by
  rw[bP,ik,aK,eC,Nat.add_assoc,aE 00,fN]
  exact uI f as q j a (by simpa using h) d
theorem Wj:∀(d made:List (List T)) (l:List T),ZD made (d++[l])=(ZD made d).flatMap λa=>l.map λx=>a++[x]
 |[],made,l=>rfl
 |_::d,made,l=>by
  rw[du,ZD,ZD,Wj d]
def VO {f:List (List T)}{l:List T}{i j:Nat}{xs:List T}{x:T}(h:(ZD [[]] f)[i]?=some xs)(d:l[j]?=some x):(ZD [[]] (f++[l]))[i*l.length+j]?=some (xs++[x]):=by
 have k:=(ak.mp d).1;rw[Wj,yc _ _ _ i j (λa _=>ah ..) k,h];show (l.map λx=>xs++[x])[j]?=_;rw[aj,d];rfl
theorem yd:∀(ns:List Nat) (n:Nat),lT (ns++[n])=lT ns*n
 |[],n=>by simp[lT]
 |m::ns,n=>by rw[du,lT,lT,yd ns n,d8]
def Wk (a:List (List T)):(ZD [[]] a).length=lT (a.map (·.length)):=by rw[wJ,aX,cG]
def jp {a:Type}{xs:List a}{i:Nat}(h:i<xs.length):∃x,xs[i]?=some x:=⟨_,am h⟩
def HA {xs:List T}{j:Nat}{v:T}(h:xs[j]?=some v):l0 xs (j:Int)=.ok v:=by unfold l0;rw[ZZ h]
noncomputable def mz (c lo q:Nat):Nat:=((aZ q).map λi=>c^(lo+i)).sum
def VP (c lo q:Nat):mz c lo (q+1)=mz c lo q+c^(lo+q):=by
 unfold mz;rw[lw,c9];simp
def Ki {k:Kd}{lo hi q j:Nat}{xs:List T}(a:q<hi+1-lo)(h:(ZD [[]] (ac (lo+q) k.all))[j]?=some xs):(Kd.many k lo hi).all[mz k.all.length lo q+j]?=some (.tup xs):=by
 have d:=(ak.mp h).1;have e:=uI (λi=>Y7 (ac _ _)) _ q j q (by rw[cI a]) (by rw[ah];exact d)
 have f:(((aZ (hi+1-lo)).take q).map λb=>(Y7 (ac (lo+b) k.all)).length).sum=mz k.all.length lo q:=by
  rw[List.take_range,eG (fS a),mz];congr 1
  refine cu λi _=>?_;rw[JY,ba,jn]
 rw[f]at e;rw[Kd.all,e];rw[aj,h];rfl
abbrev sC (c:List T->R T):En->RS:=zY 1 (zd Z7 (vE 1) (za 1 c (z9 (vE 2) (zj))))
theorem Qh {c:List T->R T}{S:Sl}:∀(d:List Kd) (m:Nat) (x:Sl),(∀k∈d,c [k.t]=.ok (.int (k.all.length:Int))/\1<=k.all.length)->m*lT (d.map λk=>k.all.length)<2^60->
  ∃y,ZK (zW 2) (sC c) (d.map Kd.t) [S,.vl (.int (m:Int)),x]=.nx [S,.vl (.int ((m*lT (d.map λk=>k.all.length):Nat):Int)),y]
 |[],m,x,_,_=>⟨x,by simp[ZK,lT]⟩
 |k::d,m,x,H,i=>by
  obtain⟨p,o⟩:=H k aq;have hp:=wI λn hn=>by
   obtain⟨f,a,rfl⟩:=aO.mp hn;exact(H f (ae _ a)).2
  rw[aK,lT,←d8]at i;have l:m<2^60:=by
   have B:m<=m*k.all.length:=cO _ o;have v:m*k.all.length<=m*k.all.length*lT (d.map λk=>k.all.length):=cO _ hp;lia
  have j:sC c [S,.vl (.int (m)),.vl k.t]=.nx [S,.vl (.int ((m*k.all.length:Nat))),.vl k.t]:=by
   rw[sC,Z4]
   ·rfl
   ·rw[zv,v1,af,zQ,v2,af,p,af,Q7 l]
  obtain⟨y,u⟩:=Qh (S:=S) d _ _ (λf a=>H f (ae _ a)) i;refine⟨y,?_⟩;rw[aK,wK rfl j,u,aK,lT,d8]
def wM {c:List T->R T}{s:T}(a:List Kd)(f:ww s=.ok (a.map Kd.t))(H:∀k∈a,c [k.t]=.ok (.int (k.all.length:Int))/\1<=k.all.length)(i:lT (a.map λk=>k.all.length)<2^60):
  zx (ph c (i4 3 [s]))=.ok (.int ((lT (a.map λk=>k.all.length):Nat):Int)):=by
 obtain⟨y,e⟩:=Qh a 1 .un H (by rw[cG];exact i)
 rw[cG]at e;have d:zY 1 01 [.vl s,.un,.un]=.nx [.vl s,.vl _,.un]:=rfl;have j:jM (j3 04) (zW 2) (sC c) [.vl s,.vl (.int 1),.un]=.nx [.vl s,.vl (.int ((lT (a.map λk=>k.all.length)):Int)),y]:=by
  show ((ww s).s λts=>ZK _ _ ts _)=_;rw[f];exact e
 show zx (ph c [.vl s,.un,.un])=_;rw[ph,zb d,zb j];rfl
theorem Qi {d:Type}(g:d->Nat):∀l:List d,ZL (l.map λa=>T.int ((g a:Nat):Int))=some (l.map λa=>((g a:Nat):Int))
 |[]=>rfl
 |a::l=>by
  show (match ZL (l.map λa=>T.int _)with|some l=>some _|none=>none)=_
  rw[Qi g l];rfl
theorem ye {d:Type}(g:d->Nat):∀l:List d,(l.map λa=>((g a:Nat):Int)).sum=(((l.map g).sum:Nat):Int)
 |[]=>rfl
 |a::l=>by rw[aK,eC,aK,eC,ye g l];lia
def FY {d:Type}(g:d->Nat)(l:List d):Ve (.lst (l.map λa=>T.int ((g a:Nat):Int)))=.ok (.int (((l.map g).sum:Nat):Int)):=by
 unfold Ve;dsimp only;rw[Qi,←ye]
def Jk (k:Kd)(m:Nat):((ac m k).map λk=>k.all.length)=ac m k.all.length:=by rw[ba]
def Qj {c:List T->R T}{t:T}{n lo hi q:Nat}(u:lo+q<=4)(H:∀m,m<=3->c [.lst (ac m t)]=.ok (.int ((n^m:Nat):Int))):
  zx (re c (i4 2 [mt t lo hi,.int ((lo+q:Nat):Int)]))=.ok (.int ((mz n lo q:Nat):Int)):=by
 have d:JP (zd i3 04 08) (vE 1) [.vl (mt t lo hi),.vl (.int ((lo+q:Nat)))]=.ok (rng (lo) q):=by
  rw[Uj rfl rfl ⟨by lia,by lia,by lia,by lia⟩]
  congr 2;lia
 have j:zM _ _ (za 1 c (z9 (zd _ _ _) _)) 1 [0] [.vl _,.vl (.int ((lo+q:Nat)))] _=.ok ((rng (lo) q).map λx=>match x with|.int i=>T.int ((n^i.toNat:Nat))|y=>y):=
  Z1 _ (by unfold rng;rw[ah,bO];have:lM=16777216:=rfl;lia) λx o=>by
   obtain⟨i,a,rfl⟩:=aO.mp o;have k:=bn.mp a;show za 1 c _ [.vl _,.vl _]=_;have l:zd Z7 (Zs (z9 (zd i3 (vE 1) 01) (zj))) 04 [.vl (.int ((lo)+(i))),.vl (mt t lo hi)]=.ok (.lst (ac (lo+i) t)):=by
    have f:zd i3 (vE 1) 01 [.vl (.int ((lo)+(i))),.vl (mt t lo hi)]=.ok t:=rfl;rw[zv,xV f,af,v0,af,show (lo:Int)+(i)=((lo+i:Nat)) by lia,Wg 00,j5]
   rw[zQ,l,af,H _ 00]
   show _=R.ok (T.int _);rw[show ((lo:Int)+(i)).toNat=lo+i by lia]
 rw[re,zy]
 ·rfl
 ·show lG _ _ [.vl _,.vl _]=_;rw[Zq,Zf,d,af,j,af,af];have p:((rng (lo) q).map λx=>match x with|.int i=>T.int ((n^i.toNat:Nat))|y=>y)=(aZ q).map λi=>T.int ((n^(lo+i):Nat)):=by
   unfold rng;rw[bv];refine cu λi _=>?_;show T.int _=_;rw[show ((lo:Int)+(i)).toNat=lo+i by lia]
  rw[p,FY (λi=>n^(lo+i))];rfl
def xX {d n m:Nat}(h:n<=mx d)(hd:d<=2)(f:m<=3):n^m<2^60:=by
 have a:mx d<=70644:=by
  have:d=0\/d=1\/d=2:=by lia
  rcases this with rfl|rfl|rfl<;>decide
 have i:=aC (Nat.pow_le_pow_left (aC h a) m) (dk 00 f)
 lia
theorem yf:∀(d n:Nat),3*d<=n->d<=3->∀k:Kd,k.Ok d->mU n 0 [k.t]=.ok (.int (k.all.length:Int))
 |0,_,_,_,_,h=>h.elim
 |d+1,n+3,hn,hd,k,h=>by
  have B:=yf d n 00 00
  have j:=yf d (n+1) 00 00
  have e:mU (n+3) 0 [k.t]=zx (sU _ _ [.vl k.t]):=rfl;have y:∀s u,mU (n+2) 2 [s,u]=zx _:=λs u=>rfl;rw[e,sU];cases k with
  |whole lo hi=>
   obtain⟨i,f,a⟩:=h;rw[Jd];simp only[Kd.t];rw[zP (t:=.int _)]
   ·rfl
   ·rw[JZ (by rw[m5,beq_self_eq_true]),zy]
    show R.ok _=_;congr 2;lia
  |pick G=>
   rw[WK];simp only[Kd.t];rw[zb (zF 09),zP]
   ·rfl
   ·rw[JZ (by rw[m5,beq_self_eq_true]),zy]
    show R.ok _=_;rw[ah]
  |row v=>
   obtain⟨i,f,a⟩:=h;rw[Jw];simp only[Kd.t];rw[Kd.ts_map,zb (zF 09),zb (zF 09),zP]
   ·rfl
   ·rw[JZ (by rw[m5,beq_self_eq_true]),zy]
    have p:=jO (d+1) (.row v) ⟨i,f,a⟩;rw[Jw]at p;exact wM v rfl (λk o=>⟨j k (a k o),ZJ d k (a k o)⟩) (Dg p hd)
  |many k lo hi=>
   obtain⟨i,f,a⟩:=h;rw[jG];simp only[Kd.t];rw[zb (zF 09),zb (zF 09),zb (zF 09),zy]
   ·rfl
   ·show za 2 _ _ [.vl _]=_;rw[zU,v0,af,Ui KU,af,y,show (hi:Int)+1=((lo+(hi+1-lo):Nat)) by lia]
    refine Qj 00 λm x=>?_
    have hp:lT ((ac m k).map λk=>k.all.length)=k.all.length^m:=by rw[Jk,jn]
    rw[←hp];refine wM _ (by rw[ba];rfl) (λD l=>?_) (by rw[hp];exact xX (jO d k a) 00 x)
    rw[bR l];exact⟨B k a,ZJ d k a⟩
def jC {d:Nat}(hd:d<=3){k:Kd}(h:k.Ok d):m9 20 [k.t]=.ok (.int (k.all.length:Int)):=yf d 20 00 hd k h
def yg {d:Nat}(hd:d<=2){k:Kd}(h:k.Ok d){lo hi q:Nat}(f:lo+q<=4):oK 20 [mt k.t lo hi,.int ((lo+q:Nat):Int)]=.ok (.int ((mz k.all.length lo q:Nat):Int)):=by
 have e:oK 20 [mt k.t lo hi,.int ((lo+q:Nat))]=zx (re (mU 19 1) (i4 2 [mt k.t lo hi,.int ((lo+q):Int)])):=rfl;rw[e];refine Qj f λm i=>?_;have hp:lT ((ac m k).map λk=>k.all.length)=k.all.length^m:=by rw[Jk,jn]
 rw[←hp];refine wM _ (by rw[ba];rfl) (λj a=>?_) (by rw[hp];exact xX (jO d k h) hd i)
 rw[bR a];exact⟨yf d 18 00 00 k h,ZJ d k h⟩
abbrev tz (cc cw:List T->R T):En->RS:=zA (zY 5 (za 1 cc (z9 (vE 4) (zj))))
  (zA (UA 2 (za 2 cw (z9 (vE 4) (z9 (zd Jl (vE 3) (vE 5)) (zj)))))
  (zY 3 (zd wV (vE 3) (vE 5))))
structure pj (cc cw:List T->R T) (k:Kd):Prop where
 cnt:cc [k.t]=.ok (.int (k.all.length:Int))
 at_:∀(i:Nat) x,k.all[i]?=some x->cw [k.t,.int (i:Int)]=.ok x
 pos:1<=k.all.length
 le:k.all.length<1000000
def CU {t:T}{a b c d e:Sl}{ρ:En}:vE 5 (a::b::c::d::e::.vl t::ρ)=.ok t:=rfl
def xY {n c:Nat}(h:1<=c):Jl (.int (n:Int)) (.int (c:Int))=.ok (.int ((n%c:Nat):Int)):=by
 unfold Jl;dsimp only;rw[if_pos 00];rfl
def Qk {n c:Nat}(h:1<=c)(h':c<1000000):wV (.int (n:Int)) (.int (c:Int))=.ok (.int ((n/c:Nat):Int)):=by
 unfold wV;dsimp only;rw[if_pos 00];rfl
def xZ {i:Nat}{f:En->R T}{ρ:En}{ts:List T}{t:T}(hi:ρ[i]?=some (.ow ts))(a:ts.length<lM)(h:f ρ=.ok t):UA i f ρ=.nx (ρ.set i (.ow (ts++[t]))):=by
 unfold UA;rw[hi];dsimp only;rw[h,ZI,if_pos a]
theorem Ql {i j:List T->R T}{S N:Sl}:∀(a:List Kd) (acc:List T) (n:Nat) (x y:Sl),(∀k∈a,pj i j k)->n<lT (a.map λk=>k.all.length)->acc.length+a.length<=1000->
  ∃xs r l o,(ZD [[]] (a.reverse.map Kd.all))[n]?=some xs/\ZK (zW 4) (tz i j) (a.map Kd.t) [S,N,.ow acc,.vl (.int (n:Int)),x,y]=.nx [S,N,.ow (acc++xs.reverse),r,l,o]
 |[],acc,n,x,y,_,hn,_=>⟨[],.vl (.int (n)),x,y,by
   have:=by simp[lT]at hn;exact hn
   subst this;rfl,by simp[ZK]⟩
 |k::a,acc,n,x,y,H,hn,X=>by
  obtain⟨J,P,p,B⟩:=H k aq;rw[ax]at X;have hb:lM=16777216:=rfl;have f:n%k.all.length<k.all.length:=Nat.mod_lt _ p;obtain⟨v,D⟩:=jp f;have d:=Nat.div_lt_of_lt_mul hn;obtain⟨xs,r,l,o,Q,U⟩:=Ql a (acc++[v]) _ _ _ (λG u=>H G (ae _ u)) d (by rw[aB,aX];lia)
  have b1:zY 5 (za 1 i (z9 (vE 4) (zj))) [S,N,.ow acc,.vl (.int (n)),.vl k.t,y]=.nx [S,N,.ow acc,.vl (.int (n)),.vl k.t,.vl (.int (k.all.length))]:=by
   rw[Z4]
   ·rfl
   ·rw[zQ,v4,af,J]
  have b2:UA 2 (za 2 j (z9 (vE 4) (z9 (zd Jl (vE 3) (vE 5)) (zj)))) [S,N,.ow acc,.vl (.int (n)),.vl k.t,.vl (.int (k.all.length))]=.nx [S,N,.ow (acc++[v]),.vl (.int (n)),.vl k.t,.vl (.int (k.all.length))]:=by
   rw[xZ rfl 00]
   ·rfl
   ·rw[zU,v4,af,zv,v3,af,CU,af,xY p,af,P _ v D]
  have Z:zY 3 (zd wV (vE 3) (vE 5)) [S,N,.ow (acc++[v]),.vl (.int (n)),.vl k.t,.vl (.int (k.all.length))]=.nx [S,N,.ow (acc++[v]),.vl (.int ((n/k.all.length:Nat))),.vl k.t,.vl (.int (k.all.length))]:=by
   rw[Z4]
   ·rfl
   ·rw[zv,v3,af,CU,af,Qk p B]
  have I:tz i j [S,N,.ow acc,.vl (.int (n)),.vl k.t,y]=.nx [S,N,.ow (acc++[v]),.vl (.int ((n/k.all.length:Nat))),.vl k.t,.vl (.int (k.all.length))]:=by
   rw[tz,zb b1,zb b2,Z]
  refine⟨xs++[v],r,l,o,?_,?_⟩
  ·have:=VO Q D;rw[dr,Nat.div_add_mod]at this;rw[bZ,c9];exact this
  ·rw[aK,wK rfl I,U];simp
theorem Qm:∀ns:List Nat,lT ns.reverse=lT ns
 |[]=>rfl
 |n::ns=>by rw[bZ,yd,Qm ns,lT,dr]
def wN {o p:List T->R T}{s:T}(d:List Kd)(D:Jp s=.ok (d.map Kd.t))(Z:d.length<=3)(H:∀k∈d,pj o p k){n:Nat}{xs:List T}(v:(ZD [[]] (d.map Kd.all))[n]?=some xs):
  zx (rn o p (i4 6 [s,.int (n:Int)]))=.ok (.tup xs):=by
 have hn:=(ak.mp v).1;rw[Wk,bv]at hn;have hr:(d.reverse.map λk=>k.all.length)=(d.map λk=>k.all.length).reverse:=by rw[k_]
 obtain⟨ys,r,I,P,y,J⟩:=Ql _ [] n .un .un (λk B=>H k (List.mem_reverse.mp B)) (by rw[hr,Qm];exact hn) (by rw[c8,cq];lia)
 rw[ie,v]at y;cases y;have Q:WW 2 (zj) [.vl s,.vl (.int (n)),.un,.un,.un,.un]=.nx [.vl s,.vl _,.ow [],.un,.un,.un]:=rfl;have U:zY 3 (vE 1) [.vl s,.vl (.int (n)),.ow [],.un,.un,.un]=.nx [.vl s,.vl _,.ow [],.vl _,.un,.un]:=rfl;have X:jM (AS 04) (zW 4) (tz o p) [.vl s,.vl (.int (n)),.ow [],.vl (.int (n)),.un,.un]=.nx [.vl s,.vl (.int (n)),.ow xs.reverse,r,I,P]:=by
  show (((Jp s).bind λxs=>R.ok _).s λts=>ZK _ _ ts _)=_;rw[D,af,←k_];exact J
 have f:xs.reverse.length<=lM:=by
  have:∀(i made:List _) (m:Nat),(∀a∈made,a.length<=m)->∀a∈ZD made i,a.length<=m+i.length:=by
   intro i
   induction i with
   |nil=>intro made m h a j;exact h a j
   |cons l i N=>
    intro made m h a j;have:=N (made.flatMap λa=>l.map λx=>a++[x]) (m+1) (λb u=>by
     obtain⟨c,G,u⟩:=cP.mp u;obtain⟨z,_,rfl⟩:=aO.mp u;have:=h c G;rw[aB,aX];lia) a j
    rw[ax];lia
  have S:=this _ _ 0 (λa j=>by rw[aQ.mp j];exact ar _) xs (aT v)
  rw[ah]at S;rw[c8];have u:lM=16777216:=rfl;lia
 show zx (rn o p [.vl s,.vl _,.un,.un,.un,.un])=_;rw[rn,zb Q,zb U,zb X,zy]
 ·rfl
 ·show Vl (.lst _)=_;unfold Vl;dsimp only;rw[if_pos f,ie]
abbrev ou:En->R Bool:=zI lQ (za 2 (oK 20) (z9 04 (z9 (zd zE (vE 2) 01) (zj)))) (vB 1)
abbrev om:En->RS:=zY 2 (zd zE (vE 2) 01)
def Ei {t:T}{a:Sl}{ρ:En}:vB 1 (a::.vl t::ρ)=.ok t:=rfl
theorem Qn {d:Nat}(hd:d<=2){k:Kd}(h:k.Ok d){lo hi n:Nat}(y:lo<=hi)(p:hi<=3)(hn:n<mz k.all.length lo (hi+1-lo)):∀(f q:Nat),q<=hi-lo->hi-lo-q<f->mz k.all.length lo q<=n->
  ∃j,j<=hi-lo/\mz k.all.length lo j<=n/\n<mz k.all.length lo (j+1)/\ZA ou om f [.vl (mt k.t lo hi),.vl (.int (n:Int)),.vl (.int ((lo+q:Nat):Int))]=.nx [.vl (mt k.t lo hi),.vl (.int (n:Int)),.vl (.int ((lo+j:Nat):Int))]
 |0,q,_,D,_=>by lia
 |f+1,q,x,D,v=>by
  have B:ou [.vl (mt k.t lo hi),.vl (.int (n)),.vl (.int ((lo+q:Nat)))]=.ok (decide (mz k.all.length lo (q+1)<=n)):=by
   rw[ou,zO,zU,v0,af,Ui v2,af,show ((lo+q:Nat):Int)+1=((lo+(q+1):Nat)) by lia,yg hd h 00,af,Ei,af,WH,Wh]
  have o:ZA ou om (f+1) [.vl (mt k.t lo hi),.vl (.int (n)),.vl (.int ((lo+q:Nat)))]=(ou _).s λu=>if u=true then match om [.vl _,.vl _,.vl (.int _)]with
    |.nx a=>ZA ou om f a
    |.ct a=>ZA ou om f a
    |.bk a=>.nx a
    |r=>r
   else .nx _:=rfl
  rw[o,B,ZI]
  by_cases i:mz k.all.length lo (q+1)<=n
  ·rw[if_pos (decide_eq_true i)];have l:q+1<=hi-lo:=by
    rcases iO q _ with z|z
    ·exact z
    ·have:q=hi-lo:=by lia
     rw[this,show hi-lo+1=hi+1-lo by lia]at i
     lia
   have G:om [.vl (mt k.t lo hi),.vl (.int (n)),.vl (.int ((lo+q:Nat)))]=.nx [.vl (mt k.t lo hi),.vl (.int (n)),.vl (.int ((lo+(q+1):Nat)))]:=by
    rw[om,Z4]
    ·rfl
    ·rw[Ui v2,show ((lo+q:Nat):Int)+1=((lo+(q+1):Nat)) by lia]
   exact Qn hd h y p hn f _ l 00 i
  ·rw[if_neg (by simpa using i)]
   exact⟨q,x,v,by lia,rfl⟩
def Qo {i j:Nat}(h:j<=i):jb (.int (i:Int)) (.int (j:Int))=.ok (.int ((i-j:Nat):Int)):=by
 rw[Zg];congr 2;lia
def yW {d:Nat}(hd:d<=2){k:Kd}(h:k.Ok d){cp:List T->R T}{lo hi n:Nat}(v:lo<=hi)(p:hi<=3)(hn:n<mz k.all.length lo (hi+1-lo))
  (H:∀(m:Nat),m<=3->∀(j:Nat) (xs:List T),(ZD [[]] (ac m k.all))[j]?=some xs->cp [.lst (ac m k.t),.int (j:Int)]=.ok (.tup xs)):
  ∃x,(Kd.many k lo hi).all[n]?=some x/\zx (rX (oK 20) cp (i4 3 [mt k.t lo hi,.int (n:Int)]))=.ok x:=by
 obtain⟨q,B,u,a,e⟩:=Qn hd h v p hn 8 0 00 00 (by unfold mz;simp)
 rw[VP]at a;have y:n-mz k.all.length lo q<(ZD [[]] (ac (lo+q) k.all)).length:=by
  rw[Wk,ba,jn];lia
 obtain⟨xs,f⟩:=jp y;have i:=Ki (hi:=hi) 00 f
 rw[show mz _ lo q+(n-mz _ lo q)=n by lia]at i
 refine⟨_,i,?_⟩;have o:zY 2 (zd i3 04 08) [.vl (mt k.t lo hi),.vl (.int (n:Int)),.un]=.nx [.vl _,.vl _,.vl (.int ((lo+0:Nat)))]:=rfl;show zx (rX _ cp [.vl _,.vl _,.un])=_;rw[rX,zb o,zb e,zy]
 ·rfl
 ·show za 2 cp _ [.vl _,.vl _,.vl _]=_;have l:zd Z7 (Zs (z9 (zd i3 04 01) (zj))) (vE 2) [.vl (mt k.t lo hi),.vl (.int (n)),.vl (.int ((lo+q:Nat)))]=.ok (.lst (ac (lo+q) k.t)):=by
   rw[zv,xV JL,af,v2,af,Wg 00,j5]
  rw[zU,l,af,zv,v1,af,zU,v0,af,v2,af,yg hd h 00,af,Qo u,af,H _ 00 _ xs f]
def Qp {d:Nat}(hd:d<=2){k:Kd}(h:k.Ok d):k.all.length<1000000:=by
 have f:=jO d k h;have a:mx d<=70644:=by
  have:d=0\/d=1\/d=2:=by lia
  rcases this with rfl|rfl|rfl<;>decide
 lia
theorem jW:∀(d n:Nat),3*d<=n->d<=3->∀k:Kd,k.Ok d->∀(i:Nat) (x:T),k.all[i]?=some x->m3 n 0 [k.t,.int (i:Int)]=.ok x
 |0,_,_,_,_,h=>h.elim
 |d+1,n+3,hn,hd,k,h=>by
  intro i x a;have N:=jW d n 00 00
  have v:=jW d (n+1) 00 00
  have e:m3 (n+3) 0 [k.t,.int (i:Int)]=zx (sM mL _ _ (lJ k.t (.int (i:Int)))):=rfl;have l:=(ak.mp a).1;rw[e,sM];cases k with
  |whole lo hi=>
   rw[Kd.all,aj]at a;rw[Jd]at l;rw[cI l]at a;cases a;rw[zP]
   ·rfl
   ·rfl
  |pick J=>
   have B:=w8 J h.2.1;simp only[Kd.t]at B⊢;rw[zb (wa 03),zP]
   ·rfl
   ·rw[Qe,zy];show zd i3 _ _ (lJ _ _)=_;rw[zv,zQ,v0,af,B,v1];exact HA a
  |row P=>
   obtain⟨D,u,f⟩:=h;rw[Kd.all,Kd.alls_map,aj]at a;cases hr:(ZD _ _)[i]? with
   |none=>rw[hr]at a;cases a
   |some xs=>
    rw[hr]at a;cases a;simp only[Kd.t];rw[Kd.ts_map,zb (wa 03),zb (wa 03),zP]
    ·rfl
    ·rw[Qe,zy];refine wN P rfl u (λk p=>⟨jC 00 (f k p),v k (f k p),ZJ d k (f k p),Qp 00 (f k p)⟩) hr
  |many k lo hi=>
   obtain⟨D,u,f⟩:=h;rw[jG]at l;obtain⟨S,o,G⟩:=yW (cp:=m3 (n+1) 2) 00 f D u l (λm I j xs hr=>by
    refine wN _ (by rw[ba];rfl) (by rw[aS];exact I) (λQ y=>?_) (by rw[ba];exact hr)
    rw[bR y];exact⟨jC 00 f,N k f,ZJ d k f,Qp 00 f⟩)
   rw[a]at o;cases o;simp only[Kd.t];rw[zb (wa 03),zb (wa 03),zb (wa 03),zy]
   ·rfl
   ·show za 2 _ _ (lJ _ _)=_;rw[zU,v0,af,v1,af];exact G
def X0 {k:Kd}(h:k.Ok 3){i:Nat}{x:T}(a:k.all[i]?=some x):oX 20 [k.t,.int (i:Int)]=.ok x:=jW 3 20 00 00 k h i x a
theorem Qq (x:Str):∀a:List (Str×Int),nA (.str x) (a.map λc=>T.str c.1)=some (a.map λc=>c.1==x)
 |[]=>rfl
 |c::a=>by
  show (match lI 30 (.str c.1) (.str x)with
   |none=>none
   |some b=>match nA (.str x) (a.map λ(c:Str×Int)=>T.str c.1)with
    |none=>none
    |some bs=>some (b::bs))=_
  rw[Qq x a];rfl
theorem uJ:∀(bs:List Bool) (i:Nat),bs[i]?=some true->(∀j,j<i->bs[j]?=some false)->bs.idxOf true=i
 |[],i,h,_=>by simp at h
 |b::bs,0,h,_=>by
  have:b=true:=by simpa using h
  subst this;rfl
 |b::bs,i+1,h,a=>by
  have d:b=false:=by simpa using a 0 00
  subst d;have:=uJ bs i (by simpa using h) λj h'=>by simpa using a (j+1) 00
  rw[List.idxOf_cons,this];rfl
def VQ {a:List (Str×Int)}(hd:Dst (a.map (·.1))){i:Nat}{c:Str×Int}(h:a[i]?=some c):Va (.str c.1) (a.map λc=>T.str c.1)=.ok (.int (i:Int)):=by
 unfold Va;rw[Qq];dsimp only;have hi:=(ak.mp h).1;have f:(a.map λd=>d.1==c.1)[i]?=some true:=by rw[aj,h];simp
 rw[if_pos (aT f),uJ _ i f λj l=>?_];rw[aj];cases k:a[j]? with
 |none=>rw[List.getElem?_eq_none_iff]at k;lia
 |some d=>
  have o:=hd i c.1 (by rw[aj,h];rfl)
  have:d.1≠c.1:=λe=>o (by
   rw[←e];refine aT (i:=j) ?_;rw[dB l,aj,k];rfl)
  show some (d.1==c.1)=some false;rw[beq_eq_false_iff_ne.mpr this]
noncomputable def Pl:Nat->T->Prop
 |0,_=>False
 |n+1,.tup xs=>∀x∈xs,Pl n x
 |n+1,.lst xs=>∀x∈xs,Pl n x
 |_+1,.fz _=>False
 |_+1,_=>True
theorem wb {f:T->T->Option Bool}:∀(xs a:List T),(∀x∈xs,∀y,∃b,f x y=some b)->∃b,mG f xs a=some b
 |[],[],_=>⟨_,rfl⟩
 |[],_::_,_=>⟨_,rfl⟩
 |_::_,[],_=>⟨_,rfl⟩
 |x::xs,y::a,h=>by
  obtain⟨b,d⟩:=h x aq y;obtain⟨c,j⟩:=wb xs a λz i=>h z (ae _ i);exact⟨b&&c,by unfold mG;rw[d,j]⟩
theorem Zn {f:T->T->Option Bool}:∀(xs:List T),(∀x∈xs,f x x=some true)->mG f xs xs=some true
 |[],_=>rfl
 |x::xs,h=>by
  unfold mG;rw[h x aq,Zn xs λz a=>h z (ae _ a)];rfl
theorem wc:∀(n:Nat) (y x:T),Pl n y->∃b,lI n y x=some b
 |0,_,_,h=>h.elim
 |n+1,y,x,h=>by
  cases y with
  |tup xs=>
   cases x with
   |tup a=>exact wb xs a λz d u=>wc n z u (h z d)
   |_=>exact⟨false,by rw[lI]<;>intros<;>first|rfl|contradiction|(intro z)⟩
  |lst xs=>
   cases x with
   |lst a=>exact wb xs a λz d u=>wc n z u (h z d)
   |fz a=>exact wb xs a λz d u=>wc n z u (h z d)
   |_=>exact⟨false,by rw[lI]<;>intros<;>first|rfl|contradiction|(intro z)⟩
  |fz xs=>exact h.elim
  |non=>cases x<;>exact⟨_,rfl⟩
  |bl b=>cases x<;>exact⟨_,rfl⟩
  |int i=>cases x<;>exact⟨_,rfl⟩
  |str i=>cases x<;>exact⟨_,rfl⟩
theorem Zc:∀(n:Nat) (y:T),Pl n y->lI n y y=some true
 |0,_,h=>h.elim
 |n+1,y,h=>by
  cases y with
  |tup xs=>exact Zn xs λz a=>Zc n z ((h) z a)
  |lst xs=>exact Zn xs λz a=>Zc n z ((h) z a)
  |fz xs=>exact h.elim
  |non=>rfl
  |bl b=>show some _=_;simp
  |int i=>show some _=_;simp
  |str i=>show some _=_;simp
theorem Pl.up:∀(n:Nat) (y:T),Pl n y->Pl (n+1) y
 |0,_,h=>h.elim
 |n+1,y,h=>by
  cases y with
  |tup xs=>exact λz a=>Pl.up n z ((h) z a)
  |lst xs=>exact λz a=>Pl.up n z ((h) z a)
  |fz xs=>exact h.elim
  |_=>exact trivial
def Pl.le {n m:Nat}{y:T}(d:n<=m)(h:Pl n y):Pl m y:=by
 obtain⟨j,rfl⟩:∃j,m=n+j:=⟨m-n,by lia⟩
 clear d
 induction j with
 |zero=>exact h
 |succ j a=>exact Pl.up _ _ a
theorem VR:∀(d:Nat) (k:Kd) (x:T),k.Ok d->k.has x=true->Pl d x
 |0,_,_,h,_=>h.elim
 |d+1,.whole lo hi,x,h,a=>by
  obtain⟨i,rfl⟩:=Uf a;trivial
 |d+1,.pick o,x,h,a=>by
  rw[Kd.has]at a;dsimp only at a;split at a
  ·trivial
  ·cases a
 |d+1,.row l,x,h,a=>by
  rw[Kd.has]at a;dsimp only at a;split at a
  ·rename_i xs;rw[ai,beq_iff_eq]at a;intro y hy;obtain⟨k,f,j⟩:=WP l xs a.1 a.2 y hy;exact VR d k y (h.2.2 k f) j
  ·cases a
 |d+1,.many k lo hi,x,h,a=>by
  rw[Kd.has]at a;dsimp only at a;split at a
  ·rw[ai,aI]at a;exact λy hy=>VR d k y h.2.2 (a.2 y hy)
  ·cases a
def Qr {t:T}(h:Pl 30 t):lX t t=.ok false:=by unfold lX;rw[Zc 30 t h];rfl
def VS {t:T}(h:Pl 30 t):ko t t=.ok true:=by unfold ko;rw[Zc 30 t h]
theorem uK {f:T->Option Bool}:∀(ts:List T),(∀t∈ts,∃b,f t=some b)->∃b,wS f ts=some b/\(b=false->∀t∈ts,f t=some false)
 |[],_=>⟨false,rfl,λ_ _ h=>nomatch h⟩
 |t::ts,h=>by
  obtain⟨b,d⟩:=h t aq;obtain⟨c,i,h'⟩:=uK ts λu a=>h u (ae _ a);refine⟨b||c,by unfold wS;rw[d,i],λe u a=>?_⟩
  rw[Bool.or_eq_false_iff]at e;rcases ay.mp a with rfl|a
  ·rw[d,e.1]
  ·exact h' e.2 u a
def Um {k:Kd}(a:k.Ok 3):nr [k.t]=.ok .non:=by
 have hi:=yb 3 k a;rw[JM _ (JW 3 _ hi).so,if_pos hi]
def jq {f:En->R T}{ρ:En}{t:T}(h:f ρ=.ok t):ZR f ρ=.nx ρ:=by unfold ZR;rw[h,ZI]
abbrev Dr:En->R Bool:=ma (JD (jJ (za 1 mO 06))) (JD (oI lQ mH (cE (.int 0)) (vB 1) (za 1 (m9 20) (z9 04 (zj)))))
def Kj {k:Kd}(a:k.Ok 3)(i:Int):Dr (lJ k.t (.int i))=.ok (!(decide (0<=i)&&decide (i<(k.all.length:Int)))):=by
 have e:oI lQ mH (cE (.int 0)) (vB 1) (za 1 (m9 20) (z9 04 (zj))) (lJ k.t (.int i))=.ok (decide (0<=i)&&decide (i<(k.all.length))):=by
  have d:oI lQ mH (cE (.int 0)) (vB 1) (za 1 (m9 20) (z9 04 (zj))) (lJ k.t (.int i))=(if decide _=true then (za 1 _ _ _).bind λz=>mH _ z else .ok _):=rfl
  rw[d,zQ,v0,af,jC 00 a]
  cases decide (0<=i)<;>rfl
 rw[Dr,yP,wF,JI,zQ,v1,af,JU];show (R.ok (!true)).bind _=_;rw[af,if_neg (by simp),wF,e,af]
def WQ {k:Kd}(d:k.Ok 3)(x:T):rV [k.t,x]=if k.has x=true then .ok .non else .ex 1:=by
 show zx (tV _ (lJ k.t x))=_;have a:JD (jJ (za 2 o0 (z9 04 06))) (lJ k.t x)=.ok (!k.has x):=by
  rw[wF,JI,zU,v0,af,v1,af,Ul k d x,af,uy,af]
 rw[tV,ZV,a];cases k.has x<;>rfl
def mZ (k:Kd):((rng 0 k.all.length).map λt=>match t with|.int i=>(k.all[i.toNat]?).getD .non|y=>y)=k.all:=by
 unfold rng;rw[bv];refine dg λi=>?_;rw[aj]
 by_cases hi:i<k.all.length
 ·rw[cI hi];show some ((k.all[((0:Int)+(i)).toNat]?).getD _)=_;rw[show ((0:Int)+(i)).toNat=i by lia]
  obtain⟨x,a⟩:=jp hi;rw[a];rfl
 ·rw[aU (by simpa using hi),aU 00];rfl
def Qs {f:En->R T}{ρ:En}{j:Int}(a:f ρ=.ok (.int j))(h: -1000000<j/\j<1000000):Zl f ρ=.ok (rng 0 j.toNat):=by
 unfold Zl;rw[a];exact if_pos h
def VT {i j:Int}:ml (.int i) (.int j)=.ok (decide (j<i)):=rfl
def j6 {k:Kd}(a:k.Ok 3)(v:k.all.length<=500):ny [k.t]=.ok (.lst k.all):=by
 show zx (oW _ _ _ [.vl k.t,.un])=_;have o:zY 1 (za 1 (m9 20) (z9 04 (zj))) [.vl k.t,.un]=.nx (lJ k.t (.int (k.all.length))):=by
  rw[Z4]
  ·rfl
  ·rw[zQ,v0,af,jC 00 a]
 have p:zI ml (vB 1) (cE (.int 500)) (lJ k.t (.int (k.all.length)))=.ok false:=by
  rw[zO,w1,af,Z2,af,VT,decide_eq_false 00]
 have f:Zl (vE 1) (lJ k.t (.int (k.all.length)))=.ok (rng 0 k.all.length):=by
  rw[Qs rfl ⟨by lia,by lia⟩,bY]
 have j:zM _ _ (za 2 (oX 20) (z9 (vE 1) (z9 04 _))) 1 [0] (lJ k.t (.int (k.all.length))) (rng 0 k.all.length)=.ok ((rng 0 _).map λt=>match t with|.int i=>(k.all[i.toNat]?).getD .non|y=>y):=
  Z1 _ (by unfold rng;rw[ah,bO];have:lM=16777216:=rfl;lia) λt u=>by
   obtain⟨i,hi,rfl⟩:=aO.mp u;obtain⟨x,d⟩:=jp (bn.mp hi);show za 2 _ _ (lJ _ k.t)=R.ok ((k.all[((0:Int)+(i)).toNat]?).getD _);rw[show ((0:Int)+(i))=(i) by lia,zU,v1,af,v0,af,X0 a d,bY,d]
   rfl
 have l:Y6 (Zl (vE 1)) (zW 0) (Zh) (za 2 (oX 20) (z9 (vE 1) (z9 04 (zj)))) 1 [0] (lJ k.t (.int (k.all.length)))=.rf k.all:=by
  show ((Zl _ (lJ k.t _)).s λts=>(zM _ _ _ _ _ (lJ k.t _) ts).s λvs=>RS.rf vs)=_;rw[f,ZI,j,ZI,mZ]
 rw[oW,zb (jq (by rw[zQ,v0,af,Um a])),zb o,zb (zF p),l]
 rfl
def DQ {i:Nat}{f:En->R T}{ρ:En}{c:Nat}(h:f ρ=.ex c):zY i f ρ=.ex c:=by rw[JJ,h];rfl
def D8 {i:Int}:lX (.int i) (.int i)=.ok false:=by show R.ok _=_;simp
def BY {f g h:En->R T}{ρ:En}{x y z:T}(i:f ρ=.ok x)(a:g ρ=.ok y)(d:h ρ=.ok z):Zs (z9 f (z9 g (z9 h zj))) ρ=.ok (.lst [x,y,z]):=by
 unfold Zs z9 zj;rw[i,a,d];rfl
inductive W:Nat->T->Prop where
 |int (d:Nat) (i:Int):W d (.int i)
 |str (d:Nat) (s:Str):W d (.str s)
 |tup {d:Nat} {xs:List T} (h:xs.length<=3) (r:∀x∈xs,W d x):W (d+1) (.tup xs)
theorem BP:∀(d:Nat) (k:Kd) (x:T),k.Ok (d+1)->k.has x=true->W d x
 |d,.whole lo hi,x,_,h=>by
  cases x<;>first|exact .int _ _|(simp[Kd.has,n9]at h)
 |d,.pick B,x,_,h=>by
  cases x<;>first|exact .str _ _|(simp[Kd.has]at h)
 |0,.row o,x,a,h=>by
  obtain⟨f,u,a⟩:=a
  match o,f,a with
  |k::_,_,a=>exact(a k aq).elim
 |0,.many k lo hi,x,a,h=>a.2.2.elim
 |d+1,.row o,x,a,h=>by
  obtain⟨f,u,a⟩:=a;cases x with
  |tup xs=>
   rw[Kd.has]at h;simp only[ai,beq_iff_eq]at h;obtain⟨p,j⟩:=h;refine .tup 00 λx l=>?_
   obtain⟨k,v,i⟩:=WP o xs p j x l;exact BP d k x (a k v) i
  |_=>simp[Kd.has]at h
 |d+1,.many k lo hi,x,a,h=>by
  obtain⟨f,u,a⟩:=a;cases x with
  |tup xs=>
   rw[Kd.has]at h;simp only[ai,decide_eq_true_eq,aI]at h;obtain⟨⟨p,y⟩,j⟩:=h;refine .tup 00 λx l=>?_
   exact BP d k x a (j x l)
  |_=>simp[Kd.has]at h
mutual
noncomputable def lv:T->List T
 |.tup xs=>nk xs
 |.non=>[.non]
 |.bl b=>[.bl b]
 |.int b=>[.int b]
 |.str b=>[.str b]
 |.lst b=>[.lst b]
 |.fz b=>[.fz b]
noncomputable def nk:List T->List T
 |[]=>[]
 |x::xs=>lv x++nk xs
end
def HB (xs:List T):lv (.tup xs)=nk xs:=by rw[lv]
def yh (x:T)(xs:List T):nk (x::xs)=lv x++nk xs:=by rw[nk]
def Kk:nk []=[]:=by rw[nk]
theorem Qt {n:Nat}:∀xs:List T,(∀x∈xs,(lv x).length<=n)->(nk xs).length<=xs.length*n
 |[],_=>by exact bu _
 |x::xs,h=>by
  rw[yh,aB,ax,fW];have d:=h x aq;have a:=Qt xs λy hy=>h y (ae _ hy);lia
def rJ (d:Nat):1<=3^d:=Nat.one_le_pow _ _ 00
def X1 {d:Nat}{x:T}(h:W d x):(lv x).length<=3^d:=by
 induction h with
 |int d i=>exact rJ d
 |str d i=>exact rJ d
 |@tup d xs h r a=>
  rw[HB];have:=Qt xs a;have f:=eD (3^d) h;lia
def DE {i:Nat}{f:En->R T}{ρ:En}{ts a:List T}(hi:ρ[i]?=some (.ow ts))(h:f ρ=.ok (.lst a))(d:ts.length+a.length<=lM):YQ i f ρ=.nx (ρ.set i (.ow (ts++a))):=by
 unfold YQ;rw[hi];dsimp only;rw[h,ZI];dsimp only;rw[if_pos d]
abbrev BF (c:List T->R T):En->RS:=YQ 1 (za 1 c (z9 (vE 2) (zj)))
theorem Qu {c:List T->R T}{n:Nat}(hn:n<=1000){a:Sl}:∀(xs:List T) (acc:List T) (x:Sl),(∀x∈xs,c [x]=.ok (.lst (lv x))/\(lv x).length<=n)->acc.length+xs.length*n<=1000000->
  ∃d,ZK (zW 2) (BF c) xs [a,.ow acc,x]=.nx [a,.ow (acc++nk xs),d]
 |[],acc,x,_,_=>⟨x,by rw[Kk,aW];rfl⟩
 |y::xs,acc,x,H,f=>by
  obtain⟨e,k⟩:=H y aq;rw[ax,fW]at f;have l:lM=16777216:=rfl;obtain⟨d,h⟩:=Qu hn xs (acc++lv y) _ (λz i=>H z (ae _ i)) (by rw[aB];lia)
  refine⟨d,?_⟩;have j:zW 2 y [a,.ow acc,x]=.ok _:=rfl;have b2:BF c [a,.ow acc,.vl y]=.nx [a,.ow (acc++lv y),.vl y]:=by
   have z:za 1 c (z9 (vE 2) (zj)) [a,.ow acc,.vl y]=.ok (.lst (lv y)):=by rw[zQ,v2,af,e]
   exact DE rfl z 00
  rw[wK j b2,h,yh,bj]
def Ie {x:T}{r:En}:JD (jJ (lG (Y4 "tuple") (vB 0))) (.vl x::r)=.ok (!(match x with|.tup _=>true|_=>false)):=by
 all_goals (cases x<;>rfl)
theorem wO:∀(n d:Nat),d<n->d<=3->∀x:T,W d x->pP n 0 [x]=.ok (.lst (lv x))
 |0,d,h,_,_,_=>absurd h (lu _)
 |n+1,d,h,p,x,l=>by
  show zx (sw _ [.vl x,.un,.un])=_;rw[sw];cases l with
  |int d i=>
   rfl
  |str d i=>
   rfl
  |@tup d xs a r=>
   have hp:3^d<=27:=dk 00 (show d<=3 by lia)
   obtain⟨f,k⟩:=Qu 00 xs [] .un (λy hy=>⟨wO n d 00 00 y (r y hy),X1 (r y hy)⟩) (by have:=dj a hp;simp;lia)
   have j:WW 1 zj [.vl (.tup xs),.un,.un]=.nx [.vl _,.ow [],.un]:=rfl;have o:jM (j3 04) (zW 2) (BF (pP n 0)) [.vl (.tup xs),.ow [],.un]=.nx [.vl (.tup xs),.ow ([]++nk xs),f]:=by
    exact k
   rw[zb (zF Ie),zb j,zb o,ck];rfl
def Jy {ft:En->R Bool}{p:T->Bool}{k:Nat}{js:List Nat}{ρ:En}{fe:En->R T}(ts:List T)(d:ts.length<=lM)(H:∀t∈ts,ft ((wY k js ρ).set 0 (.vl t))=.ok (p t)/\fe ((wY k js ρ).set 0 (.vl t))=.ok t):zM (zW 0) ft fe k js ρ ts=.ok (ts.filter p):=by
 unfold zM;rw[if_pos d,jl (h:=id) ts _ λt a=>⟨(H t a).1,λ_=>(H t a).2⟩,List.map_id];rfl
noncomputable def yi:List T->List Int
 |[]=>[]
 |.int i::r=>i::yi r
 |.non::r=>yi r
 |.bl _::r=>yi r
 |.str _::r=>yi r
 |.tup _::r=>yi r
 |.lst _::r=>yi r
 |.fz _::r=>yi r
theorem uL:∀ts:List T,ts.filter CZ=(yi ts).map T.int
 |[]=>rfl
 |t::ts=>by
  have a:=uL ts;rw[List.filter_cons,a];cases t<;>rfl
theorem Qv:∀a:List Int,ZL (a.map T.int)=some a
 |[]=>rfl
 |i::a=>by
  have e:ZL ((i::a).map T.int)=match ZL _ with|some l=>some _|none=>none:=rfl
  rw[e,Qv a]
theorem yj:∀ts:List T,(yi ts).length<=ts.length
 |[]=>ar _
 |t::ts=>by
  have a:=yj ts;cases t<;>simp only[yi,ax]<;>lia
def w9 {d:Nat}{x:T}(hd:d<=2)(h:W d x):(lv x).length<=9:=aC (X1 h) (dk 00 hd)
def yX {d:Nat}(hd:d<=2){x:T}(h:W d x):t9 [x]=.ok (.lst ((yi (lv x)).map T.int)):=by
 show zx _=_;have i:=w9 hd h;have f:zM _ (jJ (za 1 mO (z9 04 _))) 04 1 [] [.vl x] (lv x)=.ok _:=
  Jy _ (by have j:lM=16777216:=rfl;lia) λt _=>⟨by
   show jJ _ [.vl t]=_;rw[JI,zQ,v0,af,JU,af,uy],rfl⟩
 rw[Cu,zy]
 ·rfl
 ·show Z9 _ _ _ _ _ _ [.vl x]=_;have a:oZ 8 [x]=.ok _:=wO 8 d 00 00 x h
  rw[Zf,Jc,zQ,v0,af,a];show ((zM _ _ _ _ _ _ _).bind _)=_;rw[f,af,uL]
noncomputable def Dv (a:List Int):Bool:=(a.zip (a.drop 1)).all λq=>decide (q.1<=q.2)
theorem Qw:∀(a:List (Int×Int)) (x y:Sl),zR (Zb 0 1) Zh (jI lQ (vB 0) (vB 1)) (a.map λq=>T.tup [.int q.1,.int q.2]) [x,y]=.ok (a.map λq=>T.bl (decide (q.1<=q.2)))
 |[],_,_=>rfl
 |q::a,x,y=>by
  have f:=Qw a (.vl (.int q.1)) (.vl (.int q.2));have d:zR (Zb 0 1) Zh (jI lQ (vB 0) (vB 1)) ((q::a).map λq=>T.tup [.int q.1,.int q.2]) [x,y]=
   (R.ok (T.bl _)).bind λv=>(zR _ _ _ (a.map λq=>T.tup [.int q.1,.int q.2]) [.vl _,.vl _]).bind λvs=>.ok _:=rfl
  rw[d,af,f,af,aK]
def Kl (xs:List T):mR xs (some ((1:Nat):Int)) none=xs.drop 1:=by
 unfold mR;rw[HT.sIx_nat,HT.sIx_none]
 by_cases h:1<=xs.length
 ·rw[eG h,dS (by rw[dq];lia)]
 ·have:xs=[]:=bU.mp 00
  subst this;rfl
def Qx (a:List Int)(i:a.length<=100):BO [.lst (a.map T.int)]=.ok (.bl (Dv a)):=by
 show zx _=_;have f:kv 04 (mD 04 (j0 01) (mI)) [.vl (.lst (a.map T.int))]=.ok ((a.zip (a.drop 1)).map λq=>T.tup [.int q.1,.int q.2]):=by
  show R.ok (vh _ (mR _ (some ((1:Nat))) _))=_;rw[Kl,←List.map_drop];unfold vh;rw[List.zip_map,bv];rfl
 have d:zM (Zb 0 1) Zh (jI lQ (vB 0) (vB 1)) 2 [] [.vl (.lst (a.map T.int))] ((a.zip (a.drop 1)).map λq=>T.tup [.int q.1,.int q.2])=.ok ((a.zip (a.drop 1)).map λq=>T.bl (decide (q.1<=q.2))):=by
  unfold zM;rw[if_pos (by rw[ah,hU];have j:lM=16777216:=rfl;lia)]
  show quiet (zR _ _ _ _ [.un,.un])=_;rw[Qw];rfl
 rw[Ci,zy]
 ·rfl
 ·show lG _ _ [.vl _]=_;rw[Zq,Zf,f,af,d,af];show (match uk _ with|some k=>R.ok _|none=>.bad)=_
  rw[WO (λq=>decide _)];rfl
def DI (a:List Int):Ve (.lst (a.map T.int))=.ok (.int a.sum):=by
 unfold Ve;dsimp only;rw[Qv]
def inB (xs:List T)(x:T):Bool:=(wS (λy=>lI 30 y x) xs).getD false
def FD {xs:List T}(x:T)(h:∀y∈xs,Pl 30 y):wS (λy=>lI 30 y x) xs=some (inB xs x):=by
 obtain⟨b,e,_⟩:=uK xs λt a=>wc 30 t x (h t a);unfold inB;rw[e];rfl
def W.pl {d:Nat}{x:T}(h:W d x):Pl (d+1) x:=by
 induction h with
 |int d i=>exact trivial
 |str d i=>exact trivial
 |@tup d xs h r a=>exact a
def W.pl30 {d:Nat}{x:T}(h:W d x)(hd:d<=2):Pl 30 x:=h.pl.le 00
noncomputable def yY:T->List T
 |.tup xs=>xs
 |.non=>[.non]
 |.bl b=>[.bl b]
 |.int b=>[.int b]
 |.str b=>[.str b]
 |.lst b=>[.lst b]
 |.fz b=>[.fz b]
def Km {d:Nat}{x:T}(h:W d x):sh [x]=.ok (.tup (yY x)):=by cases h<;>rfl
def Qy {d:Nat}{x:T}(h:W d x):(yY x).length<=3:=by
 cases h with
 |int=>exact(by decide:1<=3)
 |str=>exact(by decide:1<=3)
 |tup h _=>exact h
def VU {d:Nat}{x:T}(h:W d x)(hd:d<=2):∀y∈yY x,Pl 30 y:=by
 cases h with
 |int=>intro y hy;rw[aQ.mp hy];exact trivial
 |str=>intro y hy;rw[aQ.mp hy];exact trivial
 |@tup d xs h r=>intro y hy;exact(r y hy).pl30 00
def un (a:List T):Bool:= !(a.zipIdx.any λp=>inB (a.take p.2) p.1)
def Qz {xs:List T}{k:Nat}:oV (.tup xs) none (some (k:Int))=.ok (.tup (xs.take k)):=by
 show R.ok _=_;have:mR xs none (some (k))=xs.take k:=by
  unfold mR;rw[HT.sIx_none,HT.sIx_nat];simp only[eT,Nat.sub_zero];rw[List.take_eq_take_iff];lia
 rw[this]
def Kn {a:List T}(h:∀y∈a,Pl 30 y)(k:Nat)(x:T):ms x (.tup (a.take k))=.ok (inB (a.take k) x):=by
 show (match wS (λy=>lI 30 y x) _ with|some b=>R.ok b|none=>.bad)=_
 rw[FD x λy hy=>h y (ig hy)]
abbrev nG:En->R T:=jI ms (vB 1) (mD (vE 2) (mI) (j0 04))
theorem QA {a:List T}(h:∀y∈a,Pl 30 y):∀(d:List (T×Nat)) (x y:Sl),zR (Zb 0 1) Zh nG (d.map λp=>T.tup [.int (p.2:Nat),p.1]) [x,y,.vl (.tup a)]=.ok (d.map λp=>T.bl (inB (a.take p.2) p.1))
 |[],_,_=>rfl
 |q::d,x,y=>by
  have j:=QA h d (.vl (.int (q.2))) (.vl q.1);have e:nG [.vl (.int (q.2)),.vl q.1,.vl (.tup a)]=.ok (.bl (inB (a.take q.2) q.1)):=by
   have i:mD (vE 2) mI (j0 04) [.vl (.int (q.2)),.vl q.1,.vl (.tup a)]=oV (.tup a) _ _:=rfl;unfold nG;rw[j4,w1,af,i,Qz,af,Kn h,af]
  have f:zR (Zb 0 1) Zh nG ((q::d).map λp=>T.tup [.int (p.2),p.1]) [x,y,.vl (.tup a)]=
   (nG [.vl _,.vl q.1,.vl _]).bind λv=>(zR _ _ nG (d.map λp=>T.tup _) [.vl _,.vl q.1,.vl _]).bind λvs=>.ok _:=rfl
  rw[f,e,af,j,af,aK]
theorem uM {d:Type}(p:d->Bool):∀a:List d,wZ (a.map λq=>T.bl (p q))=some (a.any p)
 |[]=>rfl
 |q::a=>by
  have e:wZ ((q::a).map λq=>T.bl (p q))=match wZ (a.map λq=>T.bl _)with|some j=>some _|none=>none:=rfl
  rw[e,uM p a];rfl
def QB {a:List T}(h:∀y∈a,Pl 30 y)(j:a.length<=100):AV [.tup a]=.ok (.bl (un a)):=by
 show zx _=_;have d:zM (Zb 0 1) Zh nG 2 [0] [.vl (.tup a)] (jK a)=.ok (a.zipIdx.map λp=>T.bl (inB (a.take p.2) p.1)):=by
  unfold zM;rw[if_pos (by unfold jK;rw[ah,iA];have l:lM=16777216:=rfl;lia)]
  show quiet (zR _ _ _ _ [.un,.un,.vl _])=_;unfold jK;rw[QA h];rfl
 rw[CC,zy]
 ·rfl
 ·have i:Z9 (wC 04) (Zb 0 1) Zh nG 2 [0] [.vl (.tup a)]=.ok (.lst (a.zipIdx.map λp=>T.bl (inB (a.take p.2) p.1))):=by
   show ((R.ok _).bind _)=_;rw[af,d,af]
  have f:lG Cy (Z9 (wC 04) (Zb 0 1) Zh nG 2 [0]) [.vl (.tup a)]=.ok (.bl (a.zipIdx.any λp=>inB (a.take p.2) p.1)):=by
   rw[Zq,i];show (match wZ _ with|some k=>R.ok _|none=>.bad)=_
   rw[uM (λp:T×Nat=>inB _ p.1)]
  show vT _ [.vl _]=_;unfold vT;rw[f];rfl
noncomputable def Ba (w:Str):T->Bool
 |.str x=>x==w
 |_=>false
def Hu (w:Str)(n:Nat):∀t:T,lI n t (.str w)=some (Ba w t)
 |.str x=>by cases n<;>rfl
 |.non=>by cases n<;>rfl
 |.bl _=>by cases n<;>rfl
 |.int _=>by cases n<;>rfl
 |.tup _=>by cases n<;>rfl
 |.lst _=>by cases n<;>rfl
 |.fz _=>by cases n<;>rfl
theorem QC (w:Str):∀ts:List T,wS (λy=>lI 30 y (.str w)) ts=some (ts.any (Ba w))
 |[]=>rfl
 |t::ts=>by
  have e:wS (λy=>lI 30 y (.str w)) (t::ts)=match lI 30 t _ with
   |none=>none
   |some b=>match wS (λy=>lI 30 y _) ts with
    |none=>none
    |some d=>some _:=rfl
  rw[e,Hu,QC w ts];rfl
inductive Ru where
 |sum (a b:Int)|size (a b:Int)|word (w:Str)|rising|unlike|no (r:Ru)|all (r s:Ru)|some (r s:Ru)
def Ru.t:Ru->T
 |.sum a b=>.tup [.str "sum",.int a,.int b]
 |.size a b=>.tup [.str "size",.int a,.int b]
 |.word w=>.tup [.str "word",.str w]
 |.rising=>.tup [.str "rising"]
 |.unlike=>.tup [.str "unlike"]
 |.no r=>.tup [.str "no",r.t]
 |.all r s=>.tup [.str "all",r.t,s.t]
 |.some r s=>.tup [.str "some",r.t,s.t]
inductive jP:Nat->Ru->Prop where
 |sum {d:Nat} {a b:Int} (ha: -50<=a/\a<=50) (hb: -50<=b/\b<=50):jP (d+1) (.sum a b)
 |size {d:Nat} {a b:Int} (ha: -50<=a/\a<=50) (hb: -50<=b/\b<=50):jP (d+1) (.size a b)
 |word {d:Nat} {w:Str} (h:Zp (.str w)=true):jP (d+1) (.word w)
 |rising {d:Nat}:jP (d+1) .rising
 |unlike {d:Nat}:jP (d+1) .unlike
 |no {d:Nat} {r:Ru} (h:jP d r):jP (d+1) (.no r)
 |all {d:Nat} {r s:Ru} (h:jP d r) (h':jP d s):jP (d+1) (.all r s)
 |some {d:Nat} {r s:Ru} (h:jP d r) (h':jP d s):jP (d+1) (.some r s)
def jP.up {d:Nat}{r:Ru}(h:jP d r):jP (d+1) r:=by
 induction h with
 |sum j i=>exact .sum j i
 |size j i=>exact .size j i
 |word h=>exact .word h
 |rising=>exact .rising
 |unlike=>exact .unlike
 |no h f=>exact .no f
 |all h h' f a=>exact .all f a
 |some h h' f a=>exact .some f a
def kp:Ru->T->Bool
 |.sum a b,x=>decide (a<=(yi (lv x)).sum)&&decide ((yi (lv x)).sum<=b)
 |.size a b,x=>decide (a<=((yY x).length:Int))&&decide (((yY x).length:Int)<=b)
 |.word w,x=>(lv x).any (Ba w)
 |.rising,x=>Dv (yi (lv x))
 |.unlike,x=>un (yY x)
 |.no r,x=> !kp r x
 |.all r s,x=>kp r x&&kp s x
 |.some r s,x=>kp r x||kp s x
def wd {i:Int}(h: -50<=i/\i<=50):su [.int i]=.ok (.bl true):=by
 show zx _=_;rw[AF,zy]
 ·rfl
 ·show jg _ _ [.vl _]=_;rw[J9,zQ,v0,af,qU,xO,Z2,af];rw[af,w0,af,WH,decide_eq_true h.1,af,af,WH,decide_eq_true h.2];rfl
def ZF {x w:Str}{r:List T}{ρ:En}(b:Bool)(h:(x==w)=b):zI ko 02 (cE (.str w)) (.vl (.tup (.str x::r))::ρ)=.ok b:=by rw[m5,h]
def uN {f g:En->R Bool}{ρ:En}{b:Bool}(h:f ρ=.ok false)(h':g ρ=.ok b):ma f g ρ=.ok b:=by rw[yP,h,af,if_neg aN,h']
def B8 {f g:En->R Bool}{ρ:En}(h:f ρ=.ok true):ma f g ρ=.ok true:=by rw[yP,h,af,if_pos rfl]
def W3 {f g:En->R T}{ρ:En}{r:R T}(h:f ρ=.ok (.bl true))(h':g ρ=r):jg f g ρ=r:=by rw[J9,h,Zw,if_pos rfl,h']
def X2 {xs:List T}{ρ:En}{n:Int}(h:((xs.length:Int)==n)=true):jI ko (lG Zv (vB 0)) (cE (.int n)) (.vl (.tup xs)::ρ)=.ok (.bl true):=by
 rw[j4,Zq,w0,af,Ja,af,Z2,af,mQ,h,af]
def jr {xs:List T}{d:Nat}{x:T}:ma (zI ko (vB 1) (cE (.int 0))) (ma (JD (jJ (lG (Y4 "tuple") (vB 0)))) (zI ko (lG Zv (vB 0)) (cE (.int 0)))) (lJ (.tup (x::xs)) (.int ((d+1:Nat):Int)))=.ok false:=by
 refine uN ?_ (uN ?_ ?_)
 ·rw[zO,w1,af,Z2,af,mQ,beq_eq_false_iff_ne.mpr 00]
 ·rfl
 ·rw[zO,Zq,w0,af,Ja,af,Z2,af,mQ,beq_eq_false_iff_ne.mpr (by rw[ax];lia)]
def VV {w:Str}(h:Zp (.str w)=true):K5 (.str w):=by
 have h:(decide _&&decide _&&w.cps.toList.all _)=true:=h;simp only[ai,decide_eq_true_eq]at h;exact aC h.1.2 03
theorem Jz:∀(n d:Nat),d<=n->∀r:Ru,jP d r->se n 0 [r.t,.int (d:Int)]=.ok (.bl true)
 |0,d,h,r,hr=>by
  have:d=0:=by lia
  subst this;cases hr
 |n+1,d,h,r,hr=>by
  show zx (sI oz (se n 0) su (lJ r.t (.int (d:Int))))=_;rw[sI];cases hr with
  |@sum d a b l j=>
   rw[Ru.t,zb (zF jr),zP (t:=.bl true)]
   ·rfl
   ·exact zy (W3 (X2 rfl) (W3 (by show za 1 _ _ (lJ _ _)=_;rw[zQ,JL,af,wd l]) (by show za 1 _ _ (lJ _ _)=_;rw[zQ,uE,af,wd j])))
  |@size d a b l j=>
   rw[Ru.t,zb (zF jr),zP (t:=.bl true)]
   ·rfl
   ·exact zy (W3 (X2 rfl) (W3 (by show za 1 _ _ (lJ _ _)=_;rw[zQ,JL,af,wd l]) (by show za 1 _ _ (lJ _ _)=_;rw[zQ,uE,af,wd j])))
  |@word d w o=>
   rw[Ru.t,zb (zF jr),zb (zF (uN (ZF false 03) (ZF false 03))),zP (t:=.bl true)]
   ·rfl
   ·exact zy (W3 (X2 rfl) (by show za 1 _ _ (lJ _ _)=_;rw[zQ,JL,af,qS _ (VV o),o]))
  |rising=>
   rw[Ru.t,zb (zF jr),zb (zF (uN (ZF false 03) (ZF false 03))),zb (zF (ZF false 03)),zP (t:=.bl true)]
   ·rfl
   ·rw[JZ (B8 (ZF true 03))]
    exact zy (X2 rfl)
  |unlike=>
   rw[Ru.t,zb (zF jr),zb (zF (uN (ZF false 03) (ZF false 03))),zb (zF (ZF false 03)),zP (t:=.bl true)]
   ·rfl
   ·rw[JZ (uN (ZF false 03) (ZF true 03))]
    exact zy (X2 rfl)
  |@no d r hr=>
   have i:=Jz n d 00 r hr
   rw[Ru.t,zb (zF jr),zb (zF (uN (ZF false 03) (ZF false 03))),zb (zF (ZF false 03)),zb (zF (uN (ZF false 03) (ZF false 03))),zP (t:=.bl true)]
   ·rfl
   ·rw[JZ (ZF true 03)]
    exact zy (W3 (X2 rfl) (by show za 2 _ _ (lJ _ _)=_;rw[zU,JL,af,zv,v1,af,Z2,af,Zg,af,show ((d+1:Nat))-1=(d:Int) by lia,i]))
  |@all d r s hr k=>
   have i:=Jz n d 00 r hr
   have f:=Jz n d 00 s k
   rw[Ru.t,zb (zF jr),zb (zF (uN (ZF false 03) (ZF false 03))),zb (zF (ZF false 03)),zb (zF (uN (ZF false 03) (ZF false 03))),zb (zF (ZF false 03)),zP (t:=.bl true)]
   ·rfl
   ·exact zy (W3 (X2 rfl) (W3 (by show za 2 _ _ (lJ _ _)=_;rw[zU,JL,af,zv,v1,af,Z2,af,Zg,af,show ((d+1:Nat):Int)-1=(d) by lia,i]) (by show za 2 _ _ (lJ _ _)=_;rw[zU,uE,af,zv,v1,af,Z2,af,Zg,af,show ((d+1:Nat):Int)-1=(d) by lia,f])))
  |@some d r s hr k=>
   have i:=Jz n d 00 r hr
   have f:=Jz n d 00 s k
   rw[Ru.t,zb (zF jr),zb (zF (uN (ZF _ 03) (ZF _ 03))),zb (zF (ZF _ 03)),zb (zF (uN (ZF _ 03) (ZF _ 03))),zb (zF (ZF _ 03)),zP]
   ·rfl
   ·exact zy (W3 (X2 rfl) (W3 (by show za 2 _ _ (lJ _ _)=_;rw[zU,JL,af,zv,v1,af,Z2,af,Zg,af,show ((d+1:Nat):Int)-1=(d) by lia,i]) (by show za 2 _ _ (lJ _ _)=_;rw[zU,uE,af,zv,v1,af,Z2,af,Zg,af,show ((d+1:Nat):Int)-1=(d) by lia,f])))
def Dx {f g h:En->R T}{ρ:En}{i j k:Int}(l:f ρ=.ok (.int i))(a:g ρ=.ok (.int j))(d:h ρ=.ok (.int k)):mo lQ lQ f g h ρ=.ok (.bl (decide (i<=j)&&decide (j<=k))):=by
 rw[qU,l,af,a,af,WH,af];cases decide (i<=j)with
 |true=>rw[if_pos rfl,d,af,WH,af,io]
 |false=>rw[if_neg aN,Bool.false_and]
def QD {r:Ru}{x:T}{d:Nat}(hd:d<=2)(h:W d x)(b:Bool)(hr:(match r with|.no _=>False|.all _ _=>False|.some _ _=>False|_=>True)):pA [r.t,x]=.ok (.bl (kp r x)):=by
 have hn:=yX hd h;have hp:=Km h;have f:oZ 8 [x]=.ok (.lst (lv x)):=wO 8 d 00 00 x h
 have hi:=aC (yj _) (w9 hd h);show zx (sD sh (oZ 8) t9 _ _ (lJ r.t x))=_;rw[sD];cases r with
 |sum a b=>
  rw[zP]
  ·rfl
  ·refine zy ?_;show mo _ _ _ _ _ (lJ _ x)=_;exact Dx JL (by rw[Zq,zQ,v1,af,hn,af,DI]) uE
 |size a b=>
  rw[Ru.t,zb (zF (ZF _ 03)),zP]
  ·rfl
  ·rw[JZ (ZF _ 03)]
   refine zy ?_;show mo _ _ _ _ _ (lJ _ x)=_;exact Dx JL (by rw[Zq,zQ,v1,af,hp,af,Ja]) uE
 |word w=>
  rw[Ru.t,zb (zF (ZF false 03)),zb (zF (ZF false 03)),zP]
  ·rfl
  ·rw[JZ (ZF true 03)]
   refine zy ?_;show jI _ _ _ (lJ _ x)=_;rw[j4,JL,af,zQ,v1,af,f];show ((match wS (λy=>lI 30 y (.str w)) (lv x)with|some b=>R.ok b|none=>.bad).bind _)=_
   rw[QC];rfl
 |rising=>
  rw[Ru.t,zb (zF (ZF false 03)),zb (zF (ZF _ 03)),zb (zF (ZF _ 03)),zP (t:=.bl (kp _ x))]
  ·rfl
  ·rw[JZ (ZF true 03)]
   refine zy ?_;show za 1 _ _ (lJ _ x)=_;rw[zQ,zQ,v1,af,hn,af,Qx _ 00]
   rfl
 |unlike=>
  rw[Ru.t,zb (zF (ZF false 03)),zb (zF (ZF _ 03)),zb (zF (ZF false 03)),zb (zF (ZF _ 03)),zy]
  ·rfl
  ·show za 1 _ _ (lJ _ x)=_;rw[zQ,zQ,v1,af,hp,af,QB (VU h hd) (aC (Qy h) 00)]
   rfl
 |no=>exact hr.elim
 |all=>exact hr.elim
 |some=>exact hr.elim
def Ko {f:En->R T}{ρ:En}{b:Bool}(h:f ρ=.ok (.bl b)):vT f ρ=.ok (.bl (!b)):=by unfold vT;rw[h];rfl
def QE {f g:En->R T}{ρ:En}{a b:Bool}(h:f ρ=.ok (.bl a))(h':g ρ=.ok (.bl b)):jg f g ρ=.ok (.bl (a&&b)):=by
 rw[J9,h,h'];cases a<;>rfl
def E7 {f g:En->R T}{ρ:En}{a b:Bool}(h:f ρ=.ok (.bl a))(h':g ρ=.ok (.bl b)):o9 f g ρ=.ok (.bl (a||b)):=by
 unfold o9;rw[h];cases a with
 |true=>rfl
 |false=>exact h'
theorem JA {x:T}{e:Nat}(k:e<=2)(l:W e x):∀(n d:Nat),d<=n->∀r:Ru,jP d r->nz n 0 [r.t,x]=.ok (.bl (kp r x))
 |0,d,h,r,hr=>by
  have:d=0:=by lia
  subst this;cases hr
 |n+1,d,h,r,hr=>by
  show zx (tL (nz n 0) pA (lJ r.t x))=_;rw[tL];have f:∀(r:Ru) (s:Str) (q:List T),r.t=.tup (.str s::q)->(s=="no")=false->(s=="all")=false->(s=="some")=false->(match r with|.no _=>False|.all _ _=>False|.some _ _=>False|_=>True)->
    zx (zA (lK (zI ko 02 (cE (.str "no"))) (zJ (vT (za 2 (nz n 0) (z9 (zd i3 04 01) 06)))) (lL))
  (zA (lK (zI ko 02 (cE (.str "all"))) (zJ (jg (za 2 (nz n 0) (z9 (zd i3 04 01) 06)) (za 2 (nz n 0) (z9 (zd i3 04 08) 06)))) (lL))
  (zA (lK (zI ko 02 (cE (.str "some"))) (zJ (o9 (za 2 (nz n 0) (z9 (zd i3 04 01) 06)) (za 2 (nz n 0) (z9 (zd i3 04 08) 06)))) (lL))
  (zJ (za 2 pA (z9 04 06))))) (lJ r.t x))=.ok (.bl (kp r x)):=by
   intro r s q e B u p v;have j:=QD k l true v;rw[e]at j⊢;rw[zb (zF (ZF _ B)),zb (zF (ZF false u)),zb (zF (ZF _ p)),zy]
   ·rfl
   ·show za 2 _ _ (lJ _ x)=_;rw[zU,v0,af,v1,af,j]
  cases hr with
  |@sum d a b y D=>exact f (.sum a b) "sum" _ rfl 03 03 03 trivial
  |@size d a b y D=>exact f _ "size" _ rfl 03 03 03 trivial
  |@word d w G=>exact f _ _ _ rfl 03 03 03 trivial
  |rising=>exact f .rising _ _ rfl 03 03 03 trivial
  |unlike=>exact f .unlike _ _ rfl 03 03 03 trivial
  |@no d r hr=>
   have o:=JA k l n d 00 r hr
   rw[Ru.t,zP]
   ·rfl
   ·exact zy (Ko (by show za 2 _ _ (lJ _ x)=_;rw[zU,JL,af,v1,af,o]))
  |@all d r s hr j=>
   have o:=JA k l n d 00 r hr
   have i:=JA k l n d 00 s j
   rw[Ru.t,zb (zF (ZF _ 03)),zP]
   ·rfl
   ·exact zy (QE (by show za 2 _ _ (lJ _ x)=_;rw[zU,JL,af,v1,af,o]) (by show za 2 _ _ (lJ _ x)=_;rw[zU,uE,af,v1,af,i]))
  |@some d r s hr j=>
   have o:=JA k l n d 00 r hr
   have i:=JA k l n d 00 s j
   rw[Ru.t,zb (zF (ZF _ 03)),zb (zF (ZF _ 03)),zP]
   ·rfl
   ·exact zy (E7 (by show za 2 _ _ (lJ _ x)=_;rw[zU,JL,af,v1,af,o]) (by show za 2 _ _ (lJ _ x)=_;rw[zU,uE,af,v1,af,i]))
abbrev lr (ns:List Int)(k:Int)(d:Nat)(p:Int)(a b:Sl):En:=[.vl (lN ns),.vl (.int k),.vl (.int (d:Int)),.vl (.int p),a,b]
def QF {ns:List Int}{k:Int}{d:Nat}{p:Int}{a b:Sl}{j m q:Int}(h:me [lN ns,.int (k+j),.int m]=.ok (.int q)):za 3 me (z9 04 (z9 (zd zE (vE 1) (cE (.int j))) (z9 (cE (.int m)) (zj)))) (lr ns k d p a b)=.ok (.int q):=by
 rw[Zi,v0,af,zv,v1,af,Z2,af,Z3,af,Z2,af,h]
theorem WR (ns:List Int):∀(n d:Nat),d<=n->1<=d->∀k:Int,0<=k->∃r:Ru,oa n 0 [lN ns,.int k,.int (d:Int)]=.ok r.t/\jP d r
 |0,d,h,h1,k,hk=>by lia
 |n+1,d,h,h1,k,hk=>by
  obtain⟨p,hp,p0,p9⟩:=zV ns k 9 hk 00
  have e1:zY 3 (za 3 me (z9 04 (z9 (vE 1) (z9 (cE (.int 9)) (zj))))) [.vl (lN ns),.vl (.int k),.vl (.int (d:Int)),.un,.un,.un]=.nx (lr ns k d p .un .un):=by
   rw[Z4 (t:=.int p)]
   ·rfl
   ·rw[Zi,v0,af,v1,af,Z2,af,hp]
  have e:oa (n+1) 0 [lN ns,.int k,.int (d:Int)]=zx (tF me (oa n 0) [.vl (lN ns),.vl (.int k),.vl (.int (d:Int)),.un,.un,.un]):=rfl;rw[e,tF,zb e1];have i:G9 (zI ml (vB 2) 01) (zI ml (vB 3) (cE (.int 5))) (lr ns k d p .un .un)=.ok (decide (1<d)&&decide (5<p)):=by
   rw[K7,zO,w2,af,Z2,af,VT,af,show decide ((1:Int)<(d:Int))=decide (1<d) by rw[ly,decide_eq_true_eq,decide_eq_true_eq];lia]
   cases decide (1<d)with
   |true=>rw[if_pos rfl,zO,w3,af,Z2,af,VT,io]
   |false=>rfl
  by_cases hb:1<d/\5<p
  ·rw[decide_eq_true hb.1,decide_eq_true hb.2]at i;obtain⟨d,rfl⟩:∃N,d=N+1:=⟨d-1,by lia⟩
   obtain⟨a,I,Z⟩:=WR ns n d 00 00 (2*k+11) 00
   obtain⟨v,X,o2⟩:=WR ns n d 00 00 (2*k+24) 00
   have m2:Z7 (.int 2) (.int k)=.ok (.int (2*k)):=Q0 _ _ (.inl ⟨by decide,by decide⟩)
   have y:zY 4 (za 3 (oa n 0) (z9 04 (z9 (zd zE (zd Z7 08 (vE 1)) (cE (.int 11))) (z9 (zd jb (vE 2) 01) (zj))))) (lr ns k (d+1) p .un .un)=.nx (lr ns k (d+1) p (.vl a.t) .un):=by
    rw[Z4 (t:=a.t)]
    ·rfl
    ·rw[Zi,v0,af,zv,zv,Z2,af,v1,af,m2,af,Z2,af,Z3,af,zv,v2,af,Z2,af,Zg,af,show ((d+1:Nat):Int)-1=(d:Int) by lia,I]
   have c2:za 3 (oa n 0) (z9 04 (z9 (zd zE (zd Z7 08 (vE 1)) (cE (.int 24))) (z9 (zd jb (vE 2) 01) (zj)))) (lr ns k (d+1) p (.vl a.t) .un)=.ok v.t:=by
    rw[Zi,v0,af,zv,zv,Z2,af,v1,af,m2,af,Z2,af,Z3,af,zv,v2,af,Z2,af,Zg,af,show ((d+1:Nat):Int)-1=(d:Int) by lia,X]
   by_cases h6:p=6
   ·subst h6;refine⟨.no a,?_,.no Z⟩;rw[zP (t:=(Ru.no a).t)]
    ·rfl
    ·rw[JZ i,zb y,zP (t:=(Ru.no a).t)];rw[JZ rfl,Ru.t];exact zy (VB rfl rfl)
   ·have x:zI ko (vB 3) (cE (.int 6)) (lr ns k (d+1) p (.vl a.t) .un)=.ok false:=by
     rw[zO,w3,af,Z2,af,mQ,beq_eq_false_iff_ne.mpr h6]
    by_cases h7:p=7
    ·subst h7;refine⟨.all a v,?_,.all Z o2⟩;rw[zP (t:=(Ru.all a v).t)]
     ·rfl
     ·rw[JZ i,zb y,zb (zF x),Ru.t];exact zy (pG rfl rfl c2)
    ·have h8:p=8:=by lia
     subst h8;refine⟨.some a v,?_,.some Z o2⟩;rw[zP (t:=(Ru.some a v).t)]
     ·rfl
     ·rw[JZ i,zb y,zb (zF x),Ru.t];exact zy (pG rfl rfl c2)
  ·have i:G9 (zI ml (vB 2) 01) (zI ml (vB 3) (cE (.int 5))) (lr ns k d p .un .un)=.ok false:=by
    rw[i];congr 1
    rw[Bool.and_eq_false_iff,decide_eq_false_iff_not,decide_eq_false_iff_not];lia
   obtain⟨d,rfl⟩:∃N,d=N+1:=⟨d-1,by lia⟩
   obtain⟨q,hq,q0,q9⟩:=zV ns (k+1) 9 00 00
   have y:zY 5 (zd jb (za 3 me (z9 04 (z9 (zd zE (vE 1) 01) (z9 (cE (.int 9)) (zj))))) (cE (.int 4))) (lr ns k (d+1) p .un .un)=.nx (lr ns k (d+1) p .un (.vl (.int (q-4)))):=by
    rw[Z4 (t:=.int (q-4))]
    ·rfl
    ·rw[zv,QF hq,af,Z2,af,Zg]
   rw[zb (zF i),zb y];have G:∃m:Nat,m<6/\zd Jl (vE 3) (cE (.int 6)) (lr ns k (d+1) p .un (.vl (.int (q-4))))=.ok (.int (m:Int)):=by
    obtain⟨w,rfl⟩:=cN p0;exact⟨w%6,Nat.mod_lt _ 00,by rw[zv,v3,af,Z2,af];exact xY (c:=6) 00⟩
   obtain⟨m,m6,G⟩:=G;have t2:zI mH (zd Jl (vE 3) (cE (.int 6))) 08 (lr ns k (d+1) p .un (.vl (.int (q-4))))=.ok (decide (m<2)):=by
    rw[zO,G,af,Z2,af,A7];congr 1;rw[ly,decide_eq_true_eq,decide_eq_true_eq];lia
   have tk:∀j:Nat,zI ko (zd Jl (vE 3) (cE (.int 6))) (cE (.int (j:Int))) (lr ns k (d+1) p .un (.vl (.int (q-4))))=.ok (m==j):=λj=>by
    rw[zO,G,af,Z2,af,mQ,UY]
   have B:zI ko (zd Jl (vE 3) (cE (.int 6))) 08 (lr ns k (d+1) p .un (.vl (.int (q-4))))=.ok (m==2):=tk 2;have o:zI ko (zd Jl (vE 3) (cE (.int 6))) (cE (.int 3)) (lr ns k (d+1) p .un (.vl (.int (q-4))))=.ok (m==3):=tk 3;have D:zI ko (zd Jl (vE 3) (cE (.int 6))) (cE (.int 4)) (lr ns k (d+1) p .un (.vl (.int (q-4))))=.ok (m==4):=tk 4
   by_cases h2:m<2
   ·obtain⟨u,P,u0,u5⟩:=zV ns (k+2) 5 00 00
    refine⟨.sum (q-4) (q-4+u-1),?_,.sum ⟨by lia,by lia⟩ ⟨by lia,by lia⟩⟩
    rw[zP (t:=(Ru.sum (q-4) (q-4+u-1)).t)]
    ·rfl
    ·rw[JZ (by rw[t2,decide_eq_true h2]),Ru.t]
     refine zy (pG rfl rfl ?_);show zd jb _ _ (lr ns k (d+1) p .un (.vl (.int (q-4))))=_;rw[zv,zv,QF P,show vE 5 (lr ns k (d+1) p .un (.vl (.int (q-4))))=.ok (.int (q-4)) from rfl,af,af,Z3,af,Z2,af,Zg]
   rw[zb (zF (by rw[t2,decide_eq_false h2]))]
   by_cases h3:m=2
   ·subst h3;obtain⟨f,l,U,Q⟩:=zV ns (k+1) 3 00 00
    obtain⟨u,P,u0,u4⟩:=zV ns (k+2) 4 00 00
    refine⟨.size f u,?_,.size ⟨by lia,by lia⟩ ⟨by lia,by lia⟩⟩
    rw[zP (t:=(Ru.size f u).t)]
    ·rfl
    ·rw[JZ B,Ru.t];exact zy (pG rfl (QF l) (QF P))
   rw[zb (zF (by rw[B,beq_eq_false_iff_ne.mpr h3]))]
   by_cases h4:m=3
   ·subst h4;obtain⟨f,l,U,Q⟩:=zV ns (k+1) 4 00 00
    have S:∃w:Str,Zp (.str w)=true/\i3 (.lst [.str "a",.str "b",.str "ab",.str "zz"]) (.int f)=.ok (.str w):=by
     have J:f=0\/f=1\/f=2\/f=3:=by lia
     rcases J with rfl|rfl|rfl|rfl
     ·exact⟨"a",by decide,rfl⟩
     ·exact⟨"b",by decide,rfl⟩
     ·exact⟨"ab",by decide,rfl⟩
     ·exact⟨"zz",by decide,rfl⟩
    obtain⟨w,S,hx⟩:=S;refine⟨.word w,?_,.word S⟩;rw[zP (t:=(Ru.word w).t)]
    ·rfl
    ·rw[JZ o,Ru.t];refine zy (VB rfl ?_);show zd i3 _ _ (lr ns k (d+1) p .un (.vl (.int (q-4))))=_;rw[zv,QF l];exact hx
   rw[zb (zF (by rw[o,beq_eq_false_iff_ne.mpr h4]))]
   by_cases h5:m=4
   ·subst h5;refine⟨.rising,?_,.rising⟩;rw[zy (t:=Ru.rising.t)]
    ·rfl
    ·show md _ _ _ (lr ns k (d+1) p .un (.vl (.int (q-4))))=_;unfold md;rw[D,af];rfl
   ·refine⟨.unlike,?_,.unlike⟩;rw[zy (t:=Ru.unlike.t)]
    ·rfl
    ·show md _ _ _ (lr ns k (d+1) p .un (.vl (.int (q-4))))=_;unfold md;rw[D,af,beq_eq_false_iff_ne.mpr h5];rfl
def CN {k:Kd}(a:k.Ok 3){x:T}(d:x∈k.all):W 2 x:=BP 2 k x a ((jo k x).mp d)
def Wl {x:T}(a:W 2 x){r:Ru}(hr:jP 3 r):nV 8 [r.t,x]=.ok (.bl (kp r x)):=JA 00 a 8 3 00 r hr
noncomputable def yk (lo hi:Int):Int:=if hi<(if lo>0 then lo else 0)then hi else (if lo>0 then lo else 0)
noncomputable def vo (i:Int):Int:=if i<0 then-i else i
noncomputable def lY:List (T->Int)->List T->Int
 |f::fs,x::xs=>f x+lY fs xs
 |_,_=>0
noncomputable def oh (fs:List (T->List T))(xs:List T):List (List T):=(aZ xs.length).flatMap λi=>match fs[i]?,xs[i]? with
 |some f,some x=>(f x).map λy=>xs.set i y
 |_,_=>[]
noncomputable def rK (xs:List T):List (List T):=(aZ xs.length).map λi=>xs.take i++xs.drop (i+1)
mutual
noncomputable def Kd.wt:Kd->T->Int
 |.whole lo hi=>λt=>match t with|.int i=>vo (i-yk lo hi)|_=>0
 |.pick d=>λt=>match t with|.str x=>((d.map (·.1)).idxOf x:Nat)|_=>0
 |.row a=>λt=>match t with|.tup xs=>lY (Kd.wtF a) xs|_=>0
 |.many k lo hi=>λt=>match t with|.tup xs=>lY (ac xs.length k.wt) xs+(xs.length:Int)-(lo:Int)|_=>0
noncomputable def Kd.wtF:List Kd->List (T->Int)
 |[]=>[]
 |k::a=>k.wt::Kd.wtF a
end
mutual
noncomputable def Kd.less:Kd->T->List T
 |.whole lo hi=>λt=>match t with|.int i=>if i=yk lo hi then []else if i>yk lo hi then [.int (i-1)]else [.int (i+1)]|_=>[]
 |.pick a=>λt=>match t with|.str x=>(match (a.map (·.1)).idxOf x with|0=>[]|j+1=>match a[j]? with|some c=>[.str c.1]|none=>[])|_=>[]
 |.row d=>λt=>match t with|.tup xs=>(oh (Kd.lessF d) xs).map T.tup|_=>[]
 |.many k lo hi=>λt=>match t with|.tup xs=>(if xs.length=lo then []else (rK xs).map T.tup)++(oh (ac xs.length k.less) xs).map T.tup|_=>[]
noncomputable def Kd.lessF:List Kd->List (T->List T)
 |[]=>[]
 |k::a=>k.less::Kd.lessF a
end
theorem Kd.wtF_map:∀a:List Kd,Kd.wtF a=a.map Kd.wt
 |[]=>by simp only[Kd.wtF,ce]
 |k::a=>by simp only[Kd.wtF,aK,Kd.wtF_map a]
theorem Kd.lessF_map:∀a:List Kd,Kd.lessF a=a.map Kd.less
 |[]=>by simp only[Kd.lessF,ce]
 |k::a=>by simp only[Kd.lessF,aK,Kd.lessF_map a]
structure mB (k:Kd):Prop where
 pos:∀x,k.has x=true->0<=k.wt x
 dn:∀x y,k.has x=true->y∈k.less x->k.has y=true/\k.wt y<k.wt x
 one:∀x,k.has x=true->k.wt x≠0->∃y∈k.less x,k.wt y=k.wt x-1
 uniq:∀x y,k.has x=true->k.has y=true->k.wt x=0->k.wt y=0->x=y
def Kp {lo hi:Int}(h:lo<=hi):lo<=yk lo hi/\yk lo hi<=hi:=by
 unfold yk;split<;>split at* <;>lia
def j7 {lo hi:Int}{x:T}:n9 lo hi x=true↔∃i,x=.int i/\lo<=i/\i<=hi:=by
 constructor
 ·intro h;obtain⟨i,rfl⟩:=Uf h;simp[n9]at h;exact⟨i,rfl,h⟩
 ·rintro⟨i,rfl,h⟩
  simp[n9];exact h
def QG {lo hi:Int}(h:lo<=hi):mB (.whole lo hi):=by
 obtain⟨u,p⟩:=Kp h;refine⟨λx a=>?_,λx y a hy=>?_,λx a l=>?_,λx y a hy k f=>?_⟩
 ·simp only[Kd.wt,vo];split<;>lia
 ·obtain⟨i,rfl,d⟩:=j7.mp a;simp only[Kd.less]at hy;split at hy
  ·cases hy
  ·split at hy
   ·simp at hy;subst hy;simp only[Kd.has,Kd.wt,vo];refine⟨j7.mpr ⟨_,rfl,by lia,by lia⟩,?_⟩
    split<;>split<;>lia
   ·simp at hy;subst hy;simp only[Kd.has,Kd.wt,vo];refine⟨j7.mpr ⟨_,rfl,by lia,by lia⟩,?_⟩
    split<;>split<;>lia
 ·obtain⟨i,rfl,d⟩:=j7.mp a;simp only[Kd.wt,vo]at l⊢;simp only[Kd.less]
  by_cases e:i=yk lo hi
  ·exfalso;apply l;split<;>lia
  ·rw[if_neg e]
   by_cases g:i>yk lo hi
   ·rw[if_pos g];refine⟨_,aQ.mpr rfl,?_⟩;simp only[Kd.wt,vo];split<;>split<;>lia
   ·rw[if_neg g];refine⟨_,aQ.mpr rfl,?_⟩;simp only[Kd.wt,vo];split<;>split<;>lia
 ·obtain⟨i,rfl,d⟩:=j7.mp a;obtain⟨j,rfl,o⟩:=j7.mp hy;simp only[Kd.wt,vo]at k f;have:i=j:=by split at k<;>split at f<;>lia
  rw[this]
def ZE {f:List (Str×Int)}{x:T}:(Kd.pick f).has x=true↔∃w,x=.str w/\w∈f.map (·.1):=by
 have d:∀w,(f.any λc=>c.1==w)=true↔w∈f.map _:=λw=>by
  rw[fQ,aO];exact⟨λ⟨c,a,b⟩=>⟨c,a,beq_iff_eq.mp b⟩,λ⟨c,a,b⟩=>⟨c,a,beq_iff_eq.mpr b⟩⟩
 constructor
 ·intro h;cases x with
  |str w=>exact⟨w,rfl,(d w).mp h⟩
  |_=>cases h
 ·rintro⟨w,rfl,h⟩
  exact(d w).mpr h
def QH {a:List Str}{w:Str}(h:w∈a):a.idxOf w<a.length:=fj.mpr h
def QJ {a:List Str}{w:Str}(h:w∈a):a[a.idxOf w]?=some w:=by
 rw[am (QH h),iu _]
def Kq {d:List Str}(h:Dst d){i j:Nat}{w:Str}(hi:d[i]?=some w)(k:d[j]?=some w):i=j:=by
 have f:∀{i j:Nat},d[i]?=some w->d[j]?=some w->¬i<j:=λ{i j} hi k l=>by
  refine h j w k (aT (i:=i) ?_);rw[dB l];exact hi
 have a:=f hi k;have b:=f k hi;lia
def QK {a:List Str}(h:Dst a){i:Nat}{w:Str}(hi:a[i]?=some w):a.idxOf w=i:=Kq h (QJ (aT hi)) hi
def VW {d:List (Str×Int)}(h:Dst (d.map (·.1))):mB (.pick d):=by
 refine⟨λx i=>?_,λx y i hy=>?_,λx i f=>?_,λx y i hy G D=>?_⟩
 ·obtain⟨w,rfl,f⟩:=ZE.mp i;simp only[Kd.wt];lia
 ·obtain⟨w,rfl,f⟩:=ZE.mp i;simp only[Kd.less]at hy;split at hy
  ·cases hy
  ·rename_i j e;split at hy
   ·rename_i c B;simp at hy;subst hy;have k:(d.map (·.1))[j]?=some c.1:=by rw[aj,B];rfl
    refine⟨ZE.mpr ⟨_,rfl,aT k⟩,?_⟩;simp only[Kd.wt];rw[QK h k];lia
   ·cases hy
 ·obtain⟨w,rfl,o⟩:=ZE.mp i;simp only[Kd.wt]at f⊢;simp only[Kd.less];have p:=QH o;cases e:(d.map _).idxOf w with
  |zero=>rw[e]at f;exact absurd rfl f
  |succ j=>
   rw[e]at p;have I:=iQ (by simpa using p)
   obtain⟨c,k⟩:=jp I;dsimp only;rw[k];refine⟨_,aQ.mpr rfl,?_⟩;have l:(d.map (·.1))[j]?=some c.1:=by rw[aj,k];rfl
   simp only[Kd.wt];rw[QK h l];lia
 ·obtain⟨w,rfl,f⟩:=ZE.mp i;obtain⟨v,rfl,u⟩:=ZE.mp hy;simp only[Kd.wt]at G D;have a:=QJ f;have b:=QJ u;rw[show (d.map _).idxOf w=0 by lia]at a
  rw[show (d.map _).idxOf v=0 by lia,a]at b
  rw[aA b]
def Hs (a:List Kd)(xs:List T):Prop:=xs.length=a.length/\∀(i:Nat) (k:Kd) (x:T),a[i]?=some k->xs[i]?=some x->k.has x=true
theorem Uo:∀(fs:List (T->Int)) (xs:List T) (i:Nat) (f:T->Int) (x y:T),fs[i]?=some f->xs[i]?=some x->lY fs (xs.set i y)=lY fs xs-f x+f y
 |[],_,i,_,_,_,h,_=>by simp at h
 |_::_,[],i,_,_,_,_,h=>by simp at h
 |f::fs,x::xs,0,g,u,y,h,h'=>by
  simp at h h';subst h h';simp only[List.set_cons_zero,lY];lia
 |f::fs,x::xs,i+1,g,u,y,h,h'=>by
  have a:=Uo fs xs i g u y (by simpa using h) (by simpa using h')
  simp only[List.set_cons_succ,lY,a];lia
def WS {k:Kd}{o:List Kd}{x:T}{xs:List T}:Hs (k::o) (x::xs)↔k.has x=true/\Hs o xs:=by
 constructor
 ·rintro⟨j,d⟩
  exact⟨d 0 k x rfl rfl,by simpa using j,λi f l a b=>d (i+1) f l (by simpa using a) (by simpa using b)⟩
 ·rintro⟨p,j,d⟩
  refine⟨by simp[j],λi f l a b=>?_⟩
  cases i with
  |zero=>simp at a b;subst a b;exact p
  |succ i=>exact d i f l (by simpa using a) (by simpa using b)
theorem jt:∀(d:List Kd) (xs:List T),(∀k∈d,mB k)->Hs d xs->0<=lY (d.map Kd.wt) xs
 |[],[],_,_=>by simp[lY]
 |[],_::_,_,h=>by simp[Hs]at h
 |_::_,[],_,h=>by simp[lY]
 |k::d,x::xs,f,h=>by
  obtain⟨i,l⟩:=WS.mp h;have a:=(f k aq).pos x i;have b:=jt d xs (λq j=>f q (ae _ j)) l;simp only[aK,lY];lia
theorem WT:∀(d:List Kd) (xs f:List T),(∀k∈d,mB k)->Hs d xs->Hs d f->lY (d.map Kd.wt) xs=0->lY (d.map Kd.wt) f=0->xs=f
 |[],xs,f,_,h,h',_,_=>by
  have a:=ci h.1;have b:=ci h'.1;rw[a,b]
 |k::d,[],_,_,h,_,_,_=>by simp[Hs]at h
 |k::d,_::_,[],_,_,h,_,_=>by simp[Hs]at h
 |k::d,x::xs,y::f,j,h,h',e,B=>by
  obtain⟨p,l⟩:=WS.mp h;obtain⟨u,o⟩:=WS.mp h';have i:=λq v=>j q (ae _ v);have L:=j k aq;have a:=L.pos x p;have D:=L.pos y u;have b:=jt d xs i l;have G:=jt d f i o;simp only[aK,lY]at e B;rw[L.uniq x y p u 00 00,WT d xs f i l o 00 00]
theorem QL:∀(d:List Kd) (xs:List T),(∀k∈d,mB k)->Hs d xs->lY (d.map Kd.wt) xs≠0->∃(i:Nat) (k:Kd) (x:T),d[i]?=some k/\xs[i]?=some x/\k.wt x≠0
 |[],xs,_,_,h=>absurd (by simp[lY]) h
 |k::d,[],_,_,h=>absurd (by simp[lY]) h
 |k::d,x::xs,j,h,f=>by
  obtain⟨v,p⟩:=WS.mp h
  by_cases e:k.wt x=0
  ·simp only[aK,lY,e,eK]at f;obtain⟨i,l,u,a,b,c⟩:=QL d xs (λq o=>j q (ae _ o)) p f;exact⟨i+1,l,u,by simpa using a,by simpa using b,c⟩
  ·exact⟨0,k,x,rfl,rfl,e⟩
def QN {d:List Kd}{xs f:List T}:f∈oh (d.map Kd.less) xs↔∃(i:Nat) (k:Kd) (x y:T),d[i]?=some k/\xs[i]?=some x/\y∈k.less x/\f=xs.set i y:=by
 unfold oh;rw[cP];constructor
 ·rintro⟨i,hi,h⟩
  rw[aj]at h;cases e:d[i]? with
  |none=>rw[e]at h;simp at h
  |some k=>
   rw[e]at h;cases a:xs[i]? with
   |none=>rw[a]at h;simp at h
   |some x=>
    rw[a]at h;obtain⟨y,hy,rfl⟩:=aO.mp h;exact⟨i,k,x,y,e,a,hy,rfl⟩
 ·rintro⟨i,k,x,y,e,a,hy,rfl⟩
  have hi:=(ak.mp a).1;refine⟨i,bn.mpr hi,?_⟩;rw[aj,e,a];exact aO.mpr ⟨y,hy,rfl⟩
def Fe {d:List Kd}{xs:List T}{i:Nat}{k:Kd}{y:T}(h:Hs d xs)(f:d[i]?=some k)(hy:k.has y=true):Hs d (xs.set i y):=by
 refine⟨by rw[aw];exact h.1,λj l o a b=>?_⟩
 by_cases e:i=j
 ·subst e;have hi:=by have:=(ak.mp b).1;simpa using this
  rw[aH hi]at b;rw[f]at a;cases a;cases b;exact hy
 ·rw[av e]at b;exact h.2 j l o a b
def Zx {d:Type}{l:List d}{i:Nat}{a:d}(h:l[i]?=some a):a∈l:=aT h
def QO {d:List Kd}{xs f:List T}(j:∀k∈d,mB k)(h:Hs d xs)(hy:f∈oh (d.map Kd.less) xs):Hs d f/\lY (d.map Kd.wt) f<lY (d.map Kd.wt) xs:=by
 obtain⟨i,k,x,y,a,b,c,rfl⟩:=QN.mp hy;obtain⟨l,o⟩:=(j k (Zx a)).dn x y (h.2 i k x a b) c;refine⟨Fe h a l,?_⟩;rw[Uo _ xs i _ x y (by rw[aj,a];rfl) b];lia
def QP {d:List Kd}{xs:List T}(f:∀k∈d,mB k)(h:Hs d xs)(l:lY (d.map Kd.wt) xs≠0):∃j∈oh (d.map Kd.less) xs,lY (d.map Kd.wt) j=lY (d.map Kd.wt) xs-1:=by
 obtain⟨i,k,x,a,b,c⟩:=QL d xs f h l;obtain⟨y,hy,e⟩:=(f k (Zx a)).one x (h.2 i k x a b) c;refine⟨xs.set i y,QN.mpr ⟨i,k,x,y,a,b,hy,rfl⟩,?_⟩;rw[Uo _ xs i _ x y (by rw[aj,a];rfl) b];lia
def X3 {f:List Kd}{xs:List T}:(xs.length==f.length&&Kd.hass f xs)=true↔Hs f xs:=by
 rw[ai,beq_iff_eq,WL,aI];constructor
 ·rintro⟨j,d⟩
  refine⟨j,λi k x a b=>d (k,x) (aT (i:=i) ?_)⟩;rw[cx];exact⟨a,b⟩
 ·rintro⟨j,d⟩
  refine⟨j,λq l=>?_⟩;obtain⟨i,hi⟩:=db.mp l;obtain⟨a,b⟩:=cx.mp hi;exact d i q.1 q.2 a b
def Wm {k:Kd}{xs:List T}:xs.all k.has=true↔Hs (ac xs.length k) xs:=by
 rw[aI];constructor
 ·intro h;refine⟨by simp,λi f x a b=>?_⟩
  obtain rfl:k=f:=(cV.mp (Zx a)).2.symm;exact h x (Zx b)
 ·rintro⟨_,h⟩ x j
  obtain⟨i,hi⟩:=db.mp j;have d:=(ak.mp hi).1;exact h i k x (by rw[aF,if_pos d]) hi
def ju {a:List Kd}{t:T}(h:(Kd.row a).has t=true):∃xs,t=.tup xs/\Hs a xs:=by
 simp only[Kd.has]at h;split at h
 ·exact⟨_,rfl,X3.mp h⟩
 ·cases h
def ZO {k:Kd}{lo hi:Nat}{t:T}(h:(Kd.many k lo hi).has t=true):∃xs,t=.tup xs/\lo<=xs.length/\xs.length<=hi/\Hs (ac xs.length k) xs:=by
 simp only[Kd.has]at h;split at h
 ·rw[ai,ai,decide_eq_true_eq,decide_eq_true_eq]at h;exact⟨_,rfl,h.1.1,h.1.2,Wm.mp h.2⟩
 ·cases h
def Kr {a:List Kd}{xs:List T}(h:Hs a xs):(Kd.row a).has (.tup xs)=true:=by exact X3.mpr h
def yl {k:Kd}{lo hi:Nat}{xs:List T}(d:lo<=xs.length)(a:xs.length<=hi)(h:Hs (ac xs.length k) xs):(Kd.many k lo hi).has (.tup xs)=true:=by
 simp only[Kd.has];rw[ai,ai,decide_eq_true_eq,decide_eq_true_eq];exact⟨⟨d,a⟩,Wm.mpr h⟩
def Ks {o:List Kd}(i:∀k∈o,mB k):mB (.row o):=by
 refine⟨λx d=>?_,λx y d hy=>?_,λx d u=>?_,λx y d hy l j=>?_⟩
 ·obtain⟨xs,rfl,h⟩:=ju d;simp only[Kd.wt,Kd.wtF_map];exact jt o xs i h
 ·obtain⟨xs,rfl,h⟩:=ju d;simp only[Kd.less,Kd.lessF_map]at hy;obtain⟨f,p,rfl⟩:=aO.mp hy;obtain⟨a,b⟩:=QO i h p;simp only[Kd.wt,Kd.wtF_map];exact⟨Kr a,b⟩
 ·obtain⟨xs,rfl,h⟩:=ju d;simp only[Kd.wt,Kd.wtF_map]at u⊢;obtain⟨f,l,j⟩:=QP i h u;refine⟨.tup f,by simp only[Kd.less,Kd.lessF_map];exact aO.mpr ⟨f,l,rfl⟩,?_⟩
  exact j
 ·obtain⟨xs,rfl,h⟩:=ju d;obtain⟨f,rfl,h'⟩:=ju hy;simp only[Kd.wt,Kd.wtF_map]at l j;rw[WT o xs f i h h' l j]
theorem WU {k:Kd}:∀(xs:List T) (i:Nat) (x:T),xs[i]?=some x->lY (ac (xs.take i++xs.drop (i+1)).length k.wt) (xs.take i++xs.drop (i+1))=lY (ac xs.length k.wt) xs-k.wt x
 |[],i,x,h=>by simp at h
 |y::a,0,x,h=>by
  simp at h;subst h;simp only[List.take_zero,ck,h9,il,eT,ax,bA,lY];lia
 |y::a,i+1,x,h=>by
  have d:=WU (k:=k) a i x (by simpa using h)
  simp only[ik,il,du,ax,bA,lY,d];lia
def QR {xs:List T}{i:Nat}(h:i<xs.length):(xs.take i++xs.drop (i+1)).length=xs.length-1:=by
 rw[aB,eA,dq];lia
def X5 {k:Kd}{xs:List T}{i:Nat}(h:Hs (ac xs.length k) xs):Hs (ac (xs.take i++xs.drop (i+1)).length k) (xs.take i++xs.drop (i+1)):=by
 rw[←Wm]at h⊢;rw[aI]at h⊢;intro x a;rcases bh.mp a with a|a
 ·exact h x (ig a)
 ·exact h x (List.mem_of_mem_drop a)
def Zm {d i:Type}(f:d->i)(n:Nat)(a:d):ac n (f a)=(ac n a).map f:=by rw[ba]
def VX {k:Kd}{lo hi:Nat}(D:mB k):mB (.many k lo hi):=by
 have hr:∀n,∀q∈ac n k,mB q:=λn q N=>by obtain rfl:=(cV.mp N).2;exact D
 refine⟨λx o=>?_,λx y o hy=>?_,λx o P=>?_,λx y o hy B u=>?_⟩
 ·obtain⟨xs,rfl,B,u,h⟩:=ZO o;simp only[Kd.wt,Zm];have:=jt _ xs (hr _) h;lia
 ·obtain⟨xs,rfl,B,u,h⟩:=ZO o;rcases bh.mp hy with hy|hy
  ·split at hy
   ·cases hy
   ·obtain⟨j,l,rfl⟩:=aO.mp hy;obtain⟨i,J,rfl⟩:=aO.mp l;have f:=bn.mp J;obtain⟨x,d⟩:=jp f;have v:=QR f;refine⟨yl 00 00 (X5 h),?_⟩
    simp only[Kd.wt];rw[WU xs i x d];have:=D.pos x (aI.mp (Wm.mpr h) x (Zx d));lia
  ·rw[Zm]at hy;obtain⟨j,l,rfl⟩:=aO.mp hy;obtain⟨a,b⟩:=QO (hr _) h l;have v:=by have:=a.1;simpa using this
   refine⟨yl 00 00 (by rw[v];exact a),?_⟩
   simp only[Kd.wt,Zm];rw[v];lia
 ·obtain⟨xs,rfl,B,u,h⟩:=ZO o;simp only[Kd.wt,Zm]at P⊢
  by_cases e:lY ((ac xs.length k).map Kd.wt) xs=0
  ·have G:xs.length≠lo:=by lia
   have I:0<xs.length:=by lia
   obtain⟨x,d⟩:=jp I;refine⟨.tup (xs.take 0++xs.drop (0+1)),?_,?_⟩
   ·simp only[Kd.less,if_neg G];exact bh.mpr (.inl (aO.mpr ⟨_,aO.mpr ⟨0,bn.mpr I,rfl⟩,rfl⟩))
   ·dsimp only;rw[←Zm,WU xs 0 x d,QR I,Zm];have z:k.wt x=0:=by
     have:=WU (k:=k) xs 0 x d;have p:=jt _ _ (hr _) (X5 (i:=0) h);have U:=D.pos x (aI.mp (Wm.mpr h) x (Zx d));rw[Zm,Zm]at this;lia
    lia
  ·obtain⟨j,a,b⟩:=QP (hr _) h e;have v:=by have:=(QO (hr _) h a).1.1;simpa using this
   refine⟨.tup j,?_,?_⟩
   ·simp only[Kd.less,Zm];exact bh.mpr (.inr (aO.mpr ⟨j,a,rfl⟩))
   ·simp only[Zm];rw[v];lia
 ·obtain⟨xs,rfl,X,Z,h⟩:=ZO o;obtain⟨j,rfl,b1,b2,h'⟩:=ZO hy;simp only[Kd.wt,Zm]at B u;have p:=jt _ xs (hr _) h;have U:=jt _ j (hr _) h';have Q:xs.length=lo:=by lia
  have S:j.length=lo:=by lia
  rw[Q]at h B;rw[S]at h' u;rw[WT _ xs j (hr _) h h' 00 00]
theorem BK:∀(d:Nat) (k:Kd),k.Ok d->mB k
 |0,_,h=>h.elim
 |d+1,.whole lo hi,h=>QG h.2.1
 |d+1,.pick i,h=>VW h.2.2.2
 |d+1,.row f,h=>Ks λk a=>BK d k (h.2.2 k a)
 |d+1,.many k lo hi,h=>VX (BK d k h.2.2)
def QS {a:List (Str×Int)}(hd:Dst (a.map (·.1))){w:Str}(h:w∈a.map (·.1)):Va (.str w) (a.map λc=>T.str c.1)=.ok (.int (((a.map (·.1)).idxOf w:Nat):Int)):=by
 obtain⟨c,d,rfl⟩:=aO.mp h;obtain⟨i,hi⟩:=db.mp d;rw[VQ hd hi,QK hd (by rw[aj,hi];rfl)]
def QT (lo hi:Int):nT [(Kd.whole lo hi).t]=.ok (.int (yk lo hi)):=by
 have e:nT [(Kd.whole lo hi).t]=zx (sv [.vl (.tup [.str "whole",.int lo,.int hi])]):=by rfl
 rw[e,sv,zy]
 ·rfl
 ·rfl
theorem QU:∀(a:List Kd) (xs:List T),lY (a.map Kd.wt) xs=((a.zip xs).map λq=>q.1.wt q.2).sum
 |[],xs=>by simp[lY]
 |_::_,[]=>by simp[lY]
 |k::a,x::xs=>by simp only[aK,lY,iB,eC,QU a xs]
theorem ym {d:Type}(g:d->Int):∀l:List d,ZL (l.map λa=>T.int (g a))=some (l.map g)
 |[]=>rfl
 |a::l=>by
  show (match ZL (l.map λa=>T.int _)with|some f=>some _|none=>none)=_
  rw[ym g l];rfl
def Kt {d:Type}(g:d->Int)(l:List d):Ve (.lst (l.map λa=>T.int (g a)))=.ok (.int (l.map g).sum):=by
 show (match ZL (l.map λa=>T.int _)with|some l=>_|none=>_)=_
 rw[ym]
theorem wP {c:List T->R T}:∀(a:List (Kd×T)) (x y:Sl),(∀q∈a,c [q.1.t,q.2]=.ok (.int (q.1.wt q.2)))->zR (Zb 0 1) Zh (za 2 c (z9 04 06)) (a.map λq=>T.tup [q.1.t,q.2]) [x,y]=.ok (a.map λq=>T.int (q.1.wt q.2))
 |[],_,_,_=>rfl
 |q::a,x,y,h=>by
  have e:za 2 c (z9 04 06) [.vl q.1.t,.vl q.2]=.ok (.int (q.1.wt q.2)):=by
   rw[zU,v0,af,v1,af,h q aq]
  have f:=wP a (.vl q.1.t) (.vl q.2) λr hr=>h r (ae _ hr);have d:zR (Zb 0 1) Zh (za 2 c (z9 04 06)) ((q::a).map λq=>T.tup [q.1.t,q.2]) [x,y]=
   (za 2 c _ [.vl _,.vl q.2]).bind λv=>(zR _ _ _ (a.map λq=>T.tup _) [.vl _,.vl q.2]).bind λvs=>.ok _:=rfl
  rw[d,e,af,f,af,aK]
def uO {c:List T->R T}{s:T}(a:List Kd)(xs:List T)(j:Jp s=.ok (a.map Kd.t))(d:a.length<=3)(H:∀q∈a.zip xs,c [q.1.t,q.2]=.ok (.int (q.1.wt q.2))):
  zx (tM c (i4 2 [s,.tup xs]))=.ok (.int (lY (a.map Kd.wt) xs)):=by
 have f:kv 04 (vE 1) [.vl s,.vl (.tup xs)]=.ok ((a.zip xs).map λq=>T.tup [q.1.t,q.2]):=by
  show (Jp s).bind _=_;rw[j,←Dl];rfl
 have k:((a.zip xs).map λq=>T.tup [q.1.t,q.2]).length<=lM:=by
  rw[ah,hU];exact aC (lx _ _) (aC d 03)
 have i:zM (Zb 0 1) Zh (za 2 c (z9 04 06)) 2 [] [.vl s,.vl (.tup xs)] ((a.zip xs).map λq=>T.tup [q.1.t,q.2])=.ok ((a.zip xs).map λq=>T.int (q.1.wt q.2)):=by
  unfold zM;rw[if_pos k];show quiet (zR _ _ _ _ [.un,.un])=_;rw[wP _ _ _ H];rfl
 rw[tM,zy]
 ·rfl
 ·show lG _ _ [.vl s,.vl _]=_;rw[Zq,Zf,f,af,i,af,af,Kt,QU]
def QV {d:List Kd}{xs:List T}(h:Hs d xs):∀q∈d.zip xs,q.1.has q.2=true:=λq f=>by
 obtain⟨i,hi⟩:=db.mp f;obtain⟨a,b⟩:=cx.mp hi;exact h.2 i q.1 q.2 a b
def FU {i:Int}:Bu (.int i)=.ok (.int (vo i)):=rfl
theorem Dn:∀(d n:Nat),2*d<=n->∀(k:Kd) (x:T),k.Ok d->k.has x=true->mW n 0 [k.t,x]=.ok (.int (k.wt x))
 |0,_,_,_,_,h,_=>h.elim
 |d+1,n+2,hn,k,x,h,l=>by
  have B:=Dn d n 00
  have e:mW (n+2) 0 [k.t,x]=zx (oi mL nT (mW (n+1) 1) (i4 2 [k.t,x])):=by rw[mW]
  have v:∀s y,mW (n+1) 1 [s,y]=zx _:=λs y=>by rw[mW];intro h;cases h
  rw[e];cases k with
  |whole lo hi=>
   obtain⟨i,rfl,N⟩:=j7.mp l;have e:i4 2 [(Kd.whole lo hi).t,.int i]=lJ (.tup [.str "whole",.int lo,.int hi]) (.int i):=by rw[Kd.t];rfl
   have hn:=QT lo hi;rw[Kd.t]at hn;rw[e,oi,zP (t:=.int (vo _))]
   ·rfl
   ·rw[Qe,zy];show lG _ _ (lJ _ _)=_;rw[Zq,zv,v1,af,zQ,v0,af,hn,af,Zg,af,FU]
  |pick j=>
   obtain⟨w,rfl,G⟩:=ZE.mp l;have e:i4 2 [(Kd.pick j).t,.str w]=lJ (.tup [.str "pick",.tup (j.map W2)]) (.str w):=by rfl
   have f:=w8 j h.2.1;rw[Kd.t]at f;rw[e,oi,zb (wa 03),zP (t:=.int (((j.map _).idxOf w:Nat):Int))]
   ·rfl
   ·rw[Qe,zy];show Vb _ _ _ (lJ _ _)=_;unfold Vb;rw[zQ,v0,af,f,af];dsimp only;rw[w1,af,QS h.2.2.2 G]
  |row p=>
   obtain⟨xs,rfl,o⟩:=ju l;have e:i4 2 [(Kd.row p).t,.tup xs]=lJ (.tup [.str "row",.tup (p.map Kd.t)]) (.tup xs):=by rw[Kd.t,Kd.ts_map];rfl
   rw[e,oi,zb (wa 03),zb (wa 03),zP]
   ·simp only[Kd.wt,Kd.wtF_map];rfl
   ·rw[Qe,zy];show za _ _ _ (lJ _ _)=_;rw[zU,JL,af,v1,af,v,uO p xs rfl h.2.1 λq a=>B q.1 q.2 (h.2.2 q.1 (cA a).1) (QV o q a)]
  |many k lo hi=>
   obtain⟨xs,rfl,P,D,o⟩:=ZO l;have u:=aC D h.2.1;have e:i4 2 [(Kd.many k lo hi).t,.tup xs]=lJ (.tup [.str "many",k.t,.int (lo),.int (hi)]) (.tup xs):=by rfl
   have I:zd Z7 (Zs (z9 (zd i3 04 01) (zj))) (lG Zv (vB 1)) (lJ (.tup [.str "many",k.t,.int (lo),.int (hi)]) (.tup xs))=.ok (.lst ((ac xs.length k).map Kd.t)):=by
    rw[zv,xV JL,af,Zq,w1,af,Ja,af,Wg u,j5,ba]
   rw[e,oi,zb (wa 03),zb (wa 03),zb (wa 03),zy]
   ·simp only[Kd.wt,Zm];rfl
   ·show zd _ _ _ (lJ _ _)=_;have J:=uO (s:=.lst _) _ xs rfl (by rw[aS];exact u) λq a=>B q.1 q.2 (by
     rw[bR (cA a).1];exact h.2.2) (QV o q a)
    rw[zv,zv,zU,I,af,v1,af,v,J,af,Zq,w1,af,Ja,af,Z3,af,uE,af,Zg]
def VY {fx fi fy:En->R T}{ρ:En}{xs:List T}{i:Nat}{y:T}(a:fx ρ=.ok (.tup xs))(hi:fi ρ=.ok (.int (i:Int)))(hy:fy ρ=.ok y)(h:i<xs.length)(j:xs.length<=1000):
  zd zE (zd zE (mD fx mI (j0 fi)) (Zr (z9 fy zj))) (mD fx (j0 (zd zE fi 01)) mI) ρ=.ok (.tup (xs.set i y)):=by
 have f:lM=16777216:=rfl;have d:zd zE fi 01 ρ=.ok (.int ((i+1:Nat))):=by rw[Ui hi];rfl
 rw[zv,zv,VA,a,af,sQ,af,UV hi,af,xR h,af,BJ hy,af,UU (by simp;lia),af,VA,a,af,UV d,af,sQ,af,xS 00,af,UU (by simp;lia)]
 rw[List.set_eq_take_append_cons_drop,if_pos h,bj];rfl
def VZ {fx fi:En->R T}{ρ:En}{xs:List T}{i:Nat}(a:fx ρ=.ok (.tup xs))(hi:fi ρ=.ok (.int (i:Int)))(h:i<xs.length)(j:xs.length<=1000):
  zd zE (mD fx mI (j0 fi)) (mD fx (j0 (zd zE fi 01)) mI) ρ=.ok (.tup (xs.take i++xs.drop (i+1))):=by
 have f:lM=16777216:=rfl;have d:zd zE fi 01 ρ=.ok (.int ((i+1:Nat))):=by rw[Ui hi];rfl
 rw[zv,VA,a,af,sQ,af,UV hi,af,xR h,af,VA,a,af,UV d,af,sQ,af,xS 00,af,UU (by simp;lia)]
def QW {fs:List (T->List T)}{xs:List T}{m:Nat}(h:∀(i:Nat) (f:T->List T) (x:T),fs[i]?=some f->xs[i]?=some x->(f x).length<=m):(oh fs xs).length<=xs.length*m:=by
 have d:∀(g:Nat->List (List T)) (js:List Nat),(∀j∈js,(g j).length<=m)->(js.flatMap g).length<=js.length*m:=λg js=>by
  induction js with
  |nil=>simp
  |cons j js p=>
   intro k;rw[bP,aB,ax,fW];have a:=k j aq;have b:=p λi hi=>k i (ae _ hi);lia
 have:=d (λi=>match fs[i]?,xs[i]? with|some f,some x=>(f x).map λy=>xs.set i y|_,_=>[]) (aZ xs.length) λi _=>by
  split
  ·rename_i f x l o;rw[ah];exact h i f x l o
  ·exact bu _
 rw[bO]at this;exact this
theorem WV:∀(d:Nat) (k:Kd) (x:T),k.Ok d->k.has x=true->(k.less x).length<=4^d
 |0,_,_,h,_=>h.elim
 |d+1,.whole lo hi,x,h,j=>by
  have:1<=4^(d+1):=eV (by simp)
  obtain⟨i,rfl,_⟩:=j7.mp j;simp only[Kd.less];split
  ·simp
  ·split<;>simp<;>lia
 |d+1,.pick B,x,h,j=>by
  have:1<=4^(d+1):=eV (by simp)
  obtain⟨w,rfl,_⟩:=ZE.mp j;simp only[Kd.less];split
  ·simp
  ·split<;>simp<;>lia
 |d+1,.row v,x,h,j=>by
  obtain⟨xs,rfl,l⟩:=ju j;simp only[Kd.less,Kd.lessF_map,ah];have:=QW λi f x a b=>by
   rw[aj]at a;cases e:v[i]? with
   |none=>rw[e]at a;cases a
   |some k=>rw[e]at a;cases a;exact WV d k x (h.2.2 k (Zx e)) (l.2 i k x e b)
  have o:xs.length<=3:=by rw[l.1];exact h.2.1
  have p:xs.length*4^d<=3*4^d:=eD _ o;lia
 |0+1,.many k lo hi,x,h,j=>h.2.2.elim
 |d+1+1,.many k lo hi,x,h,j=>by
  obtain⟨xs,rfl,D,u,l⟩:=ZO j;have o:=aC u h.2.1;simp only[Kd.less,aB,ah];have:=QW (fs:=ac xs.length _) λi f x a b=>by
   obtain rfl:=(cV.mp (Zx a)).2;exact WV _ k x h.2.2 (aI.mp (Wm.mpr l) x (Zx b))
  have p:xs.length*4^(d+1)<=3*4^(d+1):=eD _ o;have y:(if xs.length=lo then ([])else (rK xs).map T.tup).length<=3:=by
   split
   ·simp
   ·unfold rK;simp;lia
  have G:1<=4^d:=eV (by simp)
  lia
def yZ (lo:Int)(n:Nat):(rng lo n).length=n:=by unfold rng;simp
def Ku {n:Nat}{t:T}(h:t∈rng 0 n):∃i:Nat,i<n/\t=.int (i:Int):=by
 obtain⟨i,hi,rfl⟩:=aO.mp h;exact⟨i,bn.mp hi,by rw[eK]⟩
def EN (n:Nat):rng 0 n=(aZ n).map λ(i:Nat)=>T.int (i:Int):=by
 refine cu λi _=>?_;rw[eK]
def D2 {f:En->R T}{ρ:En}{xs:List T}(h:f ρ=.ok (.tup xs)):lG Zv f ρ=.ok (.int (xs.length:Int)):=by rw[Zq,h,af,Ja]
def EQ {f:En->R T}{ρ:En}{xs:List T}(h:f ρ=.ok (.tup xs))(a:xs.length<=1000):Zl (lG Zv f) ρ=.ok (rng 0 xs.length):=by
 rw[Qs (D2 h) 00,bY]
def X6 {g:En->R Bool}{f a:En->R T}{ρ:En}(h:g ρ=.ok true):md g f a ρ=f ρ:=by unfold md;rw[h];rfl
def Hc {g:En->R Bool}{f a:En->R T}{ρ:En}(h:g ρ=.ok false):md g f a ρ=a ρ:=by unfold md;rw[h];rfl
def j8 {f:En->R T}{ρ:En}{a:List T}(h:f (frz ρ)=.ok (.lst a)):Uc f ρ=.rf a:=by unfold Uc;rw[h];rfl
def uP {f g:En->RS}{ρ:En}{a:List T}(h:f ρ=.rf a):zA f g ρ=.rf a:=by unfold zA;rw[h]
def jv {c:List T->R T}{ts a:List T}(h:c ts=.ok (.lst a)):mn c ts=.ok (.lst a):=by unfold mn;rw[h];rfl
def QX {fi:En->R (List T)}{g:T->En->R En}{ft:En->R Bool}{fe:En->R T}{k:Nat}{js:List Nat}{ρ:En}{ts vs:List T}(h:fi (frz ρ)=.ok ts)(h':zM g ft fe k js (frz ρ) ts=.ok vs):Y6 fi g ft fe k js ρ=.rf vs:=by
 unfold Y6;rw[h];show (zM _ _ _ _ _ _ _).s _=_;rw[h'];rfl
def QY (lo hi i:Int):rj [(Kd.whole lo hi).t,.int i]=.ok (.lst ((Kd.whole lo hi).less (.int i))):=by
 have e:rj [(Kd.whole lo hi).t,.int i]=zx (rQ _ [.vl _,.vl _,.un]):=rfl;have f:zY 2 (za 1 nT (z9 04 (zj))) [.vl (Kd.whole lo hi).t,.vl (.int i),.un]=.nx [.vl (Kd.whole lo hi).t,.vl (.int i),.vl (.int (yk lo hi))]:=by
  rw[Z4]
  ·rfl
  ·rw[zQ,v0,af,QT]
 have d:zI ko (vB 1) (vB 2) [.vl (Kd.whole lo hi).t,.vl (.int i),.vl (.int (yk lo hi))]=.ok _:=rfl;have a:zI ml (vB 1) (vB 2) [.vl (Kd.whole lo hi).t,.vl (.int i),.vl (.int (yk lo hi))]=.ok _:=rfl;rw[e,rQ,zb f];simp only[Kd.less]
 by_cases h:i=yk lo hi
 ·rw[if_pos h,uP]
  ·rfl
  ·rw[JZ (by rw[d,beq_iff_eq.mpr h])];rfl
 ·rw[if_neg h,zb (zF (by rw[d,beq_eq_false_iff_ne.mpr h]))]
  by_cases g:i>yk lo hi
  ·rw[if_pos g,j8]
   ·rfl
   ·show md _ _ _ [.vl _,.vl _,.vl _]=_;rw[X6 (by rw[a,decide_eq_true g])];rfl
  ·rw[if_neg g,j8]
   ·rfl
   ·show md _ _ _ [.vl _,.vl _,.vl _]=_;rw[Hc (by rw[a,decide_eq_false g])];rfl
def uQ {a:List (Str×Int)}(o:a.length<=4)(hd:Dst (a.map (·.1))){w:Str}(i:w∈a.map (·.1)):pq [(Kd.pick a).t,.str w]=.ok (.lst ((Kd.pick a).less (.str w))):=by
 have e:pq [(Kd.pick a).t,.str w]=zx (rm _ [.vl _,.vl _,.un,.un]):=rfl;have u:zY 2 (za 1 mL (z9 04 (zj))) [.vl (Kd.pick a).t,.vl (.str w),.un,.un]=.nx [.vl (Kd.pick a).t,.vl (.str w),.vl (.lst (a.map λc=>T.str c.1)),.un]:=by
  rw[Z4]
  ·rfl
  ·rw[zQ,v0,af,w8 a o]
 have l:zY 3 (Vb Va (vB 2) (vB 1)) [.vl (Kd.pick a).t,.vl (.str w),.vl (.lst (a.map λc=>T.str c.1)),.un]=.nx [.vl (Kd.pick a).t,.vl (.str w),.vl (.lst (a.map λc=>T.str c.1)),.vl (.int (((a.map (·.1)).idxOf w):Int))]:=by
  rw[Z4]
  ·rfl
  ·exact QS hd i
 have d:=QH i;rw[e,rm,zb u,zb l];simp only[Kd.less];cases v:(a.map _).idxOf w with
 |zero=>
  rw[j8]
  ·rfl
  ·rfl
 |succ j=>
  rw[v]at d;have k:=iQ (by simpa using d)
  obtain⟨c,f⟩:=jp k;dsimp only;rw[f];rw[j8]
  ·rfl
  ·show md _ _ _ [.vl _,.vl _,.vl (.lst (a.map λc=>T.str c.1)),.vl _]=_;rw[X6]
   ·rw[xV];have p:zd jb (vE 3) 01 [.vl (Kd.pick a).t,.vl (.str w),.vl (.lst (a.map λc=>T.str c.1)),.vl (.int ((j+1:Nat)))]=.ok (.int (j)):=by
     show R.ok _=_;rw[show ((j+1:Nat):Int)-1=(j) by lia]
    rw[zv,p];exact xP (by rw[aj,f];rfl)
   ·show R.ok _=_;rw[decide_eq_true 00]
def Y0 {k:Kd}{lo hi:Nat}{xs:List T}(o:xs.length<=3):pB [(Kd.many k lo hi).t,.tup xs]=.ok (.lst (if xs.length=lo then []else (rK xs).map T.tup)):=by
 have e:pB [(Kd.many k lo hi).t,.tup xs]=zx (o7 (lJ (.tup [.str "many",k.t,.int (lo),.int (hi)]) (.tup xs))):=by rfl
 have d:zI ko (lG Zv (vB 1)) (zd i3 04 08) (lJ (.tup [.str "many",k.t,.int (lo),.int (hi)]) (.tup xs))=.ok (xs.length==lo):=by
  rw[zO,Zq,w1,af,Ja,af,uE,af,mQ,UY]
 rw[e,o7]
 by_cases h:xs.length=lo
 ·rw[if_pos h,uP]
  ·rfl
  ·rw[JZ (by rw[d,beq_iff_eq.mpr h])];rfl
 ·rw[if_neg h,zb (zF (by rw[d,beq_eq_false_iff_ne.mpr h]))]
  have j:Zl (lG _ (vB 1)) (lJ (.tup [.str "many",k.t,.int (lo),.int (hi)]) (.tup xs))=.ok _:=EQ rfl 00
  have f:zM _ _ (zd _ (mD (vE 1) _ (j0 04)) _) 1 [1] (lJ (.tup [.str "many",k.t,.int (lo),.int (hi)]) _) _=.ok ((rng 0 _).map λt=>match t with|.int i=>.tup (xs.take i.toNat++xs.drop (i.toNat+1))|y=>y):=
    Z1 _ (by rw[yZ];exact aC o 03) λt p=>by
     obtain⟨i,a,rfl⟩:=Ku p;exact VZ rfl rfl a 00
  rw[QX (ρ:=lJ (.tup [.str "many",k.t,.int (lo),.int (hi)]) (.tup xs)) j f,EN,bv];unfold rK;rw[bv];exact congrArg (λl=>R.ok (T.lst l)) (cu λi _=>rfl)
abbrev CH:En->RS:=UA 2 (zd zE (zd zE (mD (vE 1) (mI) (j0 (vE 3))) (Zr (z9 (vE 5) (zj)))) (mD (vE 1) (j0 (zd zE (vE 3) 01)) (mI)))
theorem QZ {s a:T}{xs:List T}{i:Nat}(hi:i<xs.length)(j:xs.length<=3):∀(d acc:List T) (z:Sl),acc.length+d.length<=1000000->∃f,ZK (zW 5) CH d [.vl s,.vl (.tup xs),.ow acc,.vl (.int (i:Int)),.vl a,z]=.nx [.vl s,.vl (.tup xs),.ow (acc++d.map λy=>T.tup (xs.set i y)),.vl (.int (i:Int)),.vl a,f]
 |[],acc,z,_=>⟨z,by rw[ce,aW];rfl⟩
 |y::d,acc,z,l=>by
  have k:=by simpa using l
  obtain⟨f,o⟩:=QZ hi j d (acc++[.tup _]) _ (by simp;lia)
  refine⟨f,?_⟩;have e:CH [.vl s,.vl (.tup xs),.ow acc,.vl (.int (i)),.vl a,.vl y]=.nx [.vl s,.vl (.tup xs),.ow (acc++[.tup (xs.set i y)]),.vl (.int (i)),.vl a,.vl y]:=by
   have p:=VY (fx:=vE 1) (fi:=vE 3) (fy:=vE 5) (ρ:=[.vl s,.vl _,.ow acc,.vl _,.vl a,.vl y]) rfl rfl rfl hi 00
   exact xZ rfl (cb (show acc.length<=1000000 by lia) 03) p
  rw[wK rfl e,o,bj];rfl
def sy (a:List Kd)(xs:List T)(i:Nat):List (List T):=match (a.map Kd.less)[i]?,xs[i]? with
 |some f,some x=>(f x).map λy=>xs.set i y
 |_,_=>[]
def Kv {d:List Kd}{xs:List T}{i:Nat}{k:Kd}{x:T}(a:d[i]?=some k)(b:xs[i]?=some x):sy d xs i=(k.less x).map λy=>xs.set i y:=by
 unfold sy;rw[aj,a,b];rfl
def x6 (xs:List T):jK xs=(aZ xs.length).map λ(i:Nat)=>T.tup [.int (i:Int),(xs[i]?).getD .non]:=by
 refine dg λi=>?_;unfold jK;rw[aj,i5,aj]
 by_cases h:i<xs.length
 ·rw[cI h];simp[am h]
 ·rw[aU 00,aU (by simpa using h)];rfl
abbrev sK (c:List T->R T):En->RS:=jM (j3 (za 2 (mn c) (z9 (zd i3 04 (vE 3)) (z9 (vE 4) (zj))))) (zW 5) CH
theorem v6 {c:List T->R T}{s:T}{f:List Kd}{xs:List T}(G:∀(i:Nat) (k:Kd),f[i]?=some k->i3 s (.int (i:Int))=.ok k.t)(N:xs.length<=3)(d:xs.length=f.length)
  (H:∀(i:Nat) (k:Kd) (x:T),f[i]?=some k->xs[i]?=some x->c [k.t,x]=.ok (.lst (k.less x))/\(k.less x).length<=1000):∀(js:List Nat) (acc:List T) (a b z:Sl),(∀j∈js,j<xs.length)->acc.length+js.length*1000<=1000000->
  ∃u D v,ZK (Zb 3 4) (sK c) (js.map λ(i:Nat)=>T.tup [.int (i:Int),(xs[i]?).getD .non]) [.vl s,.vl (.tup xs),.ow acc,a,b,z]=.nx [.vl s,.vl (.tup xs),.ow (acc++(js.flatMap (sy f xs)).map T.tup),u,D,v]
 |[],acc,a,b,z,_,_=>⟨a,b,z,by show RS.nx _=RS.nx _;rw[List.flatMap_nil,ce,aW]⟩
 |j::js,acc,a,b,z,I,hb=>by
  have X:=by simpa using hb
  have l:=I j aq;obtain⟨x,B⟩:=jp l;obtain⟨k,o⟩:=jp (show j<f.length by lia)
  obtain⟨Z,h2⟩:=H j k x o B;obtain⟨J,p⟩:=QZ l N (k.less x) acc z 00
  obtain⟨u,D,v,U⟩:=v6 G N d H js (acc++(k.less x).map λy=>T.tup _) _ _ J (λi hi=>I i (ae _ hi)) (by simp;lia)
  refine⟨u,D,v,?_⟩;have Q:sK c [.vl s,.vl (.tup xs),.ow acc,.vl (.int (j)),.vl x,z]=.nx [.vl s,.vl (.tup xs),.ow (acc++(k.less x).map λy=>T.tup (xs.set j y)),.vl (.int (j)),.vl x,J]:=by
   have P:j3 (za 2 (mn c) (z9 (zd i3 04 (vE 3)) (z9 (vE 4) (zj)))) [.vl s,.vl (.tup xs),.ow acc,.vl (.int (j)),.vl x,z]=.ok (k.less x):=by
    have e3:zd i3 04 (vE 3) [.vl s,.vl (.tup xs),.ow acc,.vl _,.vl x,z]=.ok k.t:=G j k o;rw[Jc,zU,e3,af,v4,af,jv Z];rfl
   unfold sK jM;rw[P];exact p
  have S:Zb 3 4 (T.tup [.int (j),(xs[j]?).getD .non]) [.vl s,.vl (.tup xs),.ow acc,a,b,z]=.ok [.vl s,.vl (.tup xs),.ow acc,.vl (.int (j)),.vl x,z]:=by rw[B];rfl
  rw[aK,wK S Q,U,bP,Kv o B,c9,bv,bj];rfl
def yn {c:List T->R T}{s:T}{d:List Kd}{xs:List T}(u:∀(i:Nat) (k:Kd),d[i]?=some k->i3 s (.int (i:Int))=.ok k.t)(f:xs.length<=3)(a:xs.length=d.length)
  (H:∀(i:Nat) (k:Kd) (x:T),d[i]?=some k->xs[i]?=some x->c [k.t,x]=.ok (.lst (k.less x))/\(k.less x).length<=1000):zx (pW c (i4 6 [s,.tup xs]))=.ok (.lst ((oh (d.map Kd.less) xs).map T.tup)):=by
 obtain⟨o,y,p,h⟩:=v6 u f a H _ [] .un .un .un (λj B=>bn.mp B) (by simp;lia)
 have e:i4 6 [s,.tup xs]=[.vl s,.vl _,.un,.un,.un,.un]:=rfl;have v:WW 2 zj [.vl s,.vl (.tup xs),.un,.un,.un,.un]=.nx [.vl s,.vl _,.ow [],.un,.un,.un]:=rfl;have D:jM (wC (vE 1)) (Zb 3 4) (sK c) [.vl s,.vl (.tup xs),.ow [],.un,.un,.un]=.nx [.vl s,.vl (.tup xs),.ow ([]++((aZ xs.length).flatMap (sy d xs)).map T.tup),o,y,p]:=by
  have l:wC (vE 1) [.vl s,.vl (.tup xs),.ow [],.un,.un,.un]=.ok ((aZ xs.length).map λ(i:Nat)=>T.tup [.int (i),(xs[i]?).getD .non]):=by rw[←x6];rfl
  unfold jM;rw[l];exact h
 rw[e,pW,zb v,zb D];rfl
def DG {xs a:List T}(h:xs.length+a.length<=lM):KP (.lst xs) (.lst a)=.ok (.lst (xs++a)):=if_pos h
def Je {d:Nat}(hd:d<=3){k:Kd}{x:T}(h:k.Ok d)(a:k.has x=true):(k.less x).length<=1000:=by
 have:=WV d k x h a;have f:4^d<=4^3:=dk 00 hd
 lia
theorem X7:∀(d n:Nat),2*d<=n->d<=3->∀(k:Kd) (x:T),k.Ok d->k.has x=true->m7 n 0 [k.t,x]=.ok (.lst (k.less x))
 |0,_,_,_,_,_,h,_=>h.elim
 |d+1,n+2,hn,hd,k,x,h,j=>by
  have G:=X7 d n 00 00
  have e:m7 (n+2) 0 [k.t,x]=zx (nU rj pq pB (m7 (n+1) 1) (i4 2 [k.t,x])):=by rw[m7]
  have D:∀s y,m7 (n+1) 1 [s,y]=zx _:=λs y=>by rw[m7];intro h;cases h
  rw[e];cases k with
  |whole lo hi=>
   obtain⟨i,rfl,U⟩:=j7.mp j;have e:i4 2 [(Kd.whole lo hi).t,.int i]=lJ (.tup [.str "whole",.int lo,.int hi]) (.int i):=by rw[Kd.t];rfl
   have hn:=QY lo hi i;rw[Kd.t]at hn;rw[e,nU,uP]
   ·rfl
   ·rw[Qe,j8];show za _ (mn _) _ (lJ _ _)=_;rw[zU,v0,af,v1,af,jv hn]
  |pick B=>
   obtain⟨w,rfl,P⟩:=ZE.mp j;have e:i4 2 [(Kd.pick B).t,.str w]=lJ (.tup [.str "pick",.tup (B.map W2)]) (.str w):=by rw[Kd.t];rfl
   have o:=uQ h.2.1 h.2.2.2 P;rw[Kd.t]at o;rw[e,nU,zb (wa 03),uP]
   ·rfl
   ·rw[Qe,j8];show za _ (mn _) _ (lJ _ _)=_;rw[zU,v0,af,v1,af,jv o]
  |row I=>
   obtain⟨xs,rfl,f⟩:=ju j;have e:i4 2 [(Kd.row I).t,.tup xs]=lJ (.tup [.str "row",.tup (I.map Kd.t)]) (.tup xs):=by rw[Kd.t,Kd.ts_map];rfl
   rw[e,nU,zb (wa 03),zb (wa 03),uP]
   ·rfl
   ·rw[Qe,j8];show za _ (mn _) _ (lJ _ _)=_;rw[zU,JL,af,v1,af,jv ((D _ _).trans (yn (λi k p=>El (by rw[aj,p];rfl)) (by rw[f.1];exact h.2.1) f.1 λi k x a b=>⟨G k x (h.2.2 k (Zx a)) (f.2 i k x a b),Je 00 (h.2.2 k (Zx a)) (f.2 i k x a b)⟩))]
    simp only[Kd.less,Kd.lessF_map]
  |many k lo hi=>
   obtain⟨xs,rfl,X,N,f⟩:=ZO j;have u:=aC N h.2.1;have e:i4 2 [(Kd.many k lo hi).t,.tup xs]=lJ (.tup [.str "many",k.t,.int (lo),.int (hi)]) (.tup xs):=by rfl
   have Q:zd Z7 (Zs (z9 (zd i3 04 01) (zj))) (lG Zv (vB 1)) (lJ (.tup [.str "many",k.t,.int (lo),.int (hi)]) (.tup xs))=.ok (.lst ((ac xs.length k).map Kd.t)):=by
    rw[zv,xV JL,af,Zq,w1,af,Ja,af,Wg u,j5,ba]
   have l:=Y0 (k:=k) (lo:=lo) (hi:=hi) u;rw[Kd.t]at l;have J:=Je hd h j;rw[e,nU,zb (wa 03),zb (wa 03),zb (wa 03),j8]
   ·rfl
   ·show zd _ _ _ (lJ _ _)=_;have S:=yn (s:=.lst ((ac xs.length k).map _)) (λi k p=>xP (by rw[aj,p];rfl)) u (by simp) λi v x a b=>by
     obtain rfl:=(cV.mp (Zx a)).2;exact⟨G v x h.2.2 (f.2 i v x a b),Je 00 h.2.2 (f.2 i v x a b)⟩
    simp only[Kd.less,Zm,aB]at J⊢;rw[zv,zU,v0,af,v1,af,jv l,af,zU,Q,af,v1,af,jv ((D _ _).trans S),af,DG (aC J 03)]
def v7 {k:Kd}(a:k.Ok 3){x:T}(d:k.has x=true):pd [k.t,x]=.ok (.lst (k.less x)):=by
 show zx (rk _ _ (lJ k.t x))=_;rw[rk,zb (jq (by rw[zU,v0,af,v1,af,WQ a,if_pos d])),j8]
 ·rfl
 ·show za _ (mn _) _ (lJ k.t x)=_;rw[zU,v0,af,v1,af,jv (X7 3 20 00 00 k x a d)]
def jw {r:Ru}(h:jP 3 r):oN [r.t]=.ok .non:=by
 show zx (sE _ [.vl r.t])=_;rw[sE,zF]
 ·rfl
 ·have e:BN [r.t]=.ok (.bl true):=by
   show zx (zJ _ _)=_;rw[zy]
   ·rfl
   ·exact Jz 8 3 00 r h
  rw[wF,JI,zQ,v0,af,e];rfl
def br (k:Kd)(r:Ru):List T:=k.all.filter λx=> !(kp r x)
def v8 {k:Kd}{r:Ru}{x:T}:x∈br k r↔k.has x=true/\kp r x=false:=by
 unfold br;rw[cY,jo];simp
def lb (k:Kd)(r:Ru):Option T:=match br k r with
 |[]=>none
 |t::ts=>some (Jq (k.wt t) t (ts.map k.wt) ts)
noncomputable def oT:Option T->T
 |some x=>x
 |none=>.non
theorem wQ (w:T->Int):∀(ts:List T) (t:T),Jq (w t) t (ts.map w) ts∈t::ts/\∀y∈t::ts,w (Jq (w t) t (ts.map w) ts)<=w y
 |[],t=>by
  exact⟨List.mem_singleton_self _,λy hy=>by rw[aQ.mp hy];exact l7 _⟩
 |u::ts,t=>by
  rw[aK,Jq]
  by_cases h:w u<w t
  ·rw[if_pos h];obtain⟨a,b⟩:=wQ w ts u;exact⟨ae _ a,λy hy=>by
    rcases ay.mp hy with rfl|hy
    ·have:=b u aq;lia
    ·exact b y hy⟩
  ·rw[if_neg h];obtain⟨a,b⟩:=wQ w ts t;exact⟨(ay.mp a).elim (λz=>by rw[z];exact aq) (λz=>ae _ (ae _ z)),λy hy=>by
    rcases ay.mp hy with rfl|hy
    ·exact b y aq
    ·rcases ay.mp hy with rfl|hy
     ·have:=b t aq;lia
     ·exact b y (ae _ hy)⟩
def Kw {k:Kd}{r:Ru}{x:T}(h:lb k r=some x):k.has x=true/\kp r x=false/\∀y,k.has y=true->kp r y=false->k.wt x<=k.wt y:=by
 unfold lb at h;cases e:br k r with
 |nil=>rw[e]at h;cases h
 |cons t ts=>
  rw[e]at h;cases h;obtain⟨a,b⟩:=wQ _ ts t;have d:=v8.mp (e▸a);exact⟨d.1,d.2,λy i f=>b y (e▸v8.mpr ⟨i,f⟩)⟩
theorem v9 {f:T->R T}{w:T->Int}:∀ts:List T,(∀t∈ts,f t=.ok (.int (w t)))->WC f ts=some (ts.map w)
 |[],_=>rfl
 |t::ts,h=>by
  rw[WC,h t aq,v9 ts λy hy=>h y (ae _ hy)];rfl
def x8 {k:Kd}(a:k.Ok 3)(i:k.all.length<=500){r:Ru}(hr:jP 3 r):o6 [k.t,r.t]=.ok (oT (lb k r)):=by
 show zx (tE _ _ _ _ [.vl k.t,.vl r.t,.un])=_;have l:ZR (za 1 oN (z9 (vE 1) _)) [.vl k.t,.vl r.t,.un]=.nx _:=jq (by rw[zQ,v1,af,jw hr])
 have o:zM _ (JD (jJ (za 2 (nV 8) (z9 (vE 1) (z9 04 _))))) 04 1 [1] [.vl k.t,.vl r.t,.un] _=.ok _:=
  Jy _ (aC i 03) λt p=>⟨by
   show JD _ [.vl t,.vl r.t]=_;unfold JD jJ;rw[zU,v1,af,v0,af,Wl (CN a p) hr];rfl,rfl⟩
 have u:zY 2 (Z9 (j3 (za 1 ny (z9 04 (zj)))) (zW 0) (JD (jJ (za 2 (nV 8) (z9 (vE 1) (z9 04 (zj)))))) 04 1 [1]) [.vl k.t,.vl r.t,.un]=.nx [.vl k.t,.vl r.t,.vl (.lst (br k r))]:=by
  rw[Z4]
  ·rfl
  ·unfold Z9 j3;rw[zQ,v0,af,j6 a i];show (zM _ _ _ _ _ _ _).bind _=_;rw[o];rfl
 rw[tE,zb l,zb u,zy]
 ·rfl
 ·show Vv [0] _ _ _ [.vl k.t,.vl r.t,.vl _]=_;have j:∀x∈br k r,k.has x=true:=λx d=>(v8.mp d).1;unfold lb;cases e:br k r with
  |nil=>rfl
  |cons t ts=>
   rw[e]at j;have f:WC (λx=>za 2 (oU 20) (z9 (vE 1) (z9 04 zj)) ((wY 1 [0] [Sl.vl k.t,.vl r.t,.vl (.lst (t::ts))]).set 0 (.vl x))) _=some _:=v9 _ λx d=>by
    exact Dn 3 20 00 k x a (j x d)
   show (match WC _ _ with|some (k::v)=>R.ok _|_=>.bad)=_
   rw[f];rfl
noncomputable def fF (t:T)(a b c:Nat):List (Str×Fd):=[("kind",.tv t),("first",.tv (.int (a:Int))),("last",.tv (.int (b:Int))),("answered",.tv (.int (c:Int)))]
def vp {a:Type}{x y:Str}{v:a}{r:List (Str×a)}(h:(x==y)=false):((y,v)::r).lookup x=r.lookup x:=by rw[aR,h]
def tJ {a:Type}{x:Str}{v:a}{r:List (Str×a)}:((x,v)::r).lookup x=some v:=by rw[aR,beq_self_eq_true]
def fk {t:T}{a b c:Nat}:(fF t a b c).lookup ("kind":Str)=some (.tv t):=tJ
def ff {t:T}{a b c:Nat}:(fF t a b c).lookup ("first":Str)=some (.tv (.int (a:Int))):=by unfold fF;rw[vp (by decide+kernel),tJ]
def Fg {t:T}{a b c:Nat}:(fF t a b c).lookup ("last":Str)=some (.tv (.int (b:Int))):=by unfold fF;rw[vp (by decide+kernel),vp (by decide+kernel),tJ]
def fa {t:T}{a b c:Nat}:(fF t a b c).lookup ("answered":Str)=some (.tv (.int (c:Int))):=by unfold fF;rw[vp (by decide+kernel),vp (by decide+kernel),vp (by decide+kernel),tJ]
def va {k i j:Nat}{f:Str}{ρ:En}{fs:List (Str×Fd)}{t:T}(h:obL k i j ρ=some fs)(l:fs.lookup f=some (.tv t)):yN k i j f ρ=.ok t:=by
 unfold yN;rw[h];dsimp only;rw[l]
def EF {k i j d:Nat}{g:List (Str×Fd)->List T->R T}{a:En->R (List T)}{ρ:En}{fs:List (Str×Fd)}{ts:List T}(h:obL k i j ρ=some fs)(e:a ρ=.ok ts)(hn:ts.length=d):JQ k i j d g a ρ=g fs ts:=by
 unfold JQ;rw[h];dsimp only;rw[e];exact if_pos hn
def uR {k i j:Nat}{g:List (Str×Fd)->List T->R T}{ρ:En}{fs:List (Str×Fd)}(h:obL k i j ρ=some fs):JQ k i j 0 g zj ρ=g fs []:=EF (ts:=[]) h rfl rfl
abbrev pE (t:T)(a b c:Nat):En:=[.oc 102 (fF t a b c),.un]
def wR {t:T}{a b c:Nat}(h:a<=b):nv (fF t a b c) []=.ok (.int ((b-a+1:Nat):Int)):=by
 show zx (zJ (zd zE (zd jb (yN 102 0 1 "last") (yN 102 0 1 "first")) 01) (pE t a b c))=_;rw[zy (t:=.int ((b-a+1:Nat):Int))]
 ·rfl
 ·show zd zE _ _ (pE t a b c)=_;rw[zv,zv,va (fs:=fF t a b c) rfl Fg,af,va (fs:=fF t a b c) rfl ff,af,Zg,af,Z2,af,Z3];congr 2;lia
def Kx {t:T}{a b c:Nat}:Af (fF t a b c) []=.ok (.int (c:Int)):=by
 show zx (zJ (yN 102 0 1 "answered") (pE t a b c))=_;rw[zy (t:=.int (c:Int))]
 ·rfl
 ·exact va (fs:=fF t a b c) rfl fa
def Eg {i j:Int}:ko (.int i) (.int j)=.ok (i==j):=rfl
def X8 {t:T}{a b c:Nat}(h:a<b):nX (fF t a b c) []=.ok (.int ((a+(b-a+1)/2:Nat):Int)):=by
 show zx (sR nv (pE t a b c))=_;unfold sR;rw[zb (zF (by
  rw[zO,uR (fs:=fF t a b c) rfl,wR 00,af,Z2,af,Eg]
  congr 1;simp;lia)),zy (t:=.int ((a+(b-a+1)/2:Nat):Int))]
 ·rfl
 ·show zd zE _ _ (pE t a b c)=_;rw[zv,va (fs:=fF t a b c) rfl ff,af,zv,uR (fs:=fF t a b c) rfl,wR 00,af,Z2,af,show (T.int 2)=T.int ((2:Nat):Int) from rfl,Qk 00 00,af,Z3]
  congr 2
noncomputable abbrev Br (t:T):List (Str×Fd):=[("kind",.tv t)]
noncomputable abbrev sY (t:T):List (Str×Fd):=[("kind",.tv t),("first",.tv (.int 0))]
noncomputable abbrev Cw (t v:T):List (Str×Fd):=[("kind",.tv t),("first",.tv (.int 0)),("last",.tv v)]
noncomputable abbrev Fs (t v:T):List (Str×Fd):=[("kind",.tv t),("first",.tv (.int 0)),("last",.tv v),("answered",.tv (.int 0))]
def Ky {k:Kd}(i:k.Ok 3)(hp:1<=k.all.length):nH [] [k.t]=.ok (.non,fF k.t 0 (k.all.length-1) 0):=by
 show kQ 102 2 (tj nr (m9 20) [.ob 102 0,.vl k.t,.st [(102,[])]])=_;have x:ZR (za 1 nr 06) [.ob 102 0,.vl k.t,.st [(102,[])]]=.nx [.ob 102 0,.vl k.t,.st [(102,[])]]:=jq (t:=.non) (by rw[zQ,v1,af,Um i])
 have B:my 102 0 2 "kind" (vE 1) [.ob 102 0,.vl k.t,.st [(102,[])]]=.nx [.ob 102 0,.vl k.t,.st [(102,Br k.t)]]:=rfl;have D:jN "first" (.tv (.int 0)) (Br k.t)=sY k.t:=by unfold jN;rw[if_neg (by decide+kernel)];rfl
 have u:∀v,jN "last" (.tv v) (sY k.t)=Cw k.t v:=λv=>by unfold jN;rw[if_neg (by decide+kernel)];unfold jN;rw[if_neg (by decide+kernel)];rfl
 have G:∀v,jN "answered" (.tv (.int 0)) (Cw k.t v)=Fs k.t v:=λv=>by unfold jN;rw[if_neg (by decide+kernel)];unfold jN;rw[if_neg (by decide+kernel)];unfold jN;rw[if_neg (by decide+kernel)];rfl
 have a:∀{f:Str} {fe:En->R T} {t:T} {fs fs':List (Str×Fd)},fe [.ob 102 0,.vl k.t,.st [(102,fs)]]=.ok t->fs.length<1000->jN f (.tv t) fs=fs'->my 102 0 2 f fe [.ob 102 0,.vl k.t,.st [(102,fs)]]=.nx [.ob 102 0,.vl k.t,.st [(102,fs')]]:=λ{f fe t fs fs'} e j o=>by
  unfold my;rw[e,ZI];show (if fs.length<1000 then RS.nx _ else RS.bad)=_
  rw[if_pos j,o];rfl
 have p:=a (f:="first") (fe:=cE (.int 0)) (fs:=Br k.t) rfl (show 1<1000 by decide) D
 have y:my 102 0 2 "last" (zd jb (za 1 (m9 20) 06) 01) [.ob 102 0,.vl k.t,.st [(102,sY k.t)]]=.nx _:=a (fs:=sY k.t) (t:=.int ((k.all.length-1:Nat):Int)) (by
  rw[zv,zQ,v1,af,jC 00 i,af,Z2,af,show (T.int 1)=T.int ((1:Nat):Int) from rfl,Qo hp]) (show 2<1000 by decide) (u _)
 have l:=a (f:="answered") (fe:=cE (.int 0)) (fs:=Cw k.t (.int ((k.all.length-1:Nat):Int))) rfl (show 3<1000 by decide) (G (.int ((k.all.length-1:Nat):Int)))
 unfold tj;have d:∀{f:En->RS} {g:En->R (T×En)} {ρ ρ':En},f ρ=.nx ρ'->J8 f g ρ=g ρ':=λh=>by unfold J8;rw[h]
 rw[d x,d B,d p,d y,d l];rfl
def DO {t:T}{a b c m:Nat}:jN "last" (.tv (.int (m:Int))) (fF t a b c)=fF t a m c:=by
 unfold fF jN;rw[if_neg (by decide+kernel)];unfold jN;rw[if_neg (by decide+kernel)];unfold jN;rw[if_pos rfl]
def HP {t:T}{a b c m:Nat}:jN "first" (.tv (.int (m:Int))) (fF t a b c)=fF t m b c:=by
 unfold fF jN;rw[if_neg (by decide+kernel)];unfold jN;rw[if_pos rfl]
def E6 {t:T}{a b c m:Nat}:jN "answered" (.tv (.int (m:Int))) (fF t a b c)=fF t a b m:=by
 unfold fF jN;rw[if_neg (by decide+kernel)];unfold jN;rw[if_neg (by decide+kernel)];unfold jN;rw[if_neg (by decide+kernel)];unfold jN;rw[if_pos rfl]
def Be {k i j n:Nat}{f:Str}{fe:En->R T}{ρ:En}{t:T}{fs fs':List (Str×Fd)}{os:List Ob}(h:nE k i j ρ=some (n,fs,os))(e:fe ρ=.ok t)(a:fs.length<1000)(d:jN f (.tv t) fs=fs'):my k i j f fe ρ=.nx (ρ.set j (.st (os.set n (k,fs')))):=by
 unfold my;rw[e,ZI,h];show (if fs.length<1000 then RS.nx _ else RS.bad)=_
 rw[if_pos a,d]
def rR {f:En->RS}{g:En->R (T×En)}{ρ ρ':En}(h:f ρ=.nx ρ'):J8 f g ρ=g ρ':=by unfold J8;rw[h]
noncomputable abbrev mm (a b:Nat):Nat:=a+(b-a+1)/2
abbrev F2 (t:T)(a b c:Nat)(x:Bool):List (Str×Fd):=if x=true then fF t a (mm a b-1) (c+1)else fF t (mm a b) b (c+1)
def Ij {t:T}{a b c:Nat}(h:a<b)(x:Bool):KT (fF t a b c) [.bl x]=.ok (.non,F2 t a b c x):=by
 show kQ 102 3 (Aa nX [.ob 102 0,.vl (.bl x),.un,.st [(102,fF t a b c)]])=_;have k:zY 2 (JQ 102 0 3 0 nX zj) [.ob 102 0,.vl (.bl x),.un,.st [(102,fF t a b c)]]=.nx [.ob 102 0,.vl (.bl x),.vl (.int (mm a b:Int)),.st [(102,fF t a b c)]]:=by
  rw[Z4 (t:=.int (mm a b:Int))]
  ·rfl
  ·rw[uR (fs:=fF t a b c) rfl,X8 h]
 have j:∀d f,my 102 0 3 "answered" (zd zE (yN 102 0 3 "answered") 01) [.ob 102 0,.vl (.bl x),.vl (.int (mm a b:Int)),.st [(102,fF t d f c)]]=.nx [.ob 102 0,.vl (.bl x),.vl (.int (mm a b:Int)),.st [(102,fF t d f (c+1))]]:=λd f=>by
  rw[Be (n:=0) (fs:=fF t d f c) (fs':=fF t d f (c+1)) (os:=[(102,fF t d f c)]) (t:=.int ((c+1:Nat):Int)) rfl (by rw[zv,va (fs:=fF t d f c) rfl fa,af,Z2,af,Z3];congr 2) (show 4<1000 by decide) E6]
  rfl
 unfold Aa;rw[rR k];cases x with
 |true=>
  have i:lK (jJ (vB 1)) (my 102 0 3 "last" (zd jb (vE 2) 01)) (my 102 0 3 "first" (vE 2)) [.ob 102 0,.vl (.bl true),.vl (.int (mm a b:Int)),.st [(102,fF t a b c)]]=.nx [.ob 102 0,.vl (.bl true),.vl (.int (mm a b:Int)),.st [(102,fF t a (mm a b-1) c)]]:=by
   rw[JZ rfl,Be (n:=0) (fs:=fF t a b c) (fs':=fF t a (mm a b-1) c) (os:=[(102,fF t a b c)]) (t:=.int ((mm a b-1:Nat):Int)) rfl (by
    show jb (.int (mm a b:Int)) (.int ((1:Nat):Int))=_;exact Qo (by unfold mm;lia)) (show 4<1000 by decide) DO]
   rfl
  rw[rR i,rR (j _ _)];rfl
 |false=>
  have i:lK (jJ (vB 1)) (my 102 0 3 "last" (zd jb (vE 2) 01)) (my 102 0 3 "first" (vE 2)) [.ob 102 0,.vl (.bl false),.vl (.int (mm a b:Int)),.st [(102,fF t a b c)]]=.nx [.ob 102 0,.vl (.bl false),.vl (.int (mm a b:Int)),.st [(102,fF t (mm a b) b c)]]:=by
   rw[Cf rfl,Be (n:=0) (fs:=fF t a b c) (fs':=fF t (mm a b) b c) (os:=[(102,fF t a b c)]) (t:=.int (mm a b:Int)) rfl rfl (show 4<1000 by decide) HP]
   rfl
  rw[rR i,rR (j _ _)];rfl
def D7 {k:Nat}{ok:Nat->Bool}{f:En->RS}{ρ:En}{c:Nat}(h:f ρ=.ex c)(a:ok c=true):GE k ok f ρ=.nx ((ac ρ.length Sl.un).set k (.xc c)):=by unfold GE;rw[h];exact if_pos a
def Up {k:Kd}(a:k.Ok 3){i:Nat}{x:T}(d:k.all[i]?=some x):sT [k.t,.int (i:Int)]=.ok x:=by
 have hi:=(ak.mp d).1;show zx (sA _ _ _ _ (lJ k.t (.int (i:Int))))=_;rw[sA,zb (jq (by rw[zQ,v0,af,Um a])),zb (zF ((Kj a _).trans (by rw[decide_eq_true (by lia:(0:Int)<=(i:Int)),decide_eq_true (by lia:(i:Int)<(k.all.length:Int))];rfl))),zy (t:=x)]
 ·rfl
 ·show za 2 _ _ (lJ _ _)=_;rw[zU,v0,af,v1,af,X0 a d]
abbrev flt (k:Kd)(r:Ru):List T:=k.all.filter λx=>kp r x
def Y1 {k:Kd}(a:k.Ok 3)(d:k.all.length<=500){r:Ru}(hr:jP 3 r):nW [k.t,r.t]=.ok (.lst (flt k r)):=by
 show zx (nQ _ _ _ (lJ k.t r.t))=_;have f:zM (zW 0) (jJ (za 2 (nV 8) (z9 (vE 1) (z9 04 (zj))))) 04 1 [1] (lJ k.t r.t) k.all=.ok (flt k r):=
  Jy _ (aC d 03) λt i=>⟨by
   show jJ _ [.vl t,.vl r.t]=_;rw[JI,zU,v1,af,v0,af,Wl (CN a i) hr];rfl,rfl⟩
 rw[nQ,zb (jq (by rw[zQ,v1,af,jw hr])),QX (ρ:=lJ k.t r.t) (ts:=k.all) (by show j3 _ (lJ _ _)=_;rw[Jc,zQ,v0,af,j6 a d];rfl) f]
 rfl
def Av {f:En->R T}{g:En->R (List T)}{ρ:En}{t:T}{ts:List T}(h:f ρ=.ok t)(h':g ρ=.ok ts):z9 f g ρ=.ok (t::ts):=by unfold z9;rw[h,af,h',af]
abbrev mT (k:Kd)(r:Ru)(x:T):List T:=[.lst k.all,.lst (flt k r),.lst (k.less x)]
section
variable {ns:List Int}{k:Kd}{r:Ru}{x:T}
def yo (a:k.Ok 3)(d:k.all.length<=500)(hr:jP 3 r)(f:k.has x=true):KS [k.t,r.t,x]=.ok (.lst (mT k r x)):=by
 have e:rW ny nW pd [.vl k.t,.vl r.t,.vl x]=.ok (mT k r x):=by
  unfold rW;refine Av ?_ (Av ?_ (Av ?_ rfl))
  ·show za _ (mn _) _ _=_;rw[zQ,v0,af,jv (j6 a d)]
  ·show za _ (mn _) _ _=_;rw[zU,v0,af,v1,af,jv (Y1 a d hr)]
  ·show za _ (mn _) _ _=_;rw[zU,v0,af,v2,af,jv (v7 a f)]
 show (rW _ _ _ [.vl k.t,.vl r.t,.vl x]).bind _=_;rw[e];rfl
def X9 (a:k.Ok 3)(f:k.has x=true):Pl 30 (.lst (mT k r x)):=λt d=>by
 have w:∀{y:T},k.has y=true->Pl 28 y:=λ{y} h=>Pl.le 03 (VR 3 k y a h)
 simp only[ay,bM,or_false]at d;rcases d with rfl|rfl|rfl
 ·exact λy hy=>w ((jo k y).mp hy)
 ·exact λy hy=>w ((jo k y).mp (cY.mp hy).1)
 ·exact λy hy=>w ((BK 3 k a).dn x y f hy).1
abbrev EA (ns:List Int)(k:Kd)(r:Ru)(x:T):En:=[.vl (lN ns),.vl k.t,.vl r.t,.vl x,.un,.un,.un,.un,.un,.un,.un,.un,.un,.st []]
abbrev EB (ns:List Int)(k:Kd)(r:Ru)(x:T):En:=[.vl (lN ns),.vl k.t,.vl r.t,.vl x,.un,.vl (.lst (mT k r x)),.un,.un,.un,.un,.un,.un,.un,.st []]
def qz (a:k.Ok 3)(i:k.all.length<=500)(hr:jP 3 r)(d:k.has x=true):pR 4 5 6 3 KS (z9 (vE 1) (z9 (vE 2) (z9 (vE 3) (zj)))) (EA ns k r x)=.nx (EB ns k r x):=by
 have f:pV (mT k r x)=true:=by
  have j:lM=16777216:=rfl;have o:=Je 00 a d
  have l:=List.length_filter_le (λx=>kp r x) k.all;show (true&&(decide (k.all.length<lM)&&(decide ((flt k r).length<lM)&&(decide ((k.less x).length<lM)&&true))))=true;rw[decide_eq_true 00,decide_eq_true 00,decide_eq_true 00];rfl
 show rM 4 5 6 3 KS (EA ns k r x) [k.t,r.t,x]=_;unfold rM;rw[if_pos ⟨rfl,rfl,by decide,by decide,by decide,show 4<14 by decide,show 5<14 by decide,show 6<14 by decide⟩,yo a i hr d]
 show (if pV _=true then RS.nx _ else .bad)=_
 rw[if_pos f];rfl
abbrev cL:En->R T:=za 3 (mn KS) (z9 (vE 1) (z9 (vE 2) (z9 (vE 3) (zj))))
abbrev EW (ns:List Int)(k:Kd)(r:Ru)(x:T)(a:Sl)(ρ:En):En:=.vl (lN ns)::.vl k.t::.vl r.t::.vl x::a::.vl (.lst (mT k r x))::ρ
def CV (d:k.Ok 3)(f:k.all.length<=500)(hr:jP 3 r)(i:k.has x=true){a:Sl}{ρ:En}:cL (EW ns k r x a ρ)=.ok (.lst (mT k r x)):=by
 rw[cL,Zi,v1,af,v2,af,v3,af,jv (yo d f hr i)]
def Kz (d:k.Ok 3)(f:k.all.length<=500)(hr:jP 3 r)(i:k.has x=true){a:Sl}{ρ:En}:ma (zI lX cL (vB 5)) (zI lX (za 2 o6 (z9 (vE 1) (z9 (vE 2) (zj)))) (za 2 o6 (z9 (vE 1) (z9 (vE 2) (zj))))) (EW ns k r x a ρ)=.ok false:=by
 refine uN ?_ ?_
 ·rw[zO,CV d f hr i,af,show vB 5 (EW ns k r x a ρ)=.ok _ from rfl,af];exact Qr (X9 d i)
 ·rw[zO,zU,v1,af,v2,af,x8 d f hr,af,af];refine Qr ?_;cases j:lb k r with
  |none=>trivial
  |some x=>exact Pl.le 03 (VR 3 k x d (Kw j).1)
abbrev F0 (k:Kd):List (Str×Fd):=fF k.t 0 (k.all.length-1) 0
abbrev ED (ns:List Int)(k:Kd)(r:Ru)(x:T)(a8 a9 a10:Sl)(f:List (Str×Fd)):En:=[.vl (lN ns),.vl k.t,.vl r.t,.vl x,.un,.vl (.lst (mT k r x)),.ob 102 0,.ob 102 1,a8,a9,a10,.un,.un,.st [(102,F0 k),(102,f)]]
def DK (d:k.Ok 3)(hp:1<=k.all.length):uv 6 7 11 12 (nh 11 13 102 1 nH 06) (nh 12 13 102 1 nH 06) (EB ns k r x)=.nx (ED ns k r x .un .un .un (F0 k)):=by
 have a:=Ky d hp;have i:nh 11 13 102 1 nH 06 (EB ns k r x)=.ok [.vl (lN ns),.vl k.t,.vl r.t,.vl x,.un,.vl (.lst (mT k r x)),.un,.un,.un,.un,.un,.ob 102 0,.un,.st [(102,F0 k)]]:=by
  unfold nh;rw[show z9 (vE 1) zj (EB ns k r x)=.ok [k.t] from rfl,af,if_pos ⟨rfl,by decide,show 11<14 by decide⟩]
  show (match nH [] [k.t]with|.ok (.non,fs)=>_|.ex c=>_|_=>_)=_
  rw[a];rfl
 have f:nh 12 13 102 1 nH 06 [.vl (lN ns),.vl k.t,.vl r.t,.vl x,.un,.vl (.lst (mT k r x)),.un,.un,.un,.un,.un,.ob 102 0,.un,.st [(102,F0 k)]]=.ok [.vl (lN ns),.vl k.t,.vl r.t,.vl x,.un,.vl (.lst (mT k r x)),.un,.un,.un,.un,.un,.ob 102 0,.ob 102 1,.st [(102,F0 k),(102,F0 k)]]:=by
  unfold nh;rw[show z9 (vE 1) zj [.vl (lN ns),.vl k.t,.vl r.t,.vl x,.un,.vl (.lst (mT k r x)),.un,.un,.un,.un,.un,.ob 102 0,.un,.st [(102,F0 k)]]=.ok [k.t] from rfl,af,if_pos ⟨rfl,by decide,show 12<14 by decide⟩]
  show (match nH [] [k.t]with|.ok (.non,fs)=>_|.ex c=>_|_=>_)=_
  rw[a];rfl
 unfold uv;rw[i,ZI,f,ZI];rfl
def fq {t:T}{a b c:Nat}:((fF t a b c).lookup ("answer":Str)).isNone=true:=by unfold fF;rw[vp (by decide+kernel),vp (by decide+kernel),vp (by decide+kernel),vp (by decide+kernel)];rfl
def vc {g:En->R Bool}{a:En->RS}{n:Nat}{ρ:En}(h:g ρ=.ok false):ZA g a (n+1) ρ=.nx ρ:=by
 show (g ρ).s _=_;rw[h,ZI,if_neg aN]
def x9 {g:En->R Bool}{a:En->RS}{n:Nat}{ρ ρ':En}(h:g ρ=.ok true)(d:a ρ=.nx ρ'):ZA g a (n+1) ρ=ZA g a n ρ':=by
 show (g ρ).s _=_;rw[h,ZI,if_pos rfl,d]
abbrev wT:En->R Bool:=zI ml (JQ 102 7 13 0 nv zj) 01
abbrev wB:En->RS:=zA (ZR (JQ 102 7 13 0 nX zj)) (oE (KN 102 7 13 "answer" 1 KT (z9 (cE (.bl false)) (zj))))
theorem C7:∀(m d a b c:Nat),a<=b->b-a+1<=2^m->m<d->∃c',ZA wT wB d (ED ns k r x .un .un .un (fF k.t a b c))=.nx (ED ns k r x .un .un .un (fF k.t b b c'))
 |m,0,a,b,c,_,_,h=>by lia
 |m,d+1,a,b,c,h,f,u=>by
  have i:wT (ED ns k r x .un .un .un (fF k.t a b c))=.ok (decide ((1:Int)<((b-a+1:Nat):Int))):=by
   rw[wT,zO,uR (fs:=fF k.t a b c) rfl,wR h,af,Z2,af,VT]
  by_cases e:a=b
  ·subst e;exact⟨c,vc (by rw[i,decide_eq_false 00])⟩
  ·obtain⟨m,rfl⟩:∃j,m=j+1:=⟨m-1,by cases m with|zero=>simp at f;lia|succ m=>rfl⟩
   rw[g_]at f;obtain⟨c',p⟩:=C7 m d (mm a b) b (c+1) (by unfold mm;lia) (by unfold mm;lia) 00
   refine⟨c',?_⟩;have l:ZR (JQ 102 7 13 0 nX zj) (ED ns k r x .un .un .un (fF k.t a b c))=.nx (ED ns k r x .un .un .un (fF k.t a b c)):=jq (by rw[uR (fs:=fF k.t a b c) rfl,X8 00])
   have o:oE (KN 102 7 13 "answer" 1 KT (z9 (cE (.bl false)) (zj))) (ED ns k r x .un .un .un (fF k.t a b c))=.nx (ED ns k r x .un .un .un (fF k.t (mm a b) b (c+1))):=by
    unfold oE KN;show R.s (if ((fF k.t a b c).lookup ("answer":Str)).isNone=true then (KT (fF k.t a b c) [.bl false]).bind _ else .bad) _=_
    rw[if_pos fq,Ij 00];rfl
   rw[x9 (by rw[i,decide_eq_true 00]) ((zb l).trans o),p]
def Xa (l:k.Ok 3)(hp:1<=k.all.length)(o:k.all.length<=500){i j d:Sl}{f:List (Str×Fd)}{a:Sl}:JQ 102 6 13 0 nv zj [.vl (lN ns),.vl k.t,.vl r.t,.vl x,a,.vl (.lst (mT k r x)),.ob 102 0,.ob 102 1,i,j,d,.un,.un,.st [(102,F0 k),(102,f)]]=.ok (.int (k.all.length:Int)):=by
 rw[uR (fs:=F0 k) rfl,wR 00]
 congr 2;lia
abbrev pC:En->R T:=lG Zv (za 1 (m4 8) 06)
def vd (d:k.Ok 3)(i:k.all.length<=500){s a:Sl}{ρ:En}:pC (s::.vl k.t::ρ)=.ok (.int (k.all.length:Int)):=by
 have f:m4 8 [k.t]=.ok (.lst k.all):=Q6 3 8 00 00 k d 00
 rw[pC,Zq,zQ,v1,af,f];rfl
def KA (d:k.Ok 3)(hp:1<=k.all.length)(f:k.all.length<=500){b c:Nat}:ma (zI lX (JQ 102 6 13 0 nv zj) pC) (ma (zI lX (JQ 102 6 13 0 Af zj) (cE (.int 0))) (zI lX (JQ 102 7 13 0 nv zj) 01)) (ED ns k r x .un .un .un (fF k.t b b c))=.ok false:=by
 refine uN ?_ (uN ?_ ?_)
 ·rw[zO,Xa d hp f,af,vd (a:=.un) d f,af];exact D8
 ·rw[zO,uR (fs:=F0 k) rfl,Kx,af,Z2,af];rfl
 ·rw[zO,uR (fs:=fF k.t b b c) rfl,wR 00,af,Z2,af,show b-b+1=1 by lia];rfl
end
noncomputable def Aq (r:R T)(s:Str):Bool:=match r with
 |.ok (.str u)=>decide (u=s)
 |_=>false
def DT {r:R T}{s:Str}(h:Aq r s=true):r=.ok (.str s):=by
 unfold Aq at h;split at h
 ·rw[of_decide_eq_true h]
 ·cases h
noncomputable abbrev gr:T:=.tup [.str "row",.tup [.tup [.str "whole",.int 0,.int 19],.tup [.str "whole",.int 1,.int 6],.tup [.str "whole",.int 0,.int 4]]]
noncomputable abbrev bd:T:=.tup [.str "whole",.int 2,.int 1]
noncomputable abbrev od:T:=.tup [.str "sum",.int 1]
def dos:List (List T×Str):=[([.int 0,bd,od,.non],"no rule"),([.int 1,bd,od,.non],"no rule"),([.int 4,bd,.non,od],"no rule"),([.int 2,bd,.non,.non],"no kind"),([.int 3,bd,.non,.non],"no kind"),([.int 0,gr,od,.non],"no rule"),([.int 5,gr,.non,.non],"too many"),([.int 2,gr,.non,.non],"no worth")]
def HC:dos.all (λp=>Aq (mX p.1) p.2)=true:=by decide+kernel
def uS {ts:List T}{s:Str}(h:(ts,s)∈dos):mX ts=.ok (.str s):=DT (aI.mp HC _ h)
noncomputable def CT (r:R T)(c:Nat):Bool:=match r with
 |.ex d=>decide (d=c)
 |_=>false
def DB {r:R T}{c:Nat}(h:CT r c=true):r=.ex c:=by
 unfold CT at h;split at h
 ·rw[of_decide_eq_true h]
 ·cases h
def DV:ny [gr]=.ex 3:=DB (by decide+kernel)
section
variable {ns:List Int}{k:Kd}{r:Ru}{x:T}
def KC (hr:jP 3 r):nW [gr,r.t]=.ex 3:=by
 show zx (nQ _ _ _ (lJ gr r.t))=_;rw[nQ,zb (jq (by rw[zQ,v1,af,jw hr]))]
 show zx (Y6 _ _ _ _ _ _ (lJ _ _))=_;unfold Y6;show zx (R.s (j3 _ (lJ _ _)) _)=_;rw[Jc,zQ,v0,af,DV];rfl
def Hw (hr:jP 3 r):mX [.int 0,gr,r.t,.non]=.ok (.str "too many"):=by
 show zx (sr _ _ _ _ _ _ _ [.vl (.int 0),.vl gr,.vl r.t,.vl .non,.un,.un,.un])=_;have a:zY 4 (cE .non) [.vl (.int 0),.vl gr,.vl r.t,.vl .non,.un,.un,.un]=.nx [.vl (.int 0),.vl gr,.vl r.t,.vl .non,.vl .non,.un,.un]:=rfl;have d:zY 5 (cE .non) [.vl (.int 0),.vl gr,.vl r.t,.vl .non,.vl .non,.un,.un]=.nx [.vl (.int 0),.vl gr,.vl r.t,.vl .non,.vl .non,.vl .non,.un]:=rfl;unfold sr;rw[zb a,zb d,zb (ρ':=[.un,.un,.un,.un,.xc 3,.un,.un]) (by
   rw[D7 (c:=3)]
   ·rfl
   ·rw[JZ rfl];refine DQ ?_;unfold UO;rw[v0,af];dsimp only;rw[if_pos rfl,zU,v1,af,v2,af,KC hr]
   ·decide),zb (ρ':=[.un,.un,.un,.un,.xc 3,.un,.un]) (by rw[Cf rfl];rfl),zy (t:=.str "too many")]
 ·rfl
 ·rfl
abbrev EG (ns:List Int)(k:Kd)(r:Ru)(x:T)(a:Sl)(f:List (Str×Fd)):En:=[.vl (lN ns),.vl k.t,.vl r.t,.vl x,a,.vl (.lst (mT k r x)),.ob 102 0,.ob 102 1,.vl gr,.vl bd,.vl od,.un,.un,.st [(102,F0 k),(102,f)]]
variable {a:Sl}{f:List (Str×Fd)}
noncomputable abbrev l3 (u v w:Str):T:=.lst [.str u,.str v,.str w]
def DC:zY 4 (zd zE (Z9 (Zl 08) (zW 0) (Zh) (za 4 mX (z9 04 (z9 (vE 1) (z9 (vE 2) (z9 (cE .non) (zj)))))) 1 [9,10]) (Zs (z9 (za 4 mX (z9 (cE (.int 4)) (z9 (vE 9) (z9 (cE .non) (z9 (vE 10) (zj)))))) (zj)))) (EG ns k r x a f)=.nx (EG ns k r x (.vl (l3 "no rule" "no rule" "no rule")) f):=by
 have i:Z9 (Zl 08) (zW 0) (Zh) (za 4 mX (z9 04 (z9 (vE 1) (z9 (vE 2) (z9 (cE .non) (zj)))))) 1 [9,10] (EG ns k r x a f)=.ok (.lst [.str "no rule",.str "no rule"]):=by
  rw[Zf,show Zl _ _=R.ok [.int 0,.int 1] from rfl,af,Z1 (h:=λ_=>.str "no rule") _ 03 λt d=>?_]
  ·rfl
  ·simp only[ay,bM,or_false]at d;rcases d with rfl|rfl
   ·exact uS (ts:=[.int 0,bd,od,.non]) (.head _)
   ·exact uS (ts:=[.int 1,bd,od,.non]) (.tail _ (.head _))
 rw[Z4 (t:=l3 "no rule" "no rule" "no rule")]
 ·rfl
 ·rw[zv,i,af,xV (x:=.str "no rule") (by exact uS (ts:=[.int 4,bd,.non,od]) (.tail _ (.tail _ (.head _)))),af];rfl
def EH:ma (zI lX (vB 4) (zd Z7 (Zs (z9 (cE (.str "no rule")) (zj))) (cE (.int 3)))) (zI lX (Z9 (j3 (Zr (z9 08 (z9 (cE (.int 3)) (zj))))) (zW 0) (Zh) (za 4 mX (z9 04 (z9 (vE 1) (z9 (cE .non) (z9 (cE .non) (zj)))))) 1 [9]) (zd Z7 (Zs (z9 (cE (.str "no kind")) (zj))) 08)) (EG ns k r x (.vl (l3 "no rule" "no rule" "no rule")) f)=.ok false:=by
 refine uN rfl ?_;rw[zO,Zf,show j3 _ _=R.ok [.int 2,.int 3] from rfl,af,Z1 (h:=λ_=>.str "no kind") _ 03 λt d=>?_]
 ·rfl
 ·simp only[ay,bM,or_false]at d;rcases d with rfl|rfl
  ·exact uS (ts:=[.int 2,bd,.non,.non]) (.tail _ (.tail _ (.tail _ (.head _))))
  ·exact uS (ts:=[.int 3,bd,.non,.non]) (.tail _ (.tail _ (.tail _ (.tail _ (.head _)))))
def Fw (hr:jP 3 r):zY 4 (Zs (z9 (za 4 mX (z9 (cE (.int 0)) (z9 (vE 8) (z9 (vE 10) (z9 (cE .non) (zj)))))) (z9 (za 4 mX (z9 (cE (.int 0)) (z9 (vE 8) (z9 (vE 2) (z9 (cE .non) (zj)))))) (z9 (za 4 mX (z9 (cE (.int 5)) (z9 (vE 8) (z9 (cE .non) (z9 (cE .non) (zj)))))) (zj))))) (EG ns k r x a f)=.nx (EG ns k r x (.vl (l3 "no rule" "too many" "too many")) f):=by
 rw[Z4 (t:=l3 "no rule" "too many" "too many")]
 ·rfl
 ·exact BY (by exact uS (ts:=[.int 0,gr,od,.non]) (.tail _ (.tail _ (.tail _ (.tail _ (.tail _ (.head _))))))) (by exact Hw hr) (by exact uS (ts:=[.int 5,gr,.non,.non]) (.tail _ (.tail _ (.tail _ (.tail _ (.tail _ (.tail _ (.head _))))))))
def DN:ma (zI lX (vB 4) (Zs (z9 (cE (.str "no rule")) (z9 (cE (.str "too many")) (z9 (cE (.str "too many")) (zj)))))) (zI lX (za 4 mX (z9 08 (z9 (vE 8) (z9 (cE .non) (z9 (cE .non) (zj)))))) (cE (.str "no worth"))) (EG ns k r x (.vl (l3 "no rule" "too many" "too many")) f)=.ok false:=by
 refine uN rfl ?_;have e:za 4 mX (z9 08 (z9 (vE 8) (z9 (cE .non) (z9 (cE .non) (zj))))) (EG ns k r x (.vl (l3 "no rule" "too many" "too many")) f)=.ok (.str "no worth"):=uS (ts:=[.int 2,gr,.non,.non]) (.tail _ (.tail _ (.tail _ (.tail _ (.tail _ (.tail _ (.tail _ (.head _))))))));rw[zO,e];rfl
def KD (d:k.Ok 3)(hp:1<=k.all.length)(i:k.all.length<=500)(hr:jP 3 r)(j:k.has x=true):jg (jI ko cL (vB 5)) (jI ko (JQ 102 6 13 0 nv zj) pC) (EG ns k r x a f)=.ok (.bl true):=by
 refine QE (a:=true) (b:=true) ?_ ?_
 ·rw[j4,CV d i hr j,af,show vB 5 (EG ns k r x a f)=.ok _ from rfl,af,VS (X9 d j)];rfl
 ·rw[j4,Xa d hp i,af,vd (a:=.un) d i,af];show R.ok (T.bl (_==_))=_;rw[beq_self_eq_true]
end
def law_ok (ns:List Int)(h:ns.length<=63):nR [.fz (ns.map T.int)]=.ok (.bl true):=by
 obtain⟨k,d,D,l⟩:=VL ns 0 00 24 00
 have l:KR [lN ns,.int 0,.int 24]=.ok k.t:=l;obtain⟨r,f,u⟩:=WR ns 8 2 00 00 4000 00
 have f:Ad 8 [lN ns,.int 4000,.int 2]=.ok r.t:=f;have hr:jP 3 r:=u.up;have hp:=ZJ 3 k d;have j:k.all.length<=500:=by lia
 obtain⟨p,v,J,N⟩:=zV ns 4100 (k.all.length:Int) 00 00
 obtain⟨i,rfl⟩:∃i:Nat,p=(i:Int):=⟨p.toNat,by lia⟩
 obtain⟨x,y⟩:=jp (show i<k.all.length by lia)
 have o:k.has x=true:=(jo k x).mp (aT y);obtain⟨c,G⟩:=C7 (ns:=ns) (k:=k) (r:=r) (x:=x) 5 20 0 (k.all.length-1) 0 00 (by show _<=32;lia) 00
 have B:GB 1 2 (z9 (za 3 KR (z9 04 (z9 (cE (.int 0)) (z9 (cE (.int 24)) (zj))))) (z9 (za 3 (Ad 8) (z9 04 (z9 (cE (.int 4000)) (z9 08 (zj))))) (zj))) [.vl (lN ns),.un,.un,.un,.un,.un,.un,.un,.un,.un,.un,.un,.un,.st []]=.nx [.vl (lN ns),.vl k.t,.vl r.t,.un,.un,.un,.un,.un,.un,.un,.un,.un,.un,.st []]:=by
  rw[EK,Zi,v0,af,Z2,af,Z2,af,l,ZI,Zi,v0,af,Z2,af,Z2,af,f,ZI];rfl
 have I:zY 3 (za 2 sT (z9 (vE 1) (z9 (za 3 me (z9 04 (z9 (cE (.int 4100)) (z9 pC (zj))))) (zj)))) [.vl (lN ns),.vl k.t,.vl r.t,.un,.un,.un,.un,.un,.un,.un,.un,.un,.un,.st []]=.nx (EA ns k r x):=by
  rw[Z4 (t:=x)]
  ·rfl
  ·rw[zU,v1,af,Zi,v0,af,Z2,af,vd (a:=.un) d j,af,v,af,Up d y]
 show zx (tX _ _ _ _ _ _ _ _ _ _ _ _ _ [.vl (lN ns),.un,.un,.un,.un,.un,.un,.un,.un,.un,.un,.un,.un,.st []])=_;unfold tX;rw[zb B,zb I,zb (qz d j hr o),zb (zF (Kz d j hr o)),zb (DK d hp),zb G,zb (zF (KA d hp j)),zb (ρ':=ED ns k r x (.vl gr) .un .un (fF k.t (k.all.length-1) (k.all.length-1) c)) ?q1,zb (ρ':=EG ns k r x .un (fF k.t (k.all.length-1) (k.all.length-1) c)) ?q2,zb DC,zb (zF EH),zb (Fw hr),zb (zF DN)]
 case q1=>rfl
 case q2=>rfl
 unfold tO sx;rw[KD d hp j hr o];rfl
end G
namespace G
open PySem PySem.Spec PyProof.Rows L2 PV
noncomputable def lO (i:Nat):Stmt:=PySem.Challenge.pw_worthkinds_k80_whole_again.main.body.getD i (.Pass ⟨0,0,0,0⟩)
noncomputable def ve (s:Stmt)(j:Nat):Stmt:=match s with
 |.ClassDef _ _ _ b _ _ _ _ _ _ _=>b.getD j (.Pass ⟨0,0,0,0⟩)
 |s=>s
set_option genInjectivity false in
set_option genSizeOf false in
structure Tx (K:aa) (mg:Str->Option Value):Prop where
 C_1j:FE K mg "_law_cell" (lO 81) ["_law_script","_law_k"]
 C_2:FE K mg "_law_pick" (lO 82) ["_law_script","_law_k","_law_many"]
 C_14:FE K mg "_law_word_of" (lO 83) ["_law_script","_law_at_here"]
 C_19:FE K mg "_law_leaf_kind" (lO 84) ["_law_script","_law_at_here"]
 C_l:FE K mg "_law_kind" (lO 85) ["_law_script","_law_at_here","_law_deep"]
 C_m:FE K mg "_law_rows_of" (lO 87) ["_law_lists_here"]
 C_4:FE K mg "_law_all" (lO 86) ["_law_kind_here"]
 C_h:FE K mg "_law_size" (lO 88) ["_law_kind_here"]
 C_16:FE K mg "_law_small" (lO 89) ["_law_script","_law_at_here","_law_most"]
 C_p:FE K mg "_law_rule" (lO 90) ["_law_script","_law_at_here","_law_deep"]
 C_8:FE K mg "is_whole" (lO 15) ["thing"]
 C_1l:FE K mg "is_span" (lO 18) ["low","high","least","most"]
 C_g:FE K mg "is_tuple_of" (lO 16) ["thing","least","most"]
 C_z:FE K mg "is_word" (lO 17) ["thing"]
 C_1d:FE K mg "is_choice" (lO 21) ["thing"]
 C_1c:FE K mg "are_choices" (lO 20) ["thing"]
 C_b:FE K mg "is_kind_within" (lO 19) ["thing","levels"]
 C_1r:FE K mg "are_kinds_within" (lO 22) ["thing","levels"]
 C_3:FE K mg "is_kind" (lO 11) ["thing"]
 C_i:FE K mg "need_kind" (lO 13) ["kind"]
 C_1:FE K mg "count_of" (lO 31) ["kind"]
 C_12:FE K mg "count_of_parts" (lO 32) ["kinds"]
 C_w:FE K mg "count_shorter" (lO 33) ["kind","length"]
 C_c:FE K mg "words_of_pick" (lO 23) ["kind"]
 C_9:FE K mg "worth_at" (lO 34) ["kind","number"]
 C_1q:FE K mg "many_at" (lO 35) ["kind","number"]
 C_18:FE K mg "parts_at" (lO 36) ["kinds","number"]
 C_1h:FE K mg "worth_of" (lO 28) ["kind","number"]
 C_a:FE K mg "all_worths" (lO 30) ["kind"]
 C_1g:FE K mg "is_bound" (lO 59) ["thing"]
 C_s:FE K mg "is_rule_within" (lO 58) ["thing","levels"]
 C_d:FE K mg "is_rule" (lO 54) ["thing"]
 C_r:FE K mg "need_rule" (lO 57) ["rule"]
 C_n:FE K mg "leaves_of" (lO 63) ["worth"]
 C_1f:FE K mg "numbers_in" (lO 64) ["worth"]
 C_1k:FE K mg "parts_of" (lO 62) ["worth"]
 C_1n:FE K mg "are_rising" (lO 65) ["numbers"]
 C_1o:FE K mg "are_unlike" (lO 66) ["parts"]
 C_1a:FE K mg "is_single_kept" (lO 61) ["rule","worth"]
 C_6:FE K mg "is_kept" (lO 60) ["rule","worth"]
 C_j:FE K mg "keepers" (lO 55) ["kind","rule"]
 C_f:FE K mg "has_worth" (lO 24) ["kind","thing"]
 C_1p:FE K mg "have_parts" (lO 25) ["kinds","parts"]
 C_1e:FE K mg "is_worth" (lO 12) ["kind","thing"]
 C_v:FE K mg "need_worth" (lO 14) ["kind","worth"]
 C_u:FE K mg "nearest_to_nought" (lO 73) ["kind"]
 C_15:FE K mg "number_less" (lO 74) ["kind","number"]
 C_17:FE K mg "word_less" (lO 75) ["kind","word"]
 C_7:FE K mg "shorter" (lO 76) ["kind","worth"]
 C_k:FE K mg "one_step_less" (lO 72) ["kind","worth"]
 C_1i:FE K mg "parts_less" (lO 77) ["kinds","parts"]
 C_x:FE K mg "lesser" (lO 68) ["kind","worth"]
 C_10:FE K mg "_law_lists" (lO 102) ["_law_kind_here","_law_rule_here","_law_worth"]
 C_5:FE K mg "weight_within" (lO 78) ["kind","worth"]
 C_11:FE K mg "weight_of_parts" (lO 79) ["kinds","parts"]
 C_1b:FE K mg "least_breaking" (lO 70) ["kind","rule"]
 C_shares_together:FE K mg "shares_together" (lO 47) ["kind","worths"]
 C_1s:FE K mg "share_keeping" (lO 56) ["kind","rule"]
 C_place_of:FE K mg "place_of" (lO 37) ["kind","worth"]
 C_1t:FE K mg "number_of" (lO 29) ["kind","worth"]
 C_breaking_less:FE K mg "breaking_less" (lO 71) ["kind","worth","rule"]
 C_1u:FE K mg "led_down" (lO 69) ["kind","worth","rule"]
 C_o:FE K mg "_law_word" (lO 100) ["_law_kept"]
 C_q:FE K mg "_law_do" (lO 101) ["_law_what","_law_one","_law_other","_law_third"]
 C_0:FE K mg "law" (lO 103) ["_law_script"]
 z:∀x,(["ValueError","abs","all","any","bool","enumerate","int","isinstance","len","list","max","min","range","reversed","set","str","sum","tuple","zip"]:List Str).contains x=true->mg x=none
 c_DEEPEST:∃u,mg "DEEPEST"=some u/\∃t,u=Value.int 3 t
 c_DEEPEST_RULE:∃u,mg "DEEPEST_RULE"=some u/\∃t,u=Value.int 3 t
 c_FARTHEST_BOUND:∃u,mg "FARTHEST_BOUND"=some u/\∃t,u=Value.int 50 t
 c_MOST_TOLD:∃u,mg "MOST_TOLD"=some u/\∃t,u=Value.int 500 t
structure To (K:aa) (mg:Str->Option Value) (cl:Nat->Value):Prop where
 A_Finder:CA 102 ["kind","first","last","answered"] K cl
 M_Finder_init:FI K mg cl 102 "Finder" (ve (lO 40) 0) ["self","kind"]
 M_Finder_left:FM K cl 102 "left" (ve (lO 40) 1) ["self"]
 M_Finder_ask:FM K cl 102 "ask" (ve (lO 40) 2) ["self"]
 M_Finder_answer:FM K cl 102 "answer" (ve (lO 40) 3) ["self","is_less"]
 M_Finder_asks:FM K cl 102 "asks" (ve (lO 40) 5) ["self"]
noncomputable abbrev vq:List Value:=[.type "ValueError",.type "Exception",.type "BaseException",.type "object"]
set_option genInjectivity false in
set_option genSizeOf false in
structure Tq (K:aa) (mg:Str->Option Value) (base:Heap) (cl:Nat->Value) where
 (q_Ended q_NoKind q_NoRule q_NoText q_NoWorth q_TooMany q_WorthError:Addr)
 X_k:BD K cl okX
 e_WorthError:∀c,okX c=true->PySem.W.exmOne K (cl c) (.ref q_WorthError)=some true
 l_Ended:cl 4=.ref q_Ended
 l_NoKind:cl 0=.ref q_NoKind
 l_NoRule:cl 2=.ref q_NoRule
 l_NoWorth:cl 1=.ref q_NoWorth
 l_TooMany:cl 3=.ref q_TooMany
 m_Ended:mg "Ended"=some (.ref q_Ended)
 m_NoKind:mg "NoKind"=some (.ref q_NoKind)
 m_NoRule:mg "NoRule"=some (.ref q_NoRule)
 m_NoText:mg "NoText"=some (.ref q_NoText)
 m_NoWorth:mg "NoWorth"=some (.ref q_NoWorth)
 m_TooMany:mg "TooMany"=some (.ref q_TooMany)
 m_WorthError:mg "WorthError"=some (.ref q_WorthError)
 o_Ended:OwnCls "Ended" q_Ended vq "ValueError.__new__" mg base
 o_NoKind:OwnCls "NoKind" q_NoKind vq "ValueError.__new__" mg base
 o_NoRule:OwnCls "NoRule" q_NoRule vq "ValueError.__new__" mg base
 o_NoWorth:OwnCls "NoWorth" q_NoWorth vq "ValueError.__new__" mg base
 o_TooMany:OwnCls "TooMany" q_TooMany vq "ValueError.__new__" mg base
 t_Ended:∀c,okX c=true->aV K (cl c) (.ref q_Ended)=some (wD c)
 t_NoKind:∀c,okX c=true->aV K (cl c) (.ref q_NoKind)=some (Jt c)
 t_NoRule:∀c,okX c=true->aV K (cl c) (.ref q_NoRule)=some (Ju c)
 t_NoText:∀c,okX c=true->aV K (cl c) (.ref q_NoText)=some (Jv c)
 t_NoWorth:∀c,okX c=true->aV K (cl c) (.ref q_NoWorth)=some (jT c)
 t_TooMany:∀c,okX c=true->aV K (cl c) (.ref q_TooMany)=some (jU c)
 t_ValueError:∀c,okX c=true->aV K (cl c) (.type "ValueError")=some (ZT c)
section
variable {Z:Zz}{Pt:Addr}(tx:Tx Z.K Z.mg)(xq:Tq Z.K Z.mg Z.base Z.cl)(tc:To Z.K Z.mg Z.cl)
include tx xq tc
set_option hygiene false
local macro_rules| `(tactic|gp_on)=> `(tactic|first
  |(show JN _ _ _ _;first
   |refine xn ?_ ?_
   |exact gX)
  |(show Snd _ _ (.Name ..) _;first
   |exact HY _ (pv _)
   |exact tx.c_FARTHEST_BOUND.elim λ_ h=>Wy 09 h.1 h.2
   |exact tx.c_DEEPEST.elim λ_ h=>Wy 09 h.1 h.2
   |exact tx.c_MOST_TOLD.elim λ_ h=>Wy 09 h.1 h.2
   |exact tx.c_DEEPEST_RULE.elim λ_ h=>Wy 09 h.1 h.2)
  |(show Snd _ _ (.Constant ..) _;first
   |exact Ec
   |exact gW
   |exact AM
   |exact Ev)
  |(show Jn _ _ _ _;first
   |refine kZ hy hp (by assumption) hr nd 09 09 09 (λ{_}=>pv _) (λ{_}=>pv _) _ _ rfl rfl (by kernel_rfl) (λ_ _ _ _ _ _=>jd (show List.Nodup (["_law_one"]:List Str) by decide+kernel) rfl (.inl 09) (.inr 09)) (λ_ _ _ _ _ _ _ _=>kX 09 07 (WX rfl (by first|exact .inl rfl|exact .inr (.inl rfl)|exact .inr (.inr rfl)))) f8 09 ?_ ?_ (by first|exact .inl rfl|exact .inr rfl) (by first|exact .inl rfl|exact .inr rfl) (by first|exact .inl rfl|exact .inr rfl) (by first|exact .inl rfl|exact .inr rfl) (by first|exact .inl rfl|exact .inr rfl) (by first|exact .inl rfl|exact .inr rfl)
   |refine Gf ?_ ?_
   |exact E4
   |refine Ih ?_)
  |(show jH _ _ _ _;first
   |exact gU _ (pv _)
   |refine Snd.b ?_)
  |(show Jf _ _ _ _;first
   |refine E2 ?_
   |refine DF ?_ ?_ ?_
   |refine Gg nd 09 (.inl 09) ?_
   |refine Gi ?_
   |refine Gp lA 09 ?_ ?_ ?_
   |refine D3 ?_
   |refine Gh nd 09 (.inl 09) ?_
   |refine CA.go tc.A_Finder λ_ e c n=>HE (pv _) (by rw[hy];exact e) c (n _ (by kernel_rfl)) ?_
   |refine F8 (pv _) ?_
   |refine E5 (pv _) ?_
   |refine Gv (BB hy (by kernel_rfl) (by kernel_rfl) 09 ?_ (λ_ hy _ _ _ _ _ _=>?_) (λ_ hy _ _ _ _ _ _ _ hp=>?_)) nd 09 (.inl 09) 09
   |exact wx (c:=_) xq.o_NoWorth bb 03 bb hE (by rw[hy];exact xq.l_NoWorth) 09
   |refine GN (BB hy (by kernel_rfl) (by kernel_rfl) 09 ?_ (λ_ hy _ _ _ _ _ _=>?_) (λ_ hy _ _ _ _ _ _ _ hp=>?_))
   |refine Gp f8 09 ?_ ?_ ?_
   |refine YR (n:=_) f8 ?_ ?_
   |refine Gg nd 09 (.inr 09) ?_
   |exact Bx (pv _) nd 09 (.inl 09)
   |exact wx (c:=_) xq.o_NoKind bb 03 bb hE (by rw[hy];exact xq.l_NoKind) 09
   |refine YR (n:=_) lA ?_ ?_
   |exact wx (c:=_) xq.o_TooMany bb 03 bb hE (by rw[hy];exact xq.l_TooMany) 09
   |exact wx (c:=_) xq.o_NoRule bb 03 bb hE (by rw[hy];exact xq.l_NoRule) 09
   |exact FW (pv _)
   |exact wx (c:=_) xq.o_Ended bb 03 bb hE (by rw[hy];exact xq.l_Ended) 09
   |refine FQ 09 nd 09 09 03 09 09 ?_ 09
   |refine Vx (w:="?q") (w2:="?r") 09 nd 09 09 03 09 09 09 09 09 09 03 ?_ ?_ 09
   |refine EE ?_
   |refine GZ ?_ (xC 09 nd 09 09 (.inr 09) (.inr 09))
   |refine FH ?_)
  |(show Snd _ _ (.Call ..) _;first
   |refine HU 09 07 ?_
   |exact QM.go (by assumption) λ_ _ _ _ _ _ e c M F=>Vr (pv _) hy e c M.m F hr (by omega) M.b hp
   |refine vW (n:="tuple") (YK _) 09 07 09 07 PyProof.Rows.Boot.«tuple» ?_
   |refine HN hr.hd 09 07 ?_
   |refine GM 09 07 ?_
   |refine Ge 09 09 07 ?_ ?_
   |refine HI hr.hd 09 07 ?_
   |refine kz hr.units ?_ ?_
   |refine XM 09 07 ?_
   |refine cT hT hy hp (by assumption) hr ?_
   |refine Gz ?_
   |refine kx hr.hd 09 07 09 07 ?_ ?_
   |refine vW (n:="int") (XN _) 09 07 09 07 PyProof.Rows.Boot.«int» ?_
   |refine vW (n:="bool") (vV _) 09 07 09 07 PyProof.Rows.Boot.«bool» ?_
   |refine vW (n:="str") (XO _) 09 07 09 07 PyProof.Rows.Boot.«str» ?_
   |refine GA hr.hd 09 07 09 07 ?_
   |refine GY hr.hd 09 07 09 07 ?_
   |refine EX hr.hd 09 07 ?_
   |refine Ic 09 09 07 ?_ ?_
   |refine FO 09 07 ?_
   |refine mK (kE:=21) L hT hy hr 07 (by kernel_rfl) (by kernel_rfl) ?_ ?_ (λ_ _ _ _ _ _ _ _ _ _ KB hy hE hr=>?_)
   |exact Jo (by rw[hy];exact xq.X_k) (by rw[hy];exact xq.t_Ended) 09 07 (pv _) 09 xq.m_Ended
   |exact Jo (by rw[hy];exact xq.X_k) (by rw[hy];exact xq.t_NoKind) 09 07 (pv _) 09 xq.m_NoKind
   |exact Jo (by rw[hy];exact xq.X_k) (by rw[hy];exact xq.t_NoRule) 09 07 (pv _) 09 xq.m_NoRule
   |exact Jo (by rw[hy];exact xq.X_k) (by rw[hy];exact xq.t_NoText) 09 07 (pv _) 09 xq.m_NoText
   |exact Jo (by rw[hy];exact xq.X_k) (by rw[hy];exact xq.t_NoWorth) 09 07 (pv _) 09 xq.m_NoWorth
   |exact Jo (by rw[hy];exact xq.X_k) (by rw[hy];exact xq.t_TooMany) 09 07 (pv _) 09 xq.m_TooMany
   |refine ky hr.units ?_ ?_
   |exact kb (n:="ValueError") (by rw[hy];exact xq.X_k) (by rw[hy];exact xq.t_ValueError) 09 07 (pv _) 09 07 PyProof.Rows.Boot.«ValueError»
   |refine QQ.go (by assumption) λ_ _ _ _ C0 F0=>QQ.go (by assumption) λ_ _ _ _ C1 F1=>UP hy hp C0.m C1.m (Vo F0 hr (by omega) C0.F.kp C0.b) (Vo F1 hr (by omega) C1.F.kp C1.b) 09 09 ?_ ?_
   |refine QQ.go (by assumption) λ_ _ _ _ C0 F0=>QQ.go (Do (by assumption)) λ_ _ _ _ C1 F1=>UP hy hp C0.m C1.m (Vo F0 hr (by omega) C0.F.kp C0.b) (Vo F1 hr (by omega) C1.F.kp C1.b) 09 09 ?_ ?_
   |exact QQ.go (by assumption) λ_ _ _ _ C F=>ke hy F hr (by omega) 09 C.m C.F.kp C.b (pv _)
   |refine cZ hy (by assumption) hr ?_
   |refine cX hy hp (by assumption) hr ?_
   |refine cX hy hp (Do (by assumption)) hr ?_
   |refine cX hy hp (Hj (by assumption)) hr ?_
   |refine cZ hy (U_weight_within _ KB) hr ?_)
  |(show Wt _ _ _ _;first
   |refine U0 G1 (xo hr.units) ?_ ?_ (wg _)
   |refine FF ?_
   |refine U0 Ew (G2 hr.units) ?_ ?_ (wg _)
   |refine U0 Es G5 ?_ ?_ (wg _)
   |refine U0 G4 xp ?_ ?_ (wg _)
   |refine U0 wX jL ?_ ?_ (wg _)
   |refine U0 G6 (XG hr.units) ?_ ?_ 09
   |refine U0 vR (xt hr.units) ?_ ?_ 09
   |refine YI wX wX jL jL ?_ ?_ ?_
   |refine YI wX G4 jL xp ?_ ?_ ?_
   |exact GG (pv _)
   |refine DX ?_
   |refine Y3.t ?_)
  |(show Snd _ _ (.Subscript ..) _;first
   |refine Ce ?_ ?_
   |refine XS ?_ ?_ ?_)
  |(show Snd _ _ (.BinOp ..) _;first
   |refine HF ?_ ?_
   |refine Er ?_ ?_
   |refine Eh ?_ ?_
   |refine FK ?_ ?_
   |refine gZ ?_ ?_)
  |(show Snd _ _ (.BoolOp ..) _;first
   |refine EU ?_ ?_
   |refine BA ?_ ?_
   |refine HK ?_)
  |(show U3 _ _ _ _ _;first
   |refine Gm 09 07 ?_
   |refine Fh 09 07 ?_ ?_
   |refine Gn 09 07 ?_ ?_
   |refine kH 09 07 ?_
   |refine Gx 09 07 ?_
   |refine Ii 09 07 ?_
   |refine D9 ?_)
  |(show Y3 _ _ _ _;first
   |refine AZ ?_ ?_
   |refine FJ ?_ ?_
   |refine He ?_
   |refine Ga ?_)
  |(show Snd _ _ (.Compare ..) _;first
   |refine XF G1 (xo hr.units) ?_ ?_ (wg _)
   |refine XJ wX wX jL jL ?_ ?_ ?_
   |refine XF vR (xt hr.units) ?_ ?_ 09
   |refine vS wX wX wX jL jL jL ?_ ?_ ?_ ?_
   |refine XF wX jL ?_ ?_ (wg _))
  |(show Snd _ _ (.Tuple ..) _;first
   |refine DS ?_)
  |(show Wx _ _ _ _;first
   |exact Gs
   |refine Gu ?_)
  |(show Snd _ _ (.List ..) _;first
   |refine Ex ?_)
  |(show Snd _ _ (.ListComp ..) _;first
   |refine xE (BB hy (by kernel_rfl) (by kernel_rfl) 09 ?_ (λ_ hy _ _ _ _ _ _=>?_) (λ_ hy _ _ _ _ _ _ _ hp=>?_))
   |refine xE (Et hy (by kernel_rfl) (by kernel_rfl) 09 ?_ (λ_ hy _ _ _ _ _ _=>?_) (λ_ hy _ _ _ _ _ _ _ hp=>?_)))
  |(show XQ _ _ _ _;first
   |refine Gc ?_
   |exact Gb)
  |(show Go _ _ _ _;first
   |exact xB nd 09 (.inl 09)
   |exact xB nd 09 (.inr 09)
   |exact xC 09 nd 09 09 (.inl 09) (.inl 09))
  |(show kO _ _ _ _;first
   |refine Fy ?_ ?_
   |exact Fb)
  |(show Snd _ _ (.UnaryOp ..) _;first
   |refine Fi ?_
   |refine D6 ?_)
  |(show qL _ _ (.List ..) _;first
   |refine Ia ?_)
  |(show Snd _ _ (.IfExp ..) _;first
   |refine Ah ?_ ?_ ?_)
  |(show Snd _ _ (.Attribute ..) _;first
   |exact CA.go tc.A_Finder λ_ e c n=>HS (pv _) (by rw[hy];exact e) c (n _ (by kernel_rfl)))
  |(show qL _ _ (.Call ..) _;first
   |refine F7 hy hp (by assumption) hr ?_)
  |(show qK _ _ _ _;first
   |refine K1 hy hp (by assumption) hr ?_ ?_
   |exact F5)
  |(show qL _ _ (.IfExp ..) _;first
   |refine Cq ?_ ?_ ?_)
  |(show Vw _ _ _ _ _;first
   |refine QI.go (by assumption) λ_ _ _ _ _ _ e g M O F=>Ao hy e M F hr (by omega) 09 g O.b hp ?_)
  |(show qL _ _ (.BinOp ..) _;first
   |refine Ef ?_ ?_)
  |(show KM _ _ (.Call ..) _;first
   |refine QM.go (by assumption) λ_ _ _ _ _ _ e c M F=>D1 (pv _) hy e c M.m F hr (by omega) M.b hp ?_)
  |(show KM _ _ _ _;first
   |refine Ed ?_)
  )
local macro_rules| `(tactic|kd_all)=> `(tactic|(intro cdv A outer s H E Y hy hE hr nd hp;repeat' gp_on))
theorem Hy:qP Z "_law_cell" 2 1 (oP 2 pF):=by
 refine lU tx.C_1j ["_law_script","_law_k"] λ_=>?_
 kd_all
theorem Cm (_:qP Z "_law_cell" 2 1 c_1j):qP Z "_law_pick" 3 2 (oP 4 (Di c_1j)):=by
 refine lU tx.C_2 ["_law_script","_law_k","_law_many","_law_drawn"] λ_=>?_
 kd_all
theorem DJ (_:qP Z "_law_pick" 3 2 c_2):qP Z "_law_word_of" 2 3 (oP 3 (t7 c_2)):=by
 refine lU tx.C_14 ["_law_script","_law_at_here","_law_letters"] λ_=>?_
 kd_all
theorem Hg (_:qP Z "_law_pick" 3 2 c_2)(_:qP Z "_law_word_of" 2 3 c_14):qP Z "_law_leaf_kind" 2 4 (oP 6 (sj c_2 c_14)):=by
 refine lU tx.C_19 ["_law_script","_law_at_here","_law_low","_law_words","_law_k","_law_word_here"] λ_=>?_
 kd_all
theorem Ax {j:Nat}(a:4<=j)(_:qP Z "_law_pick" 3 2 c_2)(_:qP Z "_law_leaf_kind" 2 4 c_19)(_:qP Z "_law_kind" 3 j c_l):qP Z "_law_kind" 3 (j+1) (oP 6 (Ac c_2 c_19 c_l)):=by
 refine lU tx.C_l ["_law_script","_law_at_here","_law_deep","_law_way","_law_some","_law_low"] λ_=>?_
 kd_all
theorem Bs:qP Z "_law_rows_of" 1 1 (oP 5 Ab):=by
 refine lU tx.C_m ["_law_lists_here","_law_made","_law_some","_law_longer","_law_ahead"] λ_=>?_
 kd_all
theorem AN {j:Nat}(a:1<=j)(_:qP Z "_law_all" 1 j c_4)(_:qP Z "_law_rows_of" 1 1 c_m):qP Z "_law_all" 1 (j+1) (oP 3 (mw c_4 c_m)):=by
 refine lU tx.C_4 ["_law_kind_here","_law_made","_law_size_here"] λ_=>?_
 kd_all
theorem AB {j:Nat}(a:9<=j)(_:qP Z "_law_all" 1 9 c_4)(_:qP Z "_law_size" 1 j c_h):qP Z "_law_size" 1 (j+1) (oP 5 (mV c_4 c_h)):=by
 refine lU tx.C_h ["_law_kind_here","_law_sizes","_law_made","_law_size_here","_law_inner"] λ_=>?_
 kd_all
theorem Hq (_:qP Z "_law_kind" 3 12 c_l)(_:qP Z "_law_size" 1 17 c_h):qP Z "_law_small" 3 18 (oP 5 (tq c_l c_h)):=by
 refine lU tx.C_16 ["_law_script","_law_at_here","_law_most","_law_kind_here","_law_k"] λ_=>?_
 kd_all
theorem B5 {j:Nat}(a:2<=j)(_:qP Z "_law_pick" 3 2 c_2)(_:qP Z "_law_rule" 3 j c_p):qP Z "_law_rule" 3 (j+1) (oP 6 (tF c_2 c_p)):=by
 refine lU tx.C_p ["_law_script","_law_at_here","_law_deep","_law_way","_law_one","_law_low"] λ_=>?_
 kd_all
theorem CB:qP Z "is_whole" 1 1 (oP 1 Df):=by
 refine lU tx.C_8 ["thing"] λ_=>?_
 kd_all
theorem HQ (_:qP Z "is_whole" 1 1 c_8):qP Z "is_span" 4 2 (oP 4 (pJ c_8)):=by
 refine lU tx.C_1l ["low","high","least","most"] λ_=>?_
 kd_all
theorem AD:qP Z "is_tuple_of" 3 1 (oP 3 C3):=by
 refine lU tx.C_g ["thing","least","most"] λ_=>?_
 kd_all
theorem Ck:qP Z "is_word" 1 1 (oP 1 C8):=by
 refine lU tx.C_z ["thing"] λ_=>?_
 kd_all
theorem Hl (_:qP Z "is_whole" 1 1 c_8)(_:qP Z "is_tuple_of" 3 1 c_g)(_:qP Z "is_word" 1 1 c_z):qP Z "is_choice" 1 2 (oP 1 (sZ c_8 c_g c_z)):=by
 refine lU tx.C_1d ["thing"] λ_=>?_
 kd_all
theorem Ea (_:qP Z "is_tuple_of" 3 1 c_g)(_:qP Z "is_choice" 1 2 c_1d):qP Z "are_choices" 1 3 (oP 2 (sN c_g c_1d)):=by
 refine lU tx.C_1c ["thing","words"] λ_=>?_
 kd_all
theorem AG {j:Nat}(a:3<=j)(_:qP Z "is_span" 4 2 c_1l)(_:qP Z "is_kind_within" 2 j c_b)(_:qP Z "are_choices" 1 3 c_1c)(_:qP Z "are_kinds_within" 2 j c_1r):qP Z "is_kind_within" 2 (j+1) (oP 2 (t6 c_1l c_b c_1c c_1r)):=by
 refine lU tx.C_b ["thing","levels"] λ_=>?_
 kd_all
theorem Fk {j:Nat}(a:3<=j)(_:qP Z "is_tuple_of" 3 1 c_g)(_:qP Z "is_kind_within" 2 j c_b):qP Z "are_kinds_within" 2 (j+1) (oP 2 (sS c_g c_b)):=by
 refine lU tx.C_1r ["thing","levels"] λ_=>?_
 kd_all
theorem AY (_:qP Z "is_kind_within" 2 23 c_b):qP Z "is_kind" 1 24 (oP 1 (tU c_b)):=by
 refine lU tx.C_3 ["thing"] λ_=>?_
 kd_all
theorem Cj (_:qP Z "is_kind" 1 24 c_3):qX Z "need_kind" 1 25 (oP 1 (tH c_3)):=by
 refine nC tx.C_i ["kind"] λ_=>?_
 kd_all
theorem AO {j:Nat}(a:0<=j)(_:qP Z "count_of_parts" 1 j c_12)(_:qP Z "count_shorter" 2 j c_w):qP Z "count_of" 1 (j+1) (oP 1 (sU c_12 c_w)):=by
 refine lU tx.C_1 ["kind"] λ_=>?_
 kd_all
theorem Fj {j:Nat}(a:0<=j)(_:qP Z "count_of" 1 j c_1):qP Z "count_of_parts" 1 (j+1) (oP 3 (ph c_1)):=by
 refine lU tx.C_12 ["kinds","count","kind"] λ_=>?_
 kd_all
theorem CK {j:Nat}(a:0<=j)(_:qP Z "count_of_parts" 1 j c_12):qP Z "count_shorter" 2 (j+1) (oP 2 (re c_12)):=by
 refine lU tx.C_w ["kind","length"] λ_=>?_
 kd_all
theorem pL:qP Z "words_of_pick" 1 1 (oP 1 sk):=by
 refine lU tx.C_c ["kind"] λ_=>?_
 kd_all
theorem AI {j:Nat}(a:20<=j)(_:qP Z "words_of_pick" 1 1 c_c)(_:qP Z "many_at" 2 j c_1q)(_:qP Z "parts_at" 2 j c_18):qP Z "worth_at" 2 (j+1) (oP 2 (sM c_c c_1q c_18)):=by
 refine lU tx.C_9 ["kind","number"] λ_=>?_
 kd_all
theorem HL {j:Nat}(a:20<=j)(_:qP Z "count_shorter" 2 20 c_w)(_:qP Z "parts_at" 2 j c_18):qP Z "many_at" 2 (j+1) (oP 3 (rX c_w c_18)):=by
 refine lU tx.C_1q ["kind","number","length"] λ_=>?_
 kd_all
theorem F3 {j:Nat}(a:20<=j)(_:qP Z "count_of" 1 20 c_1)(_:qP Z "worth_at" 2 j c_9):qP Z "parts_at" 2 (j+1) (oP 6 (rn c_1 c_9)):=by
 refine lU tx.C_18 ["kinds","number","parts","rest","kind","count"] λ_=>?_
 kd_all
theorem EM (_:qX Z "need_kind" 1 25 c_i)(_:qP Z "is_whole" 1 1 c_8)(_:qP Z "count_of" 1 20 c_1)(_:qP Z "worth_at" 2 40 c_9):qX Z "worth_of" 2 41 (oP 2 (sA c_i c_8 c_1 c_9)):=by
 refine nC tx.C_1h ["kind","number"] λ_=>?_
 kd_all
theorem Bi (_:qX Z "need_kind" 1 25 c_i)(_:qP Z "count_of" 1 20 c_1)(_:qP Z "worth_at" 2 40 c_9):qX Z "all_worths" 1 41 (oP 2 (oW c_i c_1 c_9)):=by
 refine nC tx.C_a ["kind","count"] λ_=>?_
 kd_all
theorem DA (_:qX Z "need_kind" 1 25 c_i)(_:qP Z "count_of" 1 20 c_1)(_:qP Z "worth_at" 2 40 c_9):qF Z "all_worths" 1 41 (oP 2 (oW c_i c_1 c_9)):=by
 refine og tx.C_a ["kind","count"] (by unfold oW;repeat (first|apply jh|apply JF|exact ZM|exact ji|exact Zo|exact a|exact JG|exact ZN|exact d|exact f)) λ_=>?_
 kd_all
theorem Ib (_:qP Z "is_whole" 1 1 c_8):qP Z "is_bound" 1 2 (oP 1 (AF c_8)):=by
 refine lU tx.C_1g ["thing"] λ_=>?_
 kd_all
theorem CG {j:Nat}(a:2<=j)(_:qP Z "is_word" 1 1 c_z)(_:qP Z "is_rule_within" 2 j c_s)(_:qP Z "is_bound" 1 2 c_1g):qP Z "is_rule_within" 2 (j+1) (oP 2 (sI c_z c_s c_1g)):=by
 refine lU tx.C_s ["thing","levels"] λ_=>?_
 kd_all
theorem BW (_:qP Z "is_rule_within" 2 10 c_s):qP Z "is_rule" 1 11 (oP 1 (Dh c_s)):=by
 refine lU tx.C_d ["thing"] λ_=>?_
 kd_all
theorem An (_:qP Z "is_rule" 1 11 c_d):qX Z "need_rule" 1 12 (oP 1 (sE c_d)):=by
 refine nC tx.C_r ["rule"] λ_=>?_
 kd_all
theorem Bg {j:Nat}(a:0<=j)(_:qP Z "leaves_of" 1 j c_n):qP Z "leaves_of" 1 (j+1) (oP 3 (sw c_n)):=by
 refine lU tx.C_n ["worth","leaves","part"] λ_=>?_
 kd_all
theorem DU (_:qP Z "is_whole" 1 1 c_8)(_:qP Z "leaves_of" 1 8 c_n):qP Z "numbers_in" 1 9 (oP 1 (Cu c_8 c_n)):=by
 refine lU tx.C_1f ["worth"] λ_=>?_
 kd_all
theorem HR:qP Z "parts_of" 1 1 (oP 1 pQ):=by
 refine lU tx.C_1k ["worth"] λ_=>?_
 kd_all
theorem Ft:qP Z "are_rising" 1 1 (oP 1 Ci):=by
 refine lU tx.C_1n ["numbers"] λ_=>?_
 kd_all
theorem HJ:qP Z "are_unlike" 1 1 (oP 1 CC):=by
 refine lU tx.C_1o ["parts"] λ_=>?_
 kd_all
theorem FP (_:qP Z "parts_of" 1 1 c_1k)(_:qP Z "leaves_of" 1 8 c_n)(_:qP Z "numbers_in" 1 9 c_1f)(_:qP Z "are_rising" 1 1 c_1n)(_:qP Z "are_unlike" 1 1 c_1o):qP Z "is_single_kept" 2 10 (oP 2 (sD c_1k c_n c_1f c_1n c_1o)):=by
 refine lU tx.C_1a ["rule","worth"] λ_=>?_
 kd_all
theorem Bk {j:Nat}(a:10<=j)(_:qP Z "is_kept" 2 j c_6)(_:qP Z "is_single_kept" 2 10 c_1a):qP Z "is_kept" 2 (j+1) (oP 2 (tL c_6 c_1a)):=by
 refine lU tx.C_6 ["rule","worth"] λ_=>?_
 kd_all
theorem B7 (_:qX Z "all_worths" 1 41 c_a)(_:qX Z "need_rule" 1 12 c_r)(_:qP Z "is_kept" 2 18 c_6):qX Z "keepers" 2 42 (oP 2 (nQ c_a c_r c_6)):=by
 refine nC tx.C_j ["kind","rule"] λ_=>?_
 kd_all
theorem Eo (_:qX Z "all_worths" 1 41 c_a)(_:qX Z "need_rule" 1 12 c_r)(_:qP Z "is_kept" 2 18 c_6):qF Z "keepers" 2 42 (oP 2 (nQ c_a c_r c_6)):=by
 refine og tx.C_j ["kind","rule"] (by unfold nQ;repeat (first|apply jh|apply JF|exact ZM|exact ji|exact Zo|exact a|exact JG|exact ZN|exact d|exact f)) λ_=>?_
 kd_all
theorem At {j:Nat}(a:1<=j)(_:qP Z "is_whole" 1 1 c_8)(_:qP Z "is_tuple_of" 3 1 c_g)(_:qP Z "words_of_pick" 1 1 c_c)(_:qP Z "have_parts" 2 j c_1p):qP Z "has_worth" 2 (j+1) (oP 2 (ng c_8 c_g c_c c_1p)):=by
 refine lU tx.C_f ["kind","thing"] λ_=>?_
 kd_all
theorem Hk {j:Nat}(a:1<=j)(_:qP Z "has_worth" 2 j c_f):qP Z "have_parts" 2 (j+1) (oP 2 (tu c_f)):=by
 refine lU tx.C_1p ["kinds","parts"] λ_=>?_
 kd_all
theorem FG (_:qX Z "need_kind" 1 25 c_i)(_:qP Z "has_worth" 2 21 c_f):qX Z "is_worth" 2 26 (oP 2 (tI c_i c_f)):=by
 refine nC tx.C_1e ["kind","thing"] λ_=>?_
 kd_all
theorem A3 (_:qX Z "is_worth" 2 26 c_1e):qX Z "need_worth" 2 27 (oP 2 (tV c_1e)):=by
 refine nC tx.C_v ["kind","worth"] λ_=>?_
 kd_all
theorem rO:qP Z "nearest_to_nought" 1 1 (oP 1 sv):=by
 refine lU tx.C_u ["kind"] λ_=>?_
 kd_all
theorem HM (_:qP Z "nearest_to_nought" 1 1 c_u):qF Z "number_less" 2 2 (oP 3 (rQ c_u)):=by
 refine og tx.C_15 ["kind","number","nearest"] (by unfold rQ;repeat (first|apply jh|apply JF|exact ZM|exact ji|exact Zo|exact a|exact JG|exact ZN|exact jD|exact jE|apply Js|exact jF|exact Jr)) λ_=>?_
 kd_all
theorem DL (_:qP Z "words_of_pick" 1 1 c_c):qF Z "word_less" 2 2 (oP 4 (rm c_c)):=by
 refine og tx.C_17 ["kind","word","words","place"] (by unfold rm;repeat (first|apply jh|apply JF|exact ZM|exact ji|exact Zo|exact a|exact JG|exact ZN|exact jD|exact jE|apply Js|exact jF|exact Jr)) λ_=>?_
 kd_all
theorem Ct:qF Z "shorter" 2 1 (oP 2 o7):=by
 refine og tx.C_7 ["kind","worth"] (by unfold o7;repeat (first|apply jh|apply JF|exact ZM|exact ji|exact Zo|exact a|exact JG|exact ZN|exact jD|exact jE|apply Js|exact jF|exact Jr)) λ_=>?_
 kd_all
theorem Bh {j:Nat}(d:2<=j)(_:qF Z "number_less" 2 2 c_15)(_:qF Z "word_less" 2 2 c_17)(_:qF Z "shorter" 2 1 c_7)(_:qF Z "parts_less" 2 j c_1i):qF Z "one_step_less" 2 (j+1) (oP 2 (nU c_15 c_17 c_7 c_1i)):=by
 refine og tx.C_k ["kind","worth"] (by unfold nU;repeat (first|apply jh|apply JF|exact ZM|exact ji|exact Zo|exact a|exact JG|exact ZN|exact jD|exact jE|apply Js|exact jF|exact Jr)) λ_=>?_
 kd_all
theorem DY {j:Nat}(d:2<=j)(_:qF Z "one_step_less" 2 j c_k):qF Z "parts_less" 2 (j+1) (oP 6 (pW c_k)):=by
 refine og tx.C_1i ["kinds","parts","told","place","part","less"] (by unfold pW;repeat (first|apply jh|apply JF|exact ZM|exact ji|exact Zo|exact a|exact JG|exact ZN|exact jD|exact jE|apply Js|exact jF|exact Jr)) λ_=>?_
 kd_all
theorem Bl (_:qX Z "need_worth" 2 27 c_v)(_:qF Z "one_step_less" 2 22 c_k):qF Z "lesser" 2 28 (oP 2 (rk c_v c_k)):=by
 refine og tx.C_x ["kind","worth"] (by unfold rk;repeat (first|apply jh|apply JF|exact ZM|exact ji|exact Zo|exact a|exact JG|exact ZN|exact jD|exact jE|apply Js|exact jF|exact Jr)) λ_=>?_
 kd_all
theorem EV (_:qX Z "all_worths" 1 41 c_a)(_:qX Z "keepers" 2 42 c_j)(_:qF Z "lesser" 2 28 c_x)(_:qF Z "all_worths" 1 41 c_a)(_:qF Z "keepers" 2 42 c_j):AK Z "_law_lists" 3 43 (BX 3 (rW c_a c_j c_x)):=by
 refine BV tx.C_10 ["_law_kind_here","_law_rule_here","_law_worth"] λ_=>?_;intro cdv A outer s H E Y hy hE hr nd hp;refine⟨_,_,_,rfl,?_⟩
 repeat' gp_on
theorem pU {j:Nat}(a:1<=j)(_:qP Z "words_of_pick" 1 1 c_c)(_:qP Z "nearest_to_nought" 1 1 c_u)(_:qP Z "weight_of_parts" 2 j c_11):qP Z "weight_within" 2 (j+1) (oP 2 (oi c_c c_u c_11)):=by
 refine lU tx.C_5 ["kind","worth"] λ_=>?_
 kd_all
theorem Du {j:Nat}(a:1<=j)(_:qP Z "weight_within" 2 j c_5):qP Z "weight_of_parts" 2 (j+1) (oP 2 (tM c_5)):=by
 refine lU tx.C_11 ["kinds","parts"] λ_=>?_
 kd_all
theorem D0 (d:FT Z.K Z.mg "least_breaking" (lO 70) ["kind","rule"] Pt)(a:Z.base.BuiltinsAt Z.mg Pt)(_:qX Z "all_worths" 1 41 c_a)(_:qX Z "need_rule" 1 12 c_r)(_:qP Z "is_kept" 2 18 c_6)(U_weight_within:∀b,Z.K.In b->qP {Z with base:=b} "weight_within" 2 21 c_5):qT Z "least_breaking" 2 42 (oP 3 (tE c_a c_r c_6 c_5)) Pt (nc "least_breaking"):=by
 refine EJ d a ["kind","rule","breaking"] λ_=>?_;intro c A outer s H E Y L hT hy hE hr nd hp
 repeat' gp_on
theorem Ay (_:qX Z "need_kind" 1 25 c_i)(_:qP Z "count_of" 1 20 c_1):qI Z 102 "Finder" 1 26 (oM 102 2 (tj c_i c_1)):=by
 refine EO tc.M_Finder_init ["self","kind","?"] λ_ _=>?_
 kd_all
theorem CD:qO Z 102 "left" 0 1 (oO 102 1 0 C4):=by
 refine B9 tc.A_Finder tc.M_Finder_left ["self","?"] λ_ _=>?_
 kd_all
theorem Ag (_:qO Z 102 "left" 0 1 c_t):qO Z 102 "ask" 0 2 (oO 102 1 0 (sR c_t)):=by
 refine B9 tc.A_Finder tc.M_Finder_ask ["self","?"] λ_ _=>?_
 kd_all
theorem Ha (_:qO Z 102 "ask" 0 2 c_e):qM Z 102 "answer" 1 3 (oM 102 3 (Aa c_e)):=by
 refine FX tc.A_Finder tc.M_Finder_answer ["self","is_less","asked","?"] λ_ _=>?_
 kd_all
theorem EZ:qO Z 102 "asks" 0 1 (oO 102 1 0 pO):=by
 refine B9 tc.A_Finder tc.M_Finder_asks ["self","?"] λ_ _=>?_
 kd_all
theorem E9 (_:qP Z "shares_together" 2 1 c_shares_together)(_:qX Z "keepers" 2 42 c_j):qX Z "share_keeping" 2 43 (oP 2 (rg c_shares_together c_j)):=by
 refine nC tx.C_1s ["kind","rule"] λ_=>?_
 kd_all
theorem Ey (_:qX Z "need_worth" 2 27 c_v)(_:qP Z "place_of" 2 1 c_place_of):qX Z "number_of" 2 28 (oP 2 (pS c_v c_place_of)):=by
 refine nC tx.C_1t ["kind","worth"] λ_=>?_
 kd_all
theorem Ez (_:qX Z "need_worth" 2 27 c_v)(_:qX Z "need_rule" 1 12 c_r)(_:qP Z "is_kept" 2 18 c_6)(_:qP Z "breaking_less" 3 1 c_breaking_less):qX Z "led_down" 3 28 (oP 5 (pT c_v c_r c_6 c_breaking_less)):=by
 refine nC tx.C_1u ["kind","worth","rule","told","following"] λ_=>?_
 kd_all
theorem AW:qC Z "_law_word" 1 (oC 2 CL):=by
 refine Hm tx.C_o ["_law_kept","_law_kinds"] λ_=>?_
 kd_all
theorem BG (_:qX Z "number_of" 2 28 c_1t)(_:qX Z "all_worths" 1 41 c_a)(_:qC Z "_law_word" 1 c_o)(_:qX Z "keepers" 2 42 c_j)(_:qX Z "share_keeping" 2 43 c_1s)(_:qF Z "lesser" 2 28 c_x)(_:qX Z "led_down" 3 28 c_1u):qP Z "_law_do" 4 44 (oP 7 (sr c_1t c_a c_o c_j c_1s c_x c_1u)):=by
 refine lU tx.C_q ["_law_what","_law_one","_law_other","_law_third","_law_kept","_law_answer","e"] λ_=>?_
 kd_all
 refine FN (i:=6) (k:=4) (ok:=okX) 09 09 nd 09 09 09 09 03 09 xq.m_WorthError (by rw[hy];exact xq.e_WorthError) (λa pn xe hp=>?_)
 repeat' gp_on
theorem AE {f:Addr}{a:FuncData}(C:Fn Z.K Z.mg "law" (lO 103) ["_law_script"] f a)(_:qX Z "worth_of" 2 41 c_1h)(_:qP Z "_law_pick" 3 2 c_2)(_:qP Z "_law_all" 1 9 c_4)(_:qP Z "_law_small" 3 18 c_16)(_:qP Z "_law_rule" 3 10 c_p)(_:qT Z "least_breaking" 2 42 c_1b Pt (nc "least_breaking"))(_:qP Z "_law_do" 4 44 c_q)(_:AK Z "_law_lists" 3 43 c_10)(_:qI Z 102 "Finder" 1 26 c_y)(_:qO Z 102 "left" 0 1 c_t)(_:qO Z 102 "ask" 0 2 c_e)(_:qM Z 102 "answer" 1 3 c_13)(_:qO Z 102 "asks" 0 1 c_1m):ZX Z.P Z.w Z.K Z.mg Z.base (lH Z.P Z.w) 45 f a ["_law_script"] (vj Z.cl 1 (oS 14 (tX c_1h c_2 c_4 c_16 c_p c_1b c_q c_10 c_y c_t c_e c_13 c_1m)) Pt (nc "least_breaking")):=by
 refine HV C ["_law_script","_law_kind_here","_law_rule_here","_law_worth","_law_told","_law_asked","_law_one","_law_other","_law_great","_law_bad","_law_odd","?q","?r","?"] ?_;intro cdv A outer s H E Y hT hy hE hr nd hp
 repeat' gp_on
end
section
variable {Z:Zz}{Pt:Addr}(tx:Tx Z.K Z.mg)(xq:Tq Z.K Z.mg Z.base Z.cl)(tc:To Z.K Z.mg Z.cl)
include tx xq tc
theorem JB:qP Z "weight_within" 2 21 (oU 20):=by
 have d:qP Z "words_of_pick" 1 1 mL:=pL tx xq tc;have f:qP Z "nearest_to_nought" 1 1 nT:=rO tx xq tc;have a:∀n:Nat,qP Z "weight_within" 2 (1+n) (mW n 0)/\qP Z "weight_of_parts" 2 (1+n) (mW n 1):=by
  intro n
  induction n with
  |zero=>exact⟨mh tx.C_5,mh tx.C_11⟩
  |succ n j=>exact⟨pU tx xq tc (aL _ _) d f j.2,Du tx xq tc (aL _ _) j.1⟩
 have i:qP Z "weight_within" 2 21 (oU 20):=(a 20).1;have k:qP Z "weight_of_parts" 2 21 (ro 20):=(a 20).2;exact i
theorem FZ (xqb:∀b,Z.K.In b->Tq Z.K Z.mg b Z.cl)(tp:FT Z.K Z.mg "least_breaking" (lO 70) ["kind","rule"] Pt)(hBT:Z.base.BuiltinsAt Z.mg Pt){f:Addr}{fd:FuncData}(C:Fn Z.K Z.mg "law" (lO 103) ["_law_script"] f fd):ZX Z.P Z.w Z.K Z.mg Z.base (lH Z.P Z.w) 45 f fd ["_law_script"] (vj Z.cl 1 nR Pt (nc "least_breaking")):=by
 have U_weight_within:∀b,Z.K.In b->qP {Z with base:=b} "weight_within" 2 21 (oU 20):=λb hb=>JB (Z:={Z with base:=b}) tx (xqb b hb) tc;have S:qP Z "_law_cell" 2 1 o5:=Hy tx xq tc;have p:qP Z "_law_pick" 3 2 me:=Cm tx xq tc S;have O_14:qP Z "_law_word_of" 2 3 KQ:=DJ tx xq tc p;have O_19:qP Z "_law_leaf_kind" 2 4 pk:=Hg tx xq tc p O_14;have R_l:∀n:Nat,qP Z "_law_kind" 3 (4+n) (nK n 0):=by
  intro n
  induction n with
  |zero=>exact mh tx.C_l
  |succ n a=>exact Ax tx xq tc (aL _ _) p O_19 a
 have O_l:qP Z "_law_kind" 3 12 (nS 8):=(R_l 8);have O_m:qP Z "_law_rows_of" 1 1 mf:=Bs tx xq tc;have R_4:∀n:Nat,qP Z "_law_all" 1 (1+n) (oQ n 0):=by
  intro n
  induction n with
  |zero=>exact mh tx.C_4
  |succ n a=>exact AN tx xq tc (aL _ _) a O_m
 have U:qP Z "_law_all" 1 9 (m4 8):=(R_4 8);have R_h:∀n:Nat,qP Z "_law_size" 1 (9+n) (tZ n 0):=by
  intro n
  induction n with
  |zero=>exact mh tx.C_h
  |succ n a=>exact AB tx xq tc (aL _ _) U a
 have O_h:qP Z "_law_size" 1 17 (rF 8):=(R_h 8);have O_16:qP Z "_law_small" 3 18 KR:=Hq tx xq tc O_l O_h;have R_p:∀n:Nat,qP Z "_law_rule" 3 (2+n) (oa n 0):=by
  intro n
  induction n with
  |zero=>exact mh tx.C_p
  |succ n a=>exact B5 tx xq tc (aL _ _) p a
 have O_p:qP Z "_law_rule" 3 10 (Ad 8):=(R_p 8);have k:qP Z "is_whole" 1 1 mO:=CB tx xq tc;have O_1l:qP Z "is_span" 4 2 sV:=HQ tx xq tc k;have v:qP Z "is_tuple_of" 3 1 mS:=AD tx xq tc;have O_z:qP Z "is_word" 1 1 oz:=Ck tx xq tc;have O_1d:qP Z "is_choice" 1 2 rd:=Hl tx xq tc k v O_z;have O_1c:qP Z "are_choices" 1 3 rD:=Ea tx xq tc v O_1d;have Q:∀n:Nat,qP Z "is_kind_within" 2 (3+n) (mE n 0)/\qP Z "are_kinds_within" 2 (3+n) (mE n 1):=by
  intro n
  induction n with
  |zero=>exact⟨mh tx.C_b,mh tx.C_1r⟩
  |succ n a=>exact⟨AG tx xq tc (aL _ _) O_1l a.1 O_1c a.2,Fk tx xq tc (aL _ _) v a.1⟩
 have O_b:qP Z "is_kind_within" 2 23 (CF 20):=(Q 20).1;have O_1r:qP Z "are_kinds_within" 2 23 (AA 20):=(Q 20).2;have O_3:qP Z "is_kind" 1 24 pM:=AY tx xq tc O_b;have o:qX Z "need_kind" 1 25 nr:=Cj tx xq tc O_3;have D:∀n:Nat,qP Z "count_of" 1 (0+n) (mU n 0)/\qP Z "count_of_parts" 1 (0+n) (mU n 1)/\qP Z "count_shorter" 2 (0+n) (mU n 2):=by
  intro n
  induction n with
  |zero=>exact⟨mh tx.C_1,mh tx.C_12,mh tx.C_w⟩
  |succ n a=>exact⟨AO tx xq tc (aL _ _) a.2.1 a.2.2,Fj tx xq tc (aL _ _) a.1,CK tx xq tc (aL _ _) a.2.1⟩
 have l:qP Z "count_of" 1 20 (m9 20):=(D 20).1;have O_12:qP Z "count_of_parts" 1 20 (Cs 20):=(D 20).2.1;have O_w:qP Z "count_shorter" 2 20 (oK 20):=(D 20).2.2;have x:qP Z "words_of_pick" 1 1 mL:=pL tx xq tc;have G:∀n:Nat,qP Z "worth_at" 2 (20+n) (m3 n 0)/\qP Z "many_at" 2 (20+n) (m3 n 1)/\qP Z "parts_at" 2 (20+n) (m3 n 2):=by
  intro n
  induction n with
  |zero=>exact⟨mh tx.C_9,mh tx.C_1q,mh tx.C_18⟩
  |succ n a=>exact⟨AI tx xq tc (aL _ _) x a.2.1 a.2.2,HL tx xq tc (aL _ _) O_w a.2.2,F3 tx xq tc (aL _ _) l a.1⟩
 have I:qP Z "worth_at" 2 40 (oX 20):=(G 20).1;have O_1q:qP Z "many_at" 2 40 (Bf 20):=(G 20).2.1;have O_18:qP Z "parts_at" 2 40 (Bv 20):=(G 20).2.2;have O_1h:qX Z "worth_of" 2 41 sT:=EM tx xq tc o k l I;have u:qX Z "all_worths" 1 41 ny:=Bi tx xq tc o l I;have V_a:qF Z "all_worths" 1 41 ny:=DA tx xq tc o l I;have O_1g:qP Z "is_bound" 1 2 su:=Ib tx xq tc k;have R_s:∀n:Nat,qP Z "is_rule_within" 2 (2+n) (se n 0):=by
  intro n
  induction n with
  |zero=>exact mh tx.C_s
  |succ n a=>exact CG tx xq tc (aL _ _) O_z a O_1g
 have O_s:qP Z "is_rule_within" 2 10 (Dj 8):=(R_s 8);have O_d:qP Z "is_rule" 1 11 BN:=BW tx xq tc O_s;have y:qX Z "need_rule" 1 12 oN:=An tx xq tc O_d;have R_n:∀n:Nat,qP Z "leaves_of" 1 (0+n) (pP n 0):=by
  intro n
  induction n with
  |zero=>exact mh tx.C_n
  |succ n a=>exact Bg tx xq tc (aL _ _) a
 have O_n:qP Z "leaves_of" 1 8 (oZ 8):=(R_n 8);have O_1f:qP Z "numbers_in" 1 9 t9:=DU tx xq tc k O_n;have X:qP Z "parts_of" 1 1 sh:=HR tx xq tc;have O_1n:qP Z "are_rising" 1 1 BO:=Ft tx xq tc;have O_1o:qP Z "are_unlike" 1 1 AV:=HJ tx xq tc;have O_1a:qP Z "is_single_kept" 2 10 pA:=FP tx xq tc X O_n O_1f O_1n O_1o;have R_6:∀n:Nat,qP Z "is_kept" 2 (10+n) (nz n 0):=by
  intro n
  induction n with
  |zero=>exact mh tx.C_6
  |succ n a=>exact Bk tx xq tc (aL _ _) a O_1a
 have B:qP Z "is_kept" 2 18 (nV 8):=(R_6 8);have N:qX Z "keepers" 2 42 nW:=B7 tx xq tc u y B;have V_j:qF Z "keepers" 2 42 nW:=Eo tx xq tc u y B;have R_f:∀n:Nat,qP Z "has_worth" 2 (1+n) (m8 n 0)/\qP Z "have_parts" 2 (1+n) (m8 n 1):=by
  intro n
  induction n with
  |zero=>exact⟨mh tx.C_f,mh tx.C_1p⟩
  |succ n a=>exact⟨At tx xq tc (aL _ _) k v x a.2,Hk tx xq tc (aL _ _) a.1⟩
 have O_f:qP Z "has_worth" 2 21 (Bd 20):=(R_f 20).1;have O_1p:qP Z "have_parts" 2 21 (A0 20):=(R_f 20).2;have O_1e:qX Z "is_worth" 2 26 o0:=FG tx xq tc o O_f;have J:qX Z "need_worth" 2 27 rV:=A3 tx xq tc O_1e;have O_u:qP Z "nearest_to_nought" 1 1 nT:=rO tx xq tc;have O_15:qF Z "number_less" 2 2 rj:=HM tx xq tc O_u;have O_17:qF Z "word_less" 2 2 pq:=DL tx xq tc x;have O_7:qF Z "shorter" 2 1 pB:=Ct tx xq tc;have R_k:∀n:Nat,qF Z "one_step_less" 2 (2+n) (m7 n 0)/\qF Z "parts_less" 2 (2+n) (m7 n 1):=by
  intro n
  induction n with
  |zero=>exact⟨rL tx.C_k,rL tx.C_1i⟩
  |succ n a=>exact⟨Bh tx xq tc (aL _ _) O_15 O_17 O_7 a.2,DY tx xq tc (aL _ _) a.1⟩
 have O_k:qF Z "one_step_less" 2 22 (Dc 20):=(R_k 20).1;have O_1i:qF Z "parts_less" 2 22 (Cp 20):=(R_k 20).2;have O_x:qF Z "lesser" 2 28 pd:=Bl tx xq tc J O_k;have O_10:AK Z "_law_lists" 3 43 KS:=EV tx xq tc u N O_x V_a V_j;have R_5:∀n:Nat,qP Z "weight_within" 2 (1+n) (mW n 0)/\qP Z "weight_of_parts" 2 (1+n) (mW n 1):=by
  intro n
  induction n with
  |zero=>exact⟨mh tx.C_5,mh tx.C_11⟩
  |succ n a=>exact⟨pU tx xq tc (aL _ _) x O_u a.2,Du tx xq tc (aL _ _) a.1⟩
 have O_5:qP Z "weight_within" 2 21 (oU 20):=(R_5 20).1;have O_11:qP Z "weight_of_parts" 2 21 (ro 20):=(R_5 20).2;have O_1b:qT Z "least_breaking" 2 42 o6 Pt (nc "least_breaking"):=D0 tx xq tc tp hBT u y B U_weight_within;have O_y:qI Z 102 "Finder" 1 26 nH:=Ay tx xq tc o l;have O_t:qO Z 102 "left" 0 1 nv:=CD tx xq tc;have O_e:qO Z 102 "ask" 0 2 nX:=Ag tx xq tc O_t;have O_13:qM Z 102 "answer" 1 3 KT:=Ha tx xq tc O_e;have O_1m:qO Z 102 "asks" 0 1 Af:=EZ tx xq tc;have d:qP Z "shares_together" 2 1 ZU:=mh tx.C_shares_together;have O_1s:qX Z "share_keeping" 2 43 pY:=E9 tx xq tc d N;have j:qP Z "place_of" 2 1 Wd:=mh tx.C_place_of;have O_1t:qX Z "number_of" 2 28 rP:=Ey tx xq tc J j;have i:qP Z "breaking_less" 3 1 jk:=mh tx.C_breaking_less;have O_1u:qX Z "led_down" 3 28 pp:=Ez tx xq tc J y B i;have O_o:qC Z "_law_word" 1 Dy:=AW tx xq tc;have O_q:qP Z "_law_do" 4 44 mX:=BG tx xq tc O_1t u O_o N O_1s O_x O_1u;exact AE tx xq tc C O_1h p U O_16 O_p O_1b O_q O_10 O_y O_t O_e O_13 O_1m
end
noncomputable def Xb:List Str:=["NoKind","NoWorth","NoRule","TooMany","Ended","NoText","NoBack"]
noncomputable def mC (K:aa)(c:Nat):Value:=match cf K mainGlobals (if c=101 then ("Sieve":Str)else if c=102 then "Finder"else Xb.getD c "")with
 |some (some v)=>v
 |_=>.none
def uT {K:aa}{c:Nat}{x:Str}{q:Addr}(a:(if c=101 then ("Sieve":Str)else if c=102 then "Finder"else Xb.getD c "")=x)(h:cf K mainGlobals x=some (some (.ref q))):mC K c=.ref q:=by unfold mC;rw[a,h]
noncomputable def z4i:List Nat:=[0,1,2,3,4,5]
def vv (p:Nat->Bool):Bool:=z4i.all p
def FC {c:Nat}(h:okX c=true):c∈z4i:=by
 have h:c<6:=of_decide_eq_true h;unfold z4i;simp;omega
def j9 {p:Nat->Bool}(h:vv p=true){c:Nat}(a:okX c=true):p c=true:=aI.mp h c (FC a)
noncomputable def KG (K:aa)(v:Value):Bool:=match v with
 |.ref C=>bo K (.ref C) "__getattribute__"==some (some (.builtin "BaseException.__getattribute__"))&&(bo K (.ref C) "__getattr__"==some none&&(bo K (.ref C) "__class__"==some (some (.builtin "object.__class__"))&&(iE K (.builtin "object.__class__") "__get__"==some (some (.builtin "getset_descriptor.__get__"))&&(la K (.builtin "object.__class__")==some true&&(im K C (.type "object")==some true&&(im K C (.type "BaseException")==some true&&(PySem.W.clsIn K C).isSome))))))
 |_=>false
def xa {K:aa}{v:Value}(h:KG K v=true):∃C,v=.ref C/\PySem.W.XCls K C:=by
 unfold KG at h;split at h
 ·rename_i C;simp only[ai,beq_iff_eq]at h;obtain⟨k,j,d,i,f,l,a,o⟩:=h;exact⟨C,rfl,k,j,d,i,f,l,a,o⟩
 ·cases h
def uU {K:aa}{base:Heap}{l:Str->Option Value}{x:Str}{C:Addr}{d:List Value}{a:String}(KB:K.In base)(X:l x=some (.ref C))(h:d9 K C d a=true):OwnCls x C d a l base:=by
 unfold d9 at h;split at h
 ·rename_i dd cd y N;split at h
  ·rename_i C1 Q o p u D m v k j;simp only[ai,beq_iff_eq,Bool.not_eq_true']at h;obtain⟨⟨⟨⟨⟨U,J⟩,i⟩,S⟩,f⟩,B⟩:=h;subst U J;cases cd with
   |mk nm bs I ns G hd sn sub ab col P=>
    dsimp only at k i f B;subst k i;obtain rfl:y=#[o,p,u,D,some (.builtin m),v]:=by
     cases y;simp only at j;rw[j]
    exact⟨X,Q,ns,nm,G,bs,hd,sn,sub,ab,col,dd,o,p,u,D,v,_,KB _ _ N,.of_isNs (PySem.W.isNs_of_in KB f),PySem.W.nsMap_none_of_in KB f B,PySem.W.tail_of_in KB S⟩
  ·cases h
 ·cases h
def lz {d:List Value}{n:Nat}(h:d.length=n+1):∃a t,d=a::t/\t.length=n:=by
 cases d with
 |nil=>cases h
 |cons a t=>exact⟨a,t,rfl,fZ h⟩
def lz1 {i:FuncData}{f:Str}(d:List Value)(j:d.length=1)(h:∀a,bindArgs i ⟨[a],[]⟩=pure ([f].zip [a])):bindArgs i ⟨d,[]⟩=pure ([f].zip d):=by
 obtain⟨a,_,rfl,k⟩:=lz j;obtain rfl:=bU.mp k;exact h a
def lz2 {k:FuncData}{i j:Str}(f:List Value)(l:f.length=2)(h:∀a d,bindArgs k ⟨[a,d],[]⟩=pure ([i,j].zip [a,d])):bindArgs k ⟨f,[]⟩=pure ([i,j].zip f):=by
 obtain⟨a,_,rfl,o⟩:=lz l;obtain⟨d,_,rfl,p⟩:=lz o;obtain rfl:=bU.mp p;exact h a d
def lz3 {l:FuncData}{j k o:Str}(i:List Value)(p:i.length=3)(h:∀a d f,bindArgs l ⟨[a,d,f],[]⟩=pure ([j,k,o].zip [a,d,f])):bindArgs l ⟨i,[]⟩=pure ([j,k,o].zip i):=by
 obtain⟨a,_,rfl,u⟩:=lz p;obtain⟨d,_,rfl,x⟩:=lz u;obtain⟨f,_,rfl,v⟩:=lz x;obtain rfl:=bU.mp v;exact h a d f
def lz4 {p:FuncData}{l o k u:Str}(j:List Value)(v:j.length=4)(h:∀d f a i,bindArgs p ⟨[d,f,a,i],[]⟩=pure ([l,o,k,u].zip [d,f,a,i])):bindArgs p ⟨j,[]⟩=pure ([l,o,k,u].zip j):=by
 obtain⟨d,_,rfl,x⟩:=lz v;obtain⟨f,_,rfl,B⟩:=lz x;obtain⟨a,_,rfl,D⟩:=lz B;obtain⟨i,_,rfl,y⟩:=lz D;obtain rfl:=bU.mp y;exact h d f a i
def fn1 {K:aa}{h:Heap}{j:Str->Option Value}{f:Addr}{od a:Option Addr}{u:Array (Option Value)}{o kV d pm cd ct:Value}{x:Str}{st:Stmt}{i:List Str}(X:K.In h)(G:h.Ns mainGlobals j)(e:cf K mainGlobals x=some (some (.ref f)))(l:K.lookup f=some ⟨o,od,.func (bL x x (Zu st) (zH st) (zq st) .none kV d pm a cd ct),u⟩)(g:dM K cd x=true)(k:bx K (.ref f)=true)
  (p:∀F:Fun K x x st f (bL x x (Zu st) (zH st) (zq st) .none kV d pm a cd ct),L2.Binds K (bL x x (Zu st) (zH st) (zq st) .none kV d pm a cd ct) i []):Fn K j x st i f (bL x x (Zu st) (zH st) (zq st) .none kV d pm a cd ct):=
 have F:=xm (st:=st) l g k
 ⟨F,p F,bK X G e⟩
def zs_of {K:aa}{h:Heap}{d:Str->Option Value}{a:List Str}(X:K.In h)(G:h.Ns mainGlobals d)(i:(a.all λx=>cf K mainGlobals x==some none)=true):∀x,a.contains x=true->d x=none:=λx f=>PySem.W.mg_none_of X G (beq_iff_eq.mp (aI.mp i x (hW.mp f)))
def fo1 {K:aa}{f C:Addr}{od d:Option Addr}{v:Array (Option Value)}{p kV j pm cd ct:Value}{x a:Str}{st:Stmt}{o:List Str}(i:bo K (.ref C) x=some (some (.ref f)))(l:K.lookup f=some ⟨p,od,.func (bL x a (Zu st) (zH st) (zq st) .none kV j pm d cd ct),v⟩)(g:dM K cd a=true)(k:bx K (.ref f)=true)(fn:fT K (.ref f)=true)
  (u:∀F:Fun K x a st f (bL x a (Zu st) (zH st) (zq st) .none kV j pm d cd ct),L2.Binds K (bL x a (Zu st) (zH st) (zq st) .none kV j pm d cd ct) o []):oo K x a st o f (bL x a (Zu st) (zH st) (zq st) .none kV j pm d cd ct) C:=
 have F:=xm (st:=st) l g k
 ⟨F,u F,⟨i,fn,k⟩⟩
def no_of {K:aa}{C:Addr}{as:List Str}(a:(as.all λx=>bo K (.ref C) x==some none)=true):∀x,as.contains x=true->L2.NoAttr K C x:=λx d=>beq_iff_eq.mp (aI.mp a x (hW.mp d))
noncomputable abbrev Tx' {K:aa}{h:Heap}(_:K.In h)(mg:Str->Option Value):Prop:=Tx K mg
abbrev To' {K:aa}{h:Heap}(_:K.In h)(mg:Str->Option Value):Prop:=To K mg (mC K)
def vf (K:aa):Bool:=K.all λp=> !(p.2.cls==Value.type "list")
def KH {K:aa}(h:vf K=true){a:Addr}{o:Obj}(e:K.lookup a=some o)(c:o.cls=Value.type "list"):False:=by
 have j:(a,o)∈K:=by
  clear h
  induction K with
  |nil=>cases e
  |cons p r i=>
   obtain⟨b,u⟩:=p
   by_cases f:a=b
   ·subst f;have d:some u=some o:=by simpa[aR]using e
    cases d;exact aq
   ·have d:r.lookup a=some o:=by rw[aR,(beq_eq_false_iff_ne.mpr f)]at e;exact e
    exact ae _ (i d)
 have:=aI.mp h _ j;rw[c]at this;simp at this
noncomputable def Ai (o:Obj):Option Addr:=match o.data with
 |.fields vs=>(match (vs[11]?:Option Value)with|some (.ref P)=>some P|_=>none)
 |_=>none
structure Fv (K:aa) (c P:Addr) (o:Obj):Prop where
 t:K.lookup c=some o
 u:Ai o=some P
 h:eB K c P=true
 n:K.lookup P=none
abbrev TP {K:aa}{h:Heap}(_:K.In h)(mg:Str->Option Value):Prop:=∃f fd c Pt o,Fn K mg "least_breaking" (lO 70) ["kind","rule"] f fd/\fd.code=.ref c/\Fv K c Pt o/\h.get? Pt=some (dW #[])
def fin_ {l:PySem.W.OpenLaw}{w:World}{K:aa}{h:Heap}{mg:Str->Option Value}{fa:Addr}(X:K.In h)(G:h.Ns mainGlobals mg)(hfa:mg "law"=some (.ref fa))(tx:Tx K mg)(tc:To K mg (mC K))(tp:TP X mg){y k j D i d a:Addr}(P:cf K mainGlobals "Ended"=some (some (.ref y)))(I:cf K mainGlobals "NoKind"=some (some (.ref k)))(B:cf K mainGlobals "NoRule"=some (some (.ref j)))(n_NoText:cf K mainGlobals "NoText"=some (some (.ref D)))(p:cf K mainGlobals "NoWorth"=some (some (.ref i)))(u:cf K mainGlobals "TooMany"=some (some (.ref d)))(Q:cf K mainGlobals "WorthError"=some (some (.ref a)))(b_K:vv (λc=>KG K (mC K c))=true)(N:vv (λc=>PySem.W.exmOne K (mC K c) (.ref a)==some true)=true)(b_o_Ended:d9 K y vq "ValueError.__new__"=true)(b_o_NoKind:d9 K k vq "ValueError.__new__"=true)(b_o_NoRule:d9 K j vq "ValueError.__new__"=true)(b_o_NoWorth:d9 K i vq "ValueError.__new__"=true)(U:d9 K d vq "ValueError.__new__"=true)(b_t_Ended:vv (λc=>aV K (mC K c) (.ref y)==some (wD c))=true)(b_t_NoKind:vv (λc=>aV K (mC K c) (.ref k)==some (Jt c))=true)(b_t_NoRule:vv (λc=>aV K (mC K c) (.ref j)==some (Ju c))=true)(b_t_NoText:vv (λc=>aV K (mC K c) (.ref D)==some (Jv c))=true)(b_t_NoWorth:vv (λc=>aV K (mC K c) (.ref i)==some (jT c))=true)(S:vv (λc=>aV K (mC K c) (.ref d)==some (jU c))=true)(J:vv (λc=>aV K (mC K c) (.type "ValueError")==some (ZT c))=true):∃(fd:FuncData) (c Pt:Addr),(∀(s:Shared) (v:Value),BindsTo s fd ⟨[v],[]⟩ [("_law_script",v)])/\h.get? Pt=some (dW #[])/\K.lookup Pt=none/\eB K c Pt=true/\∀base:Heap,K.In base->base.BuiltinsAt mg Pt->ZX l.prog w K mg base (lH l.prog w) 45 fa fd ["_law_script"] (vj (mC K) 1 nR Pt (nc "least_breaking")):=by
 obtain⟨f,fd,C⟩:=tx.C_0;have e:=hfa.symm.trans C.m;cases e;obtain⟨oc,od,kV,doc,pm,an,cdv,ct,osl,rfl,lk,hcd⟩:=C.F.ex;obtain⟨f2,fd2,c,Pt,o,C2,ec,tk,hm⟩:=tp;have xqb:∀b,K.In b->Tq K mg b (mC K):=λbase KB=>⟨y,k,j,D,i,d,a,⟨λc hc=>xa (j9 b_K hc)⟩,(λc hc=>beq_iff_eq.mp (j9 N hc)),(uT (x:="Ended") rfl P),(uT (x:="NoKind") rfl I),(uT (x:="NoRule") rfl B),(uT (x:="NoWorth") rfl p),(uT (x:="TooMany") rfl u),(bK X G P),(bK X G I),(bK X G B),(bK X G n_NoText),(bK X G p),(bK X G u),(bK X G Q),(uU KB (bK X G P) b_o_Ended),(uU KB (bK X G I) b_o_NoKind),(uU KB (bK X G B) b_o_NoRule),(uU KB (bK X G p) b_o_NoWorth),(uU KB (bK X G u) U),(λc hc=>beq_iff_eq.mp (j9 b_t_Ended hc)),(λc hc=>beq_iff_eq.mp (j9 b_t_NoKind hc)),(λc hc=>beq_iff_eq.mp (j9 b_t_NoRule hc)),(λc hc=>beq_iff_eq.mp (j9 b_t_NoText hc)),(λc hc=>beq_iff_eq.mp (j9 b_t_NoWorth hc)),(λc hc=>beq_iff_eq.mp (j9 S hc)),(λc hc=>beq_iff_eq.mp (j9 J hc))⟩;exact⟨_,c,Pt,λs v=>.of_eq rfl,hm,tk.n,tk.h,λbase KB hBT=>FZ (Z:=⟨l.prog,w,K,mg,base,(mC K)⟩) tx (xqb base KB) tc xqb ⟨f2,fd2,c,C2,ec,tk.h⟩ hBT C⟩
def E3 {cl:Nat->Value}{H:Hp}{a f:Addr}{o:Obj}{q:Str}{ns:List Int}(j:nR [.fz (ns.map T.int)]=.ok (.bl true))(h:H a=some (.frz o (.lst (ns.map V.int))))(i:H f=some (.tbl #[] q)):vj cl 1 nR f q [.ref a] H (λv _=>v=.bl true) λ_ _ _=>False:=by
 have d:∀ns:List Int,zK H (ns.map V.int) (ns.map T.int):=λns=>by
  induction ns with
  |nil=>exact .nil
  |cons n r k=>exact .cons (.int n) k
 refine⟨i,H,[.fz (ns.map T.int)],rfl,zr.refl H,.cons (.fz h (d ns)) .nil,?_⟩;rw[j];intro v l _ r;cases r;rfl
def walk {l:PySem.W.OpenLaw}{q:Program}{j:List Str}{XP:(Str->Option Value)->Heap->Prop}{B:World->Heap->Prop}{d:DefRec}{K:Params->aa}{ts:List Addr}(hn:l.most=some 63)(y:d.params.defaults=[])
  (I:∀ns:List Int,ns.length<=63->nR [.fz (ns.map T.int)]=.ok (.bl true)) (J:∀p,vf (K p)=true)
  (S:∀(w:World) (h:Heap),B w h->(K w.params).In h/\∀P∈ts,h.get? P=some (dW #[]))
  (F:∀(w:World) (v:Str->Option Value) (fa:Addr) (h:Heap),(K w.params).In h->h.Ns mainGlobals v->v d.name=some (.ref fa)->(∀P∈ts,h.get? P=some (dW #[]))->
   ∃(D:FuncData) (c i:Addr),(∀(s:Shared) (u:Value),BindsTo s D ⟨[u],[]⟩ [("_law_script",u)])/\h.get? i=some (dW #[])/\(K w.params).lookup i=none/\eB (K w.params) c i=true/\∀base:Heap,(K w.params).In base->base.BuiltinsAt v i->ZX l.prog w (K w.params) v base (lH l.prog w) 45 fa D ["_law_script"] (vj (mC (K w.params)) 1 nR i (nc "least_breaking"))):
  PySem.W.WalkO q j XP B l.row.toRowW d [] (λf vs=>lC f vs):=
 L2.walk_ofT (n:=63) (k:=45) (x:="_law_script") (nm:=(nc "least_breaking")) (CX:=λw=>(lH l.prog w)) (sp:=λw i=>vj (mC (K w.params)) 1 nR i (nc "least_breaking")) hn 03 y ⟨rfl,by decide,by decide,rfl⟩ S (λw a o e c=>KH (J w.params) e c) F (λw H a i o ns N Q G=>E3 (I ns N) Q G) λ_ _ _ _ _ ⟨_,_,_,_,_,_,_,z⟩=>z
end G
namespace PySem.W.Fast
def tw9096765365166666368:=Nat
def tw523741578983248846:=Nat
def tw10431722999684693533:=Nat
def tw11350691961222656209:=Nat
def tw7767589457774138842:=Nat
def tw10972563311600049834:=Nat
def tw11345906931687091768:=Nat
def tw14329986382228985777:=Nat
def tw9067382857168118274:=Nat
def tw17452018905429031230:=Nat
def tw3021970531303571769:=Nat
def tw15481511945597653466:=Nat
def tw16640510265556768572:=Nat
def tw8446283287447719506:=Nat
def tw4469280722319705685:=Nat
def tw272936180835738814:=Nat
def tw726697226187571353:=Nat
def tw12474928532115859322:=Nat
def tw13855198643428157396:=Nat
def tw14176015681054619136:=Nat
def tw2301478702152389605:=Nat
def tw7184683180029460903:=Nat
def tw3274228872250687397:=Nat
def tw5584876666715178494:=Nat
def tw6306940009561418851:=Nat
def tw14967891571704287560:=Nat
def tw884734060317569824:=Nat
def tw2009165218964963502:=Nat
def tw6953461758371057965:=Nat
def tw5591790787092376081:=Nat
def tw8246955484963817704:=Nat
def tw7985172459342333636:=Nat
def tw16264062618453554360:=Nat
def tw16879731279688833809:=Nat
def tw6621885989497787553:=Nat
def tw943916809443549293:=Nat
def tw9147095266362181444:=Nat
def tw9403962938889439359:=Nat
def tw12065113259869131110:=Nat
def tw6397665977446509870:=Nat
def tw764541757056837017:=Nat
def tw3149796183432006312:=Nat
def tw10287991102697874263:=Nat
def tw1021972196800901346:=Nat
def tw16149442436229884444:=Nat
def tw13385194842173723300:=Nat
def tw8185442321733326416:=Nat
def tw67988400983709445:=Nat
def tw16408752459960019149:=Nat
def tw5854183748194122331:=Nat
def tw6101512866371032153:=Nat
def tw4913535911546481626:=Nat
def tw4444292973340893694:=Nat
def tw9289607839718020471:=Nat
def tw1608399348563787396:=Nat
def tw17523212686428035321:=Nat
def tw18147934453625921119:=Nat
def tw16275569638605062300:=Nat
def tw13273764301059293263:=Nat
def tw14916371670115705182:=Nat
def tw15081274613814739351:=Nat
def tw7315848169389430545:=Nat
def tw3300073457248549015:=Nat
def tw10270763337710983893:=Nat
def tw6807022199422927509:=Nat
def tw17031198647567291307:=Nat
def tw18128425224292874001:=Nat
def tw116582560464981131:=Nat
def tw13037139551209683888:=Nat
def tw8312925627423816771:=Nat
def tw1976490522172524624:=Nat
def tw4353740397437644956:=Nat
def tw9218868011571038583:=Nat
def tw2867873216541644552:=Nat
def tw14531896190971850403:=Nat
def tw8918263400201502514:=Nat
def tw11811947819303969219:=Nat
def tw3401155627466922642:=Nat
def tw17162609088661721994:=Nat
def tw16057260510980746282:=Nat
def tw288058258741924859:=Nat
def tw2192124490466015506:=Nat
def tw12110294534431081516:=Nat
def tw15539897718032844826:=Nat
def tw6996544724667344289:=Nat
def tw10126933096101976702:=Nat
def tw9029284797095483989:=Nat
def tw2674174898584125946:=Nat
def tw15136717237989451377:=Nat
def tw9857784989343655066:=Nat
def tw5529797675333933124:=Nat
def tw14172636858551635264:=Nat
def tw16905761119006226986:=Nat
def tw10455042650988578988:=Nat
def tw7830476511095343756:=Nat
def tw12960817015858972995:=Nat
def tw14899400561778078417:=Nat
def tw10512538731221639745:=Nat
def tw18133438273158548440:=Nat
def tw2328868120792889421:=Nat
def tw3100113278404717544:=Nat
def tw16746625241084221244:=Nat
def tw3748783601709139063:=Nat
def tw14301316281031679699:=Nat
def tw1433206218378601595:=Nat
def tw9262935615977881833:=Nat
def tw8118291365170438999:=Nat
def tw15668654308014918374:=Nat
def tw7318081104294207411:=Nat
def tw6444176744762480650:=Nat
def tw4800776415718207356:=Nat
def tw1329332260872296186:=Nat
def tw18014804227777050116:=Nat
def tw16360306716252788815:=Nat
def tw14303050196454502016:=Nat
def tw13856627687244901739:=Nat
def tw13616064724892172943:=Nat
def tw13834646782010080319:=Nat
def tw1481916148411513729:=Nat
def tw17921350295299531533:=Nat
def tw8148077026683318193:=Nat
def tw18288581339245373229:=Nat
def tw10152957119241639779:=Nat
def tw1086558223748066056:=Nat
def tw14209255658932009126:=Nat
def tw140796337152707346:=Nat
def tw1199567463695947967:=Nat
def tw13612991729110112241:=Nat
def tw8040276973470908112:=Nat
def tw16427945036754862362:=Nat
def tw15782562154745007312:=Nat
def tw7714966368148509952:=Nat
def tw879379108791467400:=Nat
def tw4879213035455211894:=Nat
def tw4284524337986039064:=Nat
def tw12885087182725322727:=Nat
def tw17130877262380989025:=Nat
def tw4590005251924299828:=Nat
def tw16495026043964008216:=Nat
def tw14064983448047088769:=Nat
def tw2641718802870244643:=Nat
def tw12647563707726312302:=Nat
def tw14925130698947269127:=Nat
def tw5888806875763309967:=Nat
def tw7644236966905513666:=Nat
def tw6806479072546152769:=Nat
def tw6528866100483573674:=Nat
def tw1787241925767575126:=Nat
def tw4270754212931050770:=Nat
def tw794673141797786378:=Nat
def tw11909180014052874141:=Nat
def tw8729306326359189573:=Nat
def tw6091641157554152486:=Nat
def tw3525746094887266184:=Nat
def tw6769255293229510968:=Nat
def tw1650352388090004139:=Nat
def tw10678793827635267872:=Nat
def tw13497428594104315441:=Nat
def tw3290273684174564718:=Nat
def tw3893321248208559239:=Nat
def tw17116024116384805689:=Nat
def tw7482412084660075388:=Nat
def tw16006525060338259173:=Nat
def tw5424228029069802462:=Nat
def tw5873209411219374689:=Nat
def tw6289205733996815701:=Nat
def tw10881668452603664868:=Nat
def tw8981371369957906699:=Nat
def tw1724243505313038529:=Nat
def tw11367945359220062039:=Nat
def tw2783098917228866345:=Nat
def tw13514656055009679446:=Nat
def tw14584486595302911953:=Nat
def tw3724012105641208557:=Nat
def tw11593302348838116717:=Nat
def tw12308282108033693568:=Nat
def tw13687157572578775714:=Nat
def tw11898605673697094535:=Nat
def tw17331032085078007989:=Nat
def tw109848717118703311:=Nat
def tw3935290650876086676:=Nat
def tw10529402961267012910:=Nat
def tw9652755578312309680:=Nat
def tw7724566158578126306:=Nat
def tw7017237160412028616:=Nat
def tw17715981403334017541:=Nat
def tw2227700265617981930:=Nat
def tw7984110983022312535:=Nat
def tw17715760530623203068:=Nat
def tw6399835954876686119:=Nat
def tw6626395839649314626:=Nat
def tw13923864121432178238:=Nat
def tw11983839884466570955:=Nat
def tw17152551072063430141:=Nat
def tw14838351610450391731:=Nat
def tw6736474096210077506:=Nat
def tw15465611343194841547:=Nat
def tw2566083083306984153:=Nat
def tw1027670081439858908:=Nat
def tw14670709408690846238:=Nat
def tw2209446236632318923:=Nat
def tw4822331517973603552:=Nat
def tw2897662321176796147:=Nat
def tw5592659217792756569:=Nat
def tw12025821110442102673:=Nat
def tw13562893760452324365:=Nat
def tw15712893462898413117:=Nat
def tw1386118954052532927:=Nat
def tw9906389177553532367:=Nat
def tw7372327368841388934:=Nat
def tw6885998693076134204:=Nat
def tw12510117349875374730:=Nat
def tw13871933077731860706:=Nat
def tw17563312730241129246:=Nat
def tw4647669451035817492:=Nat
def tw2341713394145345809:=Nat
def tw15997652096594532971:=Nat
def tw5515774965836717595:=Nat
def tw3491121416632521135:=Nat
def tw8360747709650330685:=Nat
def tw12549996227336660867:=Nat
def tw1007016305599017611:=Nat
def tw9001687884572762037:=Nat
def tw8611329465973005092:=Nat
def tw4628608006556602392:=Nat
def tw14575586004678458994:=Nat
def tw14884459662606136494:=Nat
def tw5062759484109770231:=Nat
def tw4579229422035104572:=Nat
def tw12509735460572973681:=Nat
def tw7325065587070596543:=Nat
def tw4596817218712026018:=Nat
def tw10403615040607325961:=Nat
def tw17348801054871706454:=Nat
def tw13763386316598119388:=Nat
def tw7100370690374661932:=Nat
def tw1466626212719839147:=Nat
def tw9655530626544094184:=Nat
def tw1276458852187986248:=Nat
def tw6754550477734530728:=Nat
def tw7227565118645025734:=Nat
def tw9354047412084296248:=Nat
def tw3569664485079126952:=Nat
def tw17811096919705148888:=Nat
def tw17943479933083456241:=Nat
def tw1287293767156046644:=Nat
def tw16777426218887147637:=Nat
def tw2819374228904156304:=Nat
def tw5645475678456224565:=Nat
def tw9776315594734173279:=Nat
def tw7682075698042172743:=Nat
def tw15698157537868394712:=Nat
def tw8119738212527691251:=Nat
def tw14477653712348339784:=Nat
def tw7151899443288816409:=Nat
def tw14316434140615523345:=Nat
def tw15120630388828171678:=Nat
def tw6402256405553152928:=Nat
def tw9221900998635320816:=Nat
def tw17266757697862341222:=Nat
def tw6051153292050591234:=Nat
def tw4545783295068662086:=Nat
def tw3888763240821719808:=Nat
def tw17194785658690608136:=Nat
def tw12304092234043906852:=Nat
def tw5378542093052472057:=Nat
def tw6056372421730221447:=Nat
def tw16387524325972498474:=Nat
def tw974030753464803863:=Nat
def tw8769406359818067568:=Nat
def tw15362681442996506804:=Nat
def tw8334685072476391227:=Nat
def tw291918371822864442:=Nat
def tw8585912553415186071:=Nat
def tw518505238092937129:=Nat
def tw2980368903599934980:=Nat
def tw6308335134261044314:=Nat
def tw1016723446307798757:=Nat
def tw12212004348145911301:=Nat
def tw11475785094780512940:=Nat
def tw5162073618818747269:=Nat
def tw15096158376573487820:=Nat
def tw9832736317051327510:=Nat
def tw10080751170133183536:=Nat
def tw9170709093650895029:=Nat
def tw9474549343492075108:=Nat
def tw11728350895056513333:=Nat
def tw7856711922304370419:=Nat
def tw138418561928754344:=Nat
def tw14790779599603386734:=Nat
def tw13101963315166661642:=Nat
def tw15636035823260938012:=Nat
def tw15641771913160315687:=Nat
def tw4463162964730446431:=Nat
def tw13422586291724068530:=Nat
def tw4549527499888470655:=Nat
def tw1350563387823742093:=Nat
def tw15458187718891536011:=Nat
def tw6595175475317302205:=Nat
def tw4398019904632371836:=Nat
def tw3632227916707332523:=Nat
def tw2925067895305630196:=Nat
end PySem.W.Fast
open PySem PySem.W PyProof.Rows
set_option maxRecDepth 100000 in
set_option maxHeartbeats 0 in
theorem PySem.Challenge.cw_worthkinds_k80_whole_again_holds : PySem.Challenge.rw_worthkinds_k80_whole_again.Holds := by
 w_on; o_law; k_head; (case hw=>w_witness2)
 k_fill
 refine G.walk (l:=PySem.Challenge.rw_worthkinds_k80_whole_again) rfl rfl G.law_ok ?nl (fun w h Y=>⟨PySem.W.km_in_of Y,PySem.W.km_tabs_of Y⟩) ?F
 case nl=>intro p; kernel_rfl
 case F=>
  intro w mg fa h KX G0 hmg hT
  have tx:G.Tx' KX mg:=by
   constructor
   all_goals first
    | (refine' ⟨_,_,G.fn1 KX G0 ?e ?l ?g ?k (fun F=>F.binds fun _ _ _ _ _ _ us hl=>by first | exact G.lz1 us hl fun _=>rfl | exact G.lz2 us hl fun _ _=>rfl | exact G.lz3 us hl fun _ _ _=>rfl | exact G.lz4 us hl fun _ _ _ _=>rfl)⟩; (case e | l | g | k=>k_is))
    | exact ⟨_,PySem.W.mg_of KX G0 (by k_is),_,rfl⟩
    | exact G.zs_of KX G0 (by kernel_rfl)
  have tc:G.To' KX mg:=by
   constructor
   ·refine' ⟨_,G.uT (x:="Finder") rfl ?ze,⟨?zp, ?zh, ?zo, ?zs⟩,G.no_of ?zn⟩; (case ze=>k_is); (case zp | zh | zo | zs | zn=>kernel_rfl)
   all_goals first
    | (refine' ⟨_,_,_,_,G.uT (x:="Finder") rfl ?ze,G.fo1 ?zi ?zl ?zg ?zk ?zf (fun F=>F.binds fun _ _ _ _ _ _ us hl=>by first | exact G.lz1 us hl fun _=>rfl | exact G.lz2 us hl fun _ _=>rfl | exact G.lz3 us hl fun _ _ _=>rfl | exact G.lz4 us hl fun _ _ _ _=>rfl)⟩; (case ze | zi | zl | zg | zk=>k_is); (case zf=>kernel_rfl))
    | (refine' ⟨_,_,_,_,G.uT (x:="Finder") rfl ?ze,PySem.W.mg_of KX G0 ?ze,⟨?zm, ?zi, ?zf, ?zc⟩,G.fo1 ?zi ?zl ?zg ?zk ?zf (fun F=>F.binds fun _ _ _ _ _ _ us hl=>by first | exact G.lz1 us hl fun _=>rfl | exact G.lz2 us hl fun _ _=>rfl | exact G.lz3 us hl fun _ _ _=>rfl | exact G.lz4 us hl fun _ _ _ _=>rfl)⟩; (case ze | zi | zl | zg | zk | zc=>k_is); (case zf | zm=>kernel_rfl))
  have tp:G.TP KX mg:=by
   refine' ⟨_,_,_,_,_,G.fn1 KX G0 ?e ?l ?g ?k (fun F=>F.binds fun _ _ _ _ _ _ us hl=>by first | exact G.lz1 us hl fun _=>rfl | exact G.lz2 us hl fun _ _=>rfl | exact G.lz3 us hl fun _ _ _=>rfl | exact G.lz4 us hl fun _ _ _ _=>rfl),rfl,⟨?t, ?u, ?h, ?n⟩, ?m⟩; (case e | l | g | k | t=>k_is); (case u=>exact rfl); (case h | n=>kernel_rfl); (case m=>exact hT _ (by decide))
  refine' G.fin_ KX G0 hmg tx tc tp ?n0 ?n1 ?n2 ?n3 ?n4 ?n5 ?n6 ?b0 ?b1 ?b2 ?b3 ?b4 ?b5 ?b6 ?b7 ?b8 ?b9 ?b10 ?b11 ?b12 ?b13
  (case n0 | n1 | n2 | n3 | n4 | n5 | n6=>k_is)
  (case b0 | b1 | b2 | b3 | b4 | b5 | b6 | b7 | b8 | b9 | b10 | b11 | b12 | b13=>kernel_rfl)
