import PyProof.Rows.All
import Wide.All
import OpenK.AllK
import Wide.FinOn
import Lean
import PyProof.EqAt
import PyProof.EqKinds
import PyProof.TupleCall
import PyProof.NeKinds
import PyProof.WalksEnum
import PyProof.StrWalks
import PyProof.ExcAttrAll.ValueError
import PyProof.ZipIter
import KE.KRevIter
import PyProof.ListNew
import PyProof.WalksMore
import PyProof.ReprLoop
import PyProof.FactsAll.list
import PyProof.CollectIter
import PyProof.TupleOfGen
import PyProof.Draws
import PyProof.EnumMake
import PyProof.SeqI3
import KE.KMinBuiltin
import PyProof.SetRoads
import PyProof.CollectWalk
import KE.KDictSum
import PyProof.AttrMiss
import PyProof.IsiH_tuple
import KE.KDictOf
import PyProof.FitsBits
import PyProof.SliceList
import PyProof.InstFacts
import PyProof.Rows.StrNews2
import PyProof.StrBlockH
import PyProof.CallStr
import KE.KIntText
import PyProof.Rows.RuleB_pow
import KE.KSortTup
import PyProof.ReprRoads
import KE.KLam
import PyProof.MaxThree
import PyProof.DictRoadsH
import PyProof.FactsAll.dict
import PyProof.DictItems
import PyProof.DictValues
import PySem.Challenge.RW_worthkinds_k43_whole_tallies
open PySem renaming wpAny_bind->a8,wpAny_pure->ac,wpAny_call_entry->aN,wpAny_newObj_type->aO,wpAny_callSpecial?_slot->aX,wpAny_truthy_bool->be,wpAny_field->bh,wpAny_setField_rec->bi,wpAny_holding->bp,codeAny_builtin->bJ,wpAny_dictEntries->bP,wpAny_seqItems->bU,mem_of_lookup->b_,sizeLine_eq->c7,wpAny_of_eq->c9,wpAny_specialOf->cb,plainId_quiet->cg,wpAny_attempt->ci,wpAny_dictEpoch->cu,wpAny_isInstance->cC,wpAny_mono->cI,wpAny_Call_Name_kw->cP,wpAny_pyIter_tuple->cQ,wpAny_passesOwn->cU,wpAny_pyIter_list->cW,wpAny_rule->df,wpAny_setField->dw,wpAny_letGo->dO,wpAny_tryCatch->dP,wpAny_fieldsOf->dQ,wpAny_typeOf->dR,wpAny_standAt->d_,codeAny_mono->eQ,call_meets->fV,evalArgs_none->i_,seqSlot_of->m7,call->mI
open List renaming mem_cons_of_mem->a9,mem_cons_self->ae,length_map->ag,getElem?_eq_getElem->ah,getElem?_set_ne->ak,map_cons->ao,replicate->ar,mem_cons->au,getElem?_map->aw,mem_singleton->ax,mem_map->ay,length_cons->aA,length_append->aB,lookup_cons->aG,getElem?_set_self->aI,size_toArray->aJ,map_map->aK,length_singleton->aM,getElem?_eq_some_iff->aP,all_eq_true->aR,getElem?_eq_none->aS,range->aV,getElem?_append_right->aW,length_replicate->aY,length_set->aZ,map_congr_left->b5,getElem?_append_left->b6,getElem?_replicate->b7,length_range->ba,length_eq_zero_iff->bc,map_replicate->bj,map_append->bm,append_nil->br,mem_range->bu,getD_eq_getElem?_getD->bv,mem_append_right->bz,find?_cons->bA,flatMap_cons->bC,mem_append->bI,sum_cons->bK,eq_of_mem_replicate->bM,append_assoc->bN,map_nil->bO,mem_of_getElem?->bR,not_mem_nil->bX,replicate_succ->c6,nodup_cons->cn,nil_append->cq,drop_eq_getElem_cons->cy,mem_iff_getElem->cF,of_mem_zip->cJ,length_nil->cK,length_reverse->cL,ext_getElem?->cX,reverse_cons->cY,all_cons->dg,getElem?_range->dk,getElem_inj->dm,length_take->du,mem_flatMap->dA,range_succ_eq_map->dE,pairwise_cons->dG,zip_cons_cons->dH,drop_length->dS,pairwise_iff_getElem->dZ,length->eJ,drop_zero->eV,mem_append_left->fA,length_zip->fH,filterMap_cons->fI,foldl->fU,mem_of_find?_eq_some->g7,flatten_cons->g_,nodup_append->hV,any_cons->hZ,take_append_getElem->i7,length_drop->ie,prefix_refl->ig,getElem_mem->il,any_eq_true->im,take_length->io,cons_append->ir,filter_cons->iu,flatMap_map->ix,take_of_length_le->iD,length_eq_one_iff->iF,filter_eq_nil_iff->iI,range_succ->iL,getElem?_reverse->iO,cons_lt_cons_iff->iP,getElem?_zipIdx->iS,reverse_reverse->iX,mergeSort_perm->l5,drop_succ_cons->l6,mem_filterMap->la,map_inj_right->lq,length_zipIdx->lx,any_eq_false->lE,all_map->lL,getElem?_set->lS,getElem_map->ma,map_reverse->mi,flatMap_nil->ml,perm_middle->mn,range'->mq,mem_filter->mw,forIn_cons->mB,Nodup->mJ
open PySem.Heap renaming get?_push_of_some->aa,get?_push_size->ai,lt_size->av,SameBut->b8,size_push->bT,get?_update_other->ck,get?_update_self->cz,ExtBut->eL,get?_update_ne->fK,IsTuple->lN
open PySem.W renaming Frag->aj,kitOne->bQ,kia_one->bV,fnOf->cN,kia_tup->cV,keepIn->dq,kitx_list->eP,kitAny->eY,codeIn->fS,cellsFrom_some->iz,instObj->iJ,lookIn->iR,kitx_tuple->lc,kitx_none->lF,kitx_bool->lG,kitx_dict->lH,plainGet->lY,kitx_int->lZ,kitx_str->l_
open Bool renaming and_eq_true->am,false_ne_true->az,false_eq_true->aH,not_true->eC,or_eq_true->eI,eq_iff_iff->iN,true_and->l8,not_eq_true'->lQ
open Nat renaming le_refl->aq,le_trans->aC,ne_of_lt->aD,lt_of_lt_of_le->aL,le_add_right->aQ,zero_le->aU,lt_of_le_of_lt->b9,lt_irrefl->bo,mul_le_mul->bx,lt_succ_of_lt->c8,pow_le_pow_right->cf,one_mul->cx,le_succ->cD,ne_of_gt->cM,mul_pos->c_,le_mul_of_pos_right->dz,mul_comm->dD,mul_assoc->dL,le_of_succ_le->dN,lt_succ_self->dU,lt_trans->dX,pow_add->eN,le_of_lt->eO,add_mul->fE,mul_le_mul_right->fF,add_le_add_left->fJ,succ_mul->fL,zero_add->fN,gcd->fO,gcd_comm->fP,le_succ_of_le->hU,gcd_pos_of_pos_right->ia,pow_succ->iH,not_lt_zero->iM,pow_lt_pow_right->iZ,mod_lt->lA,gcd_zero_right->lC,add_comm->lJ,lt_succ_of_le->lT,gcd_one_right->lV,succ_ne_self->m9,succ_le_succ->me,gcd_le_right->mj,min_le_left->mD,min_eq_left->mG,div_le_self->mH
open PySem.Str renaming ofString->aE
open Option.some renaming inj->aF
open Ne renaming symm->aT
open Int renaming toNat_natCast->a_,eq_ofNat_of_zero_le->cH,natCast_mul->dI,le_trans->dW,fdiv_eq_ediv_of_nonneg->fR,natAbs_natCast->fY,zero_add->iG,le_antisymm->iK,natAbs_mul->iY,emod_lt_of_pos->lu,mul_one->mo,emod_nonneg->mE,natCast_add->mF
open PyProof.Rows renaming callWith_type1->bg,slot_tuple_getitem->bE
open PySem.Builtin.Dict_items renaming ownsTuple->bq,ownedTupleIsFree->eG,ownedTupleFields->eH,pairFromOwner->e_,newIterator->fk,dictOf->f_
open Array renaming length_toList->bF,getElem?_eq_none->bW,getElem?_eq_getElem->bZ,getElem?_toList->cS,perm_iff_toList_perm->fX,getD->lm
open PySem.Heap.SameBut renaming update->bH
open PySem.F renaming slot_dict_itemiterator_next->bL,slot_dict_valueiterator_next->bY,slot_dict_keyiterator_next->ce,slot_bool_hash->cB,plainAttrs_list->cG,slot_tuple_getattribute->cT,slot_list_append->dh,type_list_append->di,called_set->dF,slot_zip_next->dM,args_tuple_add_2->e9,slot_dict_values->eD,entry_tuple_add->eK,plainAttrs_dict->eM,slot_tuple_add->eR,slot_tuple_iterator_next->eX,args_dict_valueiterator_next_1->f6,args_dict_itemiterator_next_1->f8,entry_dict_valueiterator_next->f9,plain_min_loop->fg,entry_dict_itemiterator_next->fj,args_dict_keyiterator_next_1->fu,slot_dict_itemiterator_iter->fB,entry_dict_keyiterator_next->fD,slot_int_rmul->fG,type_dict_values->i6,slot_tuple_mul->ii,args_zip_next_1->ik,entry_min_loop->ip,slot_dict_values_iter->iq,entry_zip_next->iC,slot_dict_items_iter->iE,slot_tuple_lt->iQ,called_tuple->iT,args_object_init_2->iU,slot_bool_lt->iW,args_int_hash_1->lD,args_int_rmul_2->lK,slot_tuple_rmul->lM,plain_tuple_new->lO,slot_dict_items->lP,entry_int_hash->lX,slot_int_index->m4,entry_int_rmul->m5,slot_dict_iter->md,fills_int_mul->my
open PySem.Obj renaming mapSeq->cj,data_mapFields->cR,mapFields->eB,isFreed_of_fields->ff,cls_mapFields->hJ,data_mapDictKeys->iV
open PySem.Builtin.Dict renaming showsAll->cA,noArgs->k_
open Rat renaming add_assoc->cO,add_zero->d0,zero_add->f7,num_mkRat->i8,den_mkRat->i9,mkRat_mul_mkRat->l7,mkRat_one->l9,add_def'->lU,add_comm->lW,mkRat_eq_iff->mm,mul_one->mv
open PySem.Paired renaming length->db
open PyProof.Rows.KeyOrd renaming klt_of_klt_of_kle->dj,kle_of_klt->eZ
open PySem.AutoSeq1 renaming wpAny_loadPart'->dy
open PySem.SeqAt renaming EqAt->dB,RcNeAt->eU,RcAt->iA
open False renaming elim->dC
open PySem.PassesOwn renaming never->dJ
open PySem.Builtin.Slice renaming slicePlaces->dY,sliceAdjust->fZ
open PySem.Builtin.List renaming listTooLong->eA,listExtendWith->fM,listSameRef->h_
open PySem.Calls renaming callWith_builtin->eT,Name_function_global->fQ,spliced_cons->lg,spliced_nil->lI
open PySem.Shared renaming TypeIs->fx,heap->mr
open PySem.Builtin.Tuple renaming tupleItemsOf->fT,tupleTooMany->fW,tupleExact->i5
open Option renaming isSome_iff_exists->hX,isSome_map->lR,getD_none->m3
open PySem.Builtin.Range renaming rangeSize->ic
open PyProof.Rows.F renaming entry_set_update_loop->ij
open PySem.Builtin.Int renaming intBits->j_
open PySem.SeqAt.EqAt renaming of_refs->lh,same->mz
open PySem.Walks renaming list->ll
open PySem.WalksT renaming enumerate->m8
open Classical renaming skolem->mh
open List.cons renaming injEq->mC
set_option hygiene false
local macro_rules|`(00)=>`(by omega)|`(01)=>`(by decide)|`(02)=>`(cE (.int 1))|`(03)=>`(zd i4 (vE 0) (cE (.int 0)))|`(04)=>`(vE 0)|`(05)=>`(za (vE 1) (ze))|`(06)=>`(by kernel_rfl)|`(07)=>`(model X.prog X.w)|`(08)=>`(model prog w)|`(09)=>`(by rfl)|`(000)=>`(zd i4 04 (cE (.int 2)))|`(001)=>`(.lst ((ZQ (lv x)).map T.int))
noncomputable section
set_option maxHeartbeats 4000000
set_option Elab.async false
set_option linter.all false
set_option compiler.extract_closed false
set_option maxRecDepth 100000
namespace L2
open PySem PySem.Spec PyProof.Rows
noncomputable abbrev mV:=Sum Bool Str
def Vo:mV->Value->Bool
 |.inl k,.bool b=>b==k
 |.inl _,_=>false
 |.inr x,v=>Value.isStrOf x v
def DC (w:World):mV->Int
 |.inl k=>hashInt (if k then 1 else 0)
 |.inr x=>hashStr w x
def zT:∀{k:mV} {v:Value},Vo k v=true->(∃(i:Bool) (t:Tok),k=Sum.inl i/\v=Value.bool i)\/(∃x t,k=Sum.inr x/\v=Value.str x t)
 |.inl i,v,h=>by
  cases v<;>first|exact .inl ⟨i,0,rfl,congrArg _ (eq_of_beq h)⟩|cases h
 |.inr x,v,h=>by
  obtain⟨t,e⟩:=Value.isStrOf_shape h;exact .inr ⟨x,t,rfl,e⟩
def YF (x:Str)(t:Tok):Vo (.inr x) (.str x t)=true:=by simp[Vo,Value.isStrOf]
def Gc (a b:Bool):decide ((Sum.inl a:mV)=Sum.inl b)=(a==b):=by
 by_cases e:a=b
 ·subst e;simp
 ·have h:¬(Sum.inl a:mV)=Sum.inl b:=λq=>e (Sum.inl.inj q);rw[decide_eq_false h];exact(beq_eq_false_iff_ne.mpr e).symm
def Ge (a b:Str):decide ((Sum.inr a:mV)=Sum.inr b)=decide (a=b):=by
 by_cases e:a=b
 ·simp
 ·have h:¬(Sum.inr a:mV)=Sum.inr b:=λq=>e (Sum.inr.inj q);rw[decide_eq_false h,decide_eq_false e]
def Gf (a:Bool)(b:Str):decide ((Sum.inl a:mV)=Sum.inr b)=false:=decide_eq_false (λq=>nomatch q)
def Gg (a:Str)(b:Bool):decide ((Sum.inr a:mV)=Sum.inl b)=false:=decide_eq_false (λq=>nomatch q)
def JN {prog:Program}{w:World}{A:Around}{E:Value->Shared->Prop}{s:Shared}{b:Bool}{Q:Int->Shared->Prop}(h:Q (hashInt (if b then 1 else 0)) {s with toks:=s.toks+1}):wpAny 08 A (pyHash (.bool b)) Q E s:=by
 have a:s.TypeIs (.bool b) "bool":=rfl;unfold pyHash;have c:[Value.bool b].any Value.onHeap=false:=rfl;refine a8 ?_;rw[cRoomFor,if_neg (by rw[c];exact az)];refine ac ?_
 refine a8 (cb a cB.lookup ?_);show wpAny _ _ (if (some (Value.builtin "int.__hash__")==some Value.none)=true then _ else _) Q E s
 rw[if_neg (by rw[beq_builtin_none];exact az)]
 refine a8 (cb a cB.lookup ?_);show wpAny _ _ (callSpecialIfBoundUnlessNone? (.bool b) "__hash__" _>>=_) Q E s;refine a8 (wpAny_callSpecialIfBoundUnlessNone?_slot a cB
  (aN cB a lX
   (show wpAny _ _ (do ret (←mkInt (rawHash (if b then 1 else 0)))) _ _ s from by cases b<;>refine wpAny_ret_mkInt ?_<;>exact ac h) (lD _)))
def Z3 (prog:Program)(w:World):PySem.KeyKind prog w mV where
 is:=Vo
 hash:=DC w
 inj:=λv a b g d=>by
  rcases zT g with ⟨i,t,rfl,rfl⟩|⟨x,t,rfl,rfl⟩
  ·rcases zT d with ⟨j,u,rfl,e⟩|⟨y,u,rfl,e⟩
   ·injection e with e1;rw[e1]
   ·exact nomatch e
  ·rcases zT d with ⟨j,u,rfl,e⟩|⟨y,u,rfl,e⟩
   ·exact nomatch e
   ·injection e with e1 _;rw[e1]
 byValue:=λk v h=>by
  rcases zT h with ⟨i,t,rfl,rfl⟩|⟨x,t,rfl,rfl⟩<;>rfl
 pyHash:=λc h=>by
  rcases zT c with ⟨i,t,rfl,rfl⟩|⟨x,t,rfl,rfl⟩
  ·exact JN h
  ·exact wpAny_pyHash_str h
 eqBool:=λf c h=>by
  rcases zT f with ⟨i,t,rfl,rfl⟩|⟨x,t,rfl,rfl⟩
  ·rcases zT c with ⟨j,u,rfl,rfl⟩|⟨y,u,rfl,rfl⟩
   ·rw[Gc]at h;exact dB.bool_bool i j _ _ _ _ h
   ·rw[Gf]at h;exact dB.bool_str i y u _ _ _ _ h
  ·rcases zT c with ⟨j,u,rfl,rfl⟩|⟨y,u,rfl,rfl⟩
   ·rw[Gg]at h;exact dB.str_bool x t j _ _ _ _ h
   ·rw[Ge]at h;exact wpAny_eqBool_str h
 «strs»:=λk x t v h=>by
  rcases zT h with ⟨i,u,rfl,e⟩|⟨y,u,rfl,e⟩
  ·exact nomatch e
  ·injection e with e1 _;subst e1;cases v<;>rfl
def jy (prog:Program)(w:World)(x:Str)(t:Tok):(Z3 prog w).is (.inr x) (.str x t)=true:=YF x t
end L2
namespace L2
open PySem PySem.Spec PyProof.Rows
inductive V where
 |non|bl (b:Bool)|int (i:Int)|str (x:Str)|byt (b:Array UInt8)|flt (b:UInt64)|ref (a:Addr)|ty (n:String)
 deriving DecidableEq
noncomputable def RelV:V->Value->Prop
 |.non,u=>u=Value.none
 |.bl b,u=>u=Value.bool b
 |.int i,u=>∃t,u=Value.int i t
 |.str x,u=>∃t,u=Value.str x t
 |.byt b,u=>∃t,u=Value.bytes b t
 |.flt b,u=>∃t,u=Value.float b t
 |.ref a,u=>u=Value.ref a
 |.ty n,u=>u=Value.type n
abbrev Vals:List V->List Value->Prop:=Paired RelV
theorem Vals.length {xs:List V}{a:List Value}(r:Vals xs a):xs.length=a.length:=db r
theorem Vals.get:∀{xs:List V} {a:List Value} {i:Nat} {x:V},Vals xs a->xs[i]?=some x->∃u,a[i]?=some u/\RelV x u
 |_,_,_,_,.nil,e=>by simp at e
 |_,_,0,_,.cons r _,e=>by simp at e;subst e;exact⟨_,rfl,r⟩
 |_,_,i+1,x,.cons _ t,e=>by
  obtain⟨u,d,c⟩:=Vals.get t (by simpa using e)
  exact⟨u,by simpa using d,c⟩
theorem Vals.append:∀{xs c:List V} {a d:List Value},Vals xs a->Vals c d->Vals (xs++c) (a++d)
 |_,_,_,_,.nil,s=>s
 |_,_,_,_,.cons r t,s=>.cons r (Vals.append t s)
theorem Vals.take:∀{xs:List V} {a:List Value} (n:Nat),Vals xs a->Vals (xs.take n) (a.take n)
 |_,_,0,_=>.nil
 |_,_,_+1,.nil=>.nil
 |_,_,n+1,.cons r t=>.cons r (Vals.take n t)
theorem Vals.drop:∀{xs:List V} {a:List Value} (n:Nat),Vals xs a->Vals (xs.drop n) (a.drop n)
 |_,_,0,r=>r
 |_,_,_+1,.nil=>.nil
 |_,_,n+1,.cons _ t=>Vals.drop n t
def gX:Option V->Option Value->Prop
 |some v,some u=>RelV v u
 |none,none=>True
 |_,_=>False
def KV {a:Type}:List (a×V)->List (a×Value)->Prop:=Paired λ(p:a×V) (q:a×Value)=>p.1=q.1/\RelV p.2 q.2
def kV:mV->V
 |.inl i=>.bl i
 |.inr x=>.str x
inductive HO where
 |lst (xs:List V)
 |tup (xs:List V)
 |dK (kvs:List (mV×V))|dT (kvs:List (List mV×Addr×V))
 |set (S:Int->Bool) (n:Nat)
 |ins (C dx:Addr) (fs:List (Str×V))
 |own (x:Addr)
 |xd (fs:List (Str×V))
 |met (f x:Addr)
 |rng (lo hi:Int)
 |frz (o:Obj) (u:HO)
 |tbl (ps:Array Value) (q:Str)
 |ext (φ:Heap->Prop)
noncomputable abbrev Hp:=Addr->Option HO
def kj (H:Hp)(a:Addr)(o:HO):Hp:=λb=>if b=a then some o else H b
def zf {H:Hp}{a:Addr}{o:HO}:kj H a o a=some o:=by unfold kj;rw[if_pos rfl]
def zg {H:Hp}{a b:Addr}{o:HO}(h:b≠a):kj H a o b=H b:=by unfold kj;rw[if_neg h]
def XQ {H:Hp}{a:Addr}{o u:HO}:kj (kj H a o) a u=kj H a u:=by
 funext b;unfold kj;split<;>rfl
def ZL {H:Hp}{a b:Addr}{o u:HO}(h:H a=some o)(h':H b=some u)(d:o≠u):a≠b:=by
 intro e;subst e;rw[h]at h';exact d (aF h')
def zD {H:Hp}{a b:Addr}{o:HO}(h:H a=some o)(h':H b=none):a≠b:=by
 intro e;subst e;rw[h]at h';cases h'
noncomputable def ITN (h:Heap)(a:Addr)(c:Array Value):Prop:=IsTup h a c/\((∃i t,c[0]?=some (Value.int i t))\/∃o,h.get? a=some o/\o.dict=none)
theorem ITN.new (h:Heap)(a:Array Value):ITN (h.push {cls:=.type "tuple",data:=.seq a}) h.objs.size a:=⟨IsTup.new h a,.inr ⟨_,ai _ rfl,rfl⟩⟩
section
variable (P:Program)(w:World)
def zQ (H:Hp)(h:Heap)(a:Addr):HO->Prop
 |.lst xs=>xs.length<=sizeLine/\∃(e:List Value) (n:Nat),Vals xs e/\h.get? a=some {cls:=.type "list",data:=.seq e.toArray n}
 |.tup xs=>xs.length<=sizeLine/\∃e:List Value,Vals xs e/\ITN h a e.toArray
 |.dK kvs=>kvs.length<=sizeLine/\(a==sysModules)=false/\∃vs,KV kvs vs/\h.DictOf (Z3 P w) a vs
 |.dT kvs=>kvs.length<=sizeLine/\(a==sysModules)=false/\∃xs:List (List mV×Addr×Value),
   Paired (λ(p:List mV×Addr×V) (q:List mV×Addr×Value)=>p.1=q.1/\H q.2.1=some (.tup (p.1.map kV))/\RelV p.2.2 q.2.2/\p.2.1=q.2.1) kvs xs/\
   ∃o r ep,h.get? a=some o/\o.ExactDict/\o.data=.dict r ep/\r.toList=xs.map (entryOfKey (tupleKind (Z3 P w)))/\(xs.map (·.1)).Nodup
 |.set S n=>h.SetOf (intKind P w) a S n
 |.ins C i fs=>H i=some (.own a)/\fs.length<=1000/\i≠a/\h.get? a=some (iJ C i)/\
   ∃g,h.Ns1 i g/\(∀f,gX (fs.lookup f) (g f))/\PySem.Within g (fs.map (·.1))
 |.own _=>∃o,h.get? a=some o
 |.xd fs=>∃g,h.Ns1 a g/\∀f,gX (fs.lookup f) (g f)
 |.rng lo hi=>∃t u v,h.get? a=some {cls:=.type "range",data:=.fields #[.int lo t,.int hi u,.int 1 v]}
 |.frz o u=>h.get? a=some o/\zQ H h a u
 |.tbl k q=>∃d:Array Value,h.get? a=some {cls:=.none,data:=.fields (k++d)}/\TriplesOk (k++d).toList/\∀p B,codeAmong p (k++d).toList=some B->∃c D vs t,B=.ref c/\H c=some (.frz D (.own c))/\D.data=.fields vs/\vs[1]?=some (.str q t)
 |.met f x=>h.get? a=some (PySem.W.methodObj (.ref f) (.ref x))
 |.ext j=>j h/\(∃o,h.get? a=some o)/\∀y l:Heap,j y->(∀o,y.get? a=some o->l.get? a=some o)->j l
def HOk (H:Hp)(h:Heap):Prop:=∀a o,H a=some o->zQ P w H h a o
end
section
variable {P:Program}{w:World}{H H':Hp}{h h':Heap}{a:Addr}{o:HO}
theorem zQ.lt (x:zQ P w H h a o):a<h.objs.size:=by
 cases o with
 |lst xs=>obtain⟨_,_,_,_,e⟩:=x;exact av e
 |tup xs=>obtain⟨_,_,_,p,_⟩:=x;exact p.lt
 |dK kvs=>obtain⟨_,_,_,_,o,_,_,e,_⟩:=x;exact av e
 |dT kvs=>obtain⟨_,_,_,_,o,_,_,e,_⟩:=x;exact av e
 |set S n=>obtain⟨o,_,_,_,e,_⟩:=x;exact av e
 |ins C g fs=>obtain⟨_,_,_,e,_⟩:=x;exact av e
 |own y=>obtain⟨_,e⟩:=x;exact av e
 |xd fs=>obtain⟨_,⟨_,_,_,e,_⟩,_⟩:=x;exact av e
 |rng lo hi=>obtain⟨_,_,_,e⟩:=x;exact av e
 |frz ob u=>obtain⟨e,_⟩:=x;exact av e
 |tbl d q=>obtain⟨_,e,_⟩:=x;exact av e
 |met f y=>exact av (x)
 |ext c=>obtain⟨_,⟨_,e⟩,_⟩:=x;exact av e
theorem Paired.mapP {e g:Type}{F G:e->g->Prop}:∀{c:List e} {d:List g},Paired F c d->(∀a b,F a b->G a b)->Paired G c d
 |_,_,.nil,_=>.nil
 |_,_,.cons r t,f=>.cons (f _ _ r) (Paired.mapP t f)
def zQ.stay (x:zQ P w H h a o)(k:∀b u,(b=a\/H b=some (.own a))->h.get? b=some u->h'.get? b=some u)
  (L:∀b,H b=some (.own a)->H' b=some (.own a)) (D:∀b xs,H b=some (.tup xs)->H' b=some (.tup xs)) (M:∀b o u,H b=some (.frz o u)->H' b=some (.frz o u):=by exact λ_ _ _ q=>q):zQ P w H' h' a o:=by
 induction o with
 |lst xs=>obtain⟨z,i,n,r,e⟩:=x;exact⟨z,i,n,r,k _ _ (.inl rfl) e⟩
 |tup xs=>obtain⟨z,i,r,⟨ob,e,c⟩,q⟩:=x;exact⟨z,i,r,⟨ob,k _ _ (.inl rfl) e,c⟩,q.imp id λ⟨J,j,N⟩=>⟨J,k _ _ (.inl rfl) j,N⟩⟩
 |dK kvs=>obtain⟨z,y,vs,r,ob,g,ep,e,c⟩:=x;exact⟨z,y,vs,r,ob,g,ep,k _ _ (.inl rfl) e,c⟩
 |dT kvs=>
  obtain⟨z,y,xs,r,ob,g,ep,e,c⟩:=x;exact⟨z,y,xs,Paired.mapP r λp q z=>⟨z.1,D _ _ z.2.1,z.2.2⟩,ob,g,ep,k _ _ (.inl rfl) e,c⟩
 |set S n=>obtain⟨ob,g,ep,t,e,c⟩:=x;exact⟨ob,g,ep,t,k _ _ (.inl rfl) e,c⟩
 |ins C U fs=>
  obtain⟨d,z,I,e,B,⟨l,g,ep,j,c⟩,r⟩:=x;exact⟨L _ d,z,I,k _ _ (.inl rfl) e,B,⟨l,g,ep,k _ _ (.inr d) j,c⟩,r⟩
 |own y=>obtain⟨ob,e⟩:=x;exact⟨ob,k _ _ (.inl rfl) e⟩
 |xd fs=>obtain⟨B,⟨l,g,ep,e,c⟩,r⟩:=x;exact⟨B,⟨l,g,ep,k _ _ (.inl rfl) e,c⟩,r⟩
 |rng lo hi=>obtain⟨t,u,v,e⟩:=x;exact⟨t,u,v,k _ _ (.inl rfl) e⟩
 |frz ob u G=>obtain⟨e,q⟩:=x;exact⟨k _ _ (.inl rfl) e,G q⟩
 |tbl Q q=>
  obtain⟨m,e,tr,al⟩:=x;exact⟨m,k a _ (.inl rfl) e,tr,λp F z=>let ⟨c,oc,vs,t,e1,j,e3⟩:=al p F z;⟨c,oc,vs,t,e1,M _ _ _ j,e3⟩⟩
 |met f y=>
  have e:=x;exact k a _ (.inl rfl) e
 |ext O=>obtain⟨p,⟨o,e⟩,st⟩:=x;exact⟨st _ _ p λo q=>k _ _ (.inl rfl) q,⟨o,k _ _ (.inl rfl) e⟩,st⟩
theorem HOk.lt (x:HOk P w H h)(e:H a=some o):a<h.objs.size:=(x a o e).lt
def HOk.fresh (x:HOk P w H h)(e:h.objs.size<=a):H a=none:=by
 cases q:H a with
 |none=>rfl
 |some u=>exact absurd (aL (x.lt q) e) (bo _)
def HOk.kept (x:HOk P w H h)(k:∀b u,h.get? b=some u->h'.get? b=some u):HOk P w H h':=λa o e=>
 (x a o e).stay (λb u _ q=>k b u q) (λ_ q=>q) λ_ _ q=>q
def HOk.laid (x:HOk P w H h)(k:∀b u,h.get? b=some u->h'.get? b=some u)(hp:h.objs.size<=a)(new:zQ P w (kj H a o) h' a o):HOk P w (kj H a o) h':=λb u e=>by
 have hn:=x.fresh hp
 by_cases d:b=a
 ·subst d;rw[zf]at e;cases e;exact new
 ·rw[zg d]at e;exact(x b u e).stay (λc v _ q=>k c v q) (λc q=>by rw[zg (zD q hn)];exact q) (λc xs q=>by rw[zg (zD q hn)];exact q) λc o u q=>by rw[zg (zD q hn)];exact q
end
def Rd (H:Hp)(a:Addr)(u:HO):Prop:=H a=some u\/∃o,H a=some (.frz o u)
def Rd.ok {P:Program}{w:World}{H:Hp}{h:Heap}{a:Addr}{u:HO}(r:Rd H a u)(x:HOk P w H h):zQ P w H h a u:=by
 rcases r with r|⟨o,r⟩
 ·exact x a u r
 ·obtain⟨_,q⟩:=x a _ r;exact q
noncomputable def si:Option HO->Prop
 |some (.lst _)=>True
 |some (.dK _)=>True
 |some (.dT _)=>True
 |some (.set _ _)=>True
 |some (.ins _ _ _)=>True
 |some (.ext _)=>True
 |_=>False
section
variable {P:Program}{w:World}{H:Hp}{h h':Heap}{x e:Addr}{o':HO}
def HOk.write (ok:HOk P w H h)(f:si (H x))(B:e=x\/H e=some (.own x))(k:∀b u,b≠e->h.get? b=some u->h'.get? b=some u)(l:∃u,h'.get? e=some u)
  (new:zQ P w (kj H x o') h' x o'):HOk P w (kj H x o') h':=λb u q=>by
 have d:∀c y,H c=some (.own y)->c≠x:=λc y r z=>by subst z;rw[r]at f;exact f
 have g:∀c xs,H c=some (.tup xs)->c≠x:=λc xs r z=>by subst z;rw[r]at f;exact f
 by_cases i:b=x
 ·subst i;rw[zf]at q;cases q;exact new
 ·rw[zg i]at q
  by_cases a:b=e
  ·have p:H b=some (.own x):=by
    rcases B with z|z
    ·exact absurd (a.trans z) i
    ·rw[a];exact z
   rw[q]at p;cases p;obtain⟨v,C⟩:=l;exact⟨v,by rw[a];exact C⟩
  ·refine(ok b u q).stay (λc v j r=>k c v ?_ r) (λc r=>by rw[zg (d c b r)];exact r) (λc xs r=>by rw[zg (g c xs r)];exact r) λc o u r=>by rw[zg (λz=>by subst z;rw[r]at f;exact f)];exact r
   rcases j with rfl|j
   ·exact a
   ·rintro rfl
    rcases B with z|z
    ·exact d c b j z
    ·rw[j]at z;cases z;exact i rfl
end
structure Un (fs ex:List Addr) (H H':Hp) (h h':Heap):Prop where
 keep:∀b o,h.get? b=some o->H b=none->b∉fs->b∉ex->h'.get? b=some o
 slot:∀b o,h.get? b=some o->H b=none->b∈fs->b∉ex->∃sl,h'.get? b=some {o with slots:=sl}
 free:∀b o,h.get? b=some o->H b=none->b∉ex->H' b=none
 there:∀b o,h.get? b=some o->b∉ex->∃o',h'.get? b=some o'
 tups:∀b xs,H b=some (.tup xs)->H' b=some (.tup xs)
 frzs:∀b o u,H b=some (.frz o u)->H' b=some (.frz o u)
 tbls:∀b ps q,H b=some (.tbl ps q)->H' b=some (.tbl ps q)
section
variable {fs fs' ex ex':List Addr}{H H1 H2:Hp}{h h1 h2 h':Heap}{a x e:Addr}{o:HO}
def Un.any (u:Un fs ex H H1 h h1){b:Addr}{ob:Obj}(q:h.get? b=some ob)(n:H b=none)(d:b∉ex):∃f,h1.get? b=some {ob with slots:=f}:=by
 by_cases c:b∈fs
 ·exact u.slot b ob q n c d
 ·exact⟨ob.slots,u.keep b ob q n c d⟩
def Un.kept (k:∀b u,h.get? b=some u->h'.get? b=some u):Un fs ex H H h h':=
 ⟨λb ob q _ _ _=>k b ob q,λb ob q _ _ _=>⟨ob.slots,k b ob q⟩,λ_ _ _ n _=>n,λb ob q _=>⟨ob,k b ob q⟩,λ_ _ q=>q,λ_ _ _ q=>q,λ_ _ _ q=>q⟩
def Un.refl:Un fs ex H H h h:=Un.kept λ_ _ q=>q
def Un.laid (k:∀b u,h.get? b=some u->h'.get? b=some u)(hp:h.objs.size<=a)(hn:H a=none):Un fs ex H (kj H a o) h h' where
 keep:=λb u q _ _ _=>k b u q
 slot:=λb u q _ _ _=>⟨u.slots,k b u q⟩
 free:=λb u q n _=>by rw[zg (aD (aL (av q) hp))];exact n
 there:=λb u q _=>⟨u,k b u q⟩
 tups:=λb xs q=>by rw[zg (zD q hn)];exact q
 frzs:=λb u xs q=>by rw[zg (zD q hn)];exact q
 tbls:=λb c q e=>by rw[zg (zD e hn)];exact e
def Un.write (d:si (H x))(p:e=x\/H e=some (.own x))(k:∀b u,b≠e->h.get? b=some u->h'.get? b=some u)(f:∃u,h'.get? e=some u):Un fs ex H (kj H x o) h h':=by
 have i:∀b,H b=none->b≠x:=λb n z=>by subst z;rw[n]at d;exact d
 have j:∀b,H b=none->b≠e:=λb n z=>by
  subst z;rcases p with r|r
  ·exact i b n r
  ·rw[n]at r;cases r
 have g:∀b u,H b=some u->¬si (some u)->b≠x:=λb u q l z=>by subst z;rw[q]at d;exact l d
 refine⟨λb u q n _ _=>k b u (j b n) q,λb u q n _ _=>⟨u.slots,k b u (j b n) q⟩,λb u q n _=>by rw[zg (i b n)];exact n,λb u q _=>?_,
  λb xs q=>by rw[zg (g b _ q λz=>z)];exact q,λb u xs q=>by rw[zg (g b _ q λz=>z)];exact q,λb v q e=>by rw[zg (g b _ e λz=>z)];exact e⟩
 by_cases c:b=e
 ·subst c;exact f
 ·exact⟨u,k b u c q⟩
end
def Eg (h:Heap)(H:Hp):List Addr:=(aV h.objs.size).filter λa=>(H a).isSome
def gY (h:Heap)(H:Hp):Heap:=PySem.W.hideAll h (Eg h H)
def YG (h:Heap)(H:Hp):(gY h H).objs.size=h.objs.size:=PySem.W.hideAll_size _ _
def Vp {h:Heap}{H:Hp}{b:Addr}{o:Obj}(e:h.get? b=some o)(n:H b=none):(gY h H).get? b=some o:=
 PySem.W.hideAll_get _ e λa=>by
  have q:=(mw.mp a).2;rw[n]at q;simp at q
def XR {h:Heap}{H:Hp}{b:Addr}{o:Obj}(e:(gY h H).get? b=some o):h.get? b=some o/\H b=none:=by
 have a:=PySem.W.of_hideAll _ e;refine⟨a,?_⟩;cases q:H b with
 |none=>rfl
 |some x=>
  have c:b∈Eg h H:=mw.mpr ⟨bu.mpr (av a),by simp[q]⟩
  have z:(gY h H).get? b=none:=PySem.W.hideAll_none _ c;rw[z]at e;cases e
end L2
namespace L2
open PySem PySem.Spec PyProof.Rows
structure Mod (K:aj) (mg:Str->Option Value) (base:Heap):Prop where
 kin:K.In base
 glob:base.Ns mainGlobals mg
 blt:∃mb,base.Ns builtinsNs mb/\∀x:Str,x≠"__name__"->mb x=bootBuiltins x
 nolimit:base.NoLimit
structure Cx where
 prog:Program
 w:World
 K:aj
 mg:Str->Option Value
 base:Heap
 A:Around
 N:List Str
 s₀:Shared
 H₀:Hp
 env:Env
 outer:List Env
 stack:List Env
 ex:List Addr
 fn:Str->Bool
 calm:Bool
 pn:List (Addr×Obj)
 xe:Value->Shared->Prop
noncomputable def ou (l:List Env):List Addr:=l.filterMap (·.frame)
abbrev Cx.fs (X:Cx):List Addr:=ou X.outer
noncomputable def pU (a:Scope)(x:Str):Prop:=a.names.lookup x=some .local\/a.names.lookup x=some .cell\/a.names.lookup x=some .free
noncomputable def Loc (a:Scope)(x:Str):Prop:=a.names.lookup x=some .local\/a.names.lookup x=some .cell
noncomputable def CV (env:Env)(h:Heap)(m:Str->Option Value)(x:Str)(u:Value):Prop:=
 (env.kindOf x=some .local/\m x=some u)\/((env.kindOf x=some .cell\/env.kindOf x=some .free)/\∃c,env.cells.lookup x=some c/\h.IsCell c (some u))
structure Cx.Ok (X:Cx):Prop where
 mod:Mod X.K X.mg X.base
 kind:X.env.scope.kind=.function
 glob:X.env.globals=mainGlobals
 blt:X.env.builtins=builtinsNs
 above:X.s₀.1.1.size<=X.env.locals
 inj:∀x y c,X.env.cells.lookup x=some c->X.env.cells.lookup y=some c->x=y
 has:∀x,(X.env.kindOf x=some .cell\/X.env.kindOf x=some .free)->∃c,X.env.cells.lookup x=some c
 cab:∀x c,X.fn x=true->X.env.cells.lookup x=some c->X.s₀.1.1.size<=c
 hd:X.calm=true->X.A.handled=none
 frames:X.A.frames=some X.stack
 stk:X.stack=X.outer\/(X.stack=X.env::X.outer/\X.env.frame=some X.env.locals)
 exf:∀b∈X.ex,b≠X.env.locals/\∀x c,X.env.cells.lookup x=some c->c≠b
 bs:∀b o,X.base.get? b=some o->X.s₀.heap.get? b=some o/\X.H₀ b=none
 bsz:X.base.objs.size<=X.s₀.1.1.size
 noex:∀b o,X.base.get? b=some o->b∉X.ex
 exfs:∀b∈X.ex,b∉X.fs
 funs:X.s₀.heap.FunFrames X.base X.outer
 frf:∀b∈X.fs,X.H₀ b=none
structure Inv (X:Cx) (pins:List (Addr×Obj)) (σ:List (Option V)) (H:Hp) (s:Shared):Prop where
 ok:X.Ok
 os:s.os=X.s₀.os
 bare:AllBare s.gens
 base:Un X.fs X.ex X.H₀ H X.s₀.heap s.heap
 loc:∃m,s.heap.Ns X.env.locals m/\∀(i:Nat) (x:Str) (v:V),X.N[i]?=some x->σ[i]?=some (some v)->pU X.env.scope x->∃u,RelV v u/\CV X.env s.heap m x u
 cell:∀x c,X.env.cells.lookup x=some c->∃v,s.heap.IsCell c v
 free:H X.env.locals=none
 freeC:∀x c,X.env.cells.lookup x=some c->H c=none
 pin:∀p∈X.pn++pins,s.heap.get? p.1=some p.2/\H p.1=none/\p.1≠X.env.locals/\p.1∉X.fs/\∀v,p.2.data≠.cell v
 hok:HOk X.prog X.w H s.heap
 len:σ.length=X.N.length
section
variable {X:Cx}{pins:List (Addr×Obj)}{σ:List (Option V)}{H H':Hp}{s:Shared}{h':Heap}
def Cx.Ok.nofr (ok:X.Ok){b:Addr}{o:Obj}(e:X.base.get? b=some o):b∉X.fs:=λa=>by
 have:=(ok.funs.mem a).1;rw[e]at this;cases this
theorem Inv.bs (I:Inv X pins σ H s):∀b o,X.base.get? b=some o->s.heap.get? b=some o/\H b=none:=λb o e=>
 ⟨I.base.keep b o (I.ok.bs b o e).1 (I.ok.bs b o e).2 (I.ok.nofr e) (I.ok.noex b o e),I.base.free b o (I.ok.bs b o e).1 (I.ok.bs b o e).2 (I.ok.noex b o e)⟩
def Inv.bk (I:Inv X pins σ H s):∀b o,X.base.get? b=some o->s.heap.get? b=some o:=λb o e=>(I.bs b o e).1
theorem Inv.mod (I:Inv X pins σ H s):Mod X.K X.mg X.base:=I.ok.mod
def Inv.kIn (I:Inv X pins σ H s):X.K.In s.heap:=I.ok.mod.kin.keeps I.bk
theorem Inv.lt (I:Inv X pins σ H s):X.env.locals<s.1.1.size:=let ⟨_,hn,_⟩:=I.loc;hn.lt
def Inv.sz (I:Inv X pins σ H s):X.s₀.1.1.size<=s.1.1.size:=aC I.ok.above (eO I.lt)
def Inv.nofs (I:Inv X pins σ H s){a:Addr}(h:s.1.1.size<=a):a∉X.fs:=λd=>by
 obtain⟨_,o,c,_⟩:=I.ok.funs.mem d;exact absurd (aL (av c) (aC I.sz h)) (bo _)
def Inv.cne (I:Inv X pins σ H s):∀x c,X.env.cells.lookup x=some c->c≠X.env.locals:=λx c e z=>by
 obtain⟨v,o,f,hd⟩:=I.cell x c e;obtain⟨m,⟨i,g,ep,a,d,_⟩,_⟩:=I.loc;rw[z,a]at f;cases f;rw[d]at hd;cases hd
theorem Inv.funs (I:Inv X pins σ H s):s.heap.FunFrames X.base X.outer:=by
 have all:∀(l:List Env),(∀b∈ou l,b∈X.fs)->X.s₀.heap.FunFrames X.base l->s.heap.FunFrames X.base l:=by
  intro l
  induction l with
  |nil=>intro _ _;trivial
  |cons env r k=>
   intro f i;obtain⟨g,⟨L,o,c,hn,j,hd⟩,hr⟩:=i;have d:=f L (by unfold ou;rw[fI,c];exact ae)
   obtain⟨p,e⟩:=I.base.slot L o j (I.ok.frf L d) d λz=>I.ok.exfs L z d;exact⟨g,⟨L,_,c,hn,e,hd⟩,k (λb a=>f b (by unfold ou;rw[fI,c];exact a9 _ a)) hr⟩
 exact all _ (λ_ a=>a) I.ok.funs
theorem Inv.stack (I:Inv X pins σ H s):s.heap.FunFrames X.base X.stack:=by
 rcases I.ok.stk with e|⟨e,a⟩
 ·rw[e];exact I.funs
 ·rw[e];obtain⟨m,hn,_⟩:=I.loc;refine .cons (by rw[I.ok.kind];decide) a hn ?_ I.funs
  exact Heap.get?_none_of_le (aC I.ok.bsz I.ok.above)
def Inv.stkSub (I:Inv X pins σ H s):∀b∈ou X.stack,b∈X.env.locals::X.fs:=λb a=>by
 rcases I.ok.stk with e|⟨e,c⟩
 ·rw[e]at a;exact a9 _ a
 ·rw[e]at a;unfold ou at a;rw[fI,c]at a;exact a
def Inv.stkFree (I:Inv X pins σ H s):∀b∈ou X.stack,H b=none:=λb a=>by
 rcases au.mp (I.stkSub b a)with e|a
 ·rw[e];exact I.free
 ·obtain⟨_,o,c,_⟩:=I.ok.funs.mem a;exact I.base.free b o c (I.ok.frf b a) λz=>I.ok.exfs b z a
def Inv.step {g':Array GenState}{t':Nat}{d':Drawn}{ch:List Addr}(I:Inv X pins σ H s)
  (j:∀b∈ch,(b∈X.ex\/X.s₀.1.1.size<=b)/\b≠X.env.locals/\(∀x c,X.env.cells.lookup x=some c->c≠b)/\∀p∈X.pn++pins,p.1≠b)
  (keep:∀b o,b≠X.env.locals->b∉X.fs->b∉ch->s.heap.get? b=some o->H b=none->h'.get? b=some o)
  (y:∀b o,b≠X.env.locals->b∈X.fs->b∉ch->s.heap.get? b=some o->H b=none->∃U,h'.get? b=some {o with slots:=U}) (free:∀b o,b∉ch->s.heap.get? b=some o->H b=none->H' b=none)
  (B:∀b o,b∉ch->s.heap.get? b=some o->∃N,h'.get? b=some N)
  (O:∀b xs,H b=some (.tup xs)->H' b=some (.tup xs)) (G:∀b o u,H b=some (.frz o u)->H' b=some (.frz o u)) (L:∀b J q,H b=some (.tbl J q)->H' b=some (.tbl J q))
  (ns:∀m,s.heap.Ns X.env.locals m->h'.Ns X.env.locals m) (P:HOk X.prog X.w H' h') (hg:AllBare g'):
  Inv X pins σ H' {s with heap:=h',gens:=g',drawn:=d',toks:=t'}:=by
 have M:∀b o,X.s₀.heap.get? b=some o->b≠X.env.locals:=λb o e=>aD (aL (av e) I.ok.above);have nq:∀b o,X.s₀.heap.get? b=some o->b∉X.ex->b∉ch:=λb o e a D=>by
  rcases(j b D).1 with z|z
  ·exact a z
  ·exact absurd (aL (av e) z) (bo _)
 have g:∀x c,X.env.cells.lookup x=some c->∀v,s.heap.IsCell c v->h'.IsCell c v:=λx c e v ⟨o,F,hd⟩=>by
  have f:=λz=>(j c z).2.2.1 x c e rfl
  by_cases hc:c∈X.fs
  ·obtain⟨U,q⟩:=y c o (I.cne x c e) hc f F (I.freeC x c e);exact⟨_,q,hd⟩
  ·exact⟨o,keep c o (I.cne x c e) hc f F (I.freeC x c e),hd⟩
 refine⟨I.ok,I.os,hg,⟨λb o e n D a=>?_,λb o e n D a=>?_,λb o e n a=>?_,λb o e a=>?_,λb xs e=>O b xs (I.base.tups b xs e),λb o xs e=>G b o xs (I.base.frzs b o xs e),λb J q e=>L b J q (I.base.tbls b J q e)⟩,?_,λx c e=>?_,?_,λx c e=>?_,λp hp=>?_,P,I.len⟩
 ·exact keep b o (M b o e) D (nq b o e a) (I.base.keep b o e n D a) (I.base.free b o e n a)
 ·obtain⟨U,C⟩:=I.base.slot b o e n D a;obtain⟨S,Q⟩:=y b _ (M b o e) D (nq b o e a) C (I.base.free b o e n a);exact⟨S,Q⟩
 ·obtain⟨N,C⟩:=I.base.there b o e a;exact free b N (nq b o e a) C (I.base.free b o e n a)
 ·obtain⟨N,C⟩:=I.base.there b o e a;exact B b N (nq b o e a) C
 ·obtain⟨m,hn,hl⟩:=I.loc;refine⟨m,ns m hn,λi x v C Q e3=>?_⟩;obtain⟨u,r,l⟩:=hl i x v C Q e3;refine⟨u,r,?_⟩;rcases l with l|⟨k,c,e,z⟩
  ·exact .inl l
  ·exact .inr ⟨k,c,e,g x c e _ z⟩
 ·obtain⟨v,z⟩:=I.cell x c e;exact⟨v,g x c e v z⟩
 ·obtain⟨m,⟨o,_,_,F,_⟩,_⟩:=I.loc;exact free _ o (λz=>(j _ z).2.1 rfl) F I.free
 ·obtain⟨v,o,F,hd⟩:=I.cell x c e;exact free c o (λz=>(j c z).2.2.1 x c e rfl) F (I.freeC x c e)
 ·obtain⟨e,n,Z,nf,d⟩:=I.pin p hp;have f:=λz=>(j p.1 z).2.2.2 p hp rfl;exact⟨keep p.1 p.2 Z nf f e n,free p.1 p.2 f e n,Z,nf,d⟩
def Inv.un {t':Nat}(I:Inv X pins σ H s)(u:Un X.fs [] H H' s.heap h')(c:HOk X.prog X.w H' h'):Inv X pins σ H' {s with heap:=h',toks:=t'}:=by
 obtain⟨m,⟨o,p,ep,i,r⟩,_⟩:=id I.loc;obtain⟨x,l⟩:=u.any i I.free (by simp)
 exact I.step (ch:=[]) (λ_ z=>nomatch z) (λb o _ d _ e n=>u.keep b o e n d (by simp)) (λb o _ d _ e n=>u.slot b o e n d (by simp)) (λb o _ e n=>u.free b o e n (by simp)) (λb o _ e=>u.there b o e (by simp)) u.tups u.frzs u.tbls (λq j=>by
  obtain⟨v,f,g,a,k⟩:=j;rw[i]at a;cases a;exact⟨_,f,g,l,k⟩) c I.bare
def Inv.call {l:Array GenState}{t':Nat}{y:Drawn}{ch:List Addr}(I:Inv X pins σ H s)(u:Un (ou X.stack) ch H H' s.heap h')(g:HOk X.prog X.w H' h')(D:AllBare l)
  (d:∀b∈ch,(b∈X.ex\/X.s₀.1.1.size<=b)/\b≠X.env.locals/\(∀x c,X.env.cells.lookup x=some c->c≠b)/\∀p∈X.pn++pins,p.1≠b):
  Inv X pins σ H' {s with heap:=h',gens:=l,drawn:=y,toks:=t'}:=by
 obtain⟨m,⟨o,F,ep,q,r⟩,_⟩:=id I.loc;obtain⟨G,j⟩:=u.any q I.free λz=>(d _ z).2.1 rfl;exact I.step d (λb o j C a e n=>u.keep b o e n (λz=>(au.mp (I.stkSub b z)).elim j C) a) (λb o _ _ a e n=>u.any e n a) (λb o a e n=>u.free b o e n a) (λb o a e=>u.there b o e a) u.tups u.frzs u.tbls (λJ v=>by
  obtain⟨L,i,k,f,B⟩:=v;rw[q]at f;cases f;exact⟨_,i,k,j,B⟩) g D
def Inv.turned {t':Nat}{it:Addr}(I:Inv X pins σ H s)(k:∀b o,b≠it->s.heap.get? b=some o->h'.get? b=some o)(hn:H it=none)(f:it≠X.env.locals)
  (w:it∈X.ex\/X.s₀.1.1.size<=it) (g:∀x c,X.env.cells.lookup x=some c->c≠it) (i:∀p∈X.pn++pins,p.1≠it):Inv X pins σ H {s with heap:=h',toks:=t'}:=by
 have d:∀b u,H b=some u->b≠it:=λb u e z=>by rw[z,hn]at e;cases e
 refine I.step (ch:=[it]) (λb y=>?_) (λb o _ _ a e _=>k b o (λz=>a (by simp[z])) e) (λb o _ _ a e _=>⟨o.slots,k b o (λz=>a (by simp[z])) e⟩) (λ_ _ _ _ n=>n)
  (λb o a e=>⟨o,k b o (λz=>a (by simp[z])) e⟩) (λ_ _ e=>e) (λ_ _ _ e=>e) (λ_ _ _ e=>e) (λm l=>?_) (λb u e=>?_) I.bare
 ·have e:=by simpa using y
  subst e;exact⟨w,f,g,i⟩
 ·obtain⟨o,j,ep,B,r⟩:=l;exact⟨o,j,ep,k _ o (aT f) B,r⟩
 ·refine(I.hok b u e).stay (λc v a q=>k c v ?_ q) (λ_ q=>q) λ_ _ q=>q;rcases a with z|z
  ·rw[z];exact d b u e
  ·exact d c _ z
def Inv.tok (I:Inv X pins σ H s)(t:Nat):Inv X pins σ H {s with toks:=t}:=I.un Un.refl I.hok
theorem Inv.kept {t':Nat}(I:Inv X pins σ H s)(k:∀b u,s.heap.get? b=some u->h'.get? b=some u):Inv X pins σ H {s with heap:=h',toks:=t'}:=I.un (Un.kept k) (I.hok.kept k)
theorem Inv.laid {a:Addr}{o:HO}{t':Nat}(I:Inv X pins σ H s)(k:∀b u,s.heap.get? b=some u->h'.get? b=some u)(hp:s.1.1.size<=a)(new:zQ X.prog X.w (kj H a o) h' a o):
  Inv X pins σ (kj H a o) {s with heap:=h',toks:=t'}:=I.un (Un.laid k hp (I.hok.fresh hp)) (I.hok.laid k hp new)
theorem Inv.write {x e:Addr}{o:HO}{t':Nat}(I:Inv X pins σ H s)(d:si (H x))(c:e=x\/H e=some (.own x))(k:∀b u,b≠e->s.heap.get? b=some u->h'.get? b=some u)(a:∃u,h'.get? e=some u)
  (new:zQ X.prog X.w (kj H x o) h' x o):Inv X pins σ (kj H x o) {s with heap:=h',toks:=t'}:=I.un (Un.write d c k a) (I.hok.write d c k a new)
def Inv.pins_of {a:List (Addr×Obj)}(I:Inv X pins σ H s)(h:∀p∈a,s.heap.get? p.1=some p.2/\H p.1=none/\p.1≠X.env.locals/\p.1∉X.fs/\∀v,p.2.data≠.cell v):Inv X a σ H s:=
 ⟨I.ok,I.os,I.bare,I.base,I.loc,I.cell,I.free,I.freeC,λp hp=>(bI.mp hp).elim (λz=>I.pin p (fA _ z)) (h p),I.hok,I.len⟩
def Uv {N:List Str}(c:N.Nodup){i j:Nat}{x:Str}(a:N[i]?=some x)(b:N[j]?=some x):i=j:=by
 obtain⟨g,e⟩:=aP.mp a;obtain⟨f,d⟩:=aP.mp b;exact(dm c).mp (e.trans d.symm)
def WT {M:Model}{A:Around}{E:Value->Shared->Prop}{i:Nat}{x:Str}{v:V}{u:Value}{Q:Unit->Shared->Prop}(I:Inv X pins σ H s)(hN:X.N.Nodup)(hi:X.N[i]?=some x)(C:Loc X.env.scope x)(r:RelV v u)
  (h:∀s',Inv X pins (σ.set i (some v)) H s'->(∃a,b8 a s.heap s'.heap/\(a=X.env.locals\/X.env.cells.lookup x=some a))->Q () s') (hf:X.fn x=true\/X.env.scope.names.lookup x=some .local:=by first|exact .inl rfl|exact .inr rfl|assumption):wpAny M A (storeName X.env x u) Q E s:=by
 obtain⟨m,hn,hl⟩:=id I.loc;have hcls:(X.env.scope.kind==.class||(X.env.scope.kind==.module&&X.env.locals !=X.env.globals))=false:=by rw[I.ok.kind];rfl
 have J:i<σ.length:=by rw[I.len];exact(aP.mp hi).1
 have cne:=I.cne;have g:∀{a:Addr} {h':Heap},(∃o,s.heap.get? a=some o/\H a=none)->b8 a _ h'->HOk _ X.w H h':=λ{a h'} ha f b ob e=>by
  obtain⟨_,_,D⟩:=ha;refine(I.hok b ob e).stay (λc w' B q=>(f.2 c ?_).trans q) (λ_ q=>q) λ_ _ q=>q
  rintro rfl
  rcases B with rfl|B
  ·rw[D]at e;cases e
  ·rw[D]at B;cases B
 rcases C with G|G
 ·refine wpAny_storeName_local G hn (λh' hn' f=>?_) hcls;obtain⟨oL,_,_,hoL,_⟩:=id hn;refine h _ ⟨I.ok,I.os,I.bare,⟨λb o e n P C=>?_,λb o e n P C=>?_,I.base.free,λb o e C=>?_,I.base.tups,I.base.frzs,I.base.tbls⟩,⟨_,hn',λj y v' l F e3=>?_⟩,λy c e=>?_,I.free,I.freeC,λp hp=>?_,g ⟨oL,hoL,I.free⟩ f,by simpa using I.len⟩ ⟨_,f,.inl rfl⟩
  ·exact(f.2 b (aD (aL (av e) I.ok.above))).trans (I.base.keep b o e n P C)
  ·obtain⟨sl,l⟩:=I.base.slot b o e n P C;exact⟨sl,(f.2 b (aD (aL (av e) I.ok.above))).trans l⟩
  ·obtain⟨o',l⟩:=I.base.there b o e C;exact⟨o',(f.2 b (aD (aL (av e) I.ok.above))).trans l⟩
  ·by_cases L:j=i
   ·subst L;rw[hi]at l;cases l;rw[aI J]at F;cases F;exact⟨u,r,.inl ⟨G,by simp⟩⟩
   ·rw[ak (aT L)]at F;obtain⟨u',r',q⟩:=hl j y v' l F e3;refine⟨u',r',?_⟩;rcases q with ⟨k,e⟩|⟨k,c,e,z⟩
    ·refine .inl ⟨k,?_⟩;have:y≠x:=λe=>L (Uv hN l (e▸hi));simp[this,e]
    ·exact .inr ⟨k,c,e,z.sameBut f (cne y c e)⟩
  ·obtain⟨w',z⟩:=I.cell y c e;exact⟨w',z.sameBut f (cne y c e)⟩
  ·obtain⟨e,n,ne,nf,d⟩:=I.pin p hp;exact⟨(f.2 p.1 ne).trans e,n,ne,nf,d⟩
 ·have O:X.fn x=true:=by
   rcases hf with z|z
   ·exact z
   ·rw[z]at G;cases G
  obtain⟨c,B⟩:=I.ok.has x (.inl G);obtain⟨w',z⟩:=I.cell x c B;refine wpAny_storeName_cell I.ok.kind G B z (λh' S f=>?_);obtain⟨oc,hoc,U⟩:=id z;refine h _ ⟨I.ok,I.os,I.bare,⟨λb o e n P C=>?_,λb o e n P C=>?_,I.base.free,λb o e C=>?_,I.base.tups,I.base.frzs,I.base.tbls⟩,⟨m,hn.sameBut f (aT (cne x c B)),λj y v' l F e3=>?_⟩,λy c' e=>?_,I.free,I.freeC,λp hp=>?_,g ⟨oc,hoc,I.freeC x c B⟩ f,by simpa using I.len⟩ ⟨c,f,.inr B⟩
  ·exact(f.2 b (aD (aL (av e) (I.ok.cab x c O B)))).trans (I.base.keep b o e n P C)
  ·obtain⟨sl,l⟩:=I.base.slot b o e n P C;exact⟨sl,(f.2 b (aD (aL (av e) (I.ok.cab x c O B)))).trans l⟩
  ·obtain⟨o',l⟩:=I.base.there b o e C;exact⟨o',(f.2 b (aD (aL (av e) (I.ok.cab x c O B)))).trans l⟩
  ·by_cases L:j=i
   ·subst L;rw[hi]at l;cases l;rw[aI J]at F;cases F;exact⟨u,r,.inr ⟨.inl G,c,B,S⟩⟩
   ·rw[ak (aT L)]at F;obtain⟨u',r',q⟩:=hl j y v' l F e3;refine⟨u',r',?_⟩;rcases q with q|⟨k,c',e,z'⟩
    ·exact .inl q
    ·refine .inr ⟨k,c',e,z'.sameBut f ?_⟩
     rintro rfl
     exact L (Uv hN l (I.ok.inj _ _ _ e B▸hi))
  ·by_cases Z:c'=c
   ·subst Z;exact⟨_,S⟩
   ·obtain⟨w2,z2⟩:=I.cell y c' e;exact⟨w2,z2.sameBut f Z⟩
  ·obtain⟨e,n,ne,nf,d⟩:=I.pin p hp;refine⟨(f.2 p.1 ?_).trans e,n,ne,nf,d⟩;intro q;rw[q,hoc]at e;have q':=aF e;exact d w' (by rw[←q'];exact U)
def Jx {M:Model}{A:Around}{E:Value->Shared->Prop}{i:Nat}{x:Str}{v:V}{u:Value}{Q:Unit->Shared->Prop}(I:Inv X pins σ H s)(e:X.N.Nodup)(hi:X.N[i]?=some x)(c:Loc X.env.scope x)(r:RelV v u)
  (h:∀a,Inv X pins (σ.set i (some v)) H a->Q () a) (f:X.fn x=true\/X.env.scope.names.lookup x=some .local:=by first|exact .inl rfl|exact .inr rfl|assumption):wpAny M A (storeName X.env x u) Q E s:=
 WT I e hi c r (λa d _=>h a d) f
def Inv.call' {a:Shared}{ch:List Addr}(I:Inv X pins σ H s)(g:a.os=s.os)(u:Un (ou X.stack) ch H H' s.heap a.heap)(d:HOk X.prog X.w H' a.heap)(i:AllBare a.gens)
  (f:∀b∈ch,(b∈X.ex\/X.s₀.1.1.size<=b)/\b≠X.env.locals/\(∀x c,X.env.cells.lookup x=some c->c≠b)/\∀p∈X.pn++pins,p.1≠b):Inv X pins σ H' a:=by
 obtain⟨h',l,j,t',k⟩:=a;have e:=g;subst e;exact I.call u d i f
end
abbrev XK:=Value->Option Addr->Hp->Prop
noncomputable abbrev St:=List (Option V)
abbrev VK:=V->Hp->Prop
abbrev TE:=St->Hp->VK->Prop
abbrev TT:=St->Hp->(Bool->Hp->Prop)->Prop
abbrev TA:=St->Hp->(List V->Hp->Prop)->Prop
structure Vb where
 nx:St->Hp->Prop
 rt:VK
 bk:St->Hp->Prop:=λ_ _=>False
 ct:St->Hp->Prop:=λ_ _=>False
abbrev TS:=Vb->St->Hp->Prop
def EP (X:Cx)(a:List (Addr×Obj))(d:St)(Q:VK)(u:Value)(e:Shared):Prop:=∃v c,Inv X a d c e/\RelV v u/\Q v c
def TP (X:Cx)(a:List (Addr×Obj))(d:St)(Q:Bool->Hp->Prop)(b:Bool)(e:Shared):Prop:=∃c,Inv X a d c e/\Q b c
def AP (X:Cx)(a:List (Addr×Obj))(e:St)(Q:List V->Hp->Prop)(d:List Value)(f:Shared):Prop:=∃vs c,Inv X a e c f/\Vals vs d/\Q vs c
def SP (X:Cx)(a:List (Addr×Obj))(D:Vb)(f:Flow)(d:Shared):Prop:=
 match f with
 |.next=>∃σ' c,Inv X a σ' c d/\D.nx σ' c
 |.brk=>∃σ' c,Inv X a σ' c d/\D.bk σ' c
 |.cont=>∃σ' c,Inv X a σ' c d/\D.ct σ' c
 |.ret u=>∃v σ' c,Inv X a σ' c d/\RelV v u/\D.rt v c
def PE (X:Cx)(e:Expr)(t:TE):Prop:=
 ∀(a:List (Addr×Obj)) (s:Shared) (c:St) (H:Hp) (Q:VK),Inv X a c H s->t c H Q->wpAny 07 X.A (eval e X.env) (EP X a c Q) X.xe s
def PT (X:Cx)(e:Expr)(t:TT):Prop:=
 ∀(a:List (Addr×Obj)) (s:Shared) (c:St) (H:Hp) (Q:Bool->Hp->Prop),Inv X a c H s->t c H Q->wpAny 07 X.A (isTrue e X.env (eval e X.env)) (TP X a c Q) X.xe s
def PW (X:Cx)(e:Expr)(t:TT):Prop:=
 ∀(c:Sem Value) (a:List (Addr×Obj)) (s:Shared) (d:St) (H:Hp) (Q:Bool->Hp->Prop),Inv X a d H s->t d H Q->wpAny 07 X.A (isTrue e X.env c) (TP X a d Q) X.xe s
def PW.pt {X:Cx}{e:Expr}{t:TT}(h:PW X e t):PT X e t:=h _
def PA (X:Cx)(d:List Expr)(t:TA):Prop:=
 ∀(pos:Pos) (a:List _) (s:Shared) (c:St) (H:Hp) (Q:List V->Hp->Prop),Inv X a c H s->t c H Q->wpAny 07 X.A (spliced (backTo pos (starEach d X.env))) (AP X a c Q) X.xe s
def PS (X:Cx)(st:Stmt)(t:TS):Prop:=
 ∀(a:List (Addr×Obj)) (s:Shared) (c:St) (H:Hp) (D:Vb),Inv X a c H s->t D c H->wpAny 07 X.A (exec st X.env) (SP X a D) X.xe s
def PSs (X:Cx)(st:List Stmt)(t:TS):Prop:=
 ∀(a:List (Addr×Obj)) (s:Shared) (c:St) (H:Hp) (D:Vb),Inv X a c H s->t D c H->wpAny 07 X.A (execs st X.env) (SP X a D) X.xe s
def mN {d:Type}{t:Sem d}{Q c:d->Shared->Prop}{M:Model}{A:Around}{E:Value->Shared->Prop}{s:Shared}(h:wpAny M A t Q E s)(e:∀a s,Q a s->c a s):wpAny M A t c E s:=cI h e λ_ _ x=>x
end L2
namespace L2
open PySem PySem.Spec PyProof.Rows
section
variable {X:Cx}
def bin {a b:Expr}{l tb:TE}(G:PE X a l)(F:PE X b tb){c:List (Addr×Obj)}{s:Shared}{e:St}{H:Hp}{R:V->V->Hp->Prop}(I:Inv X c e H s)(h:l e H λx k=>tb e k λy d=>R x y d)
  {o:Type} {Q:o->Shared->Prop} {f:Value->Value->Sem o}
  (J:∀v u j x y d,Inv X c e d j->RelV x v->RelV y u->R x y d->wpAny 07 X.A (f v u) Q X.xe j):
  wpAny 07 X.A (eval a X.env) (λv i=>wpAny 07 X.A (eval b X.env) (λu g=>wpAny 07 X.A (f v u) Q X.xe g) X.xe i) X.xe s:=by
 refine mN (G _ s e H _ I h) λv r ⟨x,k,D,C,q⟩=>?_;refine mN (F _ r e k _ D q) λu j ⟨y,d,L,p,B⟩=>?_;exact J v u j x y d L C p B
def Za (i:Nat):TE:=λa H Q=>∃v,a[i]?=some (some v)/\Q v H
def tC (v:V):TE:=λ_ H Q=>Q v H
def ZS {i:Nat}{x:Str}{pos:Pos}(q:X.N[i]?=some x)(y:pU X.env.scope x)(hd:(x==("__debug__":Str))=false:=by decide)(g:(x==("__classdict__":Str))=false:=by decide):PE X (.Name x pos) (Za i):=by
 intro j s p H Q I h;obtain⟨v,e,h⟩:=h;obtain⟨m,hn,w⟩:=I.loc;obtain⟨u,r,l⟩:=w i x v q e y;have f:EP X _ p Q u s:=⟨v,H,I,r,h⟩;rcases l with ⟨d,o⟩|⟨d,c,k,a⟩
 ·exact wpAny_Name (wpAny_loadName_local I.ok.kind d hn o f) hd
 ·rcases d with d|d
  ·exact wpAny_Name (wpAny_loadName_cell I.ok.kind d k a f) hd
  ·exact wpAny_Name (wpAny_loadName_free I.ok.kind d k a f g) hd
def YH {i j pos}:PE X (.Constant (.int i) j pos) (tC (.int i)):=λ_ _ _ H _ I h=>wpAny_Constant_int ⟨.int i,H,I.tok _,⟨_,rfl⟩,h⟩
def XS {b j pos}:PE X (.Constant (.bool b) j pos) (tC (.bl b)):=λ_ _ _ H _ I h=>Constant_bool ⟨.bl b,H,I,rfl,h⟩
def X3 {x j pos}:PE X (.Constant (.str x) j pos) (tC (.str x)):=λ_ _ _ H _ I h=>Calls.Constant_str ⟨.str x,H,I.tok _,⟨_,rfl⟩,h⟩
noncomputable def Gl (X:Cx)(x:Str):Prop:=X.env.kindOf x=some .globalImplicit
def YI {E:Value->Shared->Prop}{a:List (Addr×Obj)}{s:Shared}{e:St}{H:Hp}{x:Str}{u:Value}{pos:Pos}{Q:Value->Shared->Prop}(I:Inv X a e H s)(d:Gl X x)(c:X.mg x=some u)(h:Q u s)
  (hd:(x==("__debug__":Str))=false:=by decide):wpAny 07 X.A (eval (.Name x pos) X.env) Q E s:=
 fQ I.ok.kind d (Calls.loadGlobal_global (by rw[I.ok.glob];exact I.mod.glob.keeps I.bk) c h) hd
def j4 {E:Value->Shared->Prop}{a:List (Addr×Obj)}{s:Shared}{f:St}{H:Hp}{x:Str}{u:Value}{pos:Pos}{Q:Value->Shared->Prop}(I:Inv X a f H s)(i:Gl X x)(d:X.mg x=none)(g:bootBuiltins x=some u)(h:Q u s)
  (hn:x≠"__name__":=by decide) (hd:(x==("__debug__":Str))=false:=by decide):wpAny 07 X.A (eval (.Name x pos) X.env) Q E s:=by
 obtain⟨j,e,c⟩:=I.mod.blt;exact fQ I.ok.kind i (Calls.loadGlobal_builtin (by rw[I.ok.glob];exact I.mod.glob.keeps I.bk) d (by rw[I.ok.blt];exact e.keeps I.bk) ((c x hn).trans g) h) hd
def XT {x:Str}{v:V}{u:Value}{pos:Pos}(c:Gl X x)(a:X.mg x=some u)(r:RelV v u)(hd:(x==("__debug__":Str))=false:=by decide):PE X (.Name x pos) (tC v):=
 λ_ _ _ H _ I h=>YI I c a ⟨v,H,I,r,h⟩ hd
def uZ {x:Str}{v:V}{u:Value}{pos:Pos}(c:Gl X x)(a:X.mg x=none)(d:bootBuiltins x=some u)(r:RelV v u)(hn:x≠"__name__":=by decide)(hd:(x==("__debug__":Str))=false:=by decide):PE X (.Name x pos) (tC v):=
 λ_ _ _ H _ I h=>j4 I c a d ⟨v,H,I,r,h⟩ hn hd
variable {a b:Expr}{ta tb:TE}{pos:Pos}
def PC (X:Cx)(op:CmpOp)(a b:Expr)(t:TE):Prop:=
 ∀(c:List (Addr×Obj)) (s:Shared) (f:St) (H:Hp) (Q:VK),Inv X c f H s->t f H Q->
  wpAny 07 X.A (eval a X.env) (λv e=>wpAny 07 X.A (eval b X.env) (λu d=>wpAny 07 X.A (compareOp op v u) (EP X c f Q) X.xe d) X.xe e) X.xe s
def W9 (b:Expr){op:CmpOp}(h:op≠.In)(c:op≠.NotIn):behindInMarks op b=false:=by
 have e:(op==CmpOp.In)=false:=by cases op<;>first|rfl|exact absurd rfl h
 have d:(op==CmpOp.NotIn)=false:=by cases op<;>first|rfl|exact absurd rfl c
 cases b<;>simp[behindInMarks,e,d]
def tB (t:TE):TT:=λd H Q=>t d H λx e=>∃c,x=.bl c/\Q c e
def Gh {op:CmpOp}{t:TE}(h:PC X op a b t)(e:behindInMarks op b=false:=by first|exact W9 _ 01 01|rfl):PT X (.Compare a [op] [b] pos) (tB t):=by
 intro f s o H Q I l;refine wpAny_isTrue_Compare1 (mN (h _ s o H _ I l) λv w e=>mN e λu r i=>mN i λc y ⟨x,k,j,g,p⟩=>?_) e;obtain⟨d,rfl,q⟩:=p;cases g;exact be ⟨k,j,q⟩
variable {tA tB':TT}{rest:List Expr}
def Cf (t u:TT):TT:=λe H Q=>t e H λc d=>if c=true then u e d Q else Q false d
def Le (t u:TT):TT:=λe H Q=>t e H λc d=>if c=true then Q true d else u e d Q
def CM (t:TT):TT:=λe H Q=>t e H λc d=>Q (!c) d
def XU (f:PT X a tA):PW X (.BoolOp .And [a] pos) tA:=by
 intro j d s g H Q I h;refine isTrue_and (mN (f _ s g H Q I h) λc i e=>?_);cases c with
 |true=>exact isTrue_and_nil e
 |false=>exact e
def Gi (f:PT X a tA):PW X (.BoolOp .Or [a] pos) tA:=by
 intro j d s g H Q I h;refine isTrue_or (mN (f _ s g H Q I h) λc i e=>?_);cases c with
 |false=>exact isTrue_or_nil e
 |true=>exact e
def Gj (l:PT X a tA)(k:PW X (.BoolOp .And (b::rest) pos) tB'):PW X (.BoolOp .And (a::b::rest) pos) (Cf tA tB'):=by
 intro o i s f H Q I h;refine isTrue_and (mN (l _ s f H _ I h) λc j ⟨e,d,g⟩=>?_);cases c with
 |true=>exact k o _ j f e Q d g
 |false=>exact⟨e,d,g⟩
def Li (l:PT X a tA)(k:PW X (.BoolOp .Or (b::rest) pos) tB'):PW X (.BoolOp .Or (a::b::rest) pos) (Le tA tB'):=by
 intro o i s f H Q I h;refine isTrue_or (mN (l _ s f H _ I h) λc j ⟨e,d,g⟩=>?_);cases c with
 |true=>exact⟨e,d,g⟩
 |false=>exact k o _ j f e Q d g
def Gk (f:PT X a tA):PT X (.UnaryOp .Not a pos) (CM tA):=by
 intro d s g H Q I h;exact isTrue_not (f _ s g H (λc e=>Q _ e) I h)
def IP (ta tb:TE):TE:=λe H Q=>ta e H λx d=>∃c,x=.bl c/\if c=true then tb e d Q else Q (.bl false) d
def CG (ta tb:TE):TE:=λe H Q=>ta e H λx d=>∃c,x=.bl c/\if c=true then Q (.bl true) d else tb e d Q
def Fs (ta:TE):TE:=λd H Q=>ta d H λx e=>∃c,x=.bl c/\Q (.bl (!c)) e
def Gm {op}{t:TE}(h:PE X a t):PE X (.BoolOp op [a] pos) t:=λc s e H Q I d=>BoolOp_one (h _ s e H Q I d)
def Gn (o:PE X a ta)(l:PE X (.BoolOp .And (b::rest) pos) tb):PE X (.BoolOp .And (a::b::rest) pos) (IP ta tb):=by
 intro i s g H Q I h;refine BoolOp_and (mN (o _ s g H _ I h) λv k ⟨x,f,e,j,d⟩=>?_);obtain⟨c,rfl,d⟩:=d;cases j;refine be ?_;cases c with
 |true=>exact l _ k g f Q e d
 |false=>exact⟨.bl _,f,e,rfl,d⟩
def EQ (o:PE X a ta)(l:PE X (.BoolOp .Or (b::rest) pos) tb):PE X (.BoolOp .Or (a::b::rest) pos) (CG ta tb):=by
 intro i s g H Q I h;refine BoolOp_or (mN (o _ s g H _ I h) λv k ⟨x,f,e,j,d⟩=>?_);obtain⟨c,rfl,d⟩:=d;cases j;refine be ?_;cases c with
 |false=>exact l _ k g f Q e d
 |true=>exact⟨.bl _,f,e,rfl,d⟩
def Go (k:PE X a ta):PE X (.UnaryOp .Not a pos) (Fs ta):=by
 intro e s j H Q I h;refine UnaryOp_ (mN (k _ s j H _ I h) λv l ⟨x,i,g,f,d⟩=>?_);obtain⟨c,rfl,d⟩:=d;cases f;exact not_of (be ⟨.bl _,i,g,rfl,d⟩)
def HI (t:TT)(ta tb:TE):TE:=λd H Q=>t d H λc e=>if c=true then ta d e Q else tb d e Q
def Vq {c:Expr}(p:PT X c tA)(o:PE X a ta)(l:PE X b tb):PE X (.IfExp c a b pos) (HI tA ta tb):=by
 intro k s e H Q I h;refine wpAny_IfExp (mN (p _ s e H _ I h) λd j ⟨g,f,i⟩=>?_);cases d with
 |true=>exact o _ j e g Q f i
 |false=>exact l _ j e g Q f i
end
end L2
namespace L2
open PySem PySem.Spec PyProof.Rows
def SqL (K:aj)(H:Hp)(a:Addr)(xs:List V):Prop:=
 Rd H a (.lst xs)\/
  ∃(o:Obj) (c:Array Value) (n:Nat),K.lookup a=some o/\o.cls=.type "list"/\o.dict=none/\o.data=.seq c n/\c.size<=sizeLine/\Vals xs c.toList
def SqT (K:aj)(H:Hp)(a:Addr)(xs:List V):Prop:=
 Rd H a (.tup xs)\/
  ∃(o:Obj) (c:Array Value) (n:Nat),K.lookup a=some o/\o.cls=.type "tuple"/\o.data=.seq c n/\c.size<=sizeLine/\Vals xs c.toList
noncomputable def B4:Value->Option V
 |.none=>some .non
 |.bool b=>some (.bl b)
 |.int i _=>some (.int i)
 |.str x _=>some (.str x)
 |.bytes b _=>some (.byt b)
 |.float b _=>some (.flt b)
 |.ref a=>some (.ref a)
 |.type n=>some (.ty n)
 |_=>none
def RelV.abs {x:V}{u:Value}(r:RelV x u):B4 u=some x:=by
 cases x with
 |non=>cases r;rfl
 |bl _=>cases r;rfl
 |int _=>obtain⟨t,rfl⟩:=r;rfl
 |str _=>obtain⟨t,rfl⟩:=r;rfl
 |byt _=>obtain⟨t,rfl⟩:=r;rfl
 |flt _=>obtain⟨t,rfl⟩:=r;rfl
 |ref _=>cases r;rfl
 |ty _=>cases r;rfl
def RelV.inj {x y:V}{u:Value}(r:RelV x u)(q:RelV y u):x=y:=aF (r.abs.symm.trans q.abs)
theorem Vals.inj:∀{xs c:List V} {a:List Value},Vals xs a->Vals c a->xs=c
 |_,_,_,.nil,.nil=>rfl
 |_,_,_,.cons r t,.cons d t'=>by rw[r.inj d,Vals.inj t t']
section
variable {X:Cx}{pins:List (Addr×Obj)}{σ:St}{H:Hp}{s:Shared}{a:Addr}{xs ys:List V}
def SqL.of {K:aj}(h:H a=some (.lst xs)):SqL K H a xs:=.inl (.inl h)
def SqT.of {K:aj}(h:H a=some (.tup xs)):SqT K H a xs:=.inl (.inl h)
def Inv.list (I:Inv X pins σ H s)(h:SqL X.K H a xs):∃c:List Value,Vals xs c/\PlainL s.heap a c.toArray/\xs.length<=sizeLine:=by
 rcases h with h|⟨o,c,n,d,f,hd,g,hz,r⟩
 ·obtain⟨z,c,n,r,e⟩:=h.ok I.hok;exact⟨c,r,⟨_,n,e,rfl,rfl,rfl⟩,z⟩
 ·refine⟨c.toList,r,⟨o,n,I.kIn a o d,f,hd,by simpa using g⟩,?_⟩
  have e:=r.length;simp only[bF]at e;omega
def Inv.tuple (I:Inv X pins σ H s)(h:SqT X.K H a xs):∃c:List Value,Vals xs c/\IsTup s.heap a c.toArray/\xs.length<=sizeLine:=by
 rcases h with h|⟨o,c,n,d,f,g,hz,r⟩
 ·obtain⟨z,c,r,p,_⟩:=h.ok I.hok;exact⟨c,r,p,z⟩
 ·refine⟨c.toList,r,⟨o,I.kIn a o d,f,n,by simpa using g⟩,?_⟩
  have e:=r.length;simp only[bF]at e;omega
def Inv.list_inj (I:Inv X pins σ H s)(h:SqL X.K H a xs)(h':SqL X.K H a ys):xs=ys:=by
 obtain⟨j,r,⟨o,n,e,_,_,d⟩,_⟩:=I.list h;obtain⟨f,i,⟨l,k,g,_,_,c⟩,_⟩:=I.list h';rw[e]at g;cases g;rw[d]at c;injection c with d1 _;have:=by simpa using congrArg Array.toList d1
 subst this;exact r.inj i
def Inv.tuple_inj (I:Inv X pins σ H s)(h:SqT X.K H a xs)(h':SqT X.K H a ys):xs=ys:=by
 obtain⟨j,r,⟨o,e,_,n,d⟩,_⟩:=I.tuple h;obtain⟨f,i,⟨l,g,_,k,c⟩,_⟩:=I.tuple h';rw[e]at g;cases g;rw[d]at c;injection c with d1 _;have:=by simpa using congrArg Array.toList d1
 subst this;exact r.inj i
end
noncomputable abbrev Cx.wish (X:Cx)(E:Value->Shared->Prop):Cx:={X with xe:=E}
abbrev Cx.nox (X:Cx):Cx:=X.wish λ_ _=>False
theorem Cx.Ok.wish {X:Cx}(ok:X.Ok)(E:Value->Shared->Prop):(X.wish E).Ok:=
 ⟨ok.mod,ok.kind,ok.glob,ok.blt,ok.above,ok.inj,ok.has,ok.cab,ok.hd,ok.frames,ok.stk,ok.exf,ok.bs,ok.bsz,ok.noex,ok.exfs,ok.funs,ok.frf⟩
def Cx.Ok.unwish {X:Cx}{E:Value->Shared->Prop}(ok:(X.wish E).Ok):X.Ok:=
 ⟨ok.mod,ok.kind,ok.glob,ok.blt,ok.above,ok.inj,ok.has,ok.cab,ok.hd,ok.frames,ok.stk,ok.exf,ok.bs,ok.bsz,ok.noex,ok.exfs,ok.funs,ok.frf⟩
section
variable {X:Cx}{pins:List (Addr×Obj)}{σ:St}{H:Hp}{s:Shared}{E:Value->Shared->Prop}
theorem Inv.wish (I:Inv X pins σ H s)(E:Value->Shared->Prop):Inv (X.wish E) pins σ H s:=⟨I.ok.wish E,I.os,I.bare,I.base,I.loc,I.cell,I.free,I.freeC,I.pin,I.hok,I.len⟩
theorem Inv.unwish (I:Inv (X.wish E) pins σ H s):Inv X pins σ H s:=⟨I.ok.unwish,I.os,I.bare,I.base,I.loc,I.cell,I.free,I.freeC,I.pin,I.hok,I.len⟩
theorem SP.unwish {D:Vb}{f:Flow}{c:Shared}(h:SP (X.wish E) pins D f c):SP X pins D f c:=by
 cases f with
 |next=>obtain⟨σ',a,I,q⟩:=h;exact⟨σ',a,I.unwish,q⟩
 |brk=>obtain⟨σ',a,I,q⟩:=h;exact⟨σ',a,I.unwish,q⟩
 |cont=>obtain⟨σ',a,I,q⟩:=h;exact⟨σ',a,I.unwish,q⟩
 |ret u=>obtain⟨v,σ',a,I,r,q⟩:=h;exact⟨v,σ',a,I.unwish,r,q⟩
theorem PSs.nox {st:List Stmt}{t:TS}(h:PSs X.nox st t):PSs X st t:=λpins s σ H D I a=>
 cI (h _ s σ H D (I.wish _) a) (λ_ _ q=>q.unwish) λ_ _ z=>dC z
end
section
variable {X:Cx}{st:Stmt}{rest:List Stmt}{t u:TS}{e:Expr}{te:TE}{pos:Pos}
def yR:TS:=λD a H=>D.nx a H
def Gp (t u:TS):TS:=λD a H=>t {D with nx:=u D} a H
def Wa:PSs X [] yR:=λ_ _ a H _ I h=>wpAny_execs_nil ⟨a,H,I,h⟩
def zX (i:PS X st t)(g:PSs X rest u):PSs X (st::rest) (Gp t u):=by
 intro a s j H D I h;refine wpAny_execs_cons (mN (i _ s j H _ I h) λf c q=>?_);cases f with
 |next=>
  obtain⟨σ',d,k,q⟩:=q;exact g _ c σ' d D k q
 |ret v=>exact q
 |brk=>exact q
 |cont=>exact q
def ZN (c:PS X st t):PSs X [st] t:=by
 intro a s d H D I h;refine wpAny_execs_cons (mN (c _ s d H D I h) λf g q=>?_);cases f with
 |next=>exact wpAny_execs_nil q
 |ret v=>exact q
 |brk=>exact q
 |cont=>exact q
def Inv.quiet {a:List (Addr×Obj)}{c:St}{H:Hp}{s:Shared}(I:Inv X a c H s):interactive X.env=false:=by simp[interactive,I.ok.kind]
def XV (te:TE):TS:=λD a H=>te a H λ_ c=>D.nx a c
def jz (j:PE X e te)(i:swapsWith e none pos.line X.env=pure false:=by rfl):PS X (.Expr e pos) (XV te):=by
 intro c s a H D I h;exact wpAny_Expr_any (mN (j _ s a H _ I h) λv l ⟨x,f,d,k,g⟩=>⟨a,f,d,g⟩) I.quiet i
def Gq (te:TE):TS:=λD a H=>te a H D.rt
def Jh (j:PE X e te):PS X (.Return (some e) pos) (Gq te):=by
 intro a s c H D I h;exact wpAny_Return_some (mN (j _ s c H _ I h) λv k ⟨x,i,g,f,d⟩=>⟨x,c,i,g,f,d⟩)
def gZ (c:TT)(t u:TS):TS:=λD a H=>c a H λb d=>if b=true then t D a d else u D a d
def Vr {c:Expr}{a b:List Stmt}{tc:TT}(q:PT X c tc)(p:PSs X a t)(o:PSs X b u):PS X (.If c a b pos) (gZ tc t u):=by
 intro l s f H D I h;refine wpAny_If (mN (q _ s f H _ I h) λd k ⟨i,g,j⟩=>?_);cases d with
 |true=>exact p _ k f i D g j
 |false=>exact o _ k f i D g j
end
abbrev TG:=V->St->Hp->(St->Hp->Prop)->Prop
abbrev pP:=List V->St->Hp->(St->Hp->Prop)->Prop
def PG (X:Cx)(a:Expr)(t:TG):Prop:=
 ∀(c:List (Addr×Obj)) (s:Shared) (e:St) (H:Hp) (v:V) (u:Value) (Q:St->Hp->Prop),Inv X c e H s->RelV v u->t v e H Q->
  wpAny 07 X.A (assign a X.env u) (λ_ f=>∃σ' d,Inv X c σ' d f/\Q σ' d) X.xe s
def tQ (X:Cx)(ts:List Expr)(t:pP):Prop:=
 ∀(a:List (Addr×Obj)) (s:Shared) (e:St) (H:Hp) (vs:List V) (d:List Value) (Q:St->Hp->Prop),Inv X a e H s->Vals vs d->t vs e H Q->
  wpAny 07 X.A (assignInOrder ((assignEach ts X.env).map (·.2)) d) (λ_ f=>∃σ' c,Inv X a σ' c f/\Q σ' c) X.xe s
abbrev t9:=V->V->V->Hp->(Hp->Prop)->Prop
def sv (X:Cx)(t:t9):Prop:=
 ∀(a:List (Addr×Obj)) (s:Shared) (d:St) (H:Hp) (o i v:V) (e iv u:Value) (Q:Hp->Prop),Inv X a d H s->RelV o e->RelV i iv->RelV v u->t o i v H Q->
  wpAny 07 X.A (setItem e iv u) (λ_ f=>∃c,Inv X a d c f/\Q c) X.xe s
section
variable {X:Cx}{pos:Pos}
def Zh (i:Nat):TG:=λv a H Q=>Q (a.set i (some v)) H
def Z4 {i:Nat}{x:Str}(e:X.N.Nodup)(hi:X.N[i]?=some x)(c:Loc X.env.scope x)(f:X.fn x=true\/X.env.scope.names.lookup x=some .local:=by first|exact .inl rfl|exact .inr rfl|assumption):PG X (.Name x pos) (Zh i):=by
 intro a s g H v u Q I r h;exact wpAny_assign_Name (Jx I e hi c r (λj d=>⟨_,H,d,h⟩) f)
def G1:pP:=λvs a H Q=>vs=[]/\Q a H
def jV (t:TG)(u:pP):pP:=λvs c H Q=>∃v r,vs=v::r/\t v c H λσ' a=>u r σ' a Q
def JO:tQ X [] G1:=by
 intro a s c H vs d Q I r h;obtain⟨e,h⟩:=h;exact assignInOrder_nil ⟨c,H,I,h⟩
def Zb {e:Expr}{a:List Expr}{t:TG}{u:pP}(k:PG X e t)(f:tQ X a u)
  (p:(assignEach (e::a) X.env).map (·.2)=assign e X.env::(assignEach a X.env).map (·.2):=by rfl):tQ X (e::a) (jV t u):=by
 intro d s l H vs x Q I r h;obtain⟨v,y,i,h⟩:=h;subst i;cases r with
 |cons r w=>
  rw[p];refine assignInOrder_cons (mN (k _ s l H _ _ _ I r h) λ_ q ⟨c,j,g,o⟩=>?_);exact f _ q c j _ _ Q g w o
def X4 (K:aj)(n:Nat)(t:pP):TG:=λv c H Q=>∃a xs,v=.ref a/\SqT K H a xs/\xs.length=n/\t xs c H Q
def WU {c:List Expr}{k:Nat}{t:pP}{n:Nat}(C:X.calm=true)(h:tQ X c t)
  (hn:(assignEach c X.env).length=n:=by rfl) (f:(assignEach c X.env).findIdx? (·.1)=none:=by rfl):PG X (.Tuple c k pos) (X4 X.K n t):=by
 intro j s i H v u Q I r d;obtain⟨a,xs,y,p,B,d⟩:=d;subst y;cases r;obtain⟨w,g,l,hz⟩:=I.tuple p;refine assign_Tuple_tuple (I.ok.hd C) l (by simp[hn,←B,g.length]) f λh' q=>?_
 have x:Inv X _ i H {s with heap:=h'}:=I.kept λb o e=>q b o (aD (av e)) e;exact h _ _ i H xs _ Q x (by simpa using g) d
def tL (d c:TE)(t:t9):TG:=λv a H Q=>d a H λo e=>c a e λi f=>t o i v f λH3=>Q a H3
def YJ {o i:Expr}{d e:TE}{t:t9}(G:PE X o d)(hi:PE X i e)(F:sv X t)
  (M:∀v,assign (.Subscript o i pos) X.env v=(do
   let a ←holding [v] (eval o X.env)
   let iv ←holding [v,a] (eval i X.env)
   standAt pos
   holding [v,a,iv] (setItem a iv v)
   release [v,a,iv] []):=by intro _;rfl):PG X (.Subscript o i pos) (tL d e t):=by
 intro f s c H v u Q I r h;refine a8 (bp (mN (G _ s c H _ I h) λa p ⟨x,g,C,B,l⟩=>?_));refine a8 (bp (mN (hi _ p c g _ C l) λiv D ⟨y,k,J,j,q⟩=>?_));refine a8 (d_ (a8 (bp (mN (F _ D c k x y v a iv u _ J B j r q) λ_ N ⟨H3,w,L⟩=>?_))));exact wpAny_release ⟨c,H3,w,L⟩
def XW (te:TE)(g:TG):TS:=λD a H=>te a H λx c=>g x a c D.nx
def YK {a e:Expr}{te:TE}{g:TG}(u:PE X e te)(w:PG X a g)(r:swapsWithSole [a] e pos.line X.env=pure false:=by rfl)(k:swappedStores [a] e X.env=pure none:=by rfl)
  (l:(assignEach [a] X.env).map (·.2)=[assign a X.env]:=by rfl):PS X (.Assign [a] e pos) (XW te g):=by
 intro d s c H D I h;refine wpAny_Assign_stores (mN (u _ s c H _ I h) λv p ⟨x,j,i,f,o⟩=>?_) r k;rw[l];exact mN (w _ p c j x v _ i f o) λ_ y q=>q
def JP {i:Nat}{x:Str}{e:Expr}{te:TE}{a:Pos}(p:X.N.Nodup)(hi:X.N[i]?=some x)(j:Loc X.env.scope x)(r:PE X e te)(o:swapsWith e (some (.Name x a)) pos.line X.env=pure false:=by rfl)(q:X.fn x=true\/X.env.scope.names.lookup x=some .local:=by first|exact .inl rfl|exact .inr rfl|assumption):
  PS X (.Assign [.Name x a] e pos) (XW te (Zh i)):=by
 intro c s k H D I h;refine wpAny_Assign_Name (mN (r _ s k H _ I h) λv B ⟨y,g,f,d,l⟩=>?_) o;exact Jx f p hi j d (λw u=>⟨_,g,u,l⟩) q
def Da (i j:Nat)(d:TA):TS:=λD a H=>d a H λvs c=>∃v w,vs=[v,w]/\D.nx ((a.set i (some v)).set j (some w)) c
def Gr {i j:Nat}{x y:Str}{a b:Expr}{C:TA}{k r pt:Pos}{kt k2 pt2}(hc:X.calm=true)(G:X.N.Nodup)(hi:X.N[i]?=some x)(O:X.N[j]?=some y)(d:i≠j)
  (F:X.env.scope.names.lookup x=some .local) (hy:X.env.scope.names.lookup y=some .local) (ha:PA X [a,b] C)
  (P:swappedStores [.Tuple [.Name x k,.Name y r] kt pt] (.Tuple [a,b] k2 pt2) X.env=pure (some [x,y]))
  (hs:swapsWithSole [.Tuple [.Name x k,.Name y r] kt pt] (.Tuple [a,b] k2 pt2) pos.line X.env=pure false:=by rfl):
  PS X (.Assign [.Tuple [.Name x k,.Name y r] kt pt] (.Tuple [a,b] k2 pt2) pos) (Da i j C):=by
 intro M s L H D I h;refine a8 (d_ ?_);refine a8 (ac ?_);refine a8 (Tuple_ (mN (ha _ _ s L H _ I h) λus g ⟨vs,B,I1,Z,f⟩=>?_));obtain⟨v,w,e1,f⟩:=f;subst e1;obtain⟨u1,c,rfl,Q,u⟩:∃u1 c,us=[u1,c]/\RelV v u1/\RelV w c:=by
  cases Z with
  |cons p q=>
   cases q with
   |cons U q'=>
    cases q';exact⟨_,_,rfl,p,U⟩
 refine aO ?_ (by show 2<=sizeLine;decide)
 have I2:Inv X _ L B {g with heap:=g.heap.push {cls:=.type "tuple",data:=.seq [u1,c].toArray} }:=I1.kept λb o e=>aa _ e;rw[P];refine a8 (ac ?_);refine a8 (df (a8 (unpackItems_tuple (items:=#[u1,c]) (I.ok.hd hc) (IsTup.new _ _) λh' l=>?_)));have S:=I2.kept (t':=g.toks) λb o e=>l b o (aD (av e)) e;refine a8 (assignInOrder_cons (wpAny_bindName (Jx S G O (.inl hy) u (λs2 I4=>?_) (.inr hy))));refine assignInOrder_cons (wpAny_bindName (Jx I4 G hi (.inl F) Q (λs3 J=>assignInOrder_nil (ac ?_)) (.inr F)));rw[List.set_comm _ _ (aT d)]at J;exact⟨_,B,J,f⟩
end
section
variable {X:Cx}{pos:Pos}
def Gs (c:TT)(tb:TS):TS:=λD a H=>∃W:Nat->St->Hp->Prop,(∃m,W m a H)/\∀m a H,W m a H->
 c a H λb e=>if b=true then ∃N:St->Hp->Prop,(∀σ' d,N σ' d->∃f,f<m/\W f σ' d)/\tb {D with nx:=N,ct:=N,bk:=D.nx} a e else D.nx a e
def Vs {c:Expr}{e:List Stmt}{tc:TT}{tb:TS}(hp:PassesOwn 07 X.A X.env X.xe)(P:PT X c tc)(O:PSs X e tb):PS X (.While c e [] pos) (Gs tc tb):=by
 intro y s M H D I h;obtain⟨W,⟨F,w0⟩,g⟩:=h;refine wpAny_While (codeAny_whileLoop (λn G=>∃σ' x,Inv X _ σ' x G/\W n σ' x) ?_ F ⟨M,H,I,w0⟩)
 rintro n C ⟨d,q,J,w1⟩
 refine cU hp (mN (P _ C d q _ J (g n d q w1)) λb L ⟨r,B,i⟩=>?_);cases b with
 |true=>
  obtain⟨N,u,i⟩:=i;refine cU hp (mN (O _ L d r _ B i) λf Q j=>?_);cases f with
  |next=>
   obtain⟨a,H3,o,l⟩:=j;obtain⟨p,k,w3⟩:=u a H3 l;exact⟨p,k,a,H3,o,w3⟩
  |cont=>
   obtain⟨a,H3,o,l⟩:=j;obtain⟨p,k,w3⟩:=u a H3 l;exact⟨p,k,a,H3,o,w3⟩
  |brk=>exact j
  |ret v=>exact j
 |false=>
  exact wpAny_execs_nil ⟨d,r,B,i⟩
end
structure It where
 go:Nat->Hp->Prop
 yld:Nat->Hp->V->Hp->Prop
 stop:Nat->Hp->Prop
def wF (X:Cx)(a:List (Addr×Obj))(H:Hp)(b:Addr):Prop:=
 H b=none/\b≠X.env.locals/\b∉X.fs/\(b∈X.ex\/X.s₀.1.1.size<=b)/\(∀x c,X.env.cells.lookup x=some c->c≠b)/\∀p∈X.pn++a,p.1≠b
def Inv.fpOk {X:Cx}{a:List (Addr×Obj)}{g:St}{H f:Hp}{s:Shared}{b:Addr}(I:Inv X a g H s)(d:s.1.1.size<=b)(hn:f b=none):wF X a f b:=by
 refine⟨hn,cM (aL I.lt d),I.nofs d,.inr (aC I.sz d),λx c e z=>?_,λp hp z=>?_⟩
 ·obtain⟨v,q⟩:=I.cell x c e;exact absurd (aL q.lt (by rw[z];exact d)) (bo _)
 ·exact absurd (aL (av (I.pin p hp).1) (by rw[z];exact d)) (bo _)
structure Uw (P:Program) (w:World) (K:aj) (tg:Expr) (J:It) (fp:List Addr) (it:Addr) (tn:Nat->Heap->Prop):Prop where
 mem:it∈fp
 obj:∀i h,tn i h->∀b∈fp,∃o,h.get? b=some o/\∀v,o.data≠.cell v
 keep:∀i h h',tn i h->(∀b∈fp,∀o,h.get? b=some o->h'.get? b=some o)->tn i h'
 item:∀(X:Cx),X.prog=P->X.w=w->X.K=K->X.calm=true->∀(i:Nat) (pins:List (Addr×Obj)) (s:Shared) (σ:St) (H:Hp) (E:Value->Shared->Prop),Inv X pins σ H s->(∀b∈fp,wF X pins H b)->tn i s.heap->J.go i H->
  wpAny (model P w) X.A (pyNext (.ref it)) (λr s1=>∃u,r=some u/\
   wpAny (model P w) X.A (letOwnedTupleGo tg (.ref it) u) (λ_ s2=>∃x H',Inv X pins σ H' s2/\RelV x u/\J.yld i H x H'/\tn (i+1) s2.heap/\∀b∈fp,H' b=none) E s1) E s
 done:∀(X:Cx),X.prog=P->X.w=w->X.K=K->X.calm=true->∀(i:Nat) (pins:List (Addr×Obj)) (s:Shared) (σ:St) (H:Hp) (E:Value->Shared->Prop),Inv X pins σ H s->(∀b∈fp,wF X pins H b)->tn i s.heap->J.stop i H->
  wpAny (model P w) X.A (pyNext (.ref it)) (λr s1=>r=none/\Inv X pins σ H s1) E s
 self:∀(A:Around) (i:Nat) (s:Shared) (Q:Value->Shared->Prop) (E:Value->Shared->Prop),tn i s.heap->Q (.ref it) s->wpAny (model P w) A (pyIter (.ref it)) Q E s
abbrev TI:=St->Hp->(It->Hp->Prop)->Prop
def ED (X:Cx)(a:List (Addr×Obj))(i:St)(g:Expr)(R:It->Hp->Prop)(d:Value)(f:Shared):Prop:=
 ∃(it:Addr) (fp:List Addr) (e:Nat->Heap->Prop) (J:It) (c:Hp),d=.ref it/\Inv X a i c f/\Uw X.prog X.w X.K g J fp it e/\e 0 f.heap/\(∀b∈fp,wF X a c b)/\R J c
def PI (X:Cx)(e iter:Expr)(f:TI):Prop:=
 ∀(a:List (Addr×Obj)) (s:Shared) (c:St) (H:Hp) (R:It->Hp->Prop),Inv X a c H s->f c H R->
  wpAny 07 X.A (eval iter X.env) (λv d=>wpAny 07 X.A (pyIter v) (ED X a c e R) X.xe d) X.xe s
def yS {M:Model}{A:Around}{E:Value->Shared->Prop}{s:Shared}{c:Expr}{it:Addr}{u:Value}{o:Obj}{n:String}{vs:Array Value}{Q:Unit->Shared->Prop}(d:s.heap.get? it=some o)(e:o.cls=.type n)(hd:o.data=.fields vs)
  (hn:["enumerate","zip","dict_itemiterator","dict_reverseitemiterator","odict_iterator","itertools.zip_longest","itertools.pairwise"].contains n=false) (a:Q () s):wpAny M A (letOwnedTupleGo c (.ref it) u) Q E s:=by
 cases c<;>first
  |exact ac a
  |(cases u<;>first
    |exact ac a
    |(refine a8 (wpAny_load d ?_);rw[e,hd];show wpAny M A (if (["enumerate","zip","dict_itemiterator","dict_reverseitemiterator","odict_iterator","itertools.zip_longest","itertools.pairwise"].contains n&&vs[0]?==some _)=true then _ else _) Q E s;rw[if_neg (by intro h;rw[hn]at h;cases h)];exact ac a))
def oX (K:aj)(a:Addr):It:=
 ⟨λi H=>∃xs x,SqL K H a xs/\xs[i]?=some x,λi H x c=>c=H/\∀xs,SqL K H a xs->xs[i]?=some x,λi H=>∃xs,SqL K H a xs/\xs.length<=i⟩
def tj (K:aj)(a:Addr):It:=
 ⟨λi H=>∃xs x,SqT K H a xs/\xs[i]?=some x,λi H x c=>c=H/\∀xs,SqT K H a xs->xs[i]?=some x,λi H=>∃xs,SqT K H a xs/\xs.length<=i⟩
noncomputable def rF (lo:Int)(n:Nat):It:=⟨λi _=>i<n,λi H x a=>a=H/\x=.int (lo+i),λi _=>n<=i⟩
def WV {P:Program}{w:World}{K:aj}{tg:Expr}(a it:Addr):Uw P w K tg (oX K a) [it] it (λi h=>h.IsListIter it a i) where
 mem:=by simp
 obj:=λi h st b g=>by
  have e:b=it:=by simpa using g
  subst e;obtain⟨o,e,c,d⟩:=st;exact⟨o,e,λv z=>by rw[d]at z;cases z⟩
 keep:=λi h h' st k=>st.at λo e=>k it (by simp) o e
 item:=by
  intro X F r G S i f s Q H E I q st O;subst F r G;obtain⟨xs,x,l,B⟩:=O;obtain⟨C,y,p,hz⟩:=I.list l;obtain⟨u,U,Z⟩:=y.get B;obtain⟨M,J,f2,N,L,D⟩:=q it (by simp)
  refine wpAny_pyNext_list_item st p.isList (x:=u) (by simpa using U) λh' j sb=>?_
  have I1:Inv X f Q H {s with heap:=h'}:=I.turned (t':=s.toks) (λb o g e=>(sb.2 b g).trans e) M J N L D;obtain⟨o,e,c,d⟩:=id j;exact⟨u,rfl,yS (s:={s with heap:=h'}) e c d 01 ⟨x,H,I1,Z,⟨rfl,λys hy=>by rw[I.list_inj hy l];exact B⟩,j,λb g=>(q b g).1⟩⟩
 done:=by
  intro X F r G S i f s Q H E I q st O;subst F r G;obtain⟨xs,l,B⟩:=O;obtain⟨C,y,p,hz⟩:=I.list l;obtain⟨M,J,f2,N,L,D⟩:=q it (by simp)
  have hl:=y.length;exact wpAny_pyNext_list_end (I.ok.hd S) st p.isList (by simp;omega) λh' eb=>⟨rfl,I.turned (t':=s.toks) (λb o g e=>eb b o g e) M J N L D⟩
 self:=λ_ _ _ _ _ st h=>wpAny_pyIter_listiter st h
def wN {P:Program}{w:World}{K:aj}{tg:Expr}(a it:Addr):Uw P w K tg (tj K a) [it] it (λi h=>h.IsTupleIter it a i) where
 mem:=by simp
 obj:=λi h st b j=>by
  have e:b=it:=by simpa using j
  subst e;obtain⟨o,e,c,d⟩:=st;exact⟨o,e,λv z=>by rw[d]at z;cases z⟩
 keep:=λi h h' st k=>st.at λo e=>k it (by simp) o e
 item:=by
  intro X F y G S i f s Q H E I r st O;subst F y G;obtain⟨xs,x,q,C⟩:=O;obtain⟨g,B,p,hz⟩:=I.tuple q;obtain⟨u,U,Z⟩:=B.get C;obtain⟨M,J,f2,N,L,D⟩:=r it (by simp)
  refine wpAny_pyNext_tuple_item st (show s.heap.IsTuple a g.toArray from p) (x:=u) (by simpa using U) λh' l sb=>?_
  have I1:Inv X f Q H {s with heap:=h'}:=I.turned (t':=s.toks) (λb o j e=>(sb.2 b j).trans e) M J N L D;obtain⟨o,e,c,d⟩:=id l;exact⟨u,rfl,yS (s:={s with heap:=h'}) e c d 01 ⟨x,H,I1,Z,⟨rfl,λys hy=>by rw[I.tuple_inj hy q];exact C⟩,l,λb j=>(r b j).1⟩⟩
 done:=by
  intro X F y G S i f s Q H E I r st O;subst F y G;obtain⟨xs,q,C⟩:=O;obtain⟨g,B,p,hz⟩:=I.tuple q;obtain⟨M,J,f2,N,L,D⟩:=r it (by simp)
  have hl:=B.length;exact wpAny_pyNext_tuple_end (I.ok.hd S) st (show s.heap.IsTuple a g.toArray from p) (by simp;omega) λh' eb=>⟨rfl,I.turned (t':=s.toks) (λb o j e=>eb b o j e) M J N L D⟩
 self:=λ_ _ _ _ _ st h=>wpAny_pyIter_tupleiter st h
def yT {P:Program}{w:World}{K:aj}{J:Expr}(it:Addr)(lo:Int)(n:Nat):Uw P w K J (rF lo n) [it] it (λi h=>IsRangeIter h it (lo+(i:Nat)*1) ((n:Int)-(i:Nat)) 1) where
 mem:=by simp
 obj:=λi h st b c=>by
  have e:b=it:=by simpa using c
  subst e;exact⟨_,st,λv z=>by
   have F:Data.fields _=Data.cell v:=z;cases F⟩
 keep:=λi h h' st k=>k it (by simp) _ st
 item:=by
  intro X l g p y i a s C H E I f st B;subst l g p;obtain⟨u,q,L,x,r,j⟩:=f it (by simp)
  have W:=Walks.range (prog:=X.prog) (w:=X.w) (I.ok.hd y) it lo 1 n;refine W.item i s _ _ B st λv h' tk N d D=>?_;obtain⟨t,rfl⟩:=N;have G:Inv X a C H {s with heap:=h',toks:=tk}:=I.turned (λb o c e=>D b o (by simpa using c) e) u q x r j
  refine⟨_,rfl,yS (s:={s with heap:=h',toks:=tk}) (n:="range_iterator") d rfl rfl 01 ⟨.int (lo+i),H,G,⟨t,?_⟩,⟨rfl,rfl⟩,d,λb c=>(f b c).1⟩⟩
  rw[mo]
 done:=by
  intro X l g p y i a s C H E I f st B;subst l g p;obtain⟨u,q,L,x,r,j⟩:=f it (by simp)
  exact wpAny_pyNext_range_end (I.ok.hd y) st (by have:n<=i:=B;omega) λh' M=>⟨rfl,I.turned (t':=s.toks) (λb o c e=>M b o c e) u q x r j⟩
 self:=λ_ _ _ _ _ st h=>wpAny_pyIter_rangeiter st h
end L2
namespace L2
open PySem PySem.Spec PyProof.Rows
section
variable {X:Cx}{tg:Expr}
def Ux {a:List (Addr×Obj)}{d:St}{H:Hp}{s:Shared}{R:It->Hp->Prop}{E:Value->Shared->Prop}{lo hi:Int}{t u v:Tok}{tk:Nat}(I:Inv X a d H s)(k: -(2^62)<=lo)(f:lo<2^62)(g: -(2^62)<=hi)(p:hi<2^62)
  (q:R (rF lo (hi-lo).toNat) H):wpAny 07 X.A (pyIter (.ref s.1.1.size)) (ED X a d tg R) E {s with heap:=s.heap.push {cls:=.type "range",data:=.fields #[.int lo t,.int hi u,.int 1 v]},toks:=tk}:=by
 refine wpAny_pyIter_range (IsRange.new ..) (small_one k f g p) ?_;have c:Inv X _ d H {s with heap:=s.heap.push {cls:=.type "range",data:=.fields #[.int lo t,.int hi u,.int 1 v]},toks:=tk}:=I.kept λb o e=>aa _ e;refine⟨(s.heap.push _).objs.size,[(s.heap.push _).objs.size],_,_,H,rfl,
  c.kept λb o e=>aa _ e,yT _ lo _,?_,λb l=>?_,q⟩
 ·have j:lo+((0:Nat))*1=lo:=by simp
  have i:(((hi-lo).toNat):Int)-((0:Nat))=ic lo hi 1:=by rw[rangeSize_one];split<;>omega
  rw[j,i];exact ai _ rfl
 ·have e:b=(s.heap.push {cls:=.type "range",data:=.fields #[.int lo t,.int hi u,.int 1 v]}).objs.size:=by simpa using l
  subst e;exact c.fpOk (aq _) (c.hok.fresh (aq _))
def Lc (a:TA):TI:=λc H R=>a c H λvs d=>∃j:Int,vs=[.int j]/\ -(2^62)<=j/\j<2^62/\R (rF 0 j.toNat) d
def Hg (c:TA):TI:=λd H R=>c d H λvs a=>∃i j:Int,vs=[.int i,.int j]/\(-(2^62)<=i/\i<2^62/\ -(2^62)<=j/\j<2^62)/\R (rF i (j-i).toNat) a
def YL {a:Expr}{d:TA}{p pos:Pos}(x:Gl X "range")(k:X.mg "range"=none)(v:PA X [a] d)(o:starEach [a] X.env=[(false,eval a X.env)]:=by rfl):PI X tg (.Call (.Name "range" p) [a] [] pos) (Lc d):=by
 intro f s l H R I h;refine Call_ (j4 I x k boot_range (bg (mN (v pos _ s l H _ I h) λB C ⟨vs,y,i,g,c⟩=>?_) o rfl));obtain⟨j,e,c,u,q⟩:=c;subst e;cases g with
 |cons r w=>
  cases w;obtain⟨t,rfl⟩:=r;exact call_range_1 (Ux i 00 00 c u (by simpa using q))
def YM {a b:Expr}{g:TA}{p pos:Pos}(D:Gl X "range")(l:X.mg "range"=none)(C:PA X [a,b] g)(y:starEach [a,b] X.env=[(false,eval a X.env),(false,eval b X.env)]:=by rfl)(c:starEach [b] X.env=[(false,eval b X.env)]:=by rfl):
  PI X tg (.Call (.Name "range" p) [a,b] [] pos) (Hg g):=by
 intro k s x H R I h;refine Call_ (j4 I D l boot_range (bg (mN (C pos _ s x H _ I h) λL J ⟨vs,G,w,v,d⟩=>?_) (by rw[y,c]) (by rw[c];rfl)))
 obtain⟨i,j,e,⟨d,o,F,u⟩,q⟩:=d;subst e;cases v with
 |cons r f=>
  cases f with
  |cons B f=>
   cases f;obtain⟨t,rfl⟩:=r;obtain⟨t',rfl⟩:=B;exact call_range_2 (Ux w d o F u q)
def C6 (j:TI)(g:TG)(tb:TS):TS:=λD a H=>j a H λJ f=>∃W:Nat->Nat->St->Hp->Prop,(∃m,W 0 m a f)/\∀i m a H,W i m a H->
 (J.stop i H/\D.nx a H)\/(J.go i H/\∃N:St->Hp->Prop,(∀σ' c,N σ' c->∃e,e<m/\W (i+1) e σ' c)/\∀x c,J.yld i H x c->g x a c λd k=>tb {D with nx:=N,ct:=N,bk:=D.nx} d k)
noncomputable def Uy (fp:List Addr)(h:Heap):List (Addr×Obj):=fp.filterMap λb=>(h.get? b).map λo=>(b,o)
def jl {fp:List Addr}{h:Heap}{b:Addr}{o:Obj}(a:b∈fp)(e:h.get? b=some o):(b,o)∈Uy fp h:=la.mpr ⟨b,a,by rw[e];rfl⟩
def YN {fp:List Addr}{h:Heap}{p:Addr×Obj}(hp:p∈Uy fp h):p.1∈fp/\h.get? p.1=some p.2:=by
 obtain⟨b,a,e⟩:=la.mp hp;cases q:h.get? b with
 |none=>rw[q]at e;cases e
 |some o=>
  rw[q]at e;have c:=aF e;subst c;exact⟨a,q⟩
def Inv.pinned {a:List (Addr×Obj)}{c:St}{H:Hp}{s:Shared}{fp:List Addr}(I:Inv X a c H s)(j:∀b∈fp,wF X a H b)(i:∀b∈fp,∃o,s.heap.get? b=some o/\∀v,o.data≠.cell v):Inv X (a++Uy fp s.heap) c H s:=
 I.pins_of λp hp=>(bI.mp hp).elim (λz=>I.pin p (bz _ z)) λz=>by
  obtain⟨f,e⟩:=YN z;obtain⟨k,q,l,_⟩:=j p.1 f;obtain⟨o,g,d⟩:=i p.1 f;rw[e]at g;cases g;exact⟨e,k,q,l,d⟩
def Inv.unpinned {a pl:List (Addr×Obj)}{c:St}{H:Hp}{s:Shared}(I:Inv X (a++pl) c H s):Inv X a c H s:=I.pins_of λp hp=>I.pin p (bz _ (fA _ hp))
def YO {iter:Expr}{B:List Stmt}{wi:TI}{g:TG}{tb:TS}{pos:Pos}(hp:PassesOwn 07 X.A X.env X.xe)(hc:X.calm=true)(hi:PI X tg iter wi)(hg:PG X tg g)(j:PSs X B tb)
  (hs:∀x,foldedSetIterable iter X.env x=pure x:=by intro _;rfl):PS X (.For tg iter B [] pos) (C6 wi g tb):=by
 intro P s σ H D I h;refine wpAny_For (mN (hi _ s σ H _ I h) λv s1 h1=>mN h1 λitv s2 h2=>?_) hs;obtain⟨it,fp,tn,J,H2,e,I2,T,nT,f2,W,⟨m0,w0⟩,F⟩:=h2;subst e;have k:∀{q:Hp},(∀b∈fp,q b=none)->∀b∈fp,wF X _ q b:=λhn b j=>⟨hn b j,(f2 b j).2⟩;refine codeAny_forLoop_any (λn s'=>∃i σ' q,Inv X _ σ' q s'/\tn i s'.heap/\(∀b∈fp,q b=none)/\W i n σ' q) ?_ m0 ⟨0,σ,H2,I2,nT,λb j=>(f2 b j).1,w0⟩
 rintro n s3 ⟨i,c,H3,Z,O,M,w3⟩
 rcases F i n c H3 w3 with ⟨G,qn⟩|⟨go,N,hN,step⟩
 ·refine cU hp (mN (T.done X rfl rfl rfl hc i _ s3 c H3 _ Z (k M) O G) λr s4 ⟨hr,I4⟩=>?_);subst hr;exact wpAny_execs_nil ⟨c,H3,I4,qn⟩
 ·refine cU hp (mN (T.item X rfl rfl rfl hc i _ s3 c H3 _ Z (k M) O go) λr s4 ⟨u,hr,h4⟩=>?_);subst hr;refine cU hp (mN h4 λ_ s5 ⟨x,H5,I5,r5,y5,C,S⟩=>?_);have Q:=I5.pinned (k S) (T.obj _ _ C);refine cU hp (mN (hg _ s5 c H5 x u _ Q r5 (step x H5 y5)) λ_ s6 ⟨U,H6,I6,q6⟩=>?_);refine cU hp (mN (j _ s6 U H6 _ I6 q6) λf s7 y=>?_);have again:∀{a:St} {l:Hp},Inv X (P++Uy fp _) a l s7->N a l->∃m,m<n/\∃i σ' q,Inv X _ σ' q s7/\tn i _/\(∀b∈fp,q b=none)/\W i m σ' q:=λ{a l} p L=>by
   obtain⟨m',hm,w7⟩:=hN a l L;refine⟨m',hm,i+1,a,l,p.unpinned,T.keep _ _ _ C λb j o e=>(p.pin _ (bz _ (bz _ (jl j e)))).1,λb j=>?_,w7⟩;obtain⟨o,e,d⟩:=T.obj _ _ C b j;exact(p.pin _ (bz _ (bz _ (jl j e)))).2.1
  cases f with
  |next=>obtain⟨a,l,p,L⟩:=y;exact again p L
  |cont=>obtain⟨a,l,p,L⟩:=y;exact again p L
  |brk=>obtain⟨a,l,p,y⟩:=y;exact⟨a,l,p.unpinned,y⟩
  |ret v=>obtain⟨x7,a,l,p,r7,y⟩:=y;exact⟨x7,a,l,p.unpinned,r7,y⟩
end
end L2
namespace L2
open PySem PySem.Spec PyProof.Rows
abbrev R2:=V->V->Hp->VK->Prop
def nc (X:Cx)(f:Value->Value->Sem Value)(r:R2):Prop:=
 ∀(a:List (Addr×Obj)) (s:Shared) (c:St) (H:Hp) (x y:V) (v u:Value) (Q:VK),Inv X a c H s->RelV x v->RelV y u->r x y H Q->
  wpAny 07 X.A (f v u) (EP X a c Q) X.xe s
def CI (X:Cx)(f:Value->Sem Value)(r:V->Hp->VK->Prop):Prop:=
 ∀(a:List (Addr×Obj)) (s:Shared) (c:St) (H:Hp) (x:V) (v:Value) (Q:VK),Inv X a c H s->RelV x v->r x H Q->
  wpAny 07 X.A (f v) (EP X a c Q) X.xe s
def Zc (X:Cx)(f:Value)(r:List V->Hp->VK->Prop):Prop:=
 ∀(a:List (Addr×Obj)) (s:Shared) (d:St) (H:Hp) (xs:List V) (c:List Value) (Q:VK),Inv X a d H s->Vals xs c->r xs H Q->
  wpAny 07 X.A (call f c) (EP X a d Q) X.xe s
def C1 (X:Cx)(r:V->Hp->(Bool->Hp->Prop)->Prop):Prop:=
 ∀(a:List _) (s:Shared) (c:St) (H:Hp) (x:V) (v:Value) (Q:Bool->Hp->Prop),Inv X a c H s->RelV x v->r x H Q->
  wpAny 07 X.A (truthy v) (TP X a c Q) X.xe s
def nQ (r:R2)(d tb:TE):TE:=λa H Q=>d a H λx c=>tb a c λy e=>r x y e Q
def EJ (r:V->Hp->VK->Prop)(a:TE):TE:=λc H Q=>a c H λx d=>r x d Q
def rI (C:Int->Int->Prop)(g:Int->Int->V):R2:=λx y H Q=>∃i j,x=.int i/\y=.int j/\C i j/\Q (g i j) H
def o7 (g:Int->Int->V):R2:=λx y H Q=>∃i j,x=.int i/\y=.int j/\Q (g i j) H
def rU (g:Int->V):V->Hp->VK->Prop:=λx H Q=>∃i,x=.int i/\Q (g i) H
section
variable {X:Cx}{a b c:Expr}{ta tb tc:TE}{pos:Pos}
def DK (F:PE X a ta)(C:PE X b tb){d:List (Addr×Obj)}{s:Shared}{g:St}{H:Hp}{R:V->V->Hp->Prop}(I:Inv X d g H s)
  (h:ta g H λx l=>tb g l λy e=>R x y e) {Q:Value->Shared->Prop} {f:Value->Value->Sem Value}
  (G:∀v u k x y e,Inv X d g e k->RelV x v->RelV y u->R x y e->wpAny 07 X.A (f v u) Q X.xe k):
  wpAny 07 X.A (eval a X.env) (λv j=>wpAny 07 X.A (eval b X.env) (λu i=>wpAny 07 X.A (f v u) Q X.xe i) X.xe j) X.xe s:=by
 refine mN (F _ s g H _ I h) λv B ⟨x,l,p,o,r⟩=>?_;refine mN (C _ B g l _ p r) λu k ⟨y,e,J,q,D⟩=>?_;exact G v u k x y e J o q D
def Lb {op:Operator}{r:R2}(l:nc X (binaryOp op) r)(o:PE X a ta)(j:PE X b tb):PE X (.BinOp a op b pos) (nQ r ta tb):=by
 intro d s g H Q I h;exact wpAny_BinOp (DK o j I h λv u e x y f p i k q=>l _ e g f x y v u Q p i k q)
def Fy {op:UnaryOp}{r:V->Hp->VK->Prop}(l:CI X (unaryOp op) r)(o:PE X a ta):PE X (.UnaryOp op a pos) (EJ r ta):=by
 intro e s d H Q I h;exact UnaryOp_ (mN (o _ s d H _ I h) λv k ⟨x,i,g,f,j⟩=>l _ k d i x v Q g f j)
def rV {f:Value->Value->Sem Value}{C:Int->Int->Prop}{g:Int->Int->Int}
  (rule:∀(i j:Int) (t u:Tok) (s:Shared) (Q:Value->Shared->Prop) (E:Value->Shared->Prop),C i j->Q (.int (g i j) s.toks) {s with toks:=s.toks+1}->wpAny 07 X.A (f (.int i t) (.int j u)) Q E s):
  nc X f (rI C λi j=>.int (g i j)):=by
 intro d s o H x y v u Q I e k h;obtain⟨i,j,rfl,rfl,l,q⟩:=h;obtain⟨t,rfl⟩:=e;obtain⟨t',rfl⟩:=k;exact rule i j t t' s _ _ l ⟨.int _,H,I.tok _,⟨_,rfl⟩,q⟩
def sT {f:Value->Value->Sem Value}{g:Int->Int->Int}
  (rule:∀(i j:Int) (t u:Tok) (s:Shared) (Q:Value->Shared->Prop) (E:Value->Shared->Prop),Q (.int (g i j) s.toks) {s with toks:=s.toks+1}->wpAny 07 X.A (f (.int i t) (.int j u)) Q E s):
  nc X f (o7 λi j=>.int (g i j)):=by
 intro d s l H x y v u Q I e k h;obtain⟨i,j,rfl,rfl,q⟩:=h;obtain⟨t,rfl⟩:=e;obtain⟨t',rfl⟩:=k;exact rule i j t t' s _ _ ⟨.int _,H,I.tok _,⟨_,rfl⟩,q⟩
def Bi {f:Value->Value->Sem Value}{g:Int->Int->Bool}
  (rule:∀(i j:Int) (t u:Tok) (s:Shared) (Q:Value->Shared->Prop) (E:Value->Shared->Prop),Q (.bool (g i j)) s->wpAny 07 X.A (f (.int i t) (.int j u)) Q E s):
  nc X f (o7 λi j=>.bl (g i j)):=by
 intro d s l H x y v u Q I e k h;obtain⟨i,j,rfl,rfl,q⟩:=h;obtain⟨t,rfl⟩:=e;obtain⟨t',rfl⟩:=k;exact rule i j t t' s _ _ ⟨.bl _,H,I,rfl,q⟩
noncomputable def CB (i j:Int):Prop:=0<j/\j<1073741824
noncomputable def uY (i j:Int):Prop:=(-(2^64)<i/\i<2^64)\/(-(2^64)<j/\j<2^64)
def uY.ok {i j:Int}(h:uY i j):IntMulOk i j:=by
 rcases h with ⟨e,d⟩|⟨e,d⟩
 ·exact .of_left (intBits_le_64 e d)
 ·exact .of_right (intBits_le_64 e d)
def Gu:nc X (binaryOp .Add) (o7 λi j=>.int (i+j)):=sT λ_ _ _ _ _ _ _ q=>add_int q
def Gv:nc X (binaryOp .Sub) (o7 λi j=>.int (i-j)):=sT λ_ _ _ _ _ _ _ q=>sub_int q
def Gw:nc X (binaryOp .Mult) (rI uY λi j=>.int (i*j)):=rV λ_ _ _ _ _ _ _ d q=>mul_int q d.ok
def XX:nc X (binaryOp .FloorDiv) (rI CB λi j=>.int (i/j)):=rV λi j _ _ _ _ _ d q=>by
 have f:=d.1;have e:=d.2;exact floordiv_int 00 (by rw[fR i 00];exact q) (.inl (PyProof.noPylong_small 00))
def Gx:nc X (binaryOp .Mod) (rI (λ_ j=>0<j) λi j=>.int (i%j)):=rV λi j _ _ _ _ _ d q=>by
 exact mod_int' 00 (by rw[Int.fmod_eq_emod_of_nonneg i 00];exact q)
def Hv {f:Value->Sem Value}{g:Int->Int}
  (rule:∀(i:Int) (t:Tok) (s:Shared) (Q:Value->Shared->Prop) (E:Value->Shared->Prop),Q (.int (g i) s.toks) {s with toks:=s.toks+1}->wpAny 07 X.A (f (.int i t)) Q E s):
  CI X f (rU λi=>.int (g i)):=by
 intro d s j H x v Q I e h;obtain⟨i,rfl,q⟩:=h;obtain⟨t,rfl⟩:=e;exact rule i t s _ _ ⟨.int _,H,I.tok _,⟨_,rfl⟩,q⟩
def Gy:CI X (unaryOp .USub) (rU λi=>.int (-i)):=Hv λ_ _ _ _ _ q=>neg_int q
def YQ:nc X (binaryOp .Add) (λx y H Q=>∃i k,x=.int i/\y=.bl k/\Q (.int (i+b2i k)) H):=by
 intro d s g H x y v u Q I e f h;obtain⟨i,k,rfl,rfl,q⟩:=h;obtain⟨t,rfl⟩:=e;cases f;exact add_int_bool ⟨.int _,H,I.tok _,⟨_,rfl⟩,q⟩
end
section
variable {X:Cx}{a b c:Expr}{ta tb tc:TE}{pos:Pos}
def EZ:nc X (compareOp .Lt) (o7 λi j=>.bl (decide (i<j))):=Bi λ_ _ _ _ _ _ _ q=>lt_int q
def HZ:nc X (compareOp .LtE) (o7 λi j=>.bl (decide (i<=j))):=Bi λ_ _ _ _ _ _ _ q=>le_int q
def IL:nc X (compareOp .Gt) (o7 λi j=>.bl (decide (j<i))):=Bi λ_ _ _ _ _ _ _ q=>gt_int q
def Ib:nc X (compareOp .GtE) (o7 λi j=>.bl (decide (j<=i))):=Bi λ_ _ _ _ _ _ _ q=>ge_int q
def jG (b:Expr){op:CmpOp}(h:op≠.In:=by decide)(d:op≠.NotIn:=by decide):behindInMarks op b=false:=by
 have f:(op==CmpOp.In)=false:=by cases op<;>first|rfl|exact absurd rfl h
 have e:(op==CmpOp.NotIn)=false:=by cases op<;>first|rfl|exact absurd rfl d
 cases b<;>simp[behindInMarks,f,e]
def XY {op:CmpOp}{r:R2}(o:nc X (compareOp op) r)(p:PE X a ta)(k:PE X b tb)(e:behindInMarks op b=false):PE X (.Compare a [op] [b] pos) (nQ r ta tb):=by
 intro d s i H Q I h;exact wpAny_Compare1 (DK p k I h λv u f x y g w j l q=>o _ f i g x y v u Q w j l q) e
def yU (t:TE):TT:=λd H Q=>t d H λx e=>∃k,x=.bl k/\Q k e
def U0 {op:CmpOp}{r:R2}(J:nc X (compareOp op) r)(L:PE X a ta)(G:PE X b tb)(j:behindInMarks op b=false):PT X (.Compare a [op] [b] pos) (yU (nQ r ta tb)):=by
 intro f s d H Q I h;refine wpAny_isTrue_Compare1 (mN (L _ s d H _ I h) λv p ⟨x,g,D,C,o⟩=>mN (G _ p d g _ D o) λu F ⟨y,l,M,i,w⟩=>
  mN (J _ F d l x y v u _ M C i w) λc O ⟨z,H3,B,q,k,e,N⟩=>?_) j
 subst e;cases q;exact be ⟨H3,B,N⟩
def X5 (r j:R2)(ta tb tc:TE):TE:=λd H Q=>ta d H λx f=>tb d f λy g=>r x y g λz H3=>∃k,z=.bl k/\
 (if k=true then tc d H3 λi e=>j y i e Q else Q (.bl false) H3)
def Vt {op f:CmpOp}{r p:R2}(ho:nc X (compareOp op) r)(i:nc X (compareOp f) p)(ha:PE X a ta)(hb:PE X b tb)(hc:PE X c tc)
  (C:lastMarks [op,f] [b,c]=false:=by with_unfolding_all rfl):PE X (.Compare a [op,f] [b,c] pos) (X5 r p ta tb tc):=by
 intro o s g H Q I h;refine Compare_chain (mN (ha _ s g H _ I h) λv G ⟨x,B,U,S,F⟩=>chain_link (mN (hb _ G g B _ U F) λu s2 ⟨y,D,I2,j,L⟩=>
  mN (ho _ s2 g D x y v u _ I2 S j L) λd s3 ⟨z,H3,l,J,k,e,q⟩=>?_)) C
 subst e;cases J;refine be ?_;cases k with
 |false=>exact ite_ff ⟨.bl _,H3,l,rfl,q⟩
 |true=>exact ite_tt (chain_last (mN (hc _ s3 g H3 _ l q) λw' P ⟨N,w,Z,O,M⟩=>i _ P g w y N u w' Q Z j O M))
def Vu {op f:CmpOp}{r p:R2}(ho:nc X (compareOp op) r)(i:nc X (compareOp f) p)(ha:PE X a ta)(hb:PE X b tb)(hc:PE X c tc)
  (F:lastMarks [op,f] [b,c]=false:=by with_unfolding_all rfl):PT X (.Compare a [op,f] [b,c] pos) (yU (X5 r p ta tb tc)):=by
 intro o s g H Q I h;refine isTrue_chain (mN (ha _ s g H _ I h) λv M ⟨x,C,I1,r1,L⟩=>test_link (mN (hb _ M g C _ I1 L) λu s2 ⟨y,J,I2,j,O⟩=>
  mN (ho _ s2 g J x y v u _ I2 r1 j O) λd s3 ⟨z,H3,l,N,k,e,q⟩=>?_)) F
 subst e;cases N;refine be ?_;cases k with
 |false=>
  obtain⟨k',e',q'⟩:=q;cases e';exact ite_ff ⟨H3,l,q'⟩
 |true=>
  refine ite_tt (test_last (mN (hc _ s3 g H3 _ l q) λw' Z ⟨S,w,I4,U,P⟩=>mN (i _ Z g w y S u w' _ I4 j U P) λd' s5 ⟨z2,D,I5,r5,k2,B,G⟩=>?_));subst B;cases r5;exact be ⟨D,I5,G⟩
def tI (K:aj)(x:V)(H:Hp)(k:Bool):Prop:=
 match x with
 |.non=>k=false
 |.bl b=>k=b
 |.int i=>k=(i !=0)
 |.str y=>y.length<=sizeLine/\k=((y.length:Int) !=0)
 |.byt y=>y.size<=sizeLine/\k=((y.size:Int) !=0)
 |.ref p=>(∃xs,SqL K H p xs/\k= !xs.isEmpty)\/(∃xs,SqT K H p xs/\k= !xs.isEmpty)\/∃kvs,H p=some (.dK kvs)/\k= !kvs.isEmpty
 |_=>False
def yV {d:Type}{kvs:List (d×V)}{vs:List (d×Value)}(r:KV kvs vs):(!vs.isEmpty)= !kvs.isEmpty:=by
 cases r<;>rfl
def wO {xs:List V}{d:List Value}(r:Vals xs d):(!d.toArray.isEmpty)= !xs.isEmpty:=by
 cases r<;>simp
def WW:(sizeLine:Nat)<2^63:=by decide
def Gz:C1 X (λx H Q=>∃k,tI X.K x H k/\Q k H):=by
 intro o s w H x v Q I g h;obtain⟨k,e,q⟩:=h;have B:=c7;cases x with
 |non=>
  cases g;have d:k=false:=e;subst d;exact truthy_none ⟨H,I,q⟩
 |bl b=>
  cases g;have d:k=b:=e;subst d;exact be ⟨H,I,q⟩
 |int i=>
  obtain⟨t,rfl⟩:=g;have d:k=(i !=0):=e;subst d;exact PySem.P.truthy_int ⟨H,I,q⟩
 |str y=>
  obtain⟨t,rfl⟩:=g;obtain⟨hy,d⟩:y.length<=sizeLine/\k=((y.length:Int) !=0):=e;subst d;exact PySem.P.truthy_str 00 ⟨H,I.tok _,q⟩
 |byt y=>
  obtain⟨t,rfl⟩:=g;obtain⟨hy,d⟩:y.size<=sizeLine/\k=((y.size:Int) !=0):=e;subst d;exact PySem.W.truthy_bytes 00 ⟨H,I.tok _,q⟩
 |ref p=>
  cases g;have d:=e;rcases d with ⟨xs,j,d⟩|⟨xs,j,d⟩|⟨kvs,j,d⟩
  ·subst d;obtain⟨l,r,pl,hz⟩:=I.list j;have f:=r.length;exact wpAny_truthy_list pl.isList (by simp only[aJ];omega) ⟨H,I.tok _,by rw[wO r];exact q⟩
  ·subst d;obtain⟨l,r,pl,hz⟩:=I.tuple j;have f:=r.length;exact truthy_tuple pl (by simp only[aJ];omega) ⟨H,I.tok _,by rw[wO r];exact q⟩
  ·subst d;obtain⟨hz,u,vs,r,m⟩:kvs.length<=sizeLine/\(p==sysModules)=false/\∃vs,KV kvs vs/\s.heap.DictOf _ p vs:=I.hok p _ j;have f:=db r;exact wpAny_truthy_dict u m 00 ⟨H,I.tok _,by rw[yV r];exact q⟩
 |_=>exact(e).elim
def Vv (q:PE X a ta)(r:∀d,isTrue a X.env d=(do let v ←d;standAt a.pos;holding [v] (truthy v))):
  PT X a (λe H Q=>ta e H λx f=>∃k,tI X.K x f k/\Q k f):=by
 intro g s e H Q I h;exact isTrue_plain (mN (q _ s e H _ I h) λv p ⟨x,l,j,i,o⟩=>Gz _ p e l x v Q j i o) (r _)
def yW:nc X (binaryOp .Add) (λx y H Q=>∃i j,x=.str i/\y=.str j/\i.length+j.length<=sizeLine/\Q (.str (i++j)) H):=by
 intro d s g H x y v u Q I e f h;obtain⟨i,j,rfl,rfl,hz,q⟩:=h;obtain⟨t,rfl⟩:=e;obtain⟨t',rfl⟩:=f;exact add_str (λt' tk=>⟨.str _,H,I.tok _,⟨_,rfl⟩,q⟩) hz
def Zk {x:V}{d:List Value}(r:Vals [x] d):∃u,d=[u]/\RelV x u:=by
 cases r with
 |cons e f=>cases f;exact⟨_,rfl,e⟩
def yX {x y:V}{d:List Value}(r:Vals [x,y] d):∃u e,d=[u,e]/\RelV x u/\RelV y e:=by
 cases r with
 |cons g i=>
  cases i with
  |cons f j=>cases j;exact⟨_,_,rfl,g,f⟩
def Vw:Zc X (.builtin "abs") (λxs H Q=>∃i,xs=[.int i]/\Q (.int (if i<0 then-i else i)) H):=by
 intro d s f H xs e Q I r h;obtain⟨i,rfl,q⟩:=h;obtain⟨u,rfl,t,rfl⟩:=Zk r;exact call_abs_int λu tk=>⟨.int _,H,I.tok _,⟨_,rfl⟩,q⟩
def YR (f:X.calm=true):Zc X (.builtin "min") (λxs H Q=>∃i j,xs=[.int i,.int j]/\Q (.int (if j<i then j else i)) H):=by
 intro e s o H xs g Q I r h;obtain⟨i,j,rfl,q⟩:=h;obtain⟨u,l,rfl,⟨t,rfl⟩,⟨t',rfl⟩⟩:=yX r;refine min_two_ints (I.ok.hd f) λh' tk k=>⟨_,H,I.kept k,?_,q⟩
 by_cases d:j<i
 ·rw[if_pos d,if_pos d];exact⟨_,rfl⟩
 ·rw[if_neg d,if_neg d];exact⟨_,rfl⟩
def YS:Zc X (.type "int") (λxs H Q=>(∃i,xs=[.int i]/\Q (.int i) H)\/∃k,xs=[.bl k]/\Q (.int (if k then 1 else 0)) H):=by
 intro d s g H xs f Q I r h;rcases h with ⟨i,rfl,q⟩|⟨k,rfl,q⟩
 ·obtain⟨u,rfl,t,rfl⟩:=Zk r;exact call_int_int ⟨.int i,H,I,⟨_,rfl⟩,q⟩
 ·obtain⟨u,rfl,e⟩:=Zk r;cases e;exact call_int_bool ⟨.int _,H,I.tok _,⟨_,rfl⟩,q⟩
end
end L2
namespace L2
open PySem PySem.Spec PyProof.Rows
structure z2Q (h:Heap) (x dx C:Addr) (mA:Str->Option Value):Prop where
 obj:h.get? x=some (iJ C dx)
 ns:h.Ns1 dx mA
 ne:dx≠x
def YT {h:Heap}{g:Addr}{i:Str->Option Value}(n:h.Ns1 g i):∃f,h.get? g=some f/\∀name,iR name f=some (i name):=by
 obtain⟨o,d,ep,p,hd,j,_,k⟩:=n;refine⟨o,p,λname=>?_⟩;have e:=k name;unfold nsFind findBy at e;rw[←Array.find?_toList]at e;unfold iR;rw[hd];dsimp only;split
 ·rename_i y q;rw[q]at e;exact congrArg _ e
 ·rename_i q;rw[q]at e;have a:d.toList.any (·.refKey)=false:=by
   rw[lE];intro y hy;obtain⟨z,t,c⟩:=j y (Array.mem_toList_iff.mp hy);simp[DictEntry.refKey,c]
  have l:¬d.toList.any (·.refKey)=true:=by rw[a];exact az
  rw[if_neg l];exact congrArg _ e
def z2Q.look {h:Heap}{x d C:Addr}{c:Str->Option Value}(I:z2Q h x d C c):∃a,PySem.W.InstAt h x (iJ C d) C (some a)/\∀name,iR name a=some (c name):=
 let ⟨a,ho,hl⟩:=YT I.ns
 ⟨a,⟨I.obj,rfl,rfl,ho⟩,hl⟩
section
variable {P:Program}{w:World}{H H':Hp}{h h':Heap}{a C dx:Addr}{fs fs':List (Str×V)}
def XZ (g:HOk P w H h)(e:H a=some (.ins C dx fs)):∃c,z2Q h a dx C c/\(∀f,gX (fs.lookup f) (c f))/\PySem.Within c (fs.map (·.1))/\fs.length<=1000/\H dx=some (.own a):=by
 obtain⟨d,z,i,ob,c,n,r,q⟩:=(show zQ P w H h a _ from g a _ e);exact⟨c,⟨ob,n,i⟩,r,q,z,d⟩
end
structure Cls (K:aj) (C:Addr):Prop where
 pg:lY K C Str.empty=true
 hd:PySem.W.hasDictIn K C=true
 po:PySem.W.plainOver K C=true
 sa:PySem.W.findIn K (.ref C) "__setattr__"=some (some (.builtin "object.__setattr__"))
def Cls.get {K:aj}{C:Addr}(c:Cls K C)(f:Str):lY K C f=true:=c.pg
section
variable {X:Cx}{pins:List (Addr×Obj)}{σ:St}{H:Hp}{s:Shared}{A:Around}{E:Value->Shared->Prop}{Q:Value->Shared->Prop}{c:Value}{b:Bool}
inductive yY (K:aj) (H:Hp):V->Value->Prop where
 |non:yY K H .non (.type "NoneType")
 |bl (x:Bool):yY K H (.bl x) (.type "bool")
 |int (i:Int):yY K H (.int i) (.type "int")
 |str (x:Str):yY K H (.str x) (.type "str")
 |flt (x:UInt64):yY K H (.flt x) (.type "float")
 |lst {a:Addr} {xs:List V} (e:H a=some (.lst xs)):yY K H (.ref a) (.type "list")
 |frz {a:Addr} {o:Obj} {xs:List V} (e:H a=some (.frz o (.lst xs))):yY K H (.ref a) (.type "list")
 |tup {a:Addr} {xs:List V} (e:H a=some (.tup xs)):yY K H (.ref a) (.type "tuple")
 |dK {a:Addr} {kvs:List (mV×V)} (e:H a=some (.dK kvs)):yY K H (.ref a) (.type "dict")
 |dT {a:Addr} {kvs:List (List mV×Addr×V)} (e:H a=some (.dT kvs)):yY K H (.ref a) (.type "dict")
 |ins {a C dx:Addr} {fs:List (Str×V)} (e:H a=some (.ins C dx fs)) (cl:Cls K C) (ha:PySem.W.findIn K (.ref C) "__class__"=some (some (.builtin "object.__class__")))
   (hn:PySem.W.specialIn K (.builtin "object.__class__") "__get__"=some (some (.builtin "getset_descriptor.__get__"))) (htk:PySem.W.takesIn K (.builtin "object.__class__")=some true)
   (hm:PySem.W.mroIn K C (.type "object")=some true):yY K H (.ref a) (.ref C)
def YU {x:V}{u t:Value}(I:Inv X pins σ H s)(f:RelV x u)(v:yY X.K H x t)(e:bQ X.K t c=some b)(h:∀tk,Q (.bool b) {s with toks:=tk}):
  wpAny 07 A (call (.builtin "isinstance") [u,c]) Q E s:=by
 cases v with
 |non=>cases (f);exact bV lF I.kIn True.intro e (λz=>nomatch z) h
 |bl y=>cases (f);exact bV lG I.kIn True.intro e (λz=>nomatch z) h
 |int i=>obtain⟨t,q⟩:=(f);cases q;exact bV lZ I.kIn True.intro e (λz=>nomatch z) h
 |str y=>obtain⟨t,q⟩:=(f);cases q;exact bV l_ I.kIn True.intro e (λz=>nomatch z) h
 |flt y=>obtain⟨t,q⟩:=(f);cases q;exact bV PySem.W.kitx_float I.kIn True.intro e (λz=>nomatch z) h
 |@lst a xs d=>
  cases (f);obtain⟨_,_,n,_,g⟩:=(show zQ _ X.w H _ a _ from I.hok a _ d);exact bV eP I.kIn ⟨_,g,rfl⟩ e (λz=>nomatch z) h
 |@frz a ob xs d=>
  cases (f);obtain⟨_,_,_,n,_,g⟩:=(show zQ _ X.w H _ a _ from I.hok a _ d);exact bV eP I.kIn ⟨_,g,rfl⟩ e (λz=>nomatch z) h
 |@tup a xs d=>
  cases (f);obtain⟨_,_,_,p,_⟩:=(show zQ _ X.w H _ a _ from I.hok a _ d);obtain⟨o,g,j,_⟩:=p;exact bV lc I.kIn ⟨o,g,j⟩ e (λz=>nomatch z) h
 |@dK a kvs d=>
  cases (f);obtain⟨_,_,vs,_,p⟩:=(show zQ _ X.w H _ a _ from I.hok a _ d);obtain⟨o,l,ep,g,j,_⟩:=p;exact bV lH I.kIn ⟨o,g,j.1⟩ e (λz=>nomatch z) h
 |@dT a kvs d=>
  cases (f);obtain⟨_,_,xs,_,o,l,ep,g,j,_⟩:=(show zQ _ X.w H _ a _ from I.hok a _ d);exact bV lH I.kIn ⟨o,g,j.1⟩ e (λz=>nomatch z) h
 |@ins a C F fs d cl B hn k r=>
  cases (f);obtain⟨G,O,_⟩:=XZ I.hok d;obtain⟨D,J,_⟩:=O.look;exact bV (PySem.W.kitx_own (cl.get _) cl.hd B hn k r) I.kIn J e (λz=>nomatch z) h
end
end L2
namespace L2
open PySem PySem.Spec PyProof.Rows
structure jH (k:Nat) (A:Around):Prop where
 hd:A.handled=none
 dp:A.depth+3*k+5<recursionLimit
 un:A.units+16*k+200<cLine
 gd:A.guards=some []
def jH.mono {j k:Nat}{A:Around}(r:jH k A)(h:j<=k):jH j A:=⟨r.hd,by have:=r.dp;omega,by have:=r.un;omega,r.gd⟩
theorem jH.deeper {k:Nat}{A:Around}(r:jH (k+1) A)(env:Env):jH k (A.deeper env):=
 ⟨r.hd,by have:=r.dp;show A.depth+1+3*k+5<_;omega,by have:=r.un;show A.units+3+16*k+200<_;omega,r.gd⟩
theorem jH.depth {k:Nat}{A:Around}(r:jH k A):A.depth<recursionLimit:=by have:=r.dp;omega
theorem jH.units {k:Nat}{A:Around}(r:jH k A):A.units+64<cLine:=by have:=r.un;omega
def WQ:TA:=λ_ H Q=>Q [] H
def Zp (d:TE)(tr:TA):TA:=λa H Q=>d a H λx c=>tr a c λxs e=>Q (x::xs) e
section
variable {X:Cx}{e:Expr}{es:List Expr}{te:TE}{t:TA}{pos:Pos}
def zt:PA X [] WQ:=λ_ _ _ _ H Q I h=>lI ⟨[],H,I,.nil,h⟩
def zh (q:PE X e te)(hr:PA X es t)(l:starEach (e::es) X.env=(false,eval e X.env)::starEach es X.env:=by rfl):PA X (e::es) (Zp te t):=by
 intro pos c s a H Q I h;rw[l];refine lg (mN (q _ s a H _ I h) λu o ⟨x,g,f,d,k⟩=>?_);exact mN (hr pos _ o a g _ f k) λv w ⟨xs,j,r,i,p⟩=>⟨x::xs,j,r,.cons d i,p⟩
def k7 (t:TA):TE:=λc H Q=>t c H λxs a=>xs.length<=sizeLine/\∀p,a p=none->Q (.ref p) (kj a p (.tup xs))
def AE (t:TA):TE:=λc H Q=>t c H λxs a=>xs.length<=sizeLine/\∀p,a p=none->Q (.ref p) (kj a p (.lst xs))
def wP {x1}(h:PA X es t):PE X (.Tuple es x1 pos) (k7 t):=by
 intro c s i H Q I g;refine wpAny_Tuple_spliced (mN (h pos _ s i H _ I g) λf k ⟨xs,d,a,r,z,q⟩=>⟨by rw[←r.length];exact z,?_⟩)
 have j:=a.hok.fresh (aq _);refine⟨.ref _,kj d _ _,a.laid (λb u e=>aa _ e) (aq _) ?_,rfl,q _ j⟩;exact⟨z,f,r,⟨_,ai _ rfl,rfl,_,rfl⟩,.inr ⟨_,ai _ rfl,rfl⟩⟩
def WX (h:PA X es t):PE X (.List es pos) (AE t):=by
 intro c s i H Q I g;refine wpAny_List_spliced (mN (h pos _ s i H _ I g) λf k ⟨xs,d,a,r,z,q⟩=>⟨by rw[←r.length];exact z,?_⟩)
 have j:=a.hok.fresh (aq _);refine⟨.ref _,kj d _ _,a.laid (λb u e=>aa _ e) (aq _) ?_,rfl,q _ j⟩;exact⟨z,f,0,r,ai _ rfl⟩
end
abbrev Sp:=List V->Hp->VK->XK->Prop
abbrev n5:=List Env->Hp->Shared->XK->Value->Shared->Prop
structure AH (P:Program) (w:World) (K:aj) (mg:Str->Option Value) (base:Heap) (A:Around) (outer:List Env) (s:Shared) (H:Hp):Prop where
 frames:A.frames=some outer
 mod:Mod K mg base
 bs:∀b o,base.get? b=some o->s.heap.get? b=some o/\H b=none
 bsz:base.objs.size<=s.1.1.size
 funs:s.heap.FunFrames base outer
 frf:∀b∈ou outer,H b=none
 hok:HOk P w H s.heap
 bare:AllBare s.gens
def CE (outer:List Env)(P:Program)(w:World)(H:Hp)(s:Shared)(Q:VK)(u:Value)(a:Shared):Prop:=
 ∃v c,a.os=s.os/\AllBare a.gens/\Un (ou outer) [] H c s.heap a.heap/\HOk P w c a.heap/\RelV v u/\Q v c
def CR (CX:n5)(outer:List Env)(P:Program)(w:World)(H:Hp)(s:Shared)(Q:VK)(E:XK)(r:Result)(a:Shared):Prop:=
 match r with
 |.ok (.ret u)=>CE outer P w H s Q u a
 |.ok _=>False
 |.error e=>CX outer H s E e a
structure wQ (P:Program) (w:World) (K:aj) (mg:Str->Option Value) (base:Heap) (CX:n5) (k:Nat) (f:Addr) (fd:FuncData) (ps:List Str) (sp:Sp):Prop where
 len:∀vs H Q E,sp vs H Q E->vs.length=ps.length
 run:∀(A:Around) (outer:List Env) (s:Shared) (H:Hp) (args:Args) (us:List Value) (vs:List V) (Q:VK) (E:XK),jH k A->AH P w K mg base A outer s H->BindsTo s fd args (ps.zip us)->Vals vs us->sp vs H Q E->
  codeAny (model P w) A (.call (.ref f) args) (CR CX outer P w H s Q E) s
def wQ.imp {P:Program}{w:World}{K:aj}{c:Str->Option Value}{base:Heap}{CX:n5}{k:Nat}{f:Addr}{d:FuncData}{e:List Str}{sp a:Sp}(F:wQ P w K c base CX k f d e sp)
  (h:∀vs H Q E,a vs H Q E->sp vs H Q E):wQ P w K c base CX k f d e a:=
 ⟨λvs H Q E q=>F.len vs H Q E (h _ _ _ _ q),λA outer s H args g vs Q E hr l j o i=>F.run A _ s H _ g vs Q E hr l j o (h _ _ _ _ i)⟩
section
variable {X:Cx}{pins:List (Addr×Obj)}{σ:St}{H:Hp}{s s':Shared}
def Inv.env0 (I:Inv X pins σ H s):AH X.prog X.w X.K X.mg X.base X.A X.stack s H:=
 ⟨I.ok.frames,I.ok.mod,I.bs,aC I.ok.bsz I.sz,I.stack,I.stkFree,I.hok,I.bare⟩
def Inv.after {Q:VK}{u:Value}(I:Inv X pins σ H s)(h:CE X.stack X.prog X.w H s Q u s'):EP X pins σ Q u s':=by
 obtain⟨v,f,os,a,un,c,r,q⟩:=h;obtain⟨i,g,d,t,e⟩:=s';obtain rfl:e=s.os:=os;exact⟨v,f,I.call un c a (λb z=>absurd z (by simp)),r,q⟩
end
def GA (sp:Sp)(a:List V)(E:XK)(t:TA):TE:=λd H Q=>t d H λvs c=>sp (vs++a) c Q E
noncomputable def Binds (K:aj)(d:FuncData)(c:List Str)(ds:List Value):Prop:=
 ∀(s:Shared) (a:List Value),K.In s.heap->(a++ds).length=c.length->BindsTo s d ⟨a,[]⟩ (c.zip (a++ds))
def Binds.all {K:aj}{e:FuncData}{c:List Str}(h:∀a:List Value,a.length=c.length->bindArgs e ⟨a,[]⟩=pure (c.zip a)):Binds K e c []:=λs a _ d=>by
 rw[br]at d⊢;exact .of_eq (h a d)
def wR (CX:n5)(X:Cx)(E:XK):Prop:=∀(a:List (Addr×Obj)) (d:St) (H:Hp) (s:Shared) (e:Value) (c:Shared),Inv X a d H s->CX X.stack H s E e c->X.xe e c
section
variable {X:Cx}{CX:n5}{k:Nat}{f C:Addr}{fd:FuncData}{ps:List Str}{sp:Sp}{dvs:List V}{ds:List Value}{E:XK}{x m:Str}{p pos apos:Pos}{e o:Expr}{es:List Expr}{ta:TE}{t:TA}
def GB {a:List (Addr×Obj)}{g:St}{H:Hp}{s:Shared}{Q:VK}{d:List Value}{vs:List V}(F:wQ X.prog X.w X.K X.mg X.base CX k f fd ps sp)(hr:jH k X.A)(v:Binds X.K fd ps ds)(hd:Vals dvs ds)(j:wR CX X E)
  (I:Inv X a g H s) (r:Vals vs d) (h:sp (vs++dvs) H Q E):wpAny 07 X.A (call (.ref f) d) (EP X a g Q) X.xe s:=by
 have i:=r.append hd;have y:(d++ds).length=ps.length:=by rw[←i.length];exact F.len _ _ _ _ h
 refine wpAny_call (eQ (F.run X.A _ s H _ _ _ Q E hr I.env0 (v s d I.kIn y) i h) λr l c=>?_);cases r with
 |error e=>exact j _ g H s e l I c
 |ok q=>
  cases q with
  |ret u=>exact I.after c
  |next=>exact dC c
  |brk=>exact dC c
  |cont=>exact dC c
def j9 (F:wQ X.prog X.w X.K X.mg X.base CX k f fd ps sp)(hr:jH k X.A)(D:Gl X x)(j:X.mg x=some (.ref f))(i:dq X.K (.ref f)=true)(v:Binds X.K fd ps ds)(hd:Vals dvs ds)(l:wR CX X E)
  (y:PA X (e::es) t) (a:(x==("__debug__":Str))=false:=by decide) (B:starEach (e::es) X.env=(false,eval e X.env)::starEach es X.env:=by rfl) (c:(backTo pos (starEach es X.env)).any (·.1)=false:=by rfl):
  PE X (.Call (.Name x p) (e::es) [] pos) (GA sp dvs E t):=by
 intro g s u H Q I h;refine cP (YI I D j ?_ a);refine PySem.W.callWith_K I.ok.mod.kin i (mN (y pos _ s u H _ I h) λJ L ⟨vs,G,d,r,q⟩=>⟨d.kIn,?_⟩) B c;exact GB F hr v hd l d r q
end
def PK (X:Cx)(c:List Keyword)(t:TA):Prop:=
 ∀(pos:Pos) (a:List (Addr×Obj)) (s:Shared) (d:St) (H:Hp) (Q:List V->Hp->Prop),Inv X a d H s->t d H Q->wpAny 07 X.A (evalAll ((backToKw pos (keywordEach c X.env)).map (·.2))) (AP X a d Q) X.xe s
section
variable {X:Cx}{CX:n5}{k:Nat}{f C:Addr}{fd:FuncData}{ps ks:List Str}{sp:Sp}{E:XK}{x m:Str}{p pos apos kpos:Pos}{e o:Expr}{es:List Expr}{kws:List Keyword}{te ta:TE}{t tk:TA}{nm:Option Str}
def GC:PK X [] WQ:=λ_ _ _ _ H Q I h=>wpAny_evalAll_nil ⟨[],H,I,.nil,h⟩
def k8 (w:PE X e te)(hr:PK X kws t):PK X (⟨nm,e,kpos⟩::kws) (Zp te t):=by
 intro pos c s a H Q I h;refine wpAny_evalAll_cons (a8 (mN (w _ s a H _ I h) λu r ⟨x,i,g,d,q⟩=>a8 (d_ (ac ?_))));exact mN (hr pos _ r a i _ g q) λB D ⟨xs,l,y,j,v⟩=>⟨x::xs,l,y,.cons d j,v⟩
variable {g:List Value->List Value->List Value}{gV:List V->List V->List V}
end
structure JQ (N P:List Str) (sc:Scope):Prop where
 kind:sc.kind=.function
 co:sc.isCoroutine=false
 gen:sc.isGenerator=false
 nd:N.Nodup
 pre:N.take P.length=P
 par:∀x∈P,sc.names.lookup x=some .local\/sc.names.lookup x=some .cell
 nofree:∀y∈sc.names,y.2≠.free
theorem WY {kindOf:Str->Option NameKind}{x:Str}:∀{binds:List (Str×Value)} {m:Str->Option Value},(∀v,(x,v)∉binds)->bindL kindOf binds m x=m x
 |[],_,_=>rfl
 |(n,v)::r,m,h=>by
  unfold bindL;rw[WY λw a=>h w (a9 _ a)];split
  ·have:x≠n:=by rintro rfl;exact h v ae
   simp[this]
  ·rfl
theorem WZ {kindOf:Str->Option NameKind}{x:Str}:∀{binds:List (Str×Value)} {m:Str->Option Value},(∀v,(x,v)∉binds)->bindC kindOf binds m x=m x
 |[],_,_=>rfl
 |(n,v)::r,m,h=>by
  unfold bindC;rw[WZ λw a=>h w (a9 _ a)];split
  ·rfl
  ·have:x≠n:=by rintro rfl;exact h v ae
   simp[this]
theorem u3 {kindOf:Str->Option NameKind}{x:Str}{v:Value}:∀{P:List Str} {vs:List Value} {i:Nat} {m:Str->Option Value},P.Nodup->P[i]?=some x->vs[i]?=some v->kindOf x=some .local->
  bindL kindOf (P.zip vs) m x=some v
 |[],_,_,_,_,h,_,_=>by simp at h
 |_::_,[],_,_,_,_,h,_=>by simp at h
 |p::P,w::vs,0,m,nd,c,a,d=>by
  simp at c a;subst c;subst a;show bindL _ ((p,w)::P.zip vs) m p=_;unfold bindL;rw[WY λv e=>(cn.mp nd).1 (cJ e).1,if_pos d];simp
 |p::P,w::vs,i+1,m,nd,c,a,d=>by
  show bindL _ ((p,w)::P.zip vs) m x=_;exact u3 (cn.mp nd).2 (by simpa using c) (by simpa using a) d
theorem u6 {kindOf:Str->Option NameKind}{x:Str}{v:Value}:∀{P:List Str} {vs:List Value} {i:Nat} {m:Str->Option Value},P.Nodup->P[i]?=some x->vs[i]?=some v->kindOf x≠some .local->
  bindC kindOf (P.zip vs) m x=some v
 |[],_,_,_,_,h,_,_=>by simp at h
 |_::_,[],_,_,_,_,h,_=>by simp at h
 |p::P,w::vs,0,m,nd,c,a,d=>by
  simp at c a;subst c;subst a;show bindC _ ((p,w)::P.zip vs) m p=_;unfold bindC;rw[WZ λv e=>(cn.mp nd).1 (cJ e).1,if_neg d];simp
 |p::P,w::vs,i+1,m,nd,c,a,d=>by
  show bindC _ ((p,w)::P.zip vs) m x=_;exact u6 (cn.mp nd).2 (by simpa using c) (by simpa using a) d
def start (N:List Str)(vs:List V):St:=vs.map some++ar (N.length-vs.length) none
def Js (CX:n5)(P:Program)(w:World)(K:aj)(mg:Str->Option Value)(base:Heap)(N:List Str)(qual:Str)(scope:Scope)(f:Addr)(c:Value)(A:Around)(outer:List Env)(s:Shared)(H:Hp)(E:XK):Cx where
 prog:=P
 w:=w
 K:=K
 mg:=mg
 base:=base
 A:=A.deeper (envOfC qual scope s.1.1.size f c)
 N:=N
 s₀:=s
 H₀:=H
 env:=envOfC qual scope s.1.1.size f c
 outer:=outer
 stack:=envOfC qual scope s.1.1.size f c::outer
 ex:=[]
 calm:=true
 fn:=λ_=>true
 pn:=[]
 xe:=λe g=>wpAny (model P w) (A.deeper (envOfC qual scope s.1.1.size f c)) (leaving (envOfC qual scope s.1.1.size f c) e) (λ_ a=>CX outer H s E e a) (λd a=>CX outer H s E d a) g
def Uz {a:Scope}{n:Nat}{x:Str}(h:a.names.lookup x=some .cell):∃c,(cellsFrom n a.names []).lookup x=some c:=by
 have q:=iz _ n [] (.inl h);exact hX.mp q
def YV {CX:n5}{P:Program}{w:World}{K:aj}{F:Str->Option Value}{base:Heap}{N l:List Str}{qual:Str}{scope:Scope}{f:Addr}{B:Value}{A:Around}{outer:List Env}{s I:Shared}{H:Hp}{E:XK}{D:List Value}{vs:List V}
  (S:JQ N l scope) (hd:A.handled=none) (g:AH P w K F base A outer s H) (U:vs.length=l.length) (r:Vals vs D)
  (x:InCallC s s.1.1.size (bindL (envOfC qual scope s.1.1.size f B).kindOf (l.zip D) λ_=>none) (cellsFrom (s.1.1.size+1) scope.names []) (bindC (envOfC qual scope s.1.1.size f B).kindOf (l.zip D) λ_=>none) I):
  Inv (Js CX P w K F base N qual scope f B A outer s H E) [] (start N vs) H I:=by
 have M:=by have:=congrArg eJ S.pre;rw[du]at this;omega
 obtain⟨C,tk,rfl,J⟩:=x.done;have j:∀b,b∉(Js CX P w K F base N qual scope f B A outer s H E).ex:=λb z=>absurd (show b∈([]:List _) from z) (by simp)
 refine⟨⟨g.mod,S.kind,rfl,rfl,aq _,λy z c C d=>?_,λy hy=>?_,λy c _ h=>?_,λ_=>hd,Around.frames_deeper g.frames,.inr ⟨rfl,rfl⟩,λb z=>absurd z (j b),g.bs,g.bsz,λb _ _=>j b,λb z=>absurd z (j b),g.funs,g.frf⟩,
  rfl,g.bare,Un.kept J,⟨_,x.toInCall.ns,λi y v C d Q=>?_⟩,λy c h=>⟨_,x.cell y c h⟩,g.hok.fresh (aq _),λy c h=>?_,λp hp=>absurd (show p∈([]:List _) from hp) (by simp),g.hok.kept J,?_⟩
 ·exact name_of_addr x.apart (b_ C) (b_ d)
 ·rcases hy with hy|hy
  ·exact Uz hy
  ·exact absurd rfl (S.nofree _ (b_ hy))
 ·exact eO (x.above y c (b_ h))
 ·have hi:i<vs.length:=by
   unfold start at d
   by_cases hi:i<vs.length
   ·exact hi
   ·rw[aW (by simpa using hi)]at d
    rw[b7]at d;split at d<;>cases d
  have O:vs[i]?=some v:=by
   unfold start at d;rw[b6 (by simpa using hi),aw]at d
   cases e:vs[i]? with
   |none=>rw[e]at d;cases d
   |some a=>rw[e]at d;cases d;rfl
  obtain⟨u,G,L⟩:=r.get O;have hp:l[i]?=some y:=by
   rw[←S.pre,List.getElem?_take_of_lt 00];exact C
  have o:l.Nodup:=by rw[←S.pre];exact S.nd.sublist (List.take_sublist _ _)
  refine⟨u,L,?_⟩;rcases S.par y (bR hp)with k|k
  ·exact .inl ⟨k,u3 o hp G k⟩
  ·obtain⟨c,e⟩:=Uz k;refine .inr ⟨.inl k,c,e,?_⟩;have q:=x.cell y c e;rw[u6 o hp G (by show scope.names.lookup y≠_;rw[k];decide)]at q
   exact q
 ·exact g.hok.fresh (eO (x.above y c (b_ h)))
 ·unfold start;show _=N.length;rw[aB,ag,aY];omega
def EV {CX:n5}{P:Program}{w:World}{K:aj}{D:Str->Option Value}{base:Heap}{k:Nat}{f:Addr}{name qual:Str}{a:Arguments}{c:List Stmt}{scope:Scope}{dV kV C pm cdv ct oc:Value}{Z od:Option Addr}
  {U:Array (Option Value)} {N F:List Str} {sp:Sp} (lk:K.lookup f=some ⟨oc,od,.func (cN name qual a c scope dV kV C pm Z cdv ct),U⟩) (O:fS K cdv qual=true) (S:JQ N F scope)
  (len:∀vs H Q E,sp vs H Q E->vs.length=F.length)
  (i:∀(A:Around) (outer:List Env) (s:Shared) (H:Hp) (vs:List V) (Q:VK) (E:XK),jH k (A.deeper (envOfC qual scope s.1.1.size f cdv))->sp vs H Q E->
   ∃t,PSs (Js CX P w K D base N qual scope f cdv A outer s H E) c t/\t {nx:=λ_ d=>Q .non d,rt:=Q} (start N vs) H):
  wQ P w K D base CX (k+1) f (cN name qual a c scope dV kV C pm Z cdv ct) F sp:=by
 refine⟨len,λA outer s H args us vs Q E hr B hb r l=>?_⟩;have hl:=len _ _ _ _ l;have X:=B.mod.kin.keeps λb o e=>(B.bs b o e).1;have G:=B.mod.nolimit.keeps λb o e=>(B.bs b o e).1;have g:∀y∈F.zip us,scope.names.lookup y.1=some _\/(scope.names.lookup y.1=some _/\((cellsFrom (s.1.1.size+1) _ []).lookup y.1).isSome=true):=λ⟨n,v⟩ hy=>by
  rcases S.par n (cJ hy).1 with q|q
  ·exact .inl q
  ·exact .inr ⟨q,iz _ _ _ (.inl q)⟩
 refine codeAny_call_function hr.depth (X _ _ lk) rfl S.co S.gen rfl (PySem.W.codeRec_of X O) (hb _ _ _ _ ?_);refine wpAny_newFunctionEnv_cells S.kind g λenv he s1 x=>?_;subst he;refine⟨G.keeps x.toInCall.keep,codeAny_func ?_⟩;obtain⟨t,ht,hq⟩:=i A _ s H vs Q E (hr.deeper _) l;have I:Inv (Js CX P w K D _ N _ _ f cdv A _ s H E) [] _ H s1:=YV S hr.hd B hl r x;refine cI (ht [] s1 _ H _ I hq) (λfl M j=>?_) λe M j=>j;have p:∀{σ':St} {d:Hp} {v:V} {u:Value},Inv (Js CX P w K D base N qual scope f cdv A outer s H E) [] σ' d M->RelV v u->Q v d->CE _ P w H s Q u M:=
  λ{σ' d v u} J L q=>⟨v,d,J.os,J.bare,J.base,J.hok,L,q⟩
 cases fl with
 |ret u=>
  obtain⟨v,σ',d,J,L,q⟩:=j;exact p J L q
 |next=>
  obtain⟨σ',d,J,q⟩:=j;exact p (v:=V.non) J rfl q
 |brk=>
  obtain⟨_,_,_,q⟩:=j;exact dC q
 |cont=>
  obtain⟨_,_,_,q⟩:=j;exact dC q
end L2
namespace L2
open PySem PySem.Spec PyProof.Rows
section
variable {X:Cx}{x:Str}{p pos:Pos}{e:Expr}{es:List Expr}{t:TA}{id T:String}{r:List V->Hp->VK->Prop}
def rj (r:List V->Hp->VK->Prop)(t:TA):TE:=λa H Q=>t a H λvs c=>r vs c Q
def ZH (y:Zc X (.builtin id) r)(B:Gl X x)(k:X.mg x=none)(w:bootBuiltins x=some (.builtin id))(u:PA X (e::es) t)(hn:x≠"__name__":=by decide)(a:(x==("__debug__":Str))=false:=by decide)
  (v:starEach (e::es) X.env=(false,eval e X.env)::starEach es X.env:=by rfl) (c:(backTo pos (starEach es X.env)).any (·.1)=false:=by rfl):PE X (.Call (.Name x p) (e::es) [] pos) (rj r t):=by
 intro f s d H Q I h;refine cP (j4 I B k w ?_ hn a);exact PyProof.Rows.callWith_builtin1 (mN (u pos _ s d H _ I h) λl q ⟨vs,j,i,g,o⟩=>y _ q d j vs l Q i g o) v c
def ZT (y:Zc X (.type T) r)(B:Gl X x)(k:X.mg x=none)(w:bootBuiltins x=some (.type T))(u:PA X (e::es) t)(hn:x≠"__name__":=by decide)(a:(x==("__debug__":Str))=false:=by decide)
  (v:starEach (e::es) X.env=(false,eval e X.env)::starEach es X.env:=by rfl) (c:(backTo pos (starEach es X.env)).any (·.1)=false:=by rfl):PE X (.Call (.Name x p) (e::es) [] pos) (rj r t):=by
 intro f s d H Q I h;refine cP (j4 I B k w ?_ hn a);exact bg (mN (u pos _ s d H _ I h) λl q ⟨vs,j,i,g,o⟩=>y _ q d j vs l Q i g o) v c
end
end L2
namespace HT
open PySem PyProof.Rows
section
open PySem.SeqAt
open PySem.AutoSeq1 (wpAny_loadPart')
open PySem.MeetsSeq PySem.MeetsSeq2 PySem.MeetsSeq3
end
section
variable {prog:Program}{w:World}{A:Around}{E:Value->Shared->Prop}{s:Shared}
def cat_tup {t b:Addr}{vs c:List Value}{Q:Value->Shared->Prop}(r:IsTup s.heap t vs.toArray)(x:IsTup s.heap b c.toArray)(p:vs≠[])
  (v:c=[]->Q (.ref t) s) (u:c≠[]->Q (.ref s.1.1.size) {s with heap:=s.heap.push {cls:=.type "tuple",data:=.seq (vs++c).toArray} })
  (hsz:vs.length+c.length<=sizeLine):wpAny 08 A (binaryOp .Add (.ref t) (.ref b)) Q E s:=by
 obtain⟨⟨cls,dd,data,o⟩,i,y,n,hd⟩:=id r;obtain⟨⟨q,d,data2,f⟩,a,k,l,j⟩:=id x;subst y hd k j;have e:vs.toArray++c.toArray=(vs++c).toArray:=by simp
 by_cases g:c=[]
 ·exact concat_meets ⟨_,i,rfl⟩ ⟨_,a,rfl⟩ noFill_tuple_add seq_tuple_add eR eK (e9 _ _)
   (tuple_addW1 t b _ _ n l dd d o f (by simpa using p) (by simp[g])) ⟨i,a,v g⟩
 ·refine concat_meets ⟨_,i,rfl⟩ ⟨_,a,rfl⟩ noFill_tuple_add seq_tuple_add eR eK (e9 _ _)
   (tuple_addW2 t b _ _ n l dd d o f (by simpa using p) (by simpa using g) (by exact hsz)) ⟨i,a,?_⟩
  rw[e];exact u g
noncomputable def sIx (n d:Nat):Option Int->Nat
 |none=>d
 |some v=>if v<0 then (v+(n:Int)).toNat else min v.toNat n
def sIx_none (n d:Nat):sIx n d none=d:=rfl
def sIx_nat (n d k:Nat):sIx n d (some (k:Int))=min k n:=by
 show (if (k)<0 then ((k:Int)+(n)).toNat else min _ n)=min k n
 rw[if_neg 00,a_]
def YW (v:Int)(n d:Nat):(if v<0 then max (v+(n:Int)) 0 else min v (n:Int))=((sIx n d (some v):Nat):Int):=by
 show (if v<0 then max _ 0 else min v (n))=(((if v<0 then (v+(n)).toNat else min _ n):Nat):Int)
 by_cases a:v<0
 ·simp only[if_pos a];omega
 ·simp only[if_neg a];omega
def yZ (lo hi:Option Int)(n:Nat):fZ lo hi 1 (n:Int)=(((sIx n 0 lo:Nat):Int),((sIx n n hi:Nat):Int)):=by
 refine Prod.ext ?_ ?_
 ·cases lo with
  |none=>rfl
  |some v=>exact YW v n 0
 ·cases hi with
  |none=>rfl
  |some v=>exact YW v n n
def Y0 (i j:Nat):dY (i:Int) (j:Int) 1=j-i:=by
 unfold dY;split<;>omega
def wS {v:Value}{o:Option Int}{Q:Option Int->Shared->Prop}(p:IsPart v o)(h:Q o s):wpAny 08 A (Builtin.Slice.slicePartIndex v) Q E s:=by
 cases p with
 |none=>exact slicePart_none h
 |int i t=>exact slicePart_int h
def sliceApplied_gen {e:Addr}{vl d:Value}{lo hi:Option Int}{n:Nat}{Q:Int×Int×Nat->Shared->Prop}(i:s.heap.IsSliceOf e vl d .none)(pl:IsPart vl lo)(f:IsPart d hi)
  (h:Q (((sIx n 0 lo:Nat):Int),1,sIx n n hi-sIx n 0 lo) s):wpAny 08 A (Builtin.Slice.sliceApplied (.ref e) (pure (n:Int))) Q E s:=by
 obtain⟨os,c,g,a⟩:=id i;refine a8 (a8 (bh c a rfl (a8 (bh c a rfl (a8 (bh c a rfl (ac ?_)))))));refine a8 (slicePart_none ?_);refine a8 (wS pl (a8 (wS f (a8 (ac ?_)))));show wpAny _ _ (match fZ lo hi 1 _ with|(lo,hi)=>pure (lo,(1:Int),dY lo hi 1)) _ _ s
 rw[yZ lo hi n];show wpAny _ _ (pure _) _ _ s;rw[Y0];exact ac h
def Vx (xs:Array Value)(i k:Nat):((aV k).filterMap λ(m:Nat)=>xs[((i:Int)+(m:Int)*1).toNat]?).toArray=((xs.toList.drop i).take k).toArray:=by
 have e:(λ(m:Nat)=>xs[((i:Int)+(m)*1).toNat]?)=λm=>xs[i+m]?:=by
  funext m
  have:((i:Int)+(m)*1).toNat=i+m:=by omega
  rw[this]
 rw[e];have:=pick_run xs i k;rw[List.filterMap_map]at this;have a:((λx=>xs[x]?) ∘λx=>i+x)=λm=>xs[i+m]?:=rfl;rw[a]at this;rw[this]
def getItem_tuple_cut {t g:Addr}{items:Array Value}{vl k:Value}{lo hi:Option Int}{Q:Value->Shared->Prop}(c:IsTup s.heap t items)(j:s.heap.IsSliceOf g vl k .none)(pl:IsPart vl lo)(p:IsPart k hi)
  (o:¬(sIx items.size 0 lo=0/\sIx items.size items.size hi=items.size))
  (h:Q (.ref s.1.1.size) {s with heap:=s.heap.push {cls:=.type "tuple",data:=.seq ((items.toList.drop (sIx items.size 0 lo)).take (sIx items.size items.size hi-sIx items.size 0 lo)).toArray} })
  (hsz:items.size<=sizeLine):wpAny 08 A (getItem (.ref t) (.ref g)) Q E s:=by
 have a:sizeOk (.seq ((items.toList.drop (sIx items.size 0 lo)).take (sIx items.size items.size hi-sIx items.size 0 lo)).toArray):=by
  show ((items.toList.drop _).take _).toArray.size<=sizeLine;rw[aJ,du,ie,bF];omega
 obtain⟨os,i,e,l⟩:=id j;have f:s.TypeIs (.ref g) _:=⟨os,i,e⟩;unfold getItem
 try with_reducible refine bp ?_
 refine a8 (wpAny_sequenceKey c.typeIs 01 ?_)
 refine a8 (aX c.typeIs bE
  (aN bE c.typeIs entry_tuple_getitem ?_ (args_tuple_getitem _ _)))
 show wpAny _ _ (fT _>>=_) _ _ s;refine a8 (tupleItemsOf_ c ?_);refine a8 (dR f ?_);refine a8 (sliceApplied_gen j pl p ?_);have d:¬((((sIx items.size 0 lo):Int)==0&&(1:Int)==1&&(sIx items.size items.size hi-sIx items.size 0 lo)==items.size)=true):=by
  intro q;rw[am,am]at q;have r:=eq_of_beq q.1.1;have u:=eq_of_beq q.2;exact o ⟨by omega,by omega⟩
 show wpAny _ _ (if (((sIx _ 0 lo:Nat):Int)==0&&(1)==1&&(sIx _ _ hi-sIx _ 0 lo)==items.size)=true then _ else _) _ _ s
 rw[if_neg d,Vx]
 first
  |exact a8 (aO (ac ⟨_,rfl,ac h⟩) a)
  |exact a8 _
  |exact a8 _
  |exact a8 _
end
end HT
namespace L2
open PySem PySem.Spec PyProof.Rows
abbrev TO:=St->Hp->(Option Int->Hp->Prop)->Prop
def PO (X:Cx)(e:Option Expr)(t:TO):Prop:=
 ∀(a:List (Addr×Obj)) (s:Shared) (c:St) (H:Hp) (Q:Option Int->Hp->Prop),Inv X a c H s->t c H Q->
  wpAny 07 X.A (evalPart e X.env) (λu f=>∃o d,Inv X a c d f/\IsPart u o/\Q o d) X.xe s
def k9:TO:=λ_ H Q=>Q none H
def E3 (t:TE):TO:=λa H Q=>t a H λx c=>∃i,x=.int i/\Q (some i) c
section
variable {X:Cx}{e:Expr}{te:TE}{lo hi:Option Expr}{tl th:TO}{pos p2:Pos}
def ke:PO X none k9:=by
 intro a s c H Q I h;exact ac ⟨none,H,I,.none,h⟩
def kg (h:PE X e te):PO X (some e) (E3 te):=by
 intro a s j H Q I g;refine mN (h _ s j H _ I g) λu l ⟨x,f,d,c,k⟩=>?_;obtain⟨i,rfl,q⟩:=k;obtain⟨t,rfl⟩:=c;exact⟨some i,f,d,.int i t,q⟩
def SlR (X:Cx)(r:V->Option Int->Option Int->Hp->VK->Prop):Prop:=
 ∀(a:List (Addr×Obj)) (s:Shared) (c:St) (H:Hp) (x:V) (v vl d:Value) (lo hi:Option Int) (f:Addr) (Q:VK),Inv X a c H s->RelV x v->s.heap.IsSliceOf f vl d .none->IsPart vl lo->IsPart d hi->r x lo hi H Q->
  ∃T id,typeLookup (.type T) "__getitem__"=pure (some (.builtin id))/\s.TypeIs v T/\wpAny 07 X.A (getItem v (.ref f)) (EP X a c Q) X.xe s
def SlR.or {r g:V->Option Int->Option Int->Hp->VK->Prop}(h:SlR X r)(h':SlR X g):SlR X (λx lo hi H Q=>r x lo hi H Q\/g x lo hi H Q):=by
 intro f s a H x v vl d lo hi k Q I i c pl j q;rcases q with q|q
 ·exact h _ s a H x v vl d lo hi k Q I i c pl j q
 ·exact h' _ s a H x v vl d lo hi k Q I i c pl j q
def FC (r:V->Option Int->Option Int->Hp->VK->Prop)(te:TE)(tl th:TO):TE:=λa H Q=>te a H λx c=>tl a c λl d=>th a d λu H3=>r x l u H3 Q
def Vy {r:V->Option Int->Option Int->Hp->VK->Prop}(hr:SlR X r)(M:PE X e te)(L:PO X lo tl)(j:PO X hi th):PE X (.Subscript e (.Slice lo hi none p2) pos) (FC r te tl th):=by
 intro d s a H Q I h;refine Subscript_ (mN (M _ s a H _ I h) λv w ⟨x,i,D,C,p⟩=>?_);refine wpAny_Slice (mN (L _ w a i _ D p) λvl G ⟨l,o,N,pl,y⟩=>mN (j _ G a o _ N y) λc f ⟨u,H3,B,J,P⟩=>?_);refine ac ?_;have F:Inv X _ a H3 {f with heap:=f.heap.push {cls:=.type "slice",data:=.fields #[vl,c,.none]} }:=B.kept λb ob q=>aa _ q;obtain⟨T,id,k,g,O⟩:=hr _ _ a H3 x v vl c l u _ Q F C (Heap.IsSliceOf.new ..) pl J P;exact tail_any g k O (by with_unfolding_all rfl)
noncomputable def G4 (xs:List V)(lo hi:Option Int):List V:=(xs.drop (HT.sIx xs.length 0 lo)).take (HT.sIx xs.length xs.length hi-HT.sIx xs.length 0 lo)
def JR (xs:List V)(lo hi:Option Int):(G4 xs lo hi).length<=xs.length:=by
 unfold G4;rw[du,ie];omega
def CD (K:aj):V->Option Int->Option Int->Hp->VK->Prop:=λx lo hi H Q=>∃a xs,x=.ref a/\SqT K H a xs/\
 ¬(HT.sIx xs.length 0 lo=0/\HT.sIx xs.length xs.length hi=xs.length)/\∀p,H p=none->Q (.ref p) (kj H p (.tup (G4 xs lo hi)))
def GD:SlR X (CD X.K):=by
 intro g s p H x v vl u lo hi w Q I l k pl o h;obtain⟨a,xs,rfl,j,i,q⟩:=h;cases l;obtain⟨d,r,f,hz⟩:=I.tuple j;have c:d.toArray.size=xs.length:=by exact r.length.symm
 refine⟨"tuple",_,bE.lookup,f.typeIs,?_⟩;refine HT.getItem_tuple_cut f k pl o (by rw[c];exact i) ?_ (by rw[c];exact hz)
 rw[c];refine⟨.ref _,_,I.laid (λb ob q=>aa _ q) (aq _) ?_,rfl,q _ (I.hok.fresh (aq _))⟩;exact⟨aC (JR xs lo hi) hz,_,(r.drop _).take _,ITN.new _ _⟩
def LG (K:aj):R2:=λx y H Q=>∃a b xs c,x=.ref a/\y=.ref b/\SqT K H a xs/\SqT K H b c/\xs≠[]/\xs.length+c.length<=sizeLine/\
 (c=[]->Q (.ref a) H)/\(c≠[]->∀p,H p=none->Q (.ref p) (kj H p (.tup (xs++c))))
def Vals.nil_iff {xs:List V}{a:List Value}(r:Vals xs a):a=[]↔xs=[]:=by
 cases r with
 |nil=>simp
 |cons _ _=>simp
def kh:nc X (binaryOp .Add) (LG X.K):=by
 intro f s D H x y v u Q I o r h;obtain⟨a,b,xs,C,rfl,rfl,B,p,i,hz,j,l⟩:=h;cases o;cases r;obtain⟨k,d,p1,_⟩:=I.tuple B;obtain⟨g,c,p2,_⟩:=I.tuple p;refine HT.cat_tup p1 p2 (λz=>i (d.nil_iff.mp z)) (λz=>⟨.ref a,H,I,rfl,j (c.nil_iff.mp z)⟩) (λz=>?_) (by rw[←d.length,←c.length];exact hz)
 refine⟨.ref _,_,I.laid (λb ob q=>aa _ q) (aq _) ?_,rfl,l (λw=>z (c.nil_iff.mpr w)) _ (I.hok.fresh (aq _))⟩;exact⟨by rw[aB];exact hz,_,d.append c,ITN.new _ _⟩
end
end L2
namespace L2
open PySem PySem.Spec PyProof.Rows
noncomputable def pM (n:Nat)(i:Int):Option Nat:=if 0<=i then (if i<n then some i.toNat else none)else if -(n:Int)<=i then some (i+n).toNat else none
def nJ {a:Type}(xs:List a)(i:Int):Option a:=(pM xs.length i).bind λj=>xs[j]?
def ki {n:Nat}{i:Int}{j:Nat}(h:pM n i=some j):seqIndex? i n=some j/\j<n/\ -(n:Int)<=i/\i<n:=by
 unfold pM at h
 by_cases c:0<=i
 ·rw[if_pos c]at h
  by_cases a:i<n
  ·rw[if_pos a]at h;have e:=aF h;exact⟨by rw[seqIndex_of c a,e],by omega,by omega,a⟩
  ·rw[if_neg a]at h;cases h
 ·rw[if_neg c]at h
  by_cases a: -(n)<=i
  ·rw[if_pos a]at h;have e:=aF h;exact⟨by rw[seqIndex_neg 00 a,e],by omega,a,by omega⟩
  ·rw[if_neg a]at h;cases h
def U1 {a:Type}{xs:List a}{i:Int}{v:a}(h:nJ xs i=some v):∃j,seqIndex? i xs.length=some j/\xs[j]?=some v/\j<xs.length/\ -(xs.length:Int)<=i/\i<xs.length:=by
 unfold nJ at h;cases e:pM _ i with
 |none=>rw[e]at h;cases h
 |some j=>
  rw[e]at h;obtain⟨g,c,d,f⟩:=ki e;exact⟨j,g,h,c,d,f⟩
def j2 {a:Type}{xs:List a}{j:Nat}{v:a}(h:xs[j]?=some v):nJ xs (j:Int)=some v:=by
 have c:=(aP.mp h).1;have e:pM xs.length (j)=some j:=by
  unfold pM;rw[if_pos 00,if_pos 00];simp
 unfold nJ;rw[e];exact h
noncomputable def YX (b:Expr):Prop:=∀o i,subscripted b false o i=operate [o,i] (getItem o i)
def IxR (X:Cx)(r:R2):Prop:=
 ∀(d a:Expr) (c:List (Addr×Obj)) (s:Shared) (e:St) (H:Hp) (x y:V) (v u:Value) (Q:VK),Inv X c e H s->RelV x v->RelV y u->r x y H Q->
  subscripted a false v u=operate [v,u] (getItem v u)->wpAny 07 X.A (subscriptTail d a v u) (EP X c e Q) X.xe s
def pT (X:Cx)(id:String)(r:V->List V->Hp->VK->Prop):Prop:=
 ∀(a:List (Addr×Obj)) (s:Shared) (d:St) (H:Hp) (x:V) (xs:List V) (v:Value) (c:List Value) (Q:VK),Inv X a d H s->RelV x v->Vals xs c->r x xs H Q->
  wpAny 07 X.A (call (.builtin id) (v::c)) (EP X a d Q) X.xe s
section
variable {X:Cx}{a b:Expr}{ta tb:TE}{pos:Pos}
def IxR.or {r i:R2}(h:IxR X r)(h':IxR X i):IxR X (λx y H Q=>r x y H Q\/i x y H Q):=by
 intro c d g s e H x y v u Q I j k q f;rcases q with q|q
 ·exact h _ _ _ s e H x y v u Q I j k q f
 ·exact h' _ _ _ s e H x y v u Q I j k q f
def GE {r:R2}(hr:IxR X r)(l:PE X a ta)(j:PE X b tb)(g:YX b):PE X (.Subscript a b pos) (nQ r ta tb):=by
 intro c s f H Q I h;exact Subscript_ (DK l j I h λv u d x y e o i k q=>hr a b _ d f e x y v u Q o i k q (g _ _))
def rn (K:aj):R2:=λx y H Q=>∃p xs i v,x=.ref p/\y=.int i/\SqL K H p xs/\nJ xs i=some v/\Q v H
def su (K:aj):R2:=λx y H Q=>∃p xs i v,x=.ref p/\y=.int i/\SqT K H p xs/\nJ xs i=some v/\Q v H
def tu:R2:=λx y H Q=>∃z i c,x=.str z/\y=.int i/\z.length<=sizeLine/\nJ z.cps.toList i=some c/\Q (.str ⟨#[c]⟩) H
def kl:IxR X (rn X.K):=by
 intro f k D s L H x y v u Q I M N h C;obtain⟨p,xs,i,z,rfl,rfl,J,S,q⟩:=h;cases M;obtain⟨t,rfl⟩:=N;obtain⟨g,r,pl,hz⟩:=I.list J;obtain⟨j,d,G,U,O,F⟩:=U1 S;obtain⟨w,B,l⟩:=r.get G;have P:=r.length;have hn:=WW;have c:EP X _ L Q w s:=⟨z,H,I,l,q⟩
 by_cases o:0<=i
 ·have e:=by
   rw[seqIndex_of o F]at d;exact aF d
  exact item_listR pl.isList o 00 (by rw[e];simpa using B) c C
 ·have e:(i+(g.toArray.size)).toNat=j:=by
   rw[seqIndex_neg 00 O]at d
   rw[aJ,←P];exact aF d
  exact subscriptTail_builtinR pl.isList.typeIs slot_list_getitem.lookup
   (wpAny_getItem_list_neg pl.isList 00 (by rw[aJ]<;>omega) 00 (by rw[e];simpa using B) ⟨rfl,c⟩) C
def GF:IxR X (su X.K):=by
 intro d e g s D H x y v u Q I G J h F;obtain⟨p,xs,i,z,rfl,rfl,o,M,q⟩:=h;cases G;obtain⟨t,rfl⟩:=J;obtain⟨B,r,pl,hz⟩:=I.tuple o;obtain⟨j,l,k,O,P,N⟩:=U1 M;obtain⟨w,C,f⟩:=r.get k;have L:=r.length;have hn:=WW;have c:EP X _ D Q w s:=⟨z,H,I,f,q⟩;exact subscriptTail_builtinR pl.typeIs slot_tuple_getitem.lookup
  (getItem_tuple pl 00 00 (by rw[aJ,←L];exact l) (by simpa using C) ⟨rfl,c⟩) F
def GG:IxR X tu:=by
 intro d e g s J H x y v u Q I w B h r;obtain⟨z,i,c,rfl,rfl,hz,F,q⟩:=h;obtain⟨t,rfl⟩:=w;obtain⟨t',rfl⟩:=B;obtain⟨j,f,l,G,C,k⟩:=U1 F;have D:z.cps.toList.length=z.length:=by simp[Str.length]
 rw[D]at f C k;have hn:=WW;exact tail_any (typeIs_str s z t) slot_str_getitem.lookup (getItem_str (by
  have p:decide (i< -(2^63))=false:=decide_eq_false 00
  have o:decide (i≥2^63)=false:=decide_eq_false 00
  rw[p,o,Bool.or_false]) (by rw[f];simpa using l) ⟨.str _,H,I.tok _,⟨_,rfl⟩,q⟩) r
def II (K:aj):R2:=λx y H Q=>rn K x y H Q\/su K x y H Q\/tu x y H Q
def GH:IxR X (II X.K):=kl.or (GF.or GG)
def u7 (lo hi:Option Int)(n:Nat):(sliceBounds lo hi none n).1=((HT.sIx n 0 lo:Nat):Int)/\(sliceBounds lo hi none n).2.1=((HT.sIx n n hi:Nat):Int)/\(sliceBounds lo hi none n).2.2=1:=by
 refine⟨?_,?_,rfl⟩
 ·cases lo with
  |none=>simp[sliceBounds,HT.sIx]
  |some i=>
   simp only[sliceBounds,HT.sIx,m3,show (1)>0 by decide,if_true]
   by_cases h:i<0
   ·simp only[h,if_true]<;>omega
   ·simp only[h,if_false]<;>omega
 ·cases hi with
  |none=>simp[sliceBounds,HT.sIx]
  |some i=>
   simp only[sliceBounds,HT.sIx,m3,show (1)>0 by decide,if_true]
   by_cases h:i<0
   ·simp only[h,if_true]<;>omega
   ·simp only[h,if_false]<;>omega
def Wb (c:List Value)(lo hi:Option Int):slicePick c.toArray lo hi none=((c.drop (HT.sIx c.length 0 lo)).take (HT.sIx c.length c.length hi-HT.sIx c.length 0 lo)).toArray:=by
 obtain⟨d,e,f⟩:=u7 lo hi _;unfold slicePick;rw[d,e,f];simp only[sliceRange_one,pick_run,aJ]<;>rfl
def C4 (K:aj):V->Option Int->Option Int->Hp->VK->Prop:=λx lo hi H Q=>∃a xs,x=.ref a/\SqL K H a xs/\∀p,H p=none->Q (.ref p) (kj H p (.lst (G4 xs lo hi)))
def km:SlR X (C4 X.K):=by
 intro e s l H x v vl o lo hi p Q I i g pl j h;obtain⟨a,xs,rfl,f,q⟩:=h;cases i;obtain⟨k,r,d,hz⟩:=I.list f;have c:=r.length;refine⟨"list",_,slot_list_getitem.lookup,d.isList.typeIs,?_⟩;refine wpAny_getItem_list_slice d.isList g pl j .none (by simp) ?_ (by rw[aJ]<;>omega)
 rw[Wb,←c];refine⟨.ref _,_,I.laid (λb ob q=>aa _ q) (aq _) ?_,rfl,q _ (I.hok.fresh (aq _))⟩;exact⟨aC (JR xs lo hi) hz,_,0,(r.drop _).take _,ai _ rfl⟩
def Ji:Zc X (.builtin "len") (λxs H Q=>∃p e,xs=[.ref p]/\(SqL X.K H p e\/SqT X.K H p e)/\Q (.int e.length) H):=by
 intro i s l H xs k Q I r h;obtain⟨p,e,rfl,d,q⟩:=h;obtain⟨u,rfl,j⟩:=Zk r;cases j;have hn:=WW;rcases d with d|d
 ·obtain⟨g,f,pl,hz⟩:=I.list d;have c:=f.length;exact Calls.call_len_list pl.isList (by simp only[aJ]<;>omega) ⟨.int _,H,I.tok _,⟨s.toks+1,by rw[aJ,c]⟩,q⟩
 ·obtain⟨g,f,pl,hz⟩:=I.tuple d;have c:=f.length;exact len_tuple pl (by simp only[aJ]<;>omega) ⟨.int _,H,I.tok _,⟨s.toks+1,by rw[aJ,c]⟩,q⟩
def u8:Zc X (.builtin "len") (λxs H Q=>∃z,xs=[.str z]/\z.length<=sizeLine/\Q (.int z.length) H):=by
 intro c s e H xs d Q I r h;obtain⟨z,rfl,hz,q⟩:=h;obtain⟨u,rfl,t,rfl⟩:=Zk r;have hn:=WW;exact len_str 00 ⟨.int _,H,I.tok _,⟨_,rfl⟩,q⟩
def Zc.or {f:Value}{r g:List V->Hp->VK->Prop}(h:Zc X f r)(h':Zc X f g):Zc X f (λxs H Q=>r xs H Q\/g xs H Q):=by
 intro e s d H xs c Q I rs q;rcases q with q|q
 ·exact h _ s d H xs c Q I rs q
 ·exact h' _ s d H xs c Q I rs q
def Wc:Zc X (.type "tuple") (λxs H Q=>∃p c,xs=[.ref p]/\((SqL X.K H p c/\∀l,H l=none->Q (.ref l) (kj H l (.tup c)))\/(SqT X.K H p c/\Q (.ref p) H))):=by
 intro k s j H xs B Q I r h;obtain⟨p,c,rfl,h⟩:=h;obtain⟨u,rfl,x⟩:=Zk r;cases x;rcases h with ⟨f,q⟩|⟨f,q⟩
 ·obtain⟨d,g,pl,hz⟩:=I.list f;have v:=g.length;refine call_tuple_list pl.isList (λh' kp=>?_) (by simp only[aJ]<;>omega)
  have i:Inv X _ j H {s with heap:=h'}:=I.kept kp;have y:Inv X _ j (kj H _ (.tup c)) {s with heap:=h'.push _}:=
   i.laid (λb o e=>aa _ e) (aq _) (show zQ _ X.w _ _ _ _ from ⟨hz,d,g,ITN.new _ _⟩)
  exact⟨.ref _,_,y,rfl,q _ (i.hok.fresh (aq _))⟩
 ·obtain⟨d,g,pl,hz⟩:=I.tuple f;exact call_tuple_same pl ⟨.ref p,H,I,rfl,q⟩
def Dr (K:aj)(T:String)(x:V)(H:Hp):Prop:=match x with
 |.str _=>T="str"
 |.int _=>T="int"
 |.ref p=>(T="list"/\∃xs,SqL K H p xs)\/(T="tuple"/\∃o,K.lookup p=some o/\o.cls=.type "tuple"/\o.dict=none)\/
   (T="dict"/\((∃kvs,H p=some (.dK kvs))\/∃kvs,H p=some (.dT kvs)))\/(T="set"/\∃S n,H p=some (.set S n))
 |_=>False
def X6 {f:List (Addr×Obj)}{q:St}{H:Hp}{s:Shared}{T:String}{x:V}{v:Value}(I:Inv X f q H s)(r:RelV x v)(g:Dr X.K T x H):
  s.TypeIs v T/\∀a,v=.ref a->∃ob,s.heap.get? a=some ob/\ob.dict=none:=by
 cases x with
 |str z=>
  obtain⟨t,rfl⟩:=r;cases (g);exact⟨typeIs_str s z t,λ_ e=>nomatch e⟩
 |int i=>
  obtain⟨t,rfl⟩:=r;cases (g);exact⟨typeIs_int s i t,λ_ e=>nomatch e⟩
 |ref p=>
  cases r;rcases g with ⟨rfl,xs,k⟩|⟨rfl,o,d,u,hd⟩|⟨rfl,d⟩|⟨rfl,S,n,d⟩
  ·obtain⟨l,_,pl,_⟩:=I.list k;refine⟨pl.isList.typeIs,λa e=>?_⟩;cases e;obtain⟨o,n,e,c,hd,_⟩:=pl;exact⟨o,e,hd⟩
  ·refine⟨⟨o,I.kIn p o d,u⟩,λa e=>?_⟩;cases e;exact⟨o,I.kIn _ o d,hd⟩
  ·have z:∃o,s.heap.get? p=some o/\o.ExactDict:=by
    rcases d with ⟨kvs,d⟩|⟨kvs,d⟩
    ·obtain⟨_,_,_,_,o,_,_,e,ex,_⟩:=I.hok p _ d;exact⟨o,e,ex⟩
    ·obtain⟨_,_,_,_,o,_,_,e,ex,_⟩:=I.hok p _ d;exact⟨o,e,ex⟩
   obtain⟨o,e,ex⟩:=z;refine⟨⟨o,e,ex.1⟩,λa j=>?_⟩;cases j;exact⟨o,e,ex.2.1⟩
  ·obtain⟨o,_,_,_,e,ex,_⟩:=I.hok p _ d;refine⟨⟨o,e,ex.1⟩,λa j=>?_⟩;cases j;exact⟨o,e,ex.2.1⟩
 |_=>exact dC g
def Cv (K:aj)(T:String)(r:V->List V->Hp->VK->Prop)(d:TE):TE:=λe H Q=>d e H λx c=>Dr K T x c/\r x [] c Q
def Db (K:aj)(T:String)(r:V->List V->Hp->VK->Prop)(e:TE)(t:TA):TE:=λd H Q=>e d H λx c=>Dr K T x c/\t d c λxs f=>r x xs f Q
variable {o e:Expr}{es:List Expr}{to:TE}{t:TA}{name:Str}{apos cpos:Pos}{T id:String}{r:V->List V->Hp->VK->Prop}
def X7 (q:PlainAttrs T)(f:Slot T name id)(g:typeOf (.builtin id)=pure (.type "method_descriptor"))(w:pT X id r)(F:PE X o to)
  (d:attributeBase o name X.env (eval o X.env)=eval o X.env:=by rfl) (c:(apos.endLine==cpos.line)=true:=by rfl):PE X (.Call (.Attribute o name apos) [] [] cpos) (Cv X.K T r to):=by
 intro l s k H Q I h;refine wpAny_Call_method0_late d c (mN (F _ s k H _ I h) λv D ⟨x,u,j,i,y,C⟩=>?_);obtain⟨B,p⟩:=X6 j i y;exact⟨T,id,q,f,g,B,p,eT rfl (i_ (w _ D k u x [] v [] Q j i .nil C))⟩
def U2 (y:PlainAttrs T)(g:Slot T name id)(k:typeOf (.builtin id)=pure (.type "method_descriptor"))(D:pT X id r)(U:PE X o to)(Z:PA X (e::es) t)
  (f:attributeBase o name X.env (eval o X.env)=eval o X.env:=by rfl)
  (i:((backTo cpos (starEach (e::es) X.env)).all (λx=> !x.1)&&(backToKw cpos (keywordEach [] X.env)).all (λx=>x.1.isSome)
   &&decide ((e::es).length+([]:List Keyword).length+(if ([]:List Keyword).isEmpty then 0 else 1)<30))=true:=by rfl)
  (d:(apos.endLine==cpos.line)=true:=by rfl) (S:starEach (e::es) X.env=(false,eval e X.env)::starEach es X.env:=by rfl) (c:(backTo cpos (starEach es X.env)).any (·.1)=false:=by rfl):
  PE X (.Call (.Attribute o name apos) (e::es) [] cpos) (Db X.K T r to t):=by
 intro u s j H Q I h;refine wpAny_Call_method_late f i d rfl (mN (U _ s j H _ I h) λv M ⟨x,B,q,p,F,L⟩=>?_);obtain⟨G,w⟩:=X6 q p F;refine⟨T,id,y,g,k,G,w,?_⟩;have l:=Z cpos _ M j B _ q L;rw[S]at l⊢;refine eT (by show (false||(backTo _ _).any _)=false;rw[c]<;>rfl) (Calls.evalArgs_plain ?_)
 exact mN l λO P ⟨vs,J,I2,C,N⟩=>D _ P j J x vs v O Q I2 p C N
end
end L2
namespace L2
open PySem PySem.Spec PyProof.Rows
def DY (X:Cx)(id:String)(r:V->List V->Hp->VK->Prop):Prop:=
 ∀(a:List (Addr×Obj)) (s:Shared) (d:St) (H:Hp) (x:V) (xs:List V) (v:Value) (c:List Value) (Q:VK),Inv X a d H s->RelV x v->Vals xs c->r x xs H Q->
  wpAny 07 X.A (call (.builtin id) (v::c)) (EP X a d Q) X.xe s
def Vals.one:∀{x:V} {a:List Value},Vals [x] a->∃u,a=[u]/\RelV x u
 |_,_,.cons r .nil=>⟨_,rfl,r⟩
theorem Vals.rep {xs:List V}{a:List Value}(h:Vals xs a):∀k:Nat,Vals (ar k xs).flatten (ar k a).flatten
 |0=>.nil
 |k+1=>by
  exact Vals.append h (Vals.rep h k)
theorem jI (a:List Value):∀(k:Nat) (acc:List Value),
  fU (λf d=>f++d) acc.toArray (ar k a.toArray)=(acc++(ar k a).flatten).toArray
 |0,acc=>by simp
 |k+1,acc=>by
  have e:acc.toArray++a.toArray=(acc++a).toArray:=by simp
  have c:(acc++a)++(ar k a).flatten=acc++(ar (k+1) a).flatten:=by
   rw[c6,g_,bN]
  rw[←c,←jI a k _,←e,c6,List.foldl_cons]
section
variable {X:Cx}{pins:List (Addr×Obj)}{σ:St}{H:Hp}{s:Shared}{l b:Addr}{xs ys zs:List V}
def Inv.lset {c a:List Value}{n:Nat}{f:Array Value->Array Value}{t':Nat}(I:Inv X pins σ H s)(k:H l=some (.lst xs))
  (e:s.heap.get? l=some {cls:=.type "list",data:=.seq c.toArray n}) (i:f c.toArray=a.toArray) (j:Vals ys a) (hz:ys.length<=sizeLine):
  Inv X pins σ (kj H l (.lst ys)) {s with heap:=s.heap.update l (cj f),toks:=t'}:=by
 have q:=PySem.IsL.update e f;rw[i]at q;refine I.write (by rw[k];exact trivial) (.inl rfl) (λo u g d=>(ck _ _ (aT g)).trans d) ⟨_,q⟩ ?_
 exact⟨hz,a,_,j,q⟩
def Inv.lnew {a:List Value}{t':Nat}(I:Inv X pins σ H s)(c:Vals ys a)(hz:ys.length<=sizeLine):
  Inv X pins σ (kj H s.1.1.size (.lst ys)) {s with heap:=s.heap.push {cls:=.type "list",data:=.seq a.toArray},toks:=t'}:=
 I.laid (λ_ _ q=>aa _ q) (aq _) ⟨hz,a,0,c,ai _ rfl⟩
theorem Inv.fresh (I:Inv X pins σ H s):H s.1.1.size=none:=I.hok.fresh (aq _)
def Inv.lstM (I:Inv X pins σ H s)(c:H l=some (.lst xs)):xs.length<=sizeLine/\∃(a:List Value) (n:Nat),Vals xs a/\xs.length=a.length/\s.heap.get? l=some {cls:=.type "list",data:=.seq a.toArray n}:=by
 obtain⟨z,a,n,r,e⟩:=I.hok l _ c;exact⟨z,a,n,r,r.length,e⟩
def UA {n:Nat}(h:n<=sizeLine):eA n=false:=by
 exact decide_eq_false 00
end
section
variable {X:Cx}
def U3:V->List V->Hp->VK->Prop:=λx vs H Q=>∃l xs y,x=.ref l/\vs=[y]/\H l=some (.lst xs)/\xs.length<sizeLine/\Q .non (kj H l (.lst (xs++[y])))
def ja:DY X "list.append" U3:=by
 intro a s k H x vs v j Q I f d h;obtain⟨l,xs,y,rfl,rfl,c,hz,q⟩:=h;cases f;obtain⟨u,rfl,i⟩:=d.one;obtain⟨z,g,n,r,o,e⟩:=I.lstM c;refine fV F.slot_list_append ⟨_,e,rfl⟩ F.entry_list_append (F.args_list_append_2 _ _) (PySem.list_append l _ n u (by rw[aJ];omega)) ⟨e,?_⟩
 refine⟨.non,_,I.lset c e (by simp) (r.append (.cons i .nil)) ?_,rfl,q⟩
 rw[aB,aM];omega
def ko:V->List V->Hp->VK->Prop:=λx vs H Q=>∃l b xs a,x=.ref l/\vs=[.ref b]/\H l=some (.lst xs)/\H b=some (.lst a)/\xs.length+a.length<=sizeLine/\Q .non (kj H l (.lst (xs++a)))
def YY:DY X "list.extend" ko:=by
 intro g s J H x vs v D Q I B k h;obtain⟨l,b,xs,C,rfl,rfl,f,o,hz,q⟩:=h;cases B;obtain⟨u,rfl,w⟩:=k.one;cases w;obtain⟨z,c,n,r,L,e⟩:=I.lstM f;obtain⟨G,a,p,j,y,i⟩:=I.lstM o;have hsz:c.toArray.size+a.toArray.size<=sizeLine:=by rw[aJ,aJ];omega
 have d:¬(!c.toArray.isEmpty&&eA (c.toArray.size+a.toArray.size))=true:=by
  rw[UA hsz,Bool.and_false];exact az
 refine fV F.slot_list_extend ⟨_,e,rfl⟩ F.entry_list_extend (F.args_list_extend_2 _ _)
  (AutoSeq1.list_extend_list_list_0 l _ n b _ p d 00 00) ⟨e,i,?_⟩
 refine⟨.non,_,I.lset f e (by simp) (r.append j) ?_,rfl,q⟩
 rw[aB];omega
def Ch:R2:=λx y H Q=>∃l b xs a,x=.ref l/\y=.ref b/\H l=some (.lst xs)/\H b=some (.lst a)/\xs.length+a.length<=sizeLine/\∀p,H p=none->Q (.ref p) (kj H p (.lst (xs++a)))
def GI:nc X (binaryOp .Add) Ch:=by
 intro d s F H x y v u Q I p w h;obtain⟨l,b,xs,C,rfl,rfl,k,i,hz,q⟩:=h;cases p;cases w;obtain⟨z,c,n,r,G,e⟩:=I.lstM k;obtain⟨D,a,B,g,o,f⟩:=I.lstM i;refine PySem.P.add_list e f ?_ (by rw[aJ,aJ];omega)
 have j:c.toArray++a.toArray=(c++a).toArray:=by simp
 rw[j];exact⟨.ref _,_,I.lnew (r.append g) (by rw[aB];omega),rfl,q _ I.fresh⟩
def DL:R2:=λx y H Q=>∃l k xs,x=.ref l/\y=.int k/\H l=some (.lst xs)/\ -(2^63)<=k/\k<2^63/\xs.length*k.toNat<=sizeLine/\
 ∀p,H p=none->Q (.ref p) (kj H p (.lst (ar k.toNat xs).flatten))
def jW {c:Type}(xs:List c)(k:Nat):(ar k xs).flatten.length=k*xs.length:=by
 induction k with
 |zero=>simp
 |succ k a=>rw[c6,g_,aB,a,fL,lJ]
def GJ:nc X (binaryOp .Mult) DL:=by
 intro w s O H x y v u Q I J L h;obtain⟨l,k,xs,rfl,rfl,D,C,B,hz,q⟩:=h;cases J;obtain⟨t,rfl⟩:=L;obtain⟨z,c,n,r,M,e⟩:=I.lstM D;have g:c.toArray.size*k.toNat<=sizeLine:=by rw[aJ,←M];exact hz
 have i:¬c.toArray.size*k.toNat>(2^63-1)/8:=by
  have:(sizeLine)<=(2^63-1)/8:=by decide
  omega
 have f:¬(!Builtin.List.listFitsIndex k)=true:=by
  rw[fitsIndex_both C B];exact az
 have d:¬eA (c.toArray.size*k.toNat)=true:=by
  rw[UA g];exact az
 have j:fU (λo p=>o++p) #[] (ar (if c.toArray.isEmpty=true then 0 else k.toNat) c.toArray)=(ar k.toNat c).flatten.toArray:=by
  have N:∀m,fU (λo p=>o++p) #[] _=(ar m c).flatten.toArray:=λm=>by
   have:=jI c m [];exact this
  rw[N];cases c with
  |nil=>simp
  |cons a P=>rw[if_neg (by simp)]
 refine wpAny_binaryOp_repeat_ref 01 ⟨_,e,rfl⟩ (λG=>typeIs_int G k t) noFill_list_mul my fG repeat_list m4.lookup
  (fV fG (typeIs_int s k t) m5 (lK _ _) (int___rmul___int_list k t l _ n)
   ⟨e,rfl,⟨_,e,rfl⟩,fV F.slot_list_mul ⟨_,e,rfl⟩ F.entry_list_mul (F.args_list_mul_2 _ _) (AutoListH.list___mul___list_int_3 l _ n k t f i d) ⟨e,?_⟩⟩)
 rw[j];exact⟨.ref _,_,I.lnew (r.rep _) (by rw[jW,dD];exact hz),rfl,q _ I.fresh⟩
end
end L2
namespace Att
open PySem PySem.W PySem.Calls PyProof.Rows
def JS {P:Params}{h:Heap}:∀(ns:List Int) (vs:List Value),WellAll P h vs (ns.map WData.int)->IntsAre vs ns:=by
 intro ns
 induction ns with
 |nil=>
  intro vs w;cases w;exact .nil
 |cons n ns c=>
  intro vs w;cases w with
  |cons a b=>
   cases a;exact .cons _ _ (c _ b)
def YZ {l:OpenLaw}{n:Nat}(hn:l.most=some n){P:Params}{h:Heap}{args:List WData}{e:List Value}
  (c:l.row.toRowW.claim.pre args=true) (k:WellAll P h e args):
  ∃a vs ns,e=[Value.ref a]/\args=[WData.list (ns.map WData.int)]/\h.get? a=some {cls:=.type "list",data:=.seq vs.toArray}/\IntsAre vs ns/\ns.length<=n:=by
 have o:=(pre_splitW c).1;have y:=(pre_splitW c).2;obtain⟨d,r,rfl,v,p⟩:=hasAllW_cons o;obtain rfl:=hasAllW_nil p;obtain⟨xs,rfl,u⟩:=hasW_list v;obtain⟨ns,rfl⟩:=items_int u;have g:ns.length<=n:=by
  have j:=by
   have j:=(holds_andW y).1;rw[hn]at j;exact j
  have i:=condW_of j (w_not (w_lt w_lit (w_len_list (w_arg rfl))));rw[ag]at i;refine Nat.le_of_not_lt λq=>?_;have w:(n)<((ns.length):Int):=by omega
  first
   |(rw[decide_eq_true w]at i;exact absurd i 01)
   |(simp at i)
 cases k with
 |cons w1 w2=>
  cases w2;cases w1 with
  |list x f=>exact⟨_,_,ns,rfl,rfl,x,JS ns _ f,g⟩
def qa (l:OpenLaw)(args:List WData):l.row.toRowW.claim.post args (.bool true) args=true:=
 postW_of
  (show WShape.has [] _ _=true by first|rfl|decide|simp[WShape.has,WShape.arms,WShape.armsAll])
  (show (WTm.eq _ _).value [] _=some _ from w_eq_bool (w_res rfl) w_lit) rfl
def attach_call {l:OpenLaw}{n:Nat}{q:Program}{e:List Str}{XP:(Str->Option Value)->Heap->Prop}{L:World->Heap->Prop}{d:DefRec}
  (hn:l.most=some n) (J:d.params.defaults=[])
  (call:∀(w:World) (s₀ c:Shared) (y D:Str->Option Value) (p:Addr) (o:Obj) (B v g:Value) (a:Addr) (vs:List Value) (ns:List Int),
   Ground q e [] XP w s₀ y D c.heap->L w c.heap->
   c.heap.get? p=some o->o.data=.func (docDef d.name d.params d.body d.scope B v g)->c.heap.CodeRec v d.name->y d.name=some (.ref p)->
   c.heap.get? a=some {cls:=.type "list",data:=.seq vs.toArray}->IntsAre vs ns->ns.length<=n->c.gens=#[]->
   codeAny (model l.prog w) callerA (.call (.ref p) ⟨[.ref a],[]⟩) (λr x=>r=.ok (.ret (.bool true))/\OldK c.heap x.heap/\x.os=c.os/\AllBare x.gens) c):
  WalkO q e XP L l.row.toRowW d [] (λf vs=>mI f vs):=by
 intro w s₀ c y D G Y p o B v g dV kV ho hd F M I hg args O as j N P C Z;obtain rfl:dV=.none:=Dflts.none M J;obtain rfl:kV=.none:=Dflts.noKw M;obtain⟨a,vs,ns,rfl,rfl,k,i,u⟩:=YZ hn j C;refine enter_call (eQ (call w _ _ y D p o B v g a vs ns G Y ho (fd_plain hd) F I k i u hg) λr x U=>?_);obtain⟨rfl,Q,X,h4⟩:=U;exact⟨.inl ⟨.bool _,.bool _,[],rfl,λ_=>rfl,.bool _,qa l _,λ_=>⟨List.Pairwise.nil,λ_ S=>(nomatch S)⟩⟩,Q,X,h4⟩
end Att
namespace L2
open PySem PySem.Spec PyProof.Rows
theorem jJ:∀{vs:List Value} {ns:List Int},IntsAre vs ns->Vals (ns.map V.int) vs
 |_,_,.nil=>.nil
 |_,_,.cons n t h=>.cons ⟨t,rfl⟩ (jJ h)
def AC (H:Hp):Prop:=∀b,H b=none\/∃o xs,H b=some (.frz o (.lst xs))
def Vz {P:Program}{w:World}{K:aj}{I mb:Str->Option Value}{CX:n5}{k:Nat}{S a:Addr}{fd:FuncData}{x:Str}{sp:Sp}{c:Shared}{vs:List Value}{ns:List Int}
  (KX:K.In c.heap) (J:c.heap.Ns mainGlobals I) (g:c.heap.Ns builtinsNs mb) (Z:∀x:Str,x≠"__name__"->mb x=bootBuiltins x) (G:c.heap.NoLimit) (hg:c.gens=#[])
  (N:c.heap.get? a=some {cls:=.type "list",data:=.seq vs.toArray}) (hi:IntsAre vs ns) (hl:ns.length<=sizeLine) (hr:jH k callerA)
  (F:∀base:Heap,K.In base->base.Ns mainGlobals I->wQ P w K I base CX k S fd [x] sp) (p:∀(s:Shared) (u:Value),BindsTo s fd ⟨[u],[]⟩ [(x,u)])
  (Q:∀H:Hp,AC H->SqL K H a (ns.map V.int)->sp [.ref a] H (λv _=>v=.bl true) λ_ _ _=>False)
  (U:∀H e i,CX [] H c (λ_ _ _=>False) e i->False):
  codeAny (model P w) callerA (.call (.ref S) ⟨[.ref a],[]⟩) (λr i=>r=.ok (.ret (.bool true))/\OldK c.heap i.heap/\i.os=c.os/\AllBare i.gens) c:=by
 have rv:=jJ hi;have D:=hi.length;have l:∀H,AC H->SqL K H a (ns.map V.int)->HOk P w H c.heap->(∀b,H b≠none->b=a)->(H a≠none->K.lookup a=none)->
   codeAny (model P w) callerA (.call (.ref S) ⟨[.ref a],[]⟩) (λr i=>r=.ok (.ret (.bool true))/\OldK c.heap i.heap/\i.os=c.os/\AllBare i.gens) c:=by
  intro H hO hS y hA hK;have f:∀{b:Addr} {o:Obj},c.heap.get? b=some o->H b=none->(gY _ H).get? b=some o:=λe n=>Vp e n;have noA:∀{b:Addr} {o:Obj} {O:Array _} {ep:Nat},c.heap.get? b=some o->o.data=.dict O ep->H b=none:=λ{b o O ep} e d=>by
   cases q:H b with
   |none=>rfl
   |some u=>
    have X:=hA b (by rw[q];simp)
    subst X;rw[N]at e;cases e;have d':=d;cases d'
  have j:∀{b:Addr} {m:Str->Option _},c.heap.Ns b m->(gY _ H).Ns b m:=λ{b m} ⟨o,O,ep,e,d,r⟩=>⟨o,O,ep,f e (noA e d),d,r⟩;have B:=λb o e=>f (KX b o e) (by
   cases q:H b with
   |none=>rfl
   |some u=>
    have X:=hA b (by rw[q];simp)
    subst X;rw[hK (by rw[q];simp)]at e;cases e)
  have hM:Mod K I _:=⟨B,j J,⟨mb,j g,Z⟩,let ⟨mc,h1,h2⟩:=G;⟨mc,j h1,h2⟩⟩;have e0:AH P w K I _ callerA [] _ H:=⟨rfl,hM,λb o e=>XR e,Nat.le_of_eq (YG _ _),trivial,λb g=>absurd (show b∈([]:List _) from g) (by simp),y,.of_eq hg⟩
  refine eQ ((F _ B (j J)).run _ [] _ H _ _ [.ref a] _ _ hr e0 (p _ _) (.cons rfl .nil) (Q H hO hS)) λr i h=>?_;cases r with
  |error e=>exact(U H e i h).elim
  |ok fl=>
   cases fl with
   |next=>exact dC h
   |brk=>exact dC h
   |cont=>exact dC h
   |ret u=>
    obtain⟨v,H',os,M,un,C,r',q⟩:=h;have q':=q;subst q';obtain rfl:u=Value.bool _:=r';refine⟨rfl,OldK.of_keep λb o e=>?_,os,M⟩;cases q:H b with
    |none=>exact un.keep b o e q (by intro z;exact absurd (show b∈([]:List _) from z) (by simp)) (by simp)
    |some u=>
     rcases hO b with z|⟨ob,xs,z⟩
     ·rw[q]at z;cases z
     ·have z2:=un.frzs b ob _ z;obtain⟨e1,_⟩:=y b _ z;obtain⟨e2,_⟩:=C b _ z2;rw[e]at e1;cases e1;exact e2
 cases hk:K.lookup a with
 |some o=>
  have e:=KX a o hk;rw[N]at e;cases e;refine l (λ_=>none) (λ_=>.inl rfl) (.inr ⟨_,vs.toArray,_,hk,rfl,rfl,rfl,by rw[aJ,D];exact hl,by simpa using rv⟩) (λb u z=>by have L:=z;cases L) (λb z=>absurd rfl z) λz=>absurd rfl z
 |none=>
  refine l (λb=>if b=a then some (.frz {cls:=.type "list",data:=.seq vs.toArray} _)else none) (λb=>?_) (.inl (.inr ⟨{cls:=.type _,data:=.seq _},if_pos rfl⟩)) (λb u z=>?_) (λb z=>?_) λ_=>hk
  ·by_cases g:b=a
   ·exact .inr ⟨_,_,if_pos g⟩
   ·exact .inl (if_neg g)
  ·by_cases g:b=a
   ·have L:=(if_pos g).symm.trans z;cases L;subst g;exact⟨N,by rw[ag];exact hl,vs,_,rv,N⟩
   ·have L:=(if_neg g).symm.trans z;cases L
  ·by_cases g:b=a
   ·exact g
   ·exact absurd (if_neg g) z
end L2
namespace L2
open PySem PySem.Spec PyProof.Rows
def walk_of {l:PySem.W.OpenLaw}{n k:Nat}{q:Program}{i:List Str}{XP:(Str->Option Value)->Heap->Prop}{N:World->Heap->Prop}{d:DefRec}{K:Params->aj}{CX:World->n5}{sp:World->Sp}{x:Str}
  (hn:l.most=some n) (L:n<=sizeLine) (M:d.params.defaults=[]) (hr:jH k callerA)
  (X:∀(w:World) (h:Heap),N w h->(K w.params).In h)
  (F:∀(w:World) (p:Str->Option Value) (y:Addr) (h:Heap),(K w.params).In h->h.Ns mainGlobals p->p d.name=some (.ref y)->
   ∃J:FuncData,(∀(s:Shared) (u:Value),BindsTo s J ⟨[u],[]⟩ [(x,u)])/\
    ∀base:Heap,(K w.params).In base->base.Ns mainGlobals p->wQ l.prog w (K w.params) p base (CX w) k y J [x] (sp w))
  (B:∀(w:World) (H:Hp) (a:Addr) (ns:List Int),ns.length<=n->AC H->SqL (K w.params) H a (ns.map V.int)->sp w [.ref a] H (λv _=>v=.bl true) λ_ _ _=>False)
  (C:∀(w:World) (H:Hp) (s:Shared) (e:Value) (D:Shared),CX w [] H s (λ_ _ _=>False) e D->False):
  PySem.W.WalkO q i XP N l.row.toRowW d [] (λf vs=>mI f vs):=by
 refine Att.attach_call hn M λw s₀ P p mb y o pm cd U a vs ns G Y ho hd Z I r j c hg=>?_;have O:=X w _ Y;obtain⟨J,hb,S⟩:=F w p y _ O G.T.g I;exact Vz O G.T.g G.T.b G.T.builtins G.T.nolimit hg r j (aC c L) hr S hb (λH Q hS=>B w H a ns c Q hS) λH e D=>C w H _ e D
end L2
namespace L2
open PySem PySem.Spec PyProof.Rows
noncomputable def jb (s:Stmt):Arguments:=match s with
 |.FunctionDef _ a _ _ _ _ _ _ _ _=>a
 |_=>{posonlyargs:=[],args:=[],vararg:=none,kwonlyargs:=[],kw_defaults:=[],kwarg:=none,defaults:=[]}
noncomputable def Zf (s:Stmt):List Stmt:=match s with
 |.FunctionDef _ _ b _ _ _ _ _ _ _=>b
 |_=>[]
noncomputable def zj (s:Stmt):Scope:=match s with
 |.FunctionDef _ _ _ _ _ _ a _ _ _=>a
 |_=>{kind:=.function,names:=[],isGenerator:=false,isCoroutine:=false}
abbrev nh:n5:=λ_ _ _ _ _ _=>False
structure Fun (K:aj) (x qual:Str) (st:Stmt) (f:Addr) (fd:FuncData):Prop where
 ex:∃(oc:Value) (od:Option Addr) (kV doc pm:Value) (an:Option Addr) (cdv ct:Value) (osl:Array (Option Value)),
  fd=cN x qual (jb st) (Zf st) (zj st) .none kV doc pm an cdv ct/\K.lookup f=some ⟨oc,od,.func fd,osl⟩/\fS K cdv qual=true
 kp:dq K (.ref f)=true
section
variable {P:Program}{w:World}{K:aj}{mg:Str->Option Value}{base:Heap}
def Fun.ok {x qual:Str}{st:Stmt}{f:Addr}{g:FuncData}{N d:List Str}{k:Nat}{sp:Sp}(F:Fun K x qual st f g)(S:JQ N d (zj st))(len:∀vs H Q E,sp vs H Q E->vs.length=d.length)
  (a:∀(cdv:Value) (A:Around) (outer:List Env) (s:Shared) (H:Hp) (vs:List V) (Q:VK) (E:XK),jH k (A.deeper (envOfC qual (zj st) s.1.1.size f cdv))->sp vs H Q E->
   ∃t,PSs (Js nh P w K mg base N qual (zj st) f cdv A outer s H E).nox (Zf st) t/\t {nx:=λ_ j=>Q .non j,rt:=Q} (start N vs) H):wQ P w K mg base nh (k+1) f g d sp:=by
 obtain⟨r,o,kV,i,p,u,cdv,ct,l,rfl,lk,e⟩:=F.ex;refine EV lk e S len λA outer s H vs Q E hr c=>?_;obtain⟨t,h,q⟩:=a cdv A _ s H vs Q E hr c;exact⟨t,h.nox,q⟩
def Fun.binds {x qual:Str}{st:Stmt}{f:Addr}{i:FuncData}{g:List Str}(F:Fun K x qual st f i)
  (h:∀(kV a e:Value) (d:Option Addr) (cdv ct:Value) (c:List Value),c.length=g.length->bindArgs (cN x qual (jb st) (Zf st) (zj st) .none kV a e d cdv ct) ⟨c,[]⟩=pure (g.zip c)):Binds K i g []:=by
 obtain⟨o,l,kV,a,e,d,cdv,ct,j,rfl,lk,k⟩:=F.ex;exact .all (h kV a e d cdv ct)
def GK {x qual:Str}{st:Stmt}{f:Addr}{j:Value}{i e:Option Addr}{d:Array (Option Value)}{kV a g cdv ct:Value}(l:K.lookup f=some ⟨j,i,.func (cN x qual (jb st) (Zf st) (zj st) .none kV a g e cdv ct),d⟩)
  (c:fS K cdv qual=true) (k:dq K (.ref f)=true):Fun K x qual st f (cN x qual (jb st) (Zf st) (zj st) .none kV a g e cdv ct):=⟨⟨j,i,kV,a,g,e,cdv,ct,d,rfl,l,c⟩,k⟩
end
section
variable {X:Cx}
def pv (i:Nat){x:Str}{pos:Pos}(c:X.N[i]?=some x:=by rfl)(d:pU X.env.scope x:=by first|exact Or.inl rfl|exact Or.inr (Or.inl rfl)|exact Or.inr (Or.inr rfl))(hd:(x==("__debug__":Str))=false:=by decide)
  (a:(x==("__classdict__":Str))=false:=by decide):PE X (.Name x pos) (Za i):=ZS c d hd a
end
def zi (H a:Hp):Prop:=∀b o,H b=some o->a b=some o
def zi.refl (H:Hp):zi H H:=λ_ _ h=>h
def zi.trans {H d e:Hp}(a:zi H d)(b:zi d e):zi H e:=λc o h=>b c o (a c o h)
def zi.free {H a:Hp}(e:zi H a){l:Addr}(h:a l=Option.none):H l=Option.none:=by
 cases q:H l with
 |none=>rfl
 |some o=>
  rw[e l o q]at h;cases h
end L2
namespace L2
open PySem PySem.Spec PyProof.Rows PySem.W
structure Dx (P:Program) (w:World) (outer:List Env) (H:Hp) (s s':Shared) (ea:Addr) (cls a0:Value) (B:Heap) (H':Hp):Prop where
 os:s'.os=s.os
 bare:AllBare s'.gens
 fly:Heap.FlyingW B outer ea cls a0 s'.heap
 hok:HOk P w H' B
 un:Un (ou outer) [] H H' s.heap s'.heap
 n8:∀b o,s.heap.get? b=some o->b∉ou outer->(H b=none->B.get? b=some o)/\∃o',B.get? b=some o'
def DG (P:Program)(w:World):n5:=λouter H s E e f=>∃c cls d B a,e=.ref c/\Dx P w outer H s f c cls d B a/\E cls none a
end L2
namespace L2
open PySem PySem.Spec PyProof.Rows PySem.W
noncomputable def DM (cls:Value)(a:Addr)(h:Heap):Prop:=∃o,h.get? a=some o/\o.cls=cls
end L2
namespace L2
open PySem PySem.Spec PyProof.Rows PySem.W
end L2
namespace PySem
open PySem.W
end PySem
namespace L2
open PySem PySem.Spec PyProof.Rows PySem.W
section
variable {X:Cx}{pins:List (Addr×Obj)}{σ:St}{H H':Hp}{s s':Shared}{ea C:Addr}{cls a0:Value}{B:Heap}{h':Heap}
def GL (X:Cx)(E:XK):Prop:=∀(pins:List (Addr×Obj)) (σ:St) (H:Hp) (s:Shared) (e:Value) (s':Shared) (C:Addr) (m:Str->Option Value) (d:Value->Shared->Prop) (a:Env),Inv X pins σ H s->s.heap.Ns C m->H C=none->X.s₀.1.1.size<=C->C∉ou X.stack->a.frame=X.env.frame->DG X.prog X.w X.stack H s E e s'->
 wpAny 07 X.A (noteFrame e a) (λ_ c=>∃m,c.heap.Ns C m/\∀h',b8 C c.heap h'->∀env:Env,env.locals=C->wpAny 07 X.A (passOn "comprehension.variables-let-go" e env:Sem Value) (λ_ _=>False) X.xe {c with heap:=h'}) d s'
def ZU {E:XK}(h:E=λ_ _ _=>False):GL X E:=λpins σ H s e s' C m c a I _ _ _ _ _ ⟨_,_,_,_,_,_,_,z⟩=>by subst h;exact z.elim
end
end L2
namespace L2
open PySem PySem.Spec PyProof.Rows
def PE.imp {X:Cx}{e:Expr}{t t':TE}(h:PE X e t)(i:∀a H Q,t' a H Q->t a H Q):PE X e t':=λc s a H Q I q=>h _ s a H Q I (i a H Q q)
def PT.imp {X:Cx}{e:Expr}{t t':TT}(h:PT X e t)(i:∀a H Q,t' a H Q->t a H Q):PT X e t':=λc s a H Q I q=>h _ s a H Q I (i a H Q q)
def PA.imp {X:Cx}{e:List Expr}{t t':TA}(h:PA X e t)(i:∀a H Q,t' a H Q->t a H Q):PA X e t':=λpos c s a H Q I q=>h pos _ s a H Q I (i a H Q q)
def PS.imp {X:Cx}{e:Stmt}{t t':TS}(h:PS X e t)(i:∀D a H,t' D a H->t D a H):PS X e t':=λc s a H D I q=>h _ s a H D I (i D a H q)
def PSs.imp {X:Cx}{e:List Stmt}{t t':TS}(h:PSs X e t)(i:∀D a H,t' D a H->t D a H):PSs X e t':=λc s a H D I q=>h _ s a H D I (i D a H q)
end L2
namespace PV
open PySem
noncomputable def u9:Expr->Bool
 |.Starred _ _=>false
 |_=>true
def zz {e:Expr}{rest:List Expr}{env:Env}(h:u9 e=true):starEach (e::rest) env=(false,eval e env)::starEach rest env:=by
 cases e<;>first|rfl|cases h
def nT {a b:Expr}{env:Env}(h:u9 a=true)(h':u9 b=true):starEach [a,b] env=[(false,eval a env),(false,eval b env)]:=by
 rw[zz h,zz h'];rfl
def ng {a:Expr}{env:Env}(h:u9 a=true):starEach [a] env=[(false,eval a env)]:=by
 rw[zz h];rfl
theorem zY {pos:Pos}{env:Env}:∀{a:List Expr},a.all u9=true->((backTo pos (starEach a env)).any λx=>x.fst)=false
 |[],_=>rfl
 |e::a,h=>by
  rw[dg,am]at h;rw[zz h.1];have:=zY (pos:=pos) (env:=env) h.2;show (false||((backTo pos _).any λx=>x.fst))=false
  rw[this];rfl
open PySem PySem.Spec PyProof.Rows L2
noncomputable abbrev Sg:=L2.St
inductive T where
 |non|bl (b:Bool)|int (i:Int)|str (x:Str)|tup (xs:List T)|lst (xs:List T)|fz (xs:List T)
inductive R (α:Type) where
 |ok (a:α)|ex (c:Nat)|bad
noncomputable def R.bind {d e:Type}(r:R d)(f:d->R e):R e:=match r with
 |.ok a=>f a
 |.ex c=>.ex c
 |.bad=>.bad
mutual
inductive Rep (H:Hp):V->T->Prop where
 |non:Rep H .non .non
 |bl (b:Bool):Rep H (.bl b) (.bl b)
 |int (i:Int):Rep H (.int i) (.int i)
 |str (x:Str):Rep H (.str x) (.str x)
 |tup {a:Addr} {xs:List V} {ts:List T}:H a=some (.tup xs)->zr H xs ts->Rep H (.ref a) (.tup ts)
 |lst {a:Addr} {xs:List V} {ts:List T}:H a=some (.lst xs)->zr H xs ts->Rep H (.ref a) (.lst ts)
 |fz {a:Addr} {o:Obj} {xs:List V} {ts:List T}:H a=some (.frz o (.lst xs))->zr H xs ts->Rep H (.ref a) (.fz ts)
inductive zr (H:Hp):List V->List T->Prop where
 |nil:zr H [] []
 |cons {v:V} {t:T} {vs:List V} {ts:List T}:Rep H v t->zr H vs ts->zr H (v::vs) (t::ts)
end
mutual
theorem Rep.mono {H a:Hp}(s:zi H a):∀{v:V} {t:T},Rep H v t->Rep a v t
 |_,_,.non=>.non
 |_,_,.bl b=>.bl b
 |_,_,.int i=>.int i
 |_,_,.str x=>.str x
 |_,_,.tup h r=>.tup (s _ _ h) (zr.mono s r)
 |_,_,.lst h r=>.lst (s _ _ h) (zr.mono s r)
 |_,_,.fz h r=>.fz (s _ _ h) (zr.mono s r)
theorem zr.mono {H a:Hp}(s:zi H a):∀{v:List V} {t:List T},zr H v t->zr a v t
 |_,_,.nil=>.nil
 |_,_,.cons h r=>.cons (Rep.mono s h) (zr.mono s r)
end
theorem zr.length {H:Hp}:∀{vs:List V} {ts:List T},zr H vs ts->vs.length=ts.length
 |_,_,.nil=>rfl
 |_,_,.cons _ r=>congrArg _ (zr.length r)
theorem zr.get {H:Hp}:∀{vs:List V} {ts:List T} {i:Nat} {t:T},zr H vs ts->ts[i]?=some t->∃v,vs[i]?=some v/\Rep H v t
 |_,_,_,_,.nil,e=>by simp at e
 |_,_,0,_,.cons r _,e=>by simp at e;subst e;exact⟨_,rfl,r⟩
 |_,_,i+1,t,.cons _ q,e=>by
  obtain⟨v,c,a⟩:=zr.get q (by simpa using e)
  exact⟨v,by simpa using c,a⟩
theorem zr.getV {H:Hp}:∀{vs:List V} {ts:List T} {i:Nat} {v:V},zr H vs ts->vs[i]?=some v->∃t,ts[i]?=some t/\Rep H v t
 |_,_,_,_,.nil,e=>by simp at e
 |_,_,0,_,.cons r _,e=>by simp at e;subst e;exact⟨_,rfl,r⟩
 |_,_,i+1,v,.cons _ q,e=>by
  obtain⟨t,c,a⟩:=zr.getV q (by simpa using e)
  exact⟨t,by simpa using c,a⟩
theorem zr.append {H:Hp}:∀{vs c:List V} {ts a:List T},zr H vs ts->zr H c a->zr H (vs++c) (ts++a)
 |_,_,_,_,.nil,q=>q
 |_,_,_,_,.cons r t,q=>.cons r (zr.append t q)
theorem zr.take {H:Hp}:∀{vs:List V} {ts:List T} (n:Nat),zr H vs ts->zr H (vs.take n) (ts.take n)
 |_,_,0,_=>.nil
 |_,_,_+1,.nil=>.nil
 |_,_,n+1,.cons r t=>.cons r (zr.take n t)
theorem zr.drop {H:Hp}:∀{vs:List V} {ts:List T} (n:Nat),zr H vs ts->zr H (vs.drop n) (ts.drop n)
 |_,_,0,r=>r
 |_,_,_+1,.nil=>.nil
 |_,_,n+1,.cons _ t=>zr.drop n t
theorem zr.rep {H:Hp}{vs:List V}{ts:List T}(h:zr H vs ts):∀n:Nat,zr H (ar n vs).flatten (ar n ts).flatten
 |0=>.nil
 |n+1=>by
  exact h.append (zr.rep h n)
def zr.nil_iff {H:Hp}{vs:List V}{ts:List T}(h:zr H vs ts):vs=[]↔ts=[]:=by
 cases h<;>simp
def zy (B H a:Hp):Hp:=λb=>match H b with
 |none=>a b
 |some _=>B b
def zJ {B H a:Hp}{b:Addr}(h:H b=none):zy B H a b=a b:=by unfold zy;rw[h]
def zI {B H a:Hp}{b:Addr}{o:HO}(h:H b=some o):zy B H a b=B b:=by unfold zy;rw[h]
def zy.ge {B H a:Hp}(s:zi B H)(c:zi H a):zi B (zy B H a):=λb o h=>by
 rw[zI (s b o h)];exact h
def zy.le {B H a:Hp}(s:zi B H)(c:zi H a):zi (zy B H a) a:=λb o h=>by
 cases q:H b with
 |none=>rw[zJ q]at h;exact h
 |some u=>rw[zI q]at h;exact c b o (s b o h)
def zy.self (B H:Hp)(s:zi B H):zy B H H=B:=by
 funext b
 cases q:H b with
 |none=>
  rw[zJ q,q];cases z:B b with
  |none=>rfl
  |some o=>rw[s b o z]at q;cases q
 |some u=>rw[zI q]
def zy.trans {B H a c:Hp}(d:zi H a)(e:zi a c):zy (zy B H a) a c=zy B H c:=by
 funext b
 cases q:H b with
 |none=>
  rw[zJ q];cases z:a b with
  |none=>rw[zJ z]
  |some o=>rw[zI z,zJ q,z,e b o z]
 |some u=>rw[zI q,zI (d b u q),zI q]
inductive Fd where
 |tv (t:T)|tl (ts:List T)
noncomputable abbrev Ob:=Nat×List (Str×Fd)
noncomputable def C8:List Str:=["kind","remaining","done","undone","first","last","answered"]
def Dm (vs:List (Str×V)):Prop:=∀f,f∉C8->vs.lookup f=none
inductive Sl where
 |un|vl (t:T)|ow (ts:List T)|xc (c:Nat)|ob (k n:Nat)|oc (k:Nat) (fs:List (Str×Fd))|st (os:List Ob)
noncomputable def Sl.isS:Sl->Bool
 |.ob _ _=>true
 |.st _=>true
 |_=>false
noncomputable def Sl.isO:Sl->Bool
 |.ob _ _=>true
 |.oc _ _=>true
 |.st _=>true
 |_=>false
noncomputable abbrev En:=List Sl
structure Fx where
 B0:Hp
 H0:Hp
 E:XK
 cl:Nat->Value
 as:List Addr
def tU (ρ:En)(c:Sg)(l:Addr):Prop:=∀(j:Nat) (a:List T),ρ[j]?=some (Sl.ow a)->c[j]?≠some (some (V.ref l))
def LJ (Y:Fx)(B:Hp)(ρ:En)(a:Sg)(H:Hp)(o:Addr->Prop)(v:V):Fd->Prop
 |.tv t=>Rep B v t
 |.tl ts=>∃l xs,v=.ref l/\B l=none/\Y.H0 l=none/\H l=some (.lst xs)/\zr B xs ts/\tU ρ a l/\o l
def FsO (B H:Hp)(vs:List (Str×V))(fs:List (Str×Fd)):Prop:=∀(m:Nat) (f:Str) (d:Fd),fs[m]?=some (f,d)->∃v,vs[m]?=some (f,v)/\match d with
 |.tv t=>Rep B v t
 |.tl ts=>∃l xs,v=.ref l/\H l=some (.lst xs)/\zr B xs ts
theorem FsO.mono {B i H g:Hp}{vs:List (Str×V)}{fs:List (Str×Fd)}(h:FsO B H vs fs)(s:zi B i)(k:zi H g):FsO i g vs fs:=λm f d e=>by
 obtain⟨v,j,r⟩:=h m f d e;refine⟨v,j,?_⟩;cases d with
 |tv t=>exact Rep.mono s r
 |tl ts=>obtain⟨l,xs,a,b,c⟩:=r;exact⟨l,xs,a,k _ _ b,c.mono s⟩
structure StI (Y:Fx) (B:Hp) (ρ:En) (σ:Sg) (H:Hp) (as:List Addr) (O:Addr->Option (Nat×Nat)):Prop where
 pre:Y.as<+:as
 len:∀(i:Nat) (os:List Ob),ρ[i]?=some (Sl.st os)->as.length=os.length
 one:∀(i j:Nat) (os os':List Ob),ρ[i]?=some (Sl.st os)->ρ[j]?=some (Sl.st os')->i=j
 ob:∀(i k n:Nat),ρ[i]?=some (Sl.ob k n)->∃a C dx vs,as[n]?=some a/\σ[i]?=some (some (V.ref a))/\Y.cl k=.ref C/\H a=some (.ins C dx vs)/\B a=none/\Y.H0 a=none/\Dm vs
 oc:∀(i k:Nat) (fs:List (Str×Fd)),ρ[i]?=some (Sl.oc k fs)->∃a C dx vs,σ[i]?=some (some (V.ref a))/\Y.cl k=.ref C/\Y.H0 a=some (.ins C dx vs)/\Dm vs/\FsO B Y.H0 vs fs
 st:∀(i:Nat) (os:List Ob),ρ[i]?=some (Sl.st os)->∀(n k:Nat) (fs:List (Str×Fd)),os[n]?=some (k,fs)->∃a C dx vs,as[n]?=some a/\Y.cl k=.ref C/\H a=some (.ins C dx vs)/\B a=none/\Y.H0 a=none/\O a=some (n,0)/\(vs.length=fs.length/\Dm vs)/\
  ∀(m:Nat) (f:Str) (d:Fd),fs[m]?=some (f,d)->∃v,vs[m]?=some (f,v)/\LJ Y B ρ σ H (λl=>O l=some (n,m+1)) v d
structure SI (Y:Fx) (B:Hp) (ρ:En) (σ:Sg) (H:Hp):Prop where
 s0:zi Y.B0 Y.H0
 sH:zi Y.H0 H
 sB:zi B H
 old:∀b o,Y.H0 b=some o->B b=Y.B0 b
 len:ρ.length=σ.length
 vl:∀(i:Nat) (t:T),ρ[i]?=some (Sl.vl t)->∃v:V,σ[i]?=some (some v)/\Rep B v t
 ow:∀(i:Nat) (ts:List T),ρ[i]?=some (Sl.ow ts)->∃(a:Addr) (xs:List V),σ[i]?=some (some (V.ref a))/\B a=none/\Y.H0 a=none/\H a=some (.lst xs)/\zr B xs ts/\
  ∀(j:Nat) (us:List T),j≠i->ρ[j]?=some (Sl.ow us)->σ[j]?≠some (some (V.ref a))
 xc:∀(i:Nat) (c:Nat),ρ[i]?=some (Sl.xc c)->∃a:Addr,σ[i]?=some (some (V.ref a))/\B a=some (.ext (DM (Y.cl c) a))
 st:∃as O,StI Y B ρ σ H as O
def StI.on {Y G:Fx}{B U:Hp}{ρ ρ':En}{M σ':Sg}{H Z:Hp}{as:List Addr}{O:Addr->Option (Nat×Nat)}(x:StI Y B ρ M H as O)(g:∀(i:Nat) (s:Sl),s.isO=true->ρ'[i]?=some s->ρ[i]?=some s/\σ'[i]?=M[i]?)(N:zi B U)(P:G.cl=Y.cl)(hA:G.as=Y.as)(X:zi Y.H0 G.H0)
  (S:∀b o,H b=some o->B b=none->Y.H0 b=none->((∃C c vs,o=.ins C c vs)\/tU ρ M b)->Z b=some o/\U b=none/\G.H0 b=none/\(tU ρ M b->tU ρ' σ' b)):StI G U ρ' σ' Z as O where
 pre:=by rw[hA];exact x.pre
 len:=λi os h=>x.len i os (g i _ rfl h).1
 one:=λi j os Q r F=>x.one i j os Q (g i _ rfl r).1 (g j _ rfl F).1
 ob:=λi k n h=>by
  obtain⟨r,F⟩:=g i _ rfl h;obtain⟨a,C,c,vs,w,q,I,D,J,L⟩:=x.ob i k n r;obtain⟨u,y,p,_⟩:=S a _ D J L.1 (.inl ⟨_,_,_,rfl⟩);rw[F,P];exact⟨a,C,c,vs,w,q,I,u,y,p,L.2⟩
 oc:=λi k fs h=>by
  obtain⟨r,F⟩:=g i _ rfl h;obtain⟨a,C,c,vs,w,q,I,D,J⟩:=x.oc i k fs r;rw[F,P];exact⟨a,C,c,vs,w,q,X _ _ I,D,J.mono N X⟩
 st:=λi os h n k fs e=>by
  obtain⟨a,C,c,vs,w,q,I,D,J,L,e7,e8⟩:=x.st i os (g i _ rfl h).1 n k fs e;obtain⟨u,y,p,_⟩:=S a _ I D J (.inl ⟨_,_,_,rfl⟩);refine⟨a,C,c,vs,w,by rw[P];exact q,u,y,p,L,e7,λm f d z=>?_⟩
  obtain⟨v,z1,z2⟩:=e8 m f d z;refine⟨v,z1,?_⟩;cases d with
  |tv t=>exact Rep.mono N z2
  |tl ts=>
   obtain⟨l,xs,p1,p2,p3,p4,p5,p6,p7⟩:=z2;obtain⟨u,y,p,g4⟩:=S l _ p4 p2 p3 (.inr p6);exact⟨l,xs,p1,y,p,u,p5.mono N,g4 p6,p7⟩
def StI.no {Y:Fx}{B:Hp}{ρ:En}{c:Sg}{H:Hp}(h:∀(i:Nat) (s:Sl),s.isO=true->ρ[i]?≠some s):∃d O,StI Y B ρ c H d O:=⟨Y.as,λ_=>none,ig _,λi os e=>(h i _ rfl e).elim,λi j os a e=>(h i _ rfl e).elim,λi k n e=>(h i _ rfl e).elim,λi k fs e=>(h i _ rfl e).elim,λi os e=>(h i _ rfl e).elim⟩
def SI.grow {Y:Fx}{B:Hp}{ρ:En}{j:Sg}{H f:Hp}(I:SI Y B ρ j H)(s:zi H f):SI Y (zy B H f) ρ j f where
 s0:=I.s0
 sH:=I.sH.trans s
 sB:=zy.le I.sB s
 old:=λb o h=>by rw[zI (I.sH b o h)];exact I.old b o h
 len:=I.len
 vl:=λi t h=>let ⟨v,e,r⟩:=I.vl i t h;⟨v,e,r.mono (zy.ge I.sB s)⟩
 ow:=λi ts h=>let ⟨a,xs,e,b,g,hh,r,d⟩:=I.ow i ts h;⟨a,xs,e,by rw[zI hh];exact b,g,s _ _ hh,r.mono (zy.ge I.sB s),d⟩
 xc:=λi c h=>let ⟨a,e,r⟩:=I.xc i c h;⟨a,e,zy.ge I.sB s a _ r⟩
 st:=let ⟨as,O,x⟩:=I.st;⟨as,O,x.on (λ_ _ _ h=>⟨h,rfl⟩) (zy.ge I.sB s) rfl rfl (zi.refl _) λb o h k g _=>⟨s _ _ h,by rw[zI h];exact k,g,id⟩⟩
def XP (Y:Fx)(B:Hp)(c:Nat):Prop:=∀(d:Option Addr) (a:Hp),zi Y.H0 a->zi B a->Y.E (Y.cl c) d a
def Po {f g:Type}(Y:Fx)(e:Hp->Hp->g->f->Prop)(B H:Hp)(r:R f)(Q:g->Hp->Prop):Prop:=match r with
 |.ok a=>∀b d,zi H d->e (zy B H d) d b a->Q b d
 |.ex c=>XP Y B c
 |.bad=>False
abbrev rC:Hp->Hp->V->T->Prop:=λB _ v t=>Rep B v t
abbrev rB:Hp->Hp->V->T->Prop:=λ_ H v t=>Rep H v t
abbrev D8:Hp->Hp->List V->List T->Prop:=λB _ v t=>zr B v t
abbrev rE {α:Type}:Hp->Hp->α->α->Prop:=λ_ _ a b=>a=b
def tS {c d:Type}(Y:Fx)(a:Hp->Hp->d->c->Prop)(f:En->R c)(ρ:En):Sg->Hp->(d->Hp->Prop)->Prop:=λe H Q=>∃B,SI Y B ρ e H/\Po Y a B H (f ρ) Q
structure Snd (X:Cx) (Y:Fx) (e:Expr) (f:En->R T):Prop where
 mk::
 go:∀ρ,PE X e (tS Y rC f ρ)
instance {X:Cx}{Y:Fx}{e:Expr}{f:En->R T}:CoeFun (Snd X Y e f) λ_=>∀ρ,PE X e (tS Y rC f ρ):=⟨Snd.go⟩
structure jv (X:Cx) (Y:Fx) (e:Expr) (f:En->R T):Prop where
 mk::
 go:∀ρ,PE X e (tS Y rB f ρ)
instance {X:Cx}{Y:Fx}{e:Expr}{f:En->R T}:CoeFun (jv X Y e f) λ_=>∀ρ,PE X e (tS Y rB f ρ):=⟨jv.go⟩
structure ua (X:Cx) (Y:Fx) (e:Expr) (f:En->R Bool):Prop where
 mk::
 go:∀ρ,PT X e (tS Y rE f ρ)
instance {X:Cx}{Y:Fx}{e:Expr}{f:En->R Bool}:CoeFun (ua X Y e f) λ_=>∀ρ,PT X e (tS Y rE f ρ):=⟨ua.go⟩
structure UB (X:Cx) (Y:Fx) (es:List Expr) (f:En->R (List T)):Prop where
 mk::
 go:∀ρ,PA X es (tS Y D8 f ρ)
instance {X:Cx}{Y:Fx}{es:List Expr}{f:En->R (List T)}:CoeFun (UB X Y es f) λ_=>∀ρ,PA X es (tS Y D8 f ρ):=⟨UB.go⟩
def step {p o w j:Type}{Y:Fx}{l:Hp->Hp->w->p->Prop}{i:Hp->Hp->j->o->Prop}{f:En->R p}{k:p->R o}{ρ:En}{B:Hp}{u:Sg}{H:Hp}{Q:j->Hp->Prop}{K:w->Hp->Prop}
  (I:SI Y B ρ u H) (h:Po Y i B H ((f ρ).bind k) Q)
  (n:∀a b g,f ρ=.ok a->zi H g->l (zy B H g) g b a->SI Y (zy B H g) ρ u g->Po Y i (zy B H g) g (k a) Q->K b g):tS Y l f ρ u H K:=by
 refine⟨B,I,?_⟩;cases e:f ρ with
 |bad=>rw[e]at h;exact h
 |ex c=>rw[e]at h;exact h
 |ok a=>
  rw[e]at h;intro b g s r;refine n a b g e s r (I.grow s) ?_;have h':Po Y _ B H (k a) Q:=h;revert h';cases k a with
  |bad=>exact λh'=>h'
  |ex c=>exact λh' d D F q=>h' d D F ((zy.ge I.sB s).trans q)
  |ok G=>exact λh' C y v x=>h' C y (s.trans v) (by rw[←zy.trans s v];exact x)
def ZR {e d:Type}{Y:Fx}{c:Hp->Hp->d->e->Prop}{ρ:En}{B:Hp}{f:Sg}{H:Hp}{a:e}{b:d}{Q:d->Hp->Prop}(I:SI Y B ρ f H)(h:Po Y c B H (.ok a) Q)(r:c B H b a):Q b H:=h b H (zi.refl H) (by rw[zy.self B H I.sB];exact r)
theorem Snd.b {X:Cx}{Y:Fx}{e:Expr}{f:En->R T}(h:Snd X Y e f):jv X Y e f:=.mk λρ=>PE.imp (h ρ) λg H Q ⟨B,I,q⟩=>⟨B,I,by
 revert q;cases f ρ with
 |bad=>exact λq=>q
 |ex c=>exact λq=>q
 |ok a=>exact λq b d s r=>q b d s (r.mono (zy.le I.sB s))⟩
section
variable {X:Cx}{Y:Fx}{a b c:Expr}{fa fb fc:En->R T}{pos:Pos}
def vE (i:Nat):En->R T:=λρ=>match ρ[i]? with
 |some (.vl t)=>.ok t
 |_=>.bad
def vB (i:Nat):En->R T:=λρ=>match ρ[i]? with
 |some (.vl t)=>.ok t
 |some (.ow ts)=>.ok (.lst ts)
 |_=>.bad
def cE (t:T):En->R T:=λ_=>.ok t
def Ic (i:Nat){x:Str}(h:PE X (.Name x pos) (Za i)):Snd X Y (.Name x pos) (vE i):=.mk λρ=>PE.imp h λf H Q ⟨B,I,q⟩=>by
 unfold vE at q;split at q
 ·rename_i t e;obtain⟨v,d,r⟩:=I.vl i t e;exact⟨v,d,ZR I q r⟩
 ·exact q.elim
def GM (i:Nat){x:Str}(h:PE X (.Name x pos) (Za i)):jv X Y (.Name x pos) (vB i):=.mk λρ=>PE.imp h λg H Q ⟨B,I,q⟩=>by
 unfold vB at q;split at q
 ·rename_i t e;obtain⟨v,d,r⟩:=I.vl i t e;exact⟨v,d,ZR I q (r.mono I.sB)⟩
 ·rename_i ts e;obtain⟨a,xs,d,_,_,f,r,_⟩:=I.ow i ts e;exact⟨.ref a,d,ZR I q (.lst f (r.mono I.sB))⟩
 ·exact q.elim
def Ir {i j}:Snd X Y (.Constant (.int i) j pos) (cE (.int i)):=.mk λρ=>PE.imp YH λd H Q ⟨B,I,q⟩=>ZR I q (.int i)
def BK {i j}:Snd X Y (.Constant (.bool i) j pos) (cE (.bl i)):=.mk λρ=>PE.imp XS λd H Q ⟨B,I,q⟩=>ZR I q (.bl i)
def LF {i j}:Snd X Y (.Constant (.str i) j pos) (cE (.str i)):=.mk λρ=>PE.imp X3 λd H Q ⟨B,I,q⟩=>ZR I q (.str i)
def ze:En->R (List T):=λ_=>.ok []
def za (f:En->R T)(g:En->R (List T)):En->R (List T):=λρ=>(f ρ).bind λt=>(g ρ).bind λts=>.ok (t::ts)
def LB:UB X Y [] ze:=.mk λρ=>PA.imp zt λd H Q ⟨B,I,q⟩=>ZR I q .nil
def GN {d:List Expr}{g:En->R (List T)}(h:Snd X Y a fa)(o:UB X Y d g)(k:starEach (a::d) X.env=(false,eval a X.env)::starEach d X.env:=by exact zz rfl):UB X Y (a::d) (za fa g):=.mk λρ=>
 PA.imp (zh (h ρ) (o ρ) k) λx H Q ⟨B,I,q⟩=>step I q λt v u _ y f e l=>step e l λts vs w _ j i r p=>ZR r p (.cons (f.mono (zy.ge e.sB j)) i)
def zi.new {H:Hp}{p:Addr}(h:H p=none)(o:HO):zi H (kj H p o):=λb u q=>by rw[zg (zD q h)];exact q
def jc {B H:Hp}{p:Addr}(h:H p=none)(o:HO):zy B H (kj H p o) p=some o:=by rw[zJ h,zf]
noncomputable def mR:Nat:=16777216
def ZD {n:Nat}(h:n<=mR):n<=sizeLine:=by exact h
def Zq (g:En->R (List T)):En->R T:=λρ=>(g ρ).bind λts=>if ts.length<=mR then .ok (.tup ts)else .bad
def j7 (g:En->R (List T)):En->R T:=λρ=>(g ρ).bind λts=>if ts.length<=mR then .ok (.lst ts)else .bad
def ku {ρ:En}{d:Sg}{B H:Hp}{xs:List V}{ts:List T}(I:SI Y B ρ d H)(r:zr B xs ts){p:Addr}(h:H p=none):Rep (zy B H (kj H p (.tup xs))) (.ref p) (.tup ts):=
 .tup (jc h _) (r.mono (zy.ge I.sB (zi.new h _)))
def kx {ρ:En}{d:Sg}{B H:Hp}{xs:List V}{ts:List T}(I:SI Y B ρ d H)(r:zr B xs ts){p:Addr}(h:H p=none):Rep (zy B H (kj H p (.lst xs))) (.ref p) (.lst ts):=
 .lst (jc h _) (r.mono (zy.ge I.sB (zi.new h _)))
def Fz {f:List Expr}{g:En->R (List T)}{x1}(h:UB X Y f g):Snd X Y (.Tuple f x1 pos) (Zq g):=.mk λρ=>PE.imp (wP (h ρ)) λl H Q ⟨B,I,q⟩=>
 step I q λts vs k _ o e i d=>by
  split at d
  ·rename_i j;refine⟨by rw[e.length];exact ZD j,λp hp=>d _ _ (zi.new hp _) (ku i e hp)⟩
  ·exact d.elim
def Fu {f:List Expr}{g:En->R (List T)}(h:UB X Y f g):Snd X Y (.List f pos) (j7 g):=.mk λρ=>PE.imp (WX (h ρ)) λl H Q ⟨B,I,q⟩=>
 step I q λts vs k _ o e i d=>by
  split at d
  ·rename_i j;refine⟨by rw[e.length];exact ZD j,λp hp=>d _ _ (zi.new hp _) (kx i e hp)⟩
  ·exact d.elim
end
end PV
namespace PV
open PySem PySem.Spec PyProof.Rows L2
noncomputable def nE (f:T->T->Option Bool):List T->List T->Option Bool
 |[],[]=>some true
 |[],_::_=>some false
 |_::_,[]=>some false
 |x::xs,y::a=>match f x y with
  |none=>none
  |some b=>match nE f xs a with
   |none=>none
   |some c=>some (b&&c)
noncomputable def b2 (b:Bool):Int:=if b then 1 else 0
def mQ:Nat->T->T->Option Bool
 |_,.non,.non=>some true
 |_,.bl a,.bl b=>some (a==b)
 |_,.bl a,.int j=>some (b2 a==j)
 |_,.int i,.bl b=>some (i==b2 b)
 |_,.int i,.int j=>some (i==j)
 |_,.str x,.str y=>some (x==y)
 |n+1,.tup xs,.tup c=>nE (mQ n) xs c
 |n+1,.lst xs,.lst c=>nE (mQ n) xs c
 |n+1,.fz xs,.lst c=>nE (mQ n) xs c
 |n+1,.lst xs,.fz c=>nE (mQ n) xs c
 |n+1,.fz xs,.fz c=>nE (mQ n) xs c
 |0,.tup _,.tup _=>none
 |0,.lst _,.lst _=>none
 |0,.fz _,.lst _=>none
 |0,.lst _,.fz _=>none
 |0,.fz _,.fz _=>none
 |_,.non,_=>some false
 |_,.bl _,_=>some false
 |_,.int _,_=>some false
 |_,.str _,_=>some false
 |_,.tup _,_=>some false
 |_,.lst _,_=>some false
 |_,.fz _,_=>some false
mutual
theorem Rep.fn {H:Hp}:∀{v:V} {t t':T},Rep H v t->Rep H v t'->t=t'
 |_,_,_,.non,q=>by cases q;rfl
 |_,_,_,.bl _,q=>by cases q;rfl
 |_,_,_,.int _,q=>by cases q;rfl
 |_,_,_,.str _,q=>by cases q;rfl
 |_,_,_,.tup h r,q=>by cases q<;>rename_i a h'<;>rw[h]at h'<;>cases h';rw[zr.fn r a]
 |_,_,_,.lst h r,q=>by cases q<;>rename_i a h'<;>rw[h]at h'<;>cases h';rw[zr.fn r a]
 |_,_,_,.fz h r,q=>by cases q<;>rename_i a h'<;>rw[h]at h'<;>cases h';rw[zr.fn r a]
theorem zr.fn {H:Hp}:∀{v:List V} {t t':List T},zr H v t->zr H v t'->t=t'
 |_,_,_,.nil,q=>by cases q;rfl
 |_,_,_,.cons h r,q=>by
  cases q with
  |cons h' a=>rw[Rep.fn h h',zr.fn r a]
end
theorem Zn {f:T->T->Option Bool}(g:∀x b,f x x=some b->b=true):∀(xs:List T) (b:Bool),nE f xs xs=some b->b=true
 |[],b,h=>by
  have h':=h;cases h';rfl
 |x::xs,b,h=>by
  unfold nE at h;cases e:f x x with
  |none=>rw[e]at h;cases h
  |some c=>
   rw[e]at h;cases a:nE f xs xs with
   |none=>rw[a]at h;cases h
   |some d=>
    rw[a]at h;cases h;rw[g x c e,Zn g xs d a];rfl
theorem Z7:∀(n:Nat) (t:T) (b:Bool),mQ n t t=some b->b=true
 |n,.non,b,h=>by unfold mQ at h;cases h;rfl
 |n,.bl x,b,h=>by unfold mQ at h;cases h;simp
 |n,.int x,b,h=>by unfold mQ at h;cases h;simp
 |n,.str x,b,h=>by unfold mQ at h;cases h;simp
 |0,.tup x,b,h=>by cases h
 |0,.lst x,b,h=>by cases h
 |0,.fz x,b,h=>by cases h
 |n+1,.tup x,b,h=>by exact Zn (Z7 n) x b h
 |n+1,.lst x,b,h=>by exact Zn (Z7 n) x b h
 |n+1,.fz x,b,h=>by exact Zn (Z7 n) x b h
theorem qb {f:T->T->Option Bool}:∀{xs a:List T} {b:Bool},nE f xs a=some b->
  ∃e:Nat->Bool,(∀j x y,xs[j]?=some x->a[j]?=some y->f x y=some (e j))/\((aV (min xs.length a.length)).all e&&xs.length==a.length)=b
 |[],[],b,h=>by
  have h':=h;cases h';exact⟨λ_=>true,λj x y h=>by simp at h,by simp⟩
 |[],y::a,b,h=>by
  have h':=h;cases h';exact⟨λ_=>true,λj x y h=>by simp at h,by simp⟩
 |x::xs,[],b,h=>by
  have h':=h;cases h';exact⟨λ_=>true,λj x y h h'=>by simp at h',by simp⟩
 |x::xs,y::a,b,h=>by
  unfold nE at h;cases e:f x y with
  |none=>rw[e]at h;cases h
  |some c=>
   rw[e]at h;cases l:nE f xs a with
   |none=>rw[l]at h;cases h
   |some d=>
    rw[l]at h;cases h;obtain⟨g,q,o⟩:=qb l;refine⟨λj=>match j with|0=>c|j+1=>g j,λj u v i k=>?_,?_⟩
    ·cases j with
     |zero=>simp at i k;subst i k;exact e
     |succ j=>exact q j u v (by simpa using i) (by simpa using k)
    ·have z:min (x::xs).length (y::a).length=min xs.length a.length+1:=by simp only[aA];omega
     rw[z,dE,dg,lL];have p:((x::xs).length==(y::a).length)=(xs.length==a.length):=by simp
     rw[p,←o,Bool.and_assoc];rfl
section
variable {X:Cx}{pins:List (Addr×Obj)}{σ:Sg}{H:Hp}{s:Shared}
def ZO {a:Addr}{xs:List V}{ts:List T}(I:L2.Inv X pins σ H s)(h:H a=some (.tup xs))(r:zr H xs ts):∃c:List Value,Vals xs c/\s.heap.IsTuple a c.toArray/\ts.length=c.length/\xs.length<=sizeLine:=by
 obtain⟨c,d,p,z⟩:=I.tuple (SqT.of h);exact⟨c,d,p,by rw[←r.length];exact d.length,z⟩
def zH {a:Addr}{xs:List V}{ts:List T}(I:L2.Inv X pins σ H s)(h:Rd H a (.lst xs))(r:zr H xs ts):∃c:List Value,Vals xs c/\s.heap.IsList a c.toArray/\ts.length=c.length/\xs.length<=sizeLine:=by
 obtain⟨c,d,p,z⟩:=I.list (.inl h);exact⟨c,d,p.isList,by rw[←r.length];exact d.length,z⟩
end
noncomputable abbrev pB (A:Around)(s:Shared)(u u':Value)(b:Bool):Prop:=dB A s u u' b/\iA A s u u' b/\eU A s u u' (!b)
section
variable {X:Cx}{pins:List (Addr×Obj)}{σ:Sg}{H:Hp}{s:Shared}
def qc {xs d:List V}{ts D:List T}{c a:List Value}{A:Around}{f:T->T->Option Bool}{e:Nat->Bool}(r:zr H xs ts)(O:zr H d D)(v:Vals xs c)(F:Vals d a)
  (S:∀(j:Nat) (x y:T),ts[j]?=some x->D[j]?=some y->f x y=some (e j))
  (M:∀(x y:T) (b:Bool) (p q:V) (u w:Value),f x y=some b->Rep H p x->Rep H q y->RelV p u->RelV q w->pB A s u w b) (j:Nat) (C:j<c.toArray.size) (B:j<a.toArray.size):
  dB A s c.toArray[j] a.toArray[j] (e j):=by
 have Z:=v.length;have U:=F.length;have G:j<xs.length:=by simp at C;omega
 have o:j<d.length:=by simp at B;omega
 obtain⟨t,P,rt⟩:=r.getV (ah G);obtain⟨t',g,k⟩:=O.getV (ah o);obtain⟨u,Q,N⟩:=v.get (ah G);obtain⟨J,l,i⟩:=F.get (ah o);have I:=by
  have:c[j]?=some c.toArray[j]:=by simp at C⊢
  rw[Q]at this;exact(aF this).symm
 have L:=by
  have:a[j]?=some a.toArray[j]:=by simp at B⊢
  rw[l]at this;exact(aF this).symm
 rw[I,L];exact(M t t' _ _ _ u J (S j t t' P g) rt k N i).1
def ky {A:Around}{a c:Addr}{xs C:List V}{ts F:List T}{b:Bool}{f:T->T->Option Bool}(I:L2.Inv X pins σ H s)(B:A.units<cLine)(J:H a=some (.tup xs))(o:H c=some (.tup C))(r:zr H xs ts)(k:zr H C F)
  (G:nE f ts F=some b) (hr:∀x b,f x x=some b->b=true)
  (L:∀(x y:T) (b:Bool) (p q:V) (u w:Value),f x y=some b->Rep H p x->Rep H q y->RelV p u->RelV q w->pB A.in1 s u w b):pB A s (.ref a) (.ref c) b:=by
 obtain⟨g,v,p,l,_⟩:=ZO I J r;obtain⟨d,O,D,M,_⟩:=ZO I o k;obtain⟨e,P,j⟩:=qb G;have hp:=qc r k v O P L;have z:((aV (min g.toArray.size d.toArray.size)).all e&&g.toArray.size==d.toArray.size)=b:=by
  rw[←j];simp[l,M]
 have R:=iA.tuples p D B hp;have N:=eU.tuples p D B hp;rw[z]at R;have N':eU A s (.ref a) (.ref c) (!b):=by
  rw[←z];exact N
 refine⟨?_,R,N'⟩
 by_cases i:a=c
 ·subst i;rw[J]at o;cases o;have:=r.fn k;subst this;rw[Zn hr ts b G];exact mz _
 ·exact lh i R
def Wd {A:Around}{a c:Addr}{xs M:List V}{ts B:List T}{b:Bool}{f:T->T->Option Bool}(I:L2.Inv X pins σ H s)(J:A.units<cLine)(G:Rd H a (.lst xs))(i:Rd H c (.lst M))(r:zr H xs ts)(P:zr H M B)
  (S:nE f ts B=some b) (hr:∀x b,f x x=some b->b=true)
  (U:∀(x y:T) (b:Bool) (p q:V) (u w:Value),f x y=some b->Rep H p x->Rep H q y->RelV p u->RelV q w->pB A.in1 s u w b):pB A s (.ref a) (.ref c) b:=by
 obtain⟨d,v,p,l,_⟩:=zH I G r;obtain⟨g,Z,L,l',_⟩:=zH I i P;obtain⟨e,he,C⟩:=qb S;have hp:=qc r P v Z he U;have Q:iA A s (.ref a) (.ref c) b/\eU A s (.ref a) (.ref c) (!b):=by
  by_cases F:d.toArray.size=g.toArray.size
  ·have z:(aV d.toArray.size).all e=b:=by
    rw[←C];have:ts.length=B.length:=by simp at F;omega
    rw[this];have k:d.toArray.size=B.length:=by simp;omega
    rw[k];simp
   have R:=iA.lists p L F J hp;have N:=eU.lists p L F J hp;rw[z]at R;refine⟨R,?_⟩;rw[←z];exact N
  ·have j:(d.toArray.size !=g.toArray.size)=true:=by simpa using F
   have z:b=false:=by
    rw[←C];have:¬ts.length=B.length:=by simp at F;omega
    simp[this]
   subst z;exact⟨iA.lists_lengths p L j J,eU.lists_lengths p L j J⟩
 refine⟨?_,Q.1,Q.2⟩
 by_cases D:a=c
 ·subst D;have O:xs=M:=by
   rcases G with G|⟨o,G⟩<;>rcases i with i|⟨o',i⟩<;>(rw[G]at i;cases i)<;>rfl
  subst O;have:=r.fn P;subst this;rw[Zn hr ts b S];exact mz _
 ·exact lh D Q.1
end
section
variable {X:Cx}{pins:List (Addr×Obj)}{σ:Sg}{H:Hp}{s:Shared}
def ub {A:Around}:A.in1.units=A.units+1:=rfl
set_option maxHeartbeats 2000000 in
def qd (I:L2.Inv X pins σ H s):∀(A:Around),A.units<cLine->∀(x y:T) (b:Bool) (p q:V) (u w:Value),mQ 0 x y=some b->Rep H p x->Rep H q y->RelV p u->RelV q w->pB A s u w b:=by
 intro A B x y b p q u w h D k l e;have a:=B;cases D with
 |non=>
  obtain rfl:u=Value.none:=l;cases k with
  |non=>obtain rfl:w=Value.none:=e;unfold mQ at h;cases h;exact⟨.same _,.none_none,.none_none⟩
  |bl c=>obtain rfl:w=Value.bool c:=e;unfold mQ at h;cases h;exact⟨.none_bool _,.none_bool _,.none_bool _⟩
  |int c=>obtain⟨t,rfl⟩:=e;unfold mQ at h;cases h;exact⟨.none_int _ _,.none_int _ _,.none_int _ _⟩
  |str c=>obtain⟨t,rfl⟩:=e;unfold mQ at h;cases h;exact⟨.none_str _ _,.none_str _ _,.none_str _ _⟩
  |tup g j=>obtain rfl:w=Value.ref _:=e;unfold mQ at h;cases h;obtain⟨i,_,p,_⟩:=ZO I g j;exact⟨.none_tuple p a,.none_tuple p a,.none_tuple p a⟩
  |lst g j=>obtain rfl:w=Value.ref _:=e;unfold mQ at h;cases h;obtain⟨i,_,p,_⟩:=zH I (.inl g) j;exact⟨.none_list p a,.none_list p a,.none_list p a⟩
  |fz g j=>obtain rfl:w=Value.ref _:=e;unfold mQ at h;cases h;obtain⟨i,_,p,_⟩:=zH I (.inr ⟨_,g⟩) j;exact⟨.none_list p a,.none_list p a,.none_list p a⟩
 |bl d=>
  obtain rfl:u=Value.bool d:=l;cases k with
  |non=>obtain rfl:w=Value.none:=e;unfold mQ at h;cases h;exact⟨.bool_none _,.bool_none _,.bool_none _⟩
  |bl c=>obtain rfl:w=Value.bool c:=e;unfold mQ at h;cases h;exact⟨.bool_bool _ _,.bool_bool _ _,.bool_bool _ _⟩
  |int c=>obtain⟨t,rfl⟩:=e;unfold mQ at h;cases h;exact⟨.bool_int _ _ _,.bool_int _ _ _,.bool_int _ _ _⟩
  |str c=>obtain⟨t,rfl⟩:=e;unfold mQ at h;cases h;exact⟨.bool_str _ _ _,.bool_str _ _ _,.bool_str _ _ _⟩
  |tup g j=>obtain rfl:w=Value.ref _:=e;unfold mQ at h;cases h;obtain⟨i,_,p,_⟩:=ZO I g j;exact⟨.bool_tuple _ p a,.bool_tuple _ p a,.bool_tuple _ p a⟩
  |lst g j=>obtain rfl:w=Value.ref _:=e;unfold mQ at h;cases h;obtain⟨i,_,p,_⟩:=zH I (.inl g) j;exact⟨.bool_list _ p a,.bool_list _ p a,.bool_list _ p a⟩
  |fz g j=>obtain rfl:w=Value.ref _:=e;unfold mQ at h;cases h;obtain⟨i,_,p,_⟩:=zH I (.inr ⟨_,g⟩) j;exact⟨.bool_list _ p a,.bool_list _ p a,.bool_list _ p a⟩
 |int d=>
  obtain⟨C,rfl⟩:=l;cases k with
  |non=>obtain rfl:w=Value.none:=e;unfold mQ at h;cases h;exact⟨.int_none _ _,.int_none _ _,.int_none _ _⟩
  |bl c=>obtain rfl:w=Value.bool c:=e;unfold mQ at h;cases h;exact⟨.int_bool _ _ _,.int_bool _ _ _,.int_bool _ _ _⟩
  |int c=>obtain⟨t,rfl⟩:=e;unfold mQ at h;cases h;exact⟨.int_int _ _ _ _,.int_int _ _ _ _,.int_int _ _ _ _⟩
  |str c=>obtain⟨t,rfl⟩:=e;unfold mQ at h;cases h;exact⟨.int_str _ _ _ _,.int_str _ _ _ _,.int_str _ _ _ _⟩
  |tup g j=>obtain rfl:w=Value.ref _:=e;unfold mQ at h;cases h;obtain⟨i,_,p,_⟩:=ZO I g j;exact⟨.int_tuple _ _ p a,.int_tuple _ _ p a,.int_tuple _ _ p a⟩
  |lst g j=>obtain rfl:w=Value.ref _:=e;unfold mQ at h;cases h;obtain⟨i,_,p,_⟩:=zH I (.inl g) j;exact⟨.int_list _ _ p a,.int_list _ _ p a,.int_list _ _ p a⟩
  |fz g j=>obtain rfl:w=Value.ref _:=e;unfold mQ at h;cases h;obtain⟨i,_,p,_⟩:=zH I (.inr ⟨_,g⟩) j;exact⟨.int_list _ _ p a,.int_list _ _ p a,.int_list _ _ p a⟩
 |str d=>
  obtain⟨C,rfl⟩:=l;cases k with
  |non=>obtain rfl:w=Value.none:=e;unfold mQ at h;cases h;exact⟨.str_none _ _,.str_none _ _,.str_none _ _⟩
  |bl c=>obtain rfl:w=Value.bool c:=e;unfold mQ at h;cases h;exact⟨.str_bool _ _ _,.str_bool _ _ _,.str_bool _ _ _⟩
  |int c=>obtain⟨t,rfl⟩:=e;unfold mQ at h;cases h;exact⟨.str_int _ _ _ _,.str_int _ _ _ _,.str_int _ _ _ _⟩
  |str c=>obtain⟨t,rfl⟩:=e;unfold mQ at h;cases h;exact⟨.str_str _ _ _ _,.str_str _ _ _ _,.str_str _ _ _ _⟩
  |tup g j=>obtain rfl:w=Value.ref _:=e;unfold mQ at h;cases h;obtain⟨i,_,p,_⟩:=ZO I g j;exact⟨.str_tuple _ _ p a,.str_tuple _ _ p a,.str_tuple _ _ p a⟩
  |lst g j=>obtain rfl:w=Value.ref _:=e;unfold mQ at h;cases h;obtain⟨i,_,p,_⟩:=zH I (.inl g) j;exact⟨.str_list _ _ p a,.str_list _ _ p a,.str_list _ _ p a⟩
  |fz g j=>obtain rfl:w=Value.ref _:=e;unfold mQ at h;cases h;obtain⟨i,_,p,_⟩:=zH I (.inr ⟨_,g⟩) j;exact⟨.str_list _ _ p a,.str_list _ _ p a,.str_list _ _ p a⟩
 |tup o r=>
  obtain rfl:u=Value.ref _:=l;obtain⟨v,_,f,_⟩:=ZO I o r;cases k with
  |non=>obtain rfl:w=Value.none:=e;unfold mQ at h;cases h;exact⟨.tuple_none f a,.tuple_none f a,.tuple_none f a⟩
  |bl c=>obtain rfl:w=Value.bool c:=e;unfold mQ at h;cases h;exact⟨.tuple_bool _ f a,.tuple_bool _ f a,.tuple_bool _ f a⟩
  |int c=>obtain⟨t,rfl⟩:=e;unfold mQ at h;cases h;exact⟨.tuple_int _ _ f a,.tuple_int _ _ f a,.tuple_int _ _ f a⟩
  |str c=>obtain⟨t,rfl⟩:=e;unfold mQ at h;cases h;exact⟨.tuple_str _ _ f a,.tuple_str _ _ f a,.tuple_str _ _ f a⟩
  |tup g j=>unfold mQ at h;cases h
  |lst g j=>obtain rfl:w=Value.ref _:=e;unfold mQ at h;cases h;obtain⟨i,_,p,_⟩:=zH I (.inl g) j;exact⟨.tuple_list f p a,.tuple_list f p a,.tuple_list f p a⟩
  |fz g j=>obtain rfl:w=Value.ref _:=e;unfold mQ at h;cases h;obtain⟨i,_,p,_⟩:=zH I (.inr ⟨_,g⟩) j;exact⟨.tuple_list f p a,.tuple_list f p a,.tuple_list f p a⟩
 |lst o r=>
  obtain rfl:u=Value.ref _:=l;obtain⟨v,_,f,_⟩:=zH I (.inl o) r;cases k with
  |non=>obtain rfl:w=Value.none:=e;unfold mQ at h;cases h;exact⟨.list_none f a,.list_none f a,.list_none f a⟩
  |bl c=>obtain rfl:w=Value.bool c:=e;unfold mQ at h;cases h;exact⟨.list_bool _ f a,.list_bool _ f a,.list_bool _ f a⟩
  |int c=>obtain⟨t,rfl⟩:=e;unfold mQ at h;cases h;exact⟨.list_int _ _ f a,.list_int _ _ f a,.list_int _ _ f a⟩
  |str c=>obtain⟨t,rfl⟩:=e;unfold mQ at h;cases h;exact⟨.list_str _ _ f a,.list_str _ _ f a,.list_str _ _ f a⟩
  |tup g j=>obtain rfl:w=Value.ref _:=e;unfold mQ at h;cases h;obtain⟨i,_,p,_⟩:=ZO I g j;exact⟨.list_tuple f p a,.list_tuple f p a,.list_tuple f p a⟩
  |lst g j=>unfold mQ at h;cases h
  |fz g j=>unfold mQ at h;cases h
 |fz o r=>
  obtain rfl:u=Value.ref _:=l;obtain⟨v,_,f,_⟩:=zH I (.inr ⟨_,o⟩) r;cases k with
  |non=>obtain rfl:w=Value.none:=e;unfold mQ at h;cases h;exact⟨.list_none f a,.list_none f a,.list_none f a⟩
  |bl c=>obtain rfl:w=Value.bool c:=e;unfold mQ at h;cases h;exact⟨.list_bool _ f a,.list_bool _ f a,.list_bool _ f a⟩
  |int c=>obtain⟨t,rfl⟩:=e;unfold mQ at h;cases h;exact⟨.list_int _ _ f a,.list_int _ _ f a,.list_int _ _ f a⟩
  |str c=>obtain⟨t,rfl⟩:=e;unfold mQ at h;cases h;exact⟨.list_str _ _ f a,.list_str _ _ f a,.list_str _ _ f a⟩
  |tup g j=>obtain rfl:w=Value.ref _:=e;unfold mQ at h;cases h;obtain⟨i,_,p,_⟩:=ZO I g j;exact⟨.list_tuple f p a,.list_tuple f p a,.list_tuple f p a⟩
  |lst g j=>unfold mQ at h;cases h
  |fz g j=>unfold mQ at h;cases h
set_option maxHeartbeats 2000000 in
def kz (I:L2.Inv X pins σ H s):∀(n:Nat) (A:Around),A.units+n<cLine->∀(x y:T) (b:Bool) (p q:V) (u w:Value),mQ n x y=some b->Rep H p x->Rep H q y->RelV p u->RelV q w->pB A s u w b:=by
 intro n
 induction n with
 |zero=>exact λA r x y b p q u w h=>qd I A 00 x y b p q u w h
 |succ n v=>
  intro A r x y b p q u w h o l k a;have e:=λh=>qd I A 00 x y b p q u w h o l k a
  have c:A.units<cLine:=by omega
  have d:=v A.in1 (by rw[ub];omega)
  cases o with
  |tup i j=>
   cases l with
   |tup f g=>
    obtain rfl:u=Value.ref _:=k;obtain rfl:w=Value.ref _:=a;exact ky I c i f j g h (Z7 n) d
   |_=>exact e (by exact h)
  |lst i j=>
   cases l with
   |lst f g=>
    obtain rfl:u=Value.ref _:=k;obtain rfl:w=Value.ref _:=a;exact Wd I c (.inl i) (.inl f) j g h (Z7 n) d
   |fz f g=>
    obtain rfl:u=Value.ref _:=k;obtain rfl:w=Value.ref _:=a;exact Wd I c (.inl i) (.inr ⟨_,f⟩) j g h (Z7 n) d
   |_=>exact e (by exact h)
  |fz i j=>
   cases l with
   |lst f g=>
    obtain rfl:u=Value.ref _:=k;obtain rfl:w=Value.ref _:=a;exact Wd I c (.inr ⟨_,i⟩) (.inl f) j g h (Z7 n) d
   |fz f g=>
    obtain rfl:u=Value.ref _:=k;obtain rfl:w=Value.ref _:=a;exact Wd I c (.inr ⟨_,i⟩) (.inr ⟨_,f⟩) j g h (Z7 n) d
   |_=>exact e (by exact h)
  |_=>exact e (by cases l<;>(exact h))
end
section
variable {X:Cx}{Y:Fx}{a b c d:Expr}{fa fb fc fd:En->R T}{pos:Pos}
def rG (Y:Fx)(g:T->T->R T):R2:=λx y H Q=>∃B t t',zi B H/\Rep B x t/\Rep B y t'/\Po Y rC B H (g t t') Q
def zd (g:T->T->R T)(fa fb:En->R T):En->R T:=λρ=>(fa ρ).bind λx=>(fb ρ).bind λy=>g x y
def U4 {op:Operator}{g:T->T->R T}(o:nc X (binaryOp op) (rG Y g))(p:Snd X Y a fa)(l:Snd X Y b fb):Snd X Y (.BinOp a op b pos) (zd g fa fb):=.mk λρ=>
 PE.imp (Lb o (p ρ) (l ρ)) λy H Q ⟨B,I,q⟩=>step I q λt v w _ C f e k=>step e k λt' D x _ j i u r=>
  ⟨_,t,t',u.sB,f.mono (zy.ge e.sB j),i,r⟩
def nk {g:R T}{B H:Hp}{Q:VK}{t:T}{v:V}(f:zi B H)(q:Po Y rC B H g Q)(e:g=.ok t)(r:Rep B v t):Q v H:=by
 subst e;exact q v H (zi.refl H) (by rw[zy.self B H f];exact r)
def GO {g:R T}{B H:Hp}{Q:VK}{ts:List T}{xs:List V}{p:Addr}(f:zi B H)(q:Po Y rC B H g Q)(e:g=.ok (.tup ts))(r:zr B xs ts)(h:H p=none):Q (.ref p) (kj H p (.tup xs)):=by
 subst e;exact q _ _ (zi.new h _) (.tup (jc h _) (r.mono (zy.ge f (zi.new h _))))
def Ds {g:R T}{B H:Hp}{Q:VK}{ts:List T}{xs:List V}{p:Addr}(f:zi B H)(q:Po Y rC B H g Q)(e:g=.ok (.lst ts))(r:zr B xs ts)(h:H p=none):Q (.ref p) (kj H p (.lst xs)):=by
 subst e;exact q _ _ (zi.new h _) (.lst (jc h _) (r.mono (zy.ge f (zi.new h _))))
def zA:T->T->R T
 |.int i,.int j=>.ok (.int (i+j))
 |.bl x,.int j=>.ok (.int (b2 x+j))
 |.int i,.bl y=>.ok (.int (i+b2 y))
 |.str x,.str y=>if x.length+y.length<=mR then .ok (.str (x++y))else .bad
 |.tup xs,.tup e=>if xs.length+e.length<=mR then .ok (.tup (xs++e))else .bad
 |.lst xs,.lst e=>if xs.length+e.length<=mR then .ok (.lst (xs++e))else .bad
 |_,_=>.bad
def VA {prog:Program}{w:World}{A:Around}{E:Value->Shared->Prop}{s:Shared}{t b:Addr}{vs v:List Value}{Q:Value->Shared->Prop}(o:IsTup s.heap t vs.toArray)(q:IsTup s.heap b v.toArray)(x:vs=[])
  (p:Q (.ref b) s):wpAny 08 A (binaryOp .Add (.ref t) (.ref b)) Q E s:=by
 obtain⟨⟨cls,dd,data,u⟩,k,y,n,hd⟩:=id o;obtain⟨⟨l,i,data2,j⟩,e,g,r,f⟩:=id q;subst y hd g f;exact concat_meets ⟨_,k,rfl⟩ ⟨_,e,rfl⟩ noFill_tuple_add seq_tuple_add eR eK (e9 _ _)
   (tuple_addW0 t b _ _ n r dd i u j (by simp[x])) ⟨k,e,p⟩
def kA:nc X (binaryOp .Add) (rG Y zA):=by
 intro f s N H x y v u Q I w C h;obtain⟨B,t,t',e,r,D,q⟩:=h;cases r with
 |int i=>
  cases D with
  |int j=>exact Gu f s N H _ _ v u Q I w C ⟨i,j,rfl,rfl,nk e q rfl (.int _)⟩
  |bl y=>exact YQ f s N H _ _ v u Q I w C ⟨i,y,rfl,rfl,nk e q rfl (.int _)⟩
  |_=>exact q.elim
 |bl x=>
  cases D with
  |int j=>
   obtain rfl:v=Value.bool x:=w;obtain⟨tk,rfl⟩:=C;exact IntBool.add_bool_int (⟨.int _,H,I.tok _,⟨_,rfl⟩,nk e q rfl (.int _)⟩)
  |_=>exact q.elim
 |str x=>
  cases D with
  |str y=>
   by_cases g:x.length+y.length<=mR
   ·exact yW f s N H _ _ v u Q I w C ⟨x,y,rfl,rfl,ZD g,nk e q (if_pos g) (.str _)⟩
   ·rw[show zA (.str x) (.str y)=.bad from if_neg g]at q;exact q.elim
  |_=>exact q.elim
 |@tup a xs ts L l=>
  cases D with
  |@tup J M o F k=>
   by_cases g:ts.length+o.length<=mR
   ·have G:zA (.tup ts) (.tup o)=.ok _:=if_pos g;have hz:xs.length+M.length<=sizeLine:=by rw[l.length,k.length];exact ZD g
    by_cases O:xs=[]
    ·obtain rfl:v=Value.ref a:=w;obtain rfl:u=Value.ref J:=C;obtain⟨Z,U,p,_⟩:=I.tuple (SqT.of (e _ _ L));obtain⟨P,S,p',_⟩:=I.tuple (SqT.of (e _ _ F));have et:=l.nil_iff.mp O;refine VA p p' (U.nil_iff.mpr O) ⟨.ref J,H,I,rfl,nk e q G ?_⟩;rw[et];exact .tup F k
    ·refine kh _ s N H _ _ v u Q I w C ⟨a,J,xs,M,rfl,rfl,SqT.of (e _ _ L),SqT.of (e _ _ F),O,hz,λhy=>?_,λhy p hp=>?_⟩
     ·refine nk e q G ?_;rw[k.nil_iff.mp hy,br];exact .tup L l
     ·exact GO e q G (l.append k) hp
   ·rw[show zA (.tup ts) (.tup o)=.bad from if_neg g]at q;exact q.elim
  |_=>exact q.elim
 |@lst a xs ts L l=>
  cases D with
  |@lst J M o F k=>
   by_cases g:ts.length+o.length<=mR
   ·have G:zA (.lst ts) (.lst o)=.ok _:=if_pos g;have hz:xs.length+M.length<=sizeLine:=by rw[l.length,k.length];exact ZD g
    exact GI _ s N H _ _ v u Q I w C ⟨a,J,xs,M,rfl,rfl,e _ _ L,e _ _ F,hz,λp hp=>Ds e q G (l.append k) hp⟩
   ·rw[show zA (.lst ts) (.lst o)=.bad from if_neg g]at q;exact q.elim
  |_=>exact q.elim
 |_=>cases D<;>exact q.elim
def Il (e:Snd X Y a fa)(f:Snd X Y b fb):Snd X Y (.BinOp a .Add b pos) (zd zA fa fb):=U4 kA e f
noncomputable def Jj:T->T->R T
 |.int i,.int j=>.ok (.int (i-j))
 |_,_=>.bad
noncomputable def jr:T->T->R T
 |.int i,.int j=>if 0<j then .ok (.int (i%j))else .bad
 |_,_=>.bad
noncomputable def We:T->T->R T
 |.int i,.int j=>if 0<j/\j<1073741824 then .ok (.int (i/j))else .bad
 |_,_=>.bad
instance (i j:Int):Decidable (uY i j):=by unfold uY;infer_instance
def Z5:T->T->R T
 |.int i,.int j=>if uY i j then .ok (.int (i*j))else .bad
 |.lst xs,.int k=>if 0<=k/\k<1000000/\xs.length*k.toNat<=mR then .ok (.lst (ar k.toNat xs).flatten)else .bad
 |.tup xs,.int k=>if 2<=k/\k<1000000/\xs≠[]/\xs.length*k.toNat<=mR then .ok (.tup (ar k.toNat xs).flatten)else .bad
 |_,_=>.bad
def kB:nc X (binaryOp .Sub) (rG Y Jj):=by
 intro e s g H x y v u Q I l o h;obtain⟨B,t,t',k,r,f,q⟩:=h;cases r with
 |int i=>
  cases f with
  |int j=>exact Gv _ s g H _ _ v u Q I l o ⟨i,j,rfl,rfl,nk k q rfl (.int _)⟩
  |_=>exact q.elim
 |_=>cases f<;>exact q.elim
def kC:nc X (binaryOp .Mod) (rG Y jr):=by
 intro f s k H x y v u Q I o p h;obtain⟨B,t,t',l,r,g,q⟩:=h;cases r with
 |int i=>
  cases g with
  |int j=>
   by_cases e:0<j
   ·exact Gx _ s k H _ _ v u Q I o p ⟨i,j,rfl,rfl,e,nk l q (if_pos e) (.int _)⟩
   ·rw[show jr (.int i) (.int j)=.bad from if_neg e]at q;exact q.elim
  |_=>exact q.elim
 |_=>cases g<;>exact q.elim
def VB:nc X (binaryOp .FloorDiv) (rG Y We):=by
 intro f s k H x y v u Q I o p h;obtain⟨B,t,t',l,r,g,q⟩:=h;cases r with
 |int i=>
  cases g with
  |int j=>
   by_cases e:0<j/\j<1073741824
   ·exact XX _ s k H _ _ v u Q I o p ⟨i,j,rfl,rfl,e,nk l q (if_pos e) (.int _)⟩
   ·rw[show We (.int i) (.int j)=.bad from if_neg e]at q;exact q.elim
  |_=>exact q.elim
 |_=>cases g<;>exact q.elim
def Y1 (l:Addr)(items:Array Value)(n:Nat)(dd:Option Addr)(p:Array (Option Value))(x:Int)(u:Tok)(F:2<=x)(D:x<1000000)(e:items.isEmpty=false)(hsz:items.size*x.toNat<=sizeLine):
  Meets (Builtin.«tuple.__mul__» ⟨[.ref l,.int x u],[]⟩) (λ_ R s=>s.heap.get? l=some {cls:=.type "tuple",dict:=dd,data:=.seq items n,slots:=p}/\
   R (.ok (.ret (Value.ref s.1.1.size))) {s with heap:=s.heap.push {cls:=Value.type "tuple",data:=Data.seq (fU (λf g=>f++g) #[] (ar x.toNat items))},toks:=s.toks}):=
 .of_wp λprog w A R s h=>by
  obtain⟨k,h⟩:=h;have j:(items.size:Int)*x=((items.size*x.toNat:Nat):Int):=by
   have:x=((x.toNat:Nat):Int):=by omega
   rw[dI,←this]
  have C:(sizeLine:Nat)=16777216:=c7;have y:¬(decide (x< -(2^63))||decide (x≥2^63))=true:=by simp;omega
  have o:¬(items.isEmpty||x==1)=true:=by simp[e];omega
  have r:¬(decide (x<=0)||items.isEmpty)=true:=by simp[e];omega
  have v:¬((items.size:Int)*x>(2^63-1)/8):=by rw[j];omega
  have B:¬fW ((items.size:Int)*x)=true:=by
   unfold fW;rw[j];intro z;have:=of_decide_eq_true z;omega
  unfold Builtin.«tuple.__mul__»
  wp_walk using wpAny_loadPart' k
  rw[if_neg y]
  wp_walk using wpAny_loadPart' k
  rw[if_neg o]
  try dsimp only
  rw[if_neg r]
  try dsimp only
  rw[if_neg v]
  try dsimp only
  rw[if_neg B]
  try dsimp only
  have i:sizeOk (.seq (fU (λf g=>f++g) #[] (ar x.toNat items))):=by
   show (fU (λf g=>f++g) #[] _).size<=sizeLine;have:=jI items.toList x.toNat [];have q:=by
    simpa using this
   rw[q,aJ,jW,dD];exact hsz
  exact a8 (aO (ac ⟨_,rfl,h⟩) i)
def uc:seqRepeat? (.type "tuple")=pure (some (.builtin "tuple.__mul__")):=by
 unfold seqRepeat?;rw[m7 (name:="__mul__") ii.lookup (by decide+kernel),m7 (name:="__rmul__") lM.lookup (by decide+kernel)]
 rfl
def Jt:fillsNumberSlot (.type "tuple") "mul"=pure false:=
 PySem.fillsNumberSlot_seq ii.lookup (by decide+kernel) lM.lookup (by decide+kernel)
def wG (a:Int)(t:Tok)(l:Addr)(items:Array Value)(n:Nat)(dd:Option Addr)(e:Array (Option Value)):
  Meets (Builtin.«int.__rmul__» ⟨[.int a t,.ref l],[]⟩) (λ_ R s=>s.heap.get? l=some {cls:=.type "tuple",dict:=dd,data:=.seq items n,slots:=e}/\R (.ok (.ret Value.notImplemented)) s):=
 .of_wp λprog w A R s h=>by obtain⟨f,h⟩:=h;wp_walk;exact⟨_,rfl,h⟩
def kD {prog:Program}{w:World}{A:Around}{E:Value->Shared->Prop}{s:Shared}{l:Addr}{e:List Value}{k:Int}{t:Tok}{Q:Value->Shared->Prop}(p:IsTup s.heap l e.toArray)(g:e≠[])(o:2<=k)(j:k<1000000)
  (hsz:e.length*k.toNat<=sizeLine) (q:Q (.ref s.1.1.size) {s with heap:=s.heap.push {cls:=.type "tuple",data:=.seq (ar k.toNat e).flatten.toArray} }):
  wpAny 08 A (binaryOp .Mult (.ref l) (.int k t)) Q E s:=by
 obtain⟨⟨cls,dd,data,i⟩,f,r,n,hd⟩:=id p;subst r hd;refine wpAny_binaryOp_repeat_ref 01 ⟨_,f,rfl⟩ (λu=>typeIs_int u k t) Jt my fG uc m4.lookup
  (fV fG (typeIs_int s k t) m5 (lK _ _) (wG k t l _ n dd i)
   ⟨f,rfl,⟨_,f,rfl⟩,fV ii ⟨_,f,rfl⟩ F.entry_tuple_mul (F.args_tuple_mul_2 _ _) (Y1 l _ n dd i k t o j (by simpa using g) (by simpa using hsz)) ⟨f,?_⟩⟩)
 have:=jI e k.toNat [];rw[this];exact q
def kE:nc X (binaryOp .Mult) (rG Y Z5):=by
 intro S s P H x y v u Q I M N h;obtain⟨B,t,t',o,r,C,q⟩:=h;cases r with
 |int i=>
  cases C with
  |int j=>
   by_cases G:uY i j
   ·exact Gw _ s P H _ _ v u Q I M N ⟨i,j,rfl,rfl,G,nk o q (if_pos G) (.int _)⟩
   ·rw[show Z5 (.int i) (.int j)=.bad from if_neg G]at q;exact q.elim
  |_=>exact q.elim
 |@lst l xs ts J g=>
  cases C with
  |int k=>
   by_cases f:0<=k/\k<1000000/\ts.length*k.toNat<=mR
   ·have D:Z5 (.lst ts) (.int k)=.ok _:=if_pos f;exact GJ _ s P H _ _ v u Q I M N ⟨l,k,xs,rfl,rfl,o _ _ J,by omega,by omega,by rw[g.length];exact ZD f.2.2,λp hp=>Ds o q D (g.rep _) hp⟩
   ·rw[show Z5 (.lst ts) (.int k)=.bad from if_neg f]at q;exact q.elim
  |_=>exact q.elim
 |@tup l xs ts J g=>
  cases C with
  |int k=>
   by_cases f:2<=k/\k<1000000/\ts≠[]/\ts.length*k.toNat<=mR
   ·have D:Z5 (.tup ts) (.int k)=.ok _:=if_pos f;obtain rfl:v=Value.ref l:=M;obtain⟨tk,rfl⟩:=N;obtain⟨w,O,p,_⟩:=I.tuple (SqT.of (o _ _ J));have F:=g.length.symm.trans O.length;have L:w≠[]:=λz=>f.2.2.1 (by rw[z]at F;exact bc.mp F)
    refine kD p L f.1 f.2.1 (by rw[←F];exact ZD f.2.2.2) ⟨.ref _,kj H _ (.tup (ar k.toNat xs).flatten),I.laid (λb u e=>aa _ e) (aq _) ?_,rfl,?_⟩
    ·exact⟨by rw[jW,g.length,dD];exact ZD f.2.2.2,(ar _ w).flatten,O.rep _,⟨_,ai _ rfl,rfl,_,rfl⟩,.inr ⟨_,ai _ rfl,rfl⟩⟩
    ·exact GO o q D (g.rep _) (I.hok.fresh (aq _))
   ·rw[show Z5 (.tup ts) (.int k)=.bad from if_neg f]at q;exact q.elim
  |_=>exact q.elim
 |_=>cases C<;>exact q.elim
def Hl (e:Snd X Y a fa)(f:Snd X Y b fb):Snd X Y (.BinOp a .Sub b pos) (zd Jj fa fb):=U4 kB e f
def Lx (e:Snd X Y a fa)(f:Snd X Y b fb):Snd X Y (.BinOp a .Mod b pos) (zd jr fa fb):=U4 kC e f
def GP (e:Snd X Y a fa)(f:Snd X Y b fb):Snd X Y (.BinOp a .FloorDiv b pos) (zd We fa fb):=U4 VB e f
def LC (e:Snd X Y a fa)(f:Snd X Y b fb):Snd X Y (.BinOp a .Mult b pos) (zd Z5 fa fb):=U4 kE e f
def VC (fa:En->R T):En->R T:=λρ=>(fa ρ).bind λx=>match x with
 |.int i=>.ok (.int (-i))
 |_=>.bad
def Fc (j:Snd X Y a fa):Snd X Y (.UnaryOp .USub a pos) (VC fa):=.mk λρ=>PE.imp (Fy Gy (j ρ)) λl H Q ⟨B,I,q⟩=>step I q λt v k _ o f g e=>by
 cases f with
 |int i=>exact⟨i,rfl,nk g.sB e rfl (.int _)⟩
 |_=>exact e.elim
def wC (g:T->T->R Bool):R2:=λx y H Q=>∃t t' b,Rep H x t/\Rep H y t'/\g t t'=.ok b/\Q (.bl b) H
def ZV (g:T->T->R Bool)(fa fb:En->R T):En->R T:=λρ=>(fa ρ).bind λx=>(fb ρ).bind λy=>(g x y).bind λb=>.ok (.bl b)
def zu (g:T->T->R Bool)(fa fb:En->R T):En->R Bool:=λρ=>(fa ρ).bind λx=>(fb ρ).bind λy=>g x y
noncomputable def Nx (g:T->T->R Bool):Prop:=∀t t' c,g t t'≠.ex c
def qe {op:CmpOp}{g:T->T->R Bool}(nx:Nx g)(u:nc X (compareOp op) (wC g))(w:jv X Y a fa)(r:jv X Y b fb)(j:behindInMarks op b=false):Snd X Y (.Compare a [op] [b] pos) (ZV g fa fb):=.mk λρ=>
 PE.imp (XY u (w ρ) (r ρ) j) λF H Q ⟨B,I,q⟩=>step I q λt v y _ D l o k=>step o k λt' G C _ p i x f=>by
  cases e:g t t' with
  |bad=>rw[e]at f;exact f.elim
  |ex c=>exact absurd e (nx _ _ _)
  |ok b=>rw[e]at f;exact⟨t,t',b,l.mono p,i,e,ZR x f (.bl b)⟩
def U5 {op:CmpOp}{g:T->T->R Bool}(nx:Nx g)(u:nc X (compareOp op) (wC g))(w:jv X Y a fa)(r:jv X Y b fb)(j:behindInMarks op b=false):ua X Y (.Compare a [op] [b] pos) (zu g fa fb):=.mk λρ=>
 PT.imp (U0 u (w ρ) (r ρ) j) λF H Q ⟨B,I,q⟩=>step I q λt v y _ D l o k=>step o k λt' G C _ p i x f=>by
  cases e:g t t' with
  |bad=>rw[e]at f;exact f.elim
  |ex c=>exact absurd e (nx _ _ _)
  |ok b=>rw[e]at f;exact⟨t,t',b,l.mono p,i,e,b,rfl,ZR x f rfl⟩
def mL (t t':T):R Bool:=match mQ 30 t t' with
 |some b=>.ok b
 |none=>.bad
def nq (t t':T):R Bool:=match mQ 30 t t' with
 |some b=>.ok (!b)
 |none=>.bad
def GQ:Nx mL:=λt t' c h=>by unfold mL at h;split at h<;>cases h
def GR:Nx nq:=λt t' c h=>by unfold nq at h;split at h<;>cases h
def X8 (p:X.A.units+64<cLine):nc X (compareOp .Eq) (wC mL):=by
 intro f s w H x y v u Q I j l h;obtain⟨t,t',b,r,i,e,q⟩:=h;unfold mL at e;split at e
 ·rename_i k g;have o:=by injection e
  subst o;exact(kz I 30 X.A 00 t t' k x y v u g r i j l).2.1 _ _ _ _ ⟨.bl k,H,I,rfl,q⟩
 ·cases e
def UC (o:X.A.units+64<cLine):nc X (compareOp .NotEq) (wC nq):=by
 intro f s p H x y v u Q I j l h;obtain⟨t,t',b,r,i,e,q⟩:=h;unfold nq at e;split at e
 ·rename_i k g;cases e;exact(kz I 30 X.A 00 t t' k x y v u g r i j l).2.2 _ _ _ _ ⟨.bl _,H,I,rfl,q⟩
 ·cases e
noncomputable def oB:T->T->R Bool
 |.int i,.int j=>.ok (decide (i<j))
 |_,_=>.bad
noncomputable def mX:T->T->R Bool
 |.int i,.int j=>.ok (decide (i<=j))
 |.str x,.str y=>.ok (!decide (y.cps.toList<x.cps.toList))
 |_,_=>.bad
noncomputable def nZ:T->T->R Bool
 |.int i,.int j=>.ok (decide (j<i))
 |_,_=>.bad
noncomputable def pW:T->T->R Bool
 |.int i,.int j=>.ok (decide (j<=i))
 |_,_=>.bad
def IE:Nx oB:=λt t' c h=>by unfold oB at h;split at h<;>cases h
def Wf:Nx mX:=λt t' c h=>by unfold mX at h;split at h<;>cases h
def Fg:Nx nZ:=λt t' c h=>by unfold nZ at h;split at h<;>cases h
def Fm:Nx pW:=λt t' c h=>by unfold pW at h;split at h<;>cases h
def GS:nc X (compareOp .Lt) (wC oB):=by
 intro f s g H x y v u Q I l o h;obtain⟨t,t',b,r,k,e,q⟩:=h;unfold oB at e;split at e
 ·rename_i i j;cases e;cases r;cases k;exact EZ _ s g H _ _ v u Q I l o ⟨i,j,rfl,rfl,q⟩
 ·cases e
def GT:nc X (compareOp .Gt) (wC nZ):=by
 intro f s g H x y v u Q I l o h;obtain⟨t,t',b,r,k,e,q⟩:=h;unfold nZ at e;split at e
 ·rename_i i j;cases e;cases r;cases k;exact IL _ s g H _ _ v u Q I l o ⟨i,j,rfl,rfl,q⟩
 ·cases e
def GU:nc X (compareOp .GtE) (wC pW):=by
 intro f s g H x y v u Q I l o h;obtain⟨t,t',b,r,k,e,q⟩:=h;unfold pW at e;split at e
 ·rename_i i j;cases e;cases r;cases k;exact Ib _ s g H _ _ v u Q I l o ⟨i,j,rfl,rfl,q⟩
 ·cases e
def jK:nc X (compareOp .LtE) (wC mX):=by
 intro f s o H x y v u Q I k l h;obtain⟨t,t',b,r,g,e,q⟩:=h;unfold mX at e;split at e
 ·rename_i i j;cases e;cases r;cases g;exact HZ _ s o H _ _ v u Q I k l ⟨i,j,rfl,rfl,q⟩
 ·cases e;cases r;cases g;obtain⟨p,rfl⟩:=k;obtain⟨w,rfl⟩:=l;exact PySem.P.le_str ⟨.bl _,H,I,rfl,q⟩
 ·cases e
end
section
variable {X:Cx}{Y:Fx}{a b c d:Expr}{fa fb fc fd:En->R T}{pos:Pos}
noncomputable def wD (f:T->Option Bool):List T->Option Bool
 |[]=>some false
 |t::r=>match f t with
  |none=>none
  |some b=>match wD f r with
   |none=>none
   |some c=>some (b||c)
def nA (t t':T):R Bool:=match t' with
 |.tup e=>match wD (λy=>mQ 30 y t) e with|some b=>.ok b|none=>.bad
 |.lst e=>match wD (λy=>mQ 30 y t) e with|some b=>.ok b|none=>.bad
 |_=>.bad
def VD (t t':T):R Bool:=(nA t t').bind λb=>.ok (!b)
def VE:Nx nA:=λt t' c h=>by
 unfold nA at h;split at h
 ·split at h<;>cases h
 ·split at h<;>cases h
 ·cases h
def GV:Nx VD:=λt t' c h=>by
 unfold VD at h;cases e:nA t t' with
 |bad=>rw[e]at h;cases h
 |ex k=>exact absurd e (VE _ _ _)
 |ok k=>rw[e]at h;cases h
open Classical in
def kG {H:Hp}(f:T->Option Bool):∃e:Value->Bool,∀(v:V) (t:T) (u:Value) (b:Bool),RelV v u->Rep H v t->f t=some b->e u=b:=by
 refine⟨λu=>decide (∃v t,RelV v u/\Rep H v t/\f t=some true),λv t u b i r e=>?_⟩;cases b with
 |true=>exact decide_eq_true ⟨v,t,i,r,e⟩
 |false=>
  refine decide_eq_false ?_
  rintro⟨l,t',g,k,j⟩
  have:=i.inj g;subst this;have:=r.fn k;subst this;rw[e]at j;cases j
theorem qf {H:Hp}{f:T->Option Bool}{e:Value->Bool}(p:∀(v:V) (t:T) (u:Value) (b:Bool),RelV v u->Rep H v t->f t=some b->e u=b):∀{xs:List V} {ts:List T} {g:List Value} {b:Bool},
  Vals xs g->zr H xs ts->wD f ts=some b->g.any e=b/\∀u∈g,∃v t k,RelV v u/\Rep H v t/\f t=some k
 |_,_,_,b,.nil,.nil,h=>by
  have h':=h;cases h';exact⟨rfl,λu y=>by simp at y⟩
 |_,_,_,b,.cons l vs,.cons r rs,h=>by
  rename_i v u o D t ts;unfold wD at h;cases q:f t with
  |none=>rw[q]at h;cases h
  |some k=>
   rw[q]at h;cases j:wD f ts with
   |none=>rw[j]at h;cases h
   |some C=>
    rw[j]at h;cases h;obtain⟨B,x⟩:=qf p vs rs j;refine⟨by rw[hZ,B,p v t u k l r q],λw i=>?_⟩
    rcases au.mp i with rfl|i
    ·exact⟨v,t,k,l,r,q⟩
    ·exact x w i
def qg (hu:X.A.units+64<cLine)(g:Bool):nc X (compareOp (if g then .NotIn else .In)) (wC (if g then VD else nA)):=by
 intro U s σ H x y v u Q I rx ry h;obtain⟨t,t',b,r,Z,e,q⟩:=h;have hs:∃k,nA t t'=.ok k/\b=(if g then !k else k):=by
  cases g with
  |false=>exact⟨b,e,rfl⟩
  |true=>
   have J:VD t t'=.ok b:=e;unfold VD at J;cases z:nA t t' with
   |bad=>rw[z]at J;cases J
   |ex k=>exact absurd z (VE _ _ _)
   |ok k=>rw[z]at J;cases J;exact⟨k,rfl,rfl⟩
 obtain⟨k,i,rfl⟩:=hs;unfold nA at i;obtain⟨f,O⟩:=kG λy=>mQ 30 y t;have j:∀w,(∃v t' k,RelV v w/\Rep H v t'/\mQ 30 t' t=some k)->dB X.A.in1 s w v (f w):=λw ⟨v',t',k,C,S,P⟩=>by
  rw[O v' t' w k C S P];exact(kz I 30 _ (by rw[ub];omega) t' t k v' x w v P S r C rx).1
 split at i
 ·split at i
  ·rename_i k' N;cases i;cases Z with
   |@tup l xs _ M D=>
    obtain rfl:u=Value.ref l:=ry;obtain⟨B,C,p,_⟩:=ZO I M D;obtain⟨L,F⟩:=qf O C D N;have G:B.toArray.any f=k:=by simpa using L
    cases g with
    |false=>exact SeqAt.in_tupleAt f p (λw o=>j w (F w (by simpa using o))) (by rw[G];exact⟨.bl k,H,I,rfl,q⟩)
    |true=>exact SeqAt.notIn_tupleAt f p (λw o=>j w (F w (by simpa using o))) (by rw[G];exact⟨.bl _,H,I,rfl,q⟩)
  ·cases i
 ·split at i
  ·rename_i k' N;cases i;cases Z with
   |@lst l xs _ M D=>
    obtain rfl:u=Value.ref l:=ry;obtain⟨B,C,p,_⟩:=zH I (.inl M) D;obtain⟨L,F⟩:=qf O C D N;have G:B.toArray.any f=k:=by simpa using L
    cases g with
    |false=>exact SeqAt.in_listAt f p (λw o=>j w (F w (by simpa using o))) (by rw[G];exact⟨.bl k,H,I,rfl,q⟩)
    |true=>exact SeqAt.notIn_listAt f p (λw o=>j w (F w (by simpa using o))) (by rw[G];exact⟨.bl _,H,I,rfl,q⟩)
  ·cases i
 ·cases i
def X9 (e:X.A.units+64<cLine):nc X (compareOp .In) (wC nA):=qg e false
def kH (e:X.A.units+64<cLine):nc X (compareOp .NotIn) (wC VD):=qg e true
noncomputable def isNC (t t':T):R Bool:=match t' with
 |.non=>match t with|.non=>.ok true|_=>.ok false
 |.bl k=>match t with|.bl j=>.ok (j==k)|_=>.ok false
 |_=>.bad
def nG (g f:T->T->R Bool)(fa fb fc:En->R T):En->R T:=λρ=>(fa ρ).bind λx=>(fb ρ).bind λy=>(g x y).bind λk=>if k=true then (fc ρ).bind λz=>(f y z).bind λe=>.ok (.bl e)else .ok (.bl false)
def D2 (g e:T->T->R Bool)(fa fb fc:En->R T):En->R Bool:=λρ=>(fa ρ).bind λx=>(fb ρ).bind λy=>(g x y).bind λk=>if k=true then (fc ρ).bind λz=>e y z else .ok false
def kJ {op f:CmpOp}{g j:T->T->R Bool}(nx:Nx g)(o:Nx j)(M:nc X (compareOp op) (wC g))(p:nc X (compareOp f) (wC j))(N:jv X Y a fa)(L:jv X Y b fb)(O:jv X Y c fc)
  (x:lastMarks [op,f] [b,c]=false:=by with_unfolding_all rfl):Snd X Y (.Compare a [op,f] [b,c] pos) (nG g j fa fb fc):=.mk λρ=>
 PE.imp (Vt M p (N ρ) (L ρ) (O ρ) x) λσ H Q ⟨B,I,q⟩=>step I q λt v S _ Z F G y=>step G y λt' v' U _ J u w i=>by
  cases e:g t t' with
  |bad=>rw[e]at i;exact i.elim
  |ex c=>exact absurd e (nx _ _ _)
  |ok k=>
   rw[e]at i;refine⟨t,t',k,F.mono J,u,e,k,rfl,?_⟩;cases k with
   |false=>exact ZR w i (.bl _)
   |true=>
    refine step w i λr v3 H3 _ P C D l=>?_
    ·cases e:j t' r with
     |bad=>rw[e]at l;exact l.elim
     |ex c=>exact absurd e (o _ _ _)
     |ok k=>rw[e]at l;exact⟨t',r,k,u.mono P,C,e,ZR D l (.bl k)⟩
def kK {op f:CmpOp}{g j:T->T->R Bool}(nx:Nx g)(o:Nx j)(M:nc X (compareOp op) (wC g))(p:nc X (compareOp f) (wC j))(N:jv X Y a fa)(L:jv X Y b fb)(O:jv X Y c fc)
  (x:lastMarks [op,f] [b,c]=false:=by with_unfolding_all rfl):ua X Y (.Compare a [op,f] [b,c] pos) (D2 g j fa fb fc):=.mk λρ=>
 PT.imp (Vu M p (N ρ) (L ρ) (O ρ) x) λσ H Q ⟨B,I,q⟩=>step I q λt v S _ Z F G y=>step G y λt' v' U _ J u w i=>by
  cases e:g t t' with
  |bad=>rw[e]at i;exact i.elim
  |ex c=>exact absurd e (nx _ _ _)
  |ok k=>
   rw[e]at i;refine⟨t,t',k,F.mono J,u,e,k,rfl,?_⟩;cases k with
   |false=>exact⟨false,rfl,ZR w i rfl⟩
   |true=>
    refine step w i λr v3 H3 _ P C D l=>?_
    ·cases e:j t' r with
     |bad=>rw[e]at l;exact l.elim
     |ex c=>exact absurd e (o _ _ _)
     |ok k=>rw[e]at l;exact⟨t',r,k,u.mono P,C,e,k,rfl,ZR D l rfl⟩
def kL (r w f:R2)(q tb tc B:TE):TE:=λe H Q=>q e H λx o=>tb e o λy v=>r x y v λz H3=>∃k,z=.bl k/\
 (if k=true then tc e H3 λj l=>w y j l λp i=>∃g,p=.bl g/\(if g=true then B e i λw2 u=>f j w2 u Q else Q (.bl false) i)else Q (.bl false) H3)
def qh {op i f:CmpOp}{r F j:R2}{w tb tc C:TE}(ho:nc X (compareOp op) r)(o:nc X (compareOp i) F)(l:nc X (compareOp f) j)(ha:PE X a w)(hb:PE X b tb)(hc:PE X c tc)(hd:PE X d C)
  (S:lastMarks [op,i,f] [b,c,d]=false:=by with_unfolding_all rfl):PE X (.Compare a [op,i,f] [b,c,d] pos) (kL r F j w tb tc C):=by
 intro M s g H Q I h;refine Compare_chain (mN (ha _ s g H _ I h) λv s1 ⟨x,P,I1,r1,q1⟩=>chain_link (mN (hb _ s1 g P _ I1 q1) λu s2 ⟨y,H2,I2,p,q2⟩=>
  mN (ho _ s2 g H2 x y v u _ I2 r1 p q2) λd' s3 ⟨z,H3,B,Z,k,e,N⟩=>?_)) S
 subst e;cases Z;refine be ?_;cases k with
 |false=>exact ite_ff ⟨.bl _,H3,B,rfl,N⟩
 |true=>
  refine ite_tt (chain_link (mN (hc _ s3 g H3 _ B N) λD s4 ⟨G,H4,I4,J,q4⟩=>mN (o _ s4 g H4 y G u D _ I4 p J q4) λd2 s5 ⟨z5,O,L,r5,k5,e5,q⟩=>?_));subst e5;cases r5;refine be ?_;cases k5 with
  |false=>exact ite_ff ⟨.bl _,O,L,rfl,q⟩
  |true=>exact ite_tt (chain_last (mN (hd _ s5 g O _ L q) λw6 U ⟨z6,H6,I6,r6,q6⟩=>l _ U g H6 G z6 D w6 Q I6 J r6 q6))
def sO (g j e:T->T->R Bool)(fa fb fc fd:En->R T):En->R T:=λρ=>(fa ρ).bind λx=>(fb ρ).bind λy=>(g x y).bind λk=>if k=true then (fc ρ).bind λz=>(j y z).bind λi=>
 if i=true then (fd ρ).bind λw=>(e z w).bind λf=>.ok (.bl f)else .ok (.bl false)else .ok (.bl false)
def VF {op j f:CmpOp}{g x i:T->T->R Bool}(nx:Nx g)(y:Nx x)(r:Nx i)(ho:nc X (compareOp op) (wC g))(C:nc X (compareOp j) (wC x))(o:nc X (compareOp f) (wC i))
  (ha:jv X Y a fa) (hb:jv X Y b fb) (hc:jv X Y c fc) (hd:jv X Y d fd)
  (M:lastMarks [op,j,f] [b,c,d]=false:=by with_unfolding_all rfl):Snd X Y (.Compare a [op,j,f] [b,c,d] pos) (sO g x i fa fb fc fd):=.mk λρ=>
 PE.imp (qh ho C o (ha ρ) (hb ρ) (hc ρ) (hd ρ) M) λσ H Q ⟨B,I,q⟩=>step I q λt v H1 _ s1 S U N=>step U N λt' v' H2 _ s2 D L l=>by
  cases e:g t t' with
  |bad=>rw[e]at l;exact l.elim
  |ex c=>exact absurd e (nx _ _ _)
  |ok k=>
   rw[e]at l;refine⟨t,t',k,S.mono s2,D,e,k,rfl,?_⟩;cases k with
   |false=>exact ZR L l (.bl _)
   |true=>
    refine step L l λu v3 H3 _ s3 G J p=>?_
    ·cases e:x t' u with
     |bad=>rw[e]at p;exact p.elim
     |ex c=>exact absurd e (y _ _ _)
     |ok k=>
      rw[e]at p;refine⟨t',u,k,D.mono s3,G,e,k,rfl,?_⟩;cases k with
      |false=>exact ZR J p (.bl _)
      |true=>
       refine step J p λF v4 H4 _ P O Z w=>?_
       ·cases e:i u F with
        |bad=>rw[e]at w;exact w.elim
        |ex c=>exact absurd e (r _ _ _)
        |ok k=>rw[e]at w;exact⟨u,F,k,G.mono P,O,e,ZR Z w (.bl k)⟩
variable {rest:List Expr}{ga gb:En->R Bool}
def ZW (fa fb:En->R T):En->R T:=λρ=>(fa ρ).bind λx=>match x with
 |.bl true=>fb ρ
 |.bl false=>.ok (.bl false)
 |_=>.bad
def rh (fa fb:En->R T):En->R T:=λρ=>(fa ρ).bind λx=>match x with
 |.bl true=>.ok (.bl true)
 |.bl false=>fb ρ
 |_=>.bad
def Vc (fa:En->R T):En->R T:=λρ=>(fa ρ).bind λx=>match x with
 |.bl k=>.ok (.bl (!k))
 |_=>.bad
def HN {op}(h:Snd X Y a fa):Snd X Y (.BoolOp op [a] pos) fa:=.mk λρ=>Gm (h ρ)
def E7 (j:Snd X Y a fa)(i:Snd X Y (.BoolOp .And (b::rest) pos) fb):Snd X Y (.BoolOp .And (a::b::rest) pos) (ZW fa fb):=.mk λρ=>
 PE.imp (Gn (j ρ) (i ρ)) λo H Q ⟨B,I,q⟩=>step I q λt v l _ p g f e=>by
  cases g with
  |bl k=>
   refine⟨k,rfl,?_⟩;cases k with
   |true=>exact⟨_,f,e⟩
   |false=>exact ZR f e (.bl _)
  |_=>exact e.elim
def Ci (j:Snd X Y a fa)(i:Snd X Y (.BoolOp .Or (b::rest) pos) fb):Snd X Y (.BoolOp .Or (a::b::rest) pos) (rh fa fb):=.mk λρ=>
 PE.imp (EQ (j ρ) (i ρ)) λo H Q ⟨B,I,q⟩=>step I q λt v l _ p g f e=>by
  cases g with
  |bl k=>
   refine⟨k,rfl,?_⟩;cases k with
   |false=>exact⟨_,f,e⟩
   |true=>exact ZR f e (.bl _)
  |_=>exact e.elim
def IB (i:Snd X Y a fa):Snd X Y (.UnaryOp .Not a pos) (Vc fa):=.mk λρ=>
 PE.imp (Go (i ρ)) λl H Q ⟨B,I,q⟩=>step I q λt v j _ o f g e=>by
  cases f with
  |bl k=>exact⟨k,rfl,ZR g e (.bl _)⟩
  |_=>exact e.elim
structure Yy (X:Cx) (Y:Fx) (e:Expr) (f:En->R Bool):Prop where
 mk::
 go:∀ρ,PW X e (tS Y rE f ρ)
instance {X:Cx}{Y:Fx}{e:Expr}{f:En->R Bool}:CoeFun (Yy X Y e f) λ_=>∀ρ,PW X e (tS Y rE f ρ):=⟨Yy.go⟩
def Yy.t {e:Expr}{f:En->R Bool}(h:Yy X Y e f):ua X Y e f:=.mk λρ=>(h ρ).pt
def PW.imp {e:Expr}{t t':TT}(h:PW X e t)(i:∀f H Q,t' f H Q->t f H Q):PW X e t':=λj g s f H Q I q=>h j _ s f H Q I (i f H Q q)
def GW (fa fb:En->R Bool):En->R Bool:=λρ=>(fa ρ).bind λx=>if x=true then fb ρ else .ok false
def nU (fa fb:En->R Bool):En->R Bool:=λρ=>(fa ρ).bind λx=>if x=true then .ok true else fb ρ
def WR (fa:En->R Bool):En->R Bool:=λρ=>(fa ρ).bind λx=>.ok (!x)
def GX (h:ua X Y a ga):Yy X Y (.BoolOp .And [a] pos) ga:=.mk λρ=>XU (h ρ)
def FX (h:ua X Y a ga):Yy X Y (.BoolOp .Or [a] pos) ga:=.mk λρ=>Gi (h ρ)
def E6 (k:ua X Y a ga)(j:Yy X Y (.BoolOp .And (b::rest) pos) gb):Yy X Y (.BoolOp .And (a::b::rest) pos) (GW ga gb):=.mk λρ=>
 PW.imp (Gj (k ρ) (j ρ)) λo H Q ⟨B,I,q⟩=>step I q λt v l _ p i f g=>by
  have e:=i;subst e;cases v with
  |true=>exact⟨_,f,g⟩
  |false=>exact ZR f g rfl
def Du (k:ua X Y a ga)(j:Yy X Y (.BoolOp .Or (b::rest) pos) gb):Yy X Y (.BoolOp .Or (a::b::rest) pos) (nU ga gb):=.mk λρ=>
 PW.imp (Li (k ρ) (j ρ)) λo H Q ⟨B,I,q⟩=>step I q λt v l _ p i f g=>by
  have e:=i;subst e;cases v with
  |false=>exact⟨_,f,g⟩
  |true=>exact ZR f g rfl
def La (j:ua X Y a ga):ua X Y (.UnaryOp .Not a pos) (WR ga):=.mk λρ=>
 PT.imp (Gk (j ρ)) λl H Q ⟨B,I,q⟩=>step I q λt v k _ o f g i=>by
  have e:=f;subst e;exact ZR g i rfl
noncomputable def Bx:T->R Bool
 |.bl k=>.ok k
 |.non=>.ok false
 |.int i=>.ok (i !=0)
 |.tup xs=>.ok (!xs.isEmpty)
 |.lst xs=>.ok (!xs.isEmpty)
 |_=>.bad
def jA (fa:En->R T):En->R Bool:=λρ=>(fa ρ).bind Bx
def Ez {H:Hp}{xs:List V}{ts:List T}(r:zr H xs ts):(!xs.isEmpty)= !ts.isEmpty:=by cases r<;>rfl
def Iy (l:jv X Y a fa)(o:∀e,isTrue a X.env e=(do let v ←e;standAt a.pos;holding [v] (truthy v)):=by intro _;rfl):ua X Y a (jA fa):=.mk λρ=>
 PT.imp (Vv (l ρ) o) λw H Q ⟨B,I,q⟩=>step I q λt v p _ u j g f=>by
  cases j with
  |bl k=>exact⟨k,rfl,ZR g f rfl⟩
  |non=>exact⟨false,rfl,ZR g f rfl⟩
  |int i=>exact⟨_,rfl,ZR g f rfl⟩
  |tup h r=>exact⟨_,.inr (.inl ⟨_,SqT.of h,rfl⟩),ZR g f (Ez r)⟩
  |lst h r=>exact⟨_,.inl ⟨_,SqL.of h,rfl⟩,ZR g f (Ez r)⟩
  |_=>exact f.elim
def nC (g:En->R Bool)(fa fb:En->R T):En->R T:=λρ=>(g ρ).bind λk=>if k=true then fa ρ else fb ρ
def DQ (l:ua X Y c ga)(k:Snd X Y a fa)(j:Snd X Y b fb):Snd X Y (.IfExp c a b pos) (nC ga fa fb):=.mk λρ=>
 PE.imp (Vq (l ρ) (k ρ) (j ρ)) λp H Q ⟨B,I,q⟩=>step I q λt v o _ r i f g=>by
  have e:=i;subst e;cases v with
  |true=>exact⟨_,f,g⟩
  |false=>exact⟨_,f,g⟩
end
end PV
namespace PV
open PySem PySem.Spec PyProof.Rows L2
section
variable {X:Cx}{Y:Fx}{a b c d:Expr}{fa fb fc fd:En->R T}{pos p:Pos}
def mM (g:T->R T)(fa:En->R T):En->R T:=λρ=>(fa ρ).bind g
noncomputable abbrev nr (X:Cx)(a:Expr):Prop:=starEach [a] X.env=[(false,eval a X.env)]
def JT {id:String}{x:Str}{r:List V->Hp->VK->Prop}{g:T->R T}(y:Zc X (.builtin id) r)(hr:∀v t B H Q,Rep H v t->zi B H->Po Y rC B H (g t) Q->r [v] H Q)
  (u:Gl X x) (o:X.mg x=none) (k:bootBuiltins x=some (.builtin id)) (w:jv X Y a fa) (e:nr X a:=by exact ng rfl) (hn:x≠"__name__":=by decide) (hd:(x==("__debug__":Str))=false:=by decide):Snd X Y (.Call (.Name x p) [a] [] pos) (mM g fa):=.mk λρ=>
 PE.imp (ZH y u o k (zh (w ρ) zt e) hn hd e rfl) λC H Q ⟨B,I,q⟩=>step I q λt v j _ D f i l=>hr v t _ j Q f i.sB l
def Xa {id:String}{x:Str}{r:List V->Hp->VK->Prop}{g:T->R T}(y:Zc X (.type id) r)(hr:∀v t B H Q,Rep B v t->zi B H->Po Y rC B H (g t) Q->r [v] H Q)
  (u:Gl X x) (o:X.mg x=none) (k:bootBuiltins x=some (.type id)) (w:Snd X Y a fa) (e:nr X a:=by exact ng rfl) (hn:x≠"__name__":=by decide) (hd:(x==("__debug__":Str))=false:=by decide):Snd X Y (.Call (.Name x p) [a] [] pos) (mM g fa):=.mk λρ=>
 PE.imp (ZT y u o k (zh (w ρ) zt e) hn hd e rfl) λC H Q ⟨B,I,q⟩=>step I q λt v j _ D f i l=>hr v t _ j Q f i.sB l
def Zw:T->R T
 |.tup xs=>.ok (.int xs.length)
 |.lst xs=>.ok (.int xs.length)
 |.fz xs=>.ok (.int xs.length)
 |.str x=>if x.length<=mR then .ok (.int x.length)else .bad
 |_=>.bad
def Hm (v:V)(t:T)(B H:Hp)(Q:VK)(r:Rep H v t)(e:zi B H)(q:Po Y rC B H (Zw t) Q):
  (∃p g,[v]=[V.ref p]/\(SqL X.K H p g\/SqT X.K H p g)/\Q (V.int g.length) H)\/(∃z,[v]=[V.str z]/\z.length<=sizeLine/\Q (V.int z.length) H):=by
 cases r with
 |tup h r=>exact .inl ⟨_,_,rfl,.inr (SqT.of h),nk e q rfl (by rw[r.length];exact .int _)⟩
 |lst h r=>exact .inl ⟨_,_,rfl,.inl (SqL.of h),nk e q rfl (by rw[r.length];exact .int _)⟩
 |fz h r=>exact .inl ⟨_,_,rfl,.inl (.inl (.inr ⟨_,h⟩)),nk e q rfl (by rw[r.length];exact .int _)⟩
 |str x=>
  by_cases f:x.length<=mR
  ·exact .inr ⟨x,rfl,ZD f,nk e q (if_pos f) (.int _)⟩
  ·rw[show Zw (.str x)=.bad from if_neg f]at q;exact q.elim
 |_=>exact q.elim
def HK (e:Gl X "len")(g:X.mg "len"=none)(f:jv X Y a fa)(i:nr X a:=by exact ng rfl):Snd X Y (.Call (.Name "len" p) [a] [] pos) (mM Zw fa):=
 JT (Ji.or u8) Hm e g PySem.boot_len f i
noncomputable def Y2:T->R T
 |.tup xs=>.ok (.tup xs)
 |.lst xs=>.ok (.tup xs)
 |_=>.bad
def Hh (v:V)(t:T)(B H:Hp)(Q:VK)(r:Rep B v t)(e:zi B H)(q:Po Y rC B H (Y2 t) Q):
  ∃p f,[v]=[V.ref p]/\((SqL X.K H p f/\∀l,H l=none->Q (.ref l) (kj H l (.tup f)))\/(SqT X.K H p f/\Q (.ref p) H)):=by
 cases r with
 |tup h r=>exact⟨_,_,rfl,.inr ⟨SqT.of (e _ _ h),nk e q rfl (.tup h r)⟩⟩
 |lst h r=>exact⟨_,_,rfl,.inl ⟨SqL.of (e _ _ h),λl g=>GO e q rfl r g⟩⟩
 |_=>exact q.elim
def kM (e:Gl X "tuple")(g:X.mg "tuple"=none)(f:Snd X Y a fa)(i:nr X a:=by exact ng rfl):Snd X Y (.Call (.Name "tuple" p) [a] [] pos) (mM Y2 fa):=
 Xa Wc Hh e g (PyProof.Rows.Boot.«tuple») f i
noncomputable def nX:T->String
 |.non=>"NoneType"
 |.bl _=>"bool"
 |.int _=>"int"
 |.str _=>"str"
 |.tup _=>"tuple"
 |.lst _=>"list"
 |.fz _=>"list"
def nP (n:String)(t:T):Bool:=nX t==n||(n=="int"&&nX t=="bool")
def IN {H:Hp}{v:V}{t:T}(K:aj)(r:Rep H v t):yY K H v (.type (nX t)):=by
 cases r with
 |non=>exact .non
 |bl b=>exact .bl b
 |int b=>exact .int b
 |str b=>exact .str b
 |tup h _=>exact .tup h
 |lst h _=>exact .lst h
 |fz h _=>exact .frz h
def VG:Zc X (.builtin "isinstance") (λxs H Q=>∃v n t,xs=[v,.ty n]/\Rep H v t/\bQ X.K (.type (nX t)) (.type n)=some (nP n t)/\Q (.bl (nP n t)) H):=by
 intro f s l H xs k Q I i h;obtain⟨v,n,t,rfl,r,g,q⟩:=h;obtain⟨u,w,rfl,j,e⟩:=yX i;obtain rfl:w=Value.type n:=e;exact YU I j (IN X.K r) g λtk=>⟨.bl _,H,I.tok tk,rfl,q⟩
def wT (n:String)(t:T):R T:=.ok (.bl (nP n t))
def kN (K:aj)(t:T):bQ K (.type (nX t)) (.type "int")=some (nP "int" t):=by cases t<;>rfl
def VH (K:aj)(t:T):bQ K (.type (nX t)) (.type "bool")=some (nP "bool" t):=by cases t<;>rfl
def kO (K:aj)(t:T):bQ K (.type (nX t)) (.type "str")=some (nP "str" t):=by cases t<;>rfl
def ud (K:aj)(t:T):bQ K (.type (nX t)) (.type "tuple")=some (nP "tuple" t):=by cases t<;>rfl
def VI (K:aj)(t:T):bQ K (.type (nX t)) (.type "list")=some (nP "list" t):=by cases t<;>rfl
def VJ {n:String}{f:Pos}(k:∀t,bQ X.K (.type (nX t)) (.type n)=some (nP n t))(y:Gl X "isinstance")(w:X.mg "isinstance"=none)(i:Gl X (aE n))(g:X.mg (aE n)=none)(r:bootBuiltins (aE n)=some (.type n))(C:jv X Y a fa)
  (j:starEach [a,.Name (aE n) f] X.env=[(false,eval a X.env),(false,eval (.Name (aE n) f) X.env)]:=by exact nT rfl rfl) (e:starEach [.Name (aE n) f] X.env=[(false,eval (.Name (aE n) f) X.env)]:=by exact ng rfl)
  (hn:aE n≠"__name__":=by decide) (hd:(aE n==("__debug__":Str))=false:=by decide) (hz:((backTo pos (starEach [.Name (aE n) f] X.env)).any λx=>x.fst)=false:=by exact zY rfl):
  Snd X Y (.Call (.Name "isinstance" p) [a,.Name (aE n) f] [] pos) (mM (wT n) fa):=.mk λρ=>
 PE.imp (ZH VG y w PyProof.Rows.Boot.«isinstance» (zh (C ρ) (zh (uZ (v:=.ty n) i g r rfl hn hd) zt e) (by rw[j,e])) 01 01 (by rw[j,e]) hz) λF H Q ⟨B,I,q⟩=>
  step I q λt v D _ G l o u=>⟨v,n,t,rfl,l,k t,nk o.sB u rfl (.bl _)⟩
def nt (xs:List T)(i:Int):R T:=match nJ xs i with
 |some t=>.ok t
 |none=>.bad
def i4:T->T->R T
 |.tup xs,.int i=>nt xs i
 |.lst xs,.int i=>nt xs i
 |.fz xs,.int i=>nt xs i
 |.str z,.int i=>if z.length<=mR then match nJ z.cps.toList i with|some c=>.ok (.str ⟨#[c]⟩)|none=>.bad else .bad
 |_,_=>.bad
def qi {H:Hp}{xs:List V}{ts:List T}{i:Int}{t:T}(r:zr H xs ts)(h:nJ ts i=some t):∃v,nJ xs i=some v/\Rep H v t:=by
 unfold nJ at h⊢;rw[r.length];cases e:pM _ i with
 |none=>rw[e]at h;cases h
 |some j=>
  rw[e]at h;obtain⟨v,g,f⟩:=r.get (h);exact⟨v,g,f⟩
def DA (G:Snd X Y a fa)(u:Snd X Y b fb)(F:YX b:=by exact λ_ _=>rfl):Snd X Y (.Subscript a b pos) (zd i4 fa fb):=.mk λρ=>
 PE.imp (GE GH (G ρ) (u ρ) F) λM H Q ⟨B,I,q⟩=>step I q λt v J _ L o x C=>step x C λt' N l _ D y g f=>by
  have o:=o.mono (zy.ge x.sB D);cases y with
  |int i=>
   cases o with
   |@tup _ xs ts h r=>
    have f:Po Y rC _ l (nt ts i) Q:=f;unfold nt at f;split at f
    ·rename_i t' e;obtain⟨w,k,j⟩:=qi r e;exact .inr (.inl ⟨_,xs,i,w,rfl,rfl,SqT.of (g.sB _ _ h),k,nk g.sB f rfl j⟩)
    ·exact f.elim
   |@lst _ xs ts h r=>
    have f:Po Y rC _ l (nt ts i) Q:=f;unfold nt at f;split at f
    ·rename_i t' e;obtain⟨w,k,j⟩:=qi r e;exact .inl ⟨_,xs,i,w,rfl,rfl,SqL.of (g.sB _ _ h),k,nk g.sB f rfl j⟩
    ·exact f.elim
   |@fz _ _ xs ts h r=>
    have f:Po Y rC _ l (nt ts i) Q:=f;unfold nt at f;split at f
    ·rename_i t' e;obtain⟨w,k,j⟩:=qi r e;exact .inl ⟨_,xs,i,w,rfl,rfl,.inl (.inr ⟨_,g.sB _ _ h⟩),k,nk g.sB f rfl j⟩
    ·exact f.elim
   |str z=>
    have f:Po Y rC _ l (if z.length<=mR then match nJ z.cps.toList i with|some c=>.ok _|none=>.bad else .bad) Q:=f
    split at f
    ·rename_i u;split at f
     ·rename_i c e;exact .inr (.inr ⟨z,i,c,rfl,rfl,ZD u,e,nk g.sB f rfl (.str _)⟩)
     ·exact f.elim
    ·exact f.elim
   |_=>exact f.elim
  |_=>cases o<;>exact f.elim
structure kQ (X:Cx) (Y:Fx) (e:Option Expr) (f:En->R (Option Int)):Prop where
 mk::
 go:∀ρ,PO X e (tS Y rE f ρ)
instance {X:Cx}{Y:Fx}{e:Option Expr}{f:En->R (Option Int)}:CoeFun (kQ X Y e f) λ_=>∀ρ,PO X e (tS Y rE f ρ):=⟨kQ.go⟩
def oE:En->R (Option Int):=λ_=>.ok none
def Ju (fa:En->R T):En->R (Option Int):=λρ=>(fa ρ).bind λt=>match t with
 |.int i=>.ok (some i)
 |_=>.bad
def PO.imp {e:Option Expr}{t t':TO}(h:PO X e t)(i:∀f H Q,t' f H Q->t f H Q):PO X e t':=λg s f H Q I q=>h _ s f H Q I (i f H Q q)
def GY:kQ X Y none oE:=.mk λρ=>PO.imp ke λe H Q ⟨B,I,q⟩=>ZR I q rfl
def GZ (j:Snd X Y a fa):kQ X Y (some a) (Ju fa):=.mk λρ=>PO.imp (kg (j ρ)) λl H Q ⟨B,I,q⟩=>step I q λt v k _ o f g e=>by
 cases f with
 |int i=>exact⟨i,rfl,ZR g e rfl⟩
 |_=>exact e.elim
noncomputable def oJ (xs:List T)(lo hi:Option Int):List T:=(xs.drop (HT.sIx xs.length 0 lo)).take (HT.sIx xs.length xs.length hi-HT.sIx xs.length 0 lo)
def Ai (t:T)(lo hi:Option Int):R T:=match t with
 |.tup xs=>.ok (.tup (oJ xs lo hi))
 |.lst xs=>.ok (.lst (oJ xs lo hi))
 |_=>.bad
def oD (fa:En->R T)(f e:En->R (Option Int)):En->R T:=λρ=>(fa ρ).bind λt=>(f ρ).bind λlo=>(e ρ).bind λhi=>Ai t lo hi
def qj {H:Hp}{xs:List V}{ts:List T}{lo hi:Option Int}(r:zr H xs ts):zr H (G4 xs lo hi) (oJ ts lo hi):=by
 unfold G4 oJ;rw[r.length];exact(r.drop _).take _
def jX {prog:Program}{w:World}{A:Around}{E:Value->Shared->Prop}{s:Shared}{t j:Addr}{items:Array Value}{vl q:Value}{lo hi:Option Int}{Q:Value->Shared->Prop}(e:IsTup s.heap t items)(o:s.heap.IsSliceOf j vl q .none)(pl:IsPart vl lo)(u:IsPart q hi)
  (l:HT.sIx items.size 0 lo=0/\HT.sIx items.size items.size hi=items.size) (h:Q (.ref t) s):wpAny 08 A (getItem (.ref t) (.ref j)) Q E s:=by
 obtain⟨os,k,g,r⟩:=id o;have i:s.TypeIs (.ref j) _:=⟨os,k,g⟩;unfold getItem
 try with_reducible refine bp ?_
 refine a8 (wpAny_sequenceKey e.typeIs 01 ?_)
 refine a8 (aX e.typeIs bE
  (aN bE e.typeIs entry_tuple_getitem ?_ (args_tuple_getitem _ _)))
 show wpAny _ _ (fT _>>=_) _ _ s;refine a8 (tupleItemsOf_ e ?_);refine a8 (dR i ?_);refine a8 (HT.sliceApplied_gen o pl u ?_);have f:(((HT.sIx items.size 0 lo):Int)==0&&(1:Int)==1&&(HT.sIx items.size items.size hi-HT.sIx items.size 0 lo)==items.size)=true:=by
  rw[l.1,l.2];simp
 show wpAny _ _ (if (((HT.sIx _ 0 lo:Nat):Int)==0&&(1)==1&&(HT.sIx _ _ hi-HT.sIx _ 0 lo)==items.size)=true then _ else _) _ _ s
 rw[if_pos f];refine a8 (a8 (dR e.typeIs (ac ?_)));exact a8 (df (ac ⟨_,rfl,ac h⟩))
def Y3:SlR X (λx lo hi H Q=>∃a xs,x=.ref a/\SqT X.K H a xs/\(HT.sIx xs.length 0 lo=0/\HT.sIx xs.length xs.length hi=xs.length)/\Q (.ref a) H):=by
 intro i s w H x v vl y lo hi B Q I o l pl u h;obtain⟨a,xs,rfl,k,j,q⟩:=h;obtain rfl:v=Value.ref a:=o;obtain⟨f,r,g,hz⟩:=I.tuple k;have e:f.toArray.size=xs.length:=by exact r.length.symm
 refine⟨"tuple",_,bE.lookup,g.typeIs,?_⟩;exact jX g l pl u (by rw[e];exact j) ⟨.ref a,H,I,rfl,q⟩
def kR {xs:List T}{lo hi:Option Int}(f:HT.sIx xs.length 0 lo=0)(e:HT.sIx xs.length xs.length hi=xs.length):oJ xs lo hi=xs:=by
 unfold oJ;rw[f,e];simp
def kS {lo hi:Option Expr}{x w:En->R (Option Int)}{p2:Pos}(O:Snd X Y a fa)(N:kQ X Y lo x)(C:kQ X Y hi w):Snd X Y (.Subscript a (.Slice lo hi none p2) pos) (oD fa x w):=.mk λρ=>
 PE.imp (Vy (GD.or (Y3.or km)) (O ρ) (N ρ) (C ρ)) λσ H Q ⟨B,I,q⟩=>step I q λt v S _ Z k u D=>step u D λl L U _ J G y F=>step y F λh h' H3 _ P M e i=>by
  have j:=G;have o:=M;subst j o;have k:=k.mono ((zy.ge u.sB J).trans (zy.ge y.sB P));cases k with
  |@tup _ xs ts g r=>
   by_cases f:HT.sIx xs.length 0 L=0/\HT.sIx xs.length xs.length h'=xs.length
   ·refine .inr (.inl ⟨_,xs,rfl,SqT.of (e.sB _ _ g),f,nk e.sB i rfl ?_⟩);rw[r.length]at f;rw[kR f.1 f.2];exact .tup g r
   ·exact .inl ⟨_,xs,rfl,SqT.of (e.sB _ _ g),f,λp hp=>GO e.sB i rfl (qj r) hp⟩
  |@lst _ xs ts g r=>
   exact .inr (.inr ⟨_,xs,rfl,SqL.of (e.sB _ _ g),λp hp=>Ds e.sB i rfl (qj r) hp⟩)
  |_=>exact i.elim
noncomputable def qk (t t':T):R T:=match t,t' with
 |.int i,.int j=>.ok (.int (if j<i then j else i))
 |_,_=>.bad
def Fp (C:X.calm=true)(x:Gl X "min")(u:X.mg "min"=none)(y:Snd X Y a fa)(w:Snd X Y b fb)
  (k:starEach [a,b] X.env=[(false,eval a X.env),(false,eval b X.env)]:=by exact nT rfl rfl) (e:starEach [b] X.env=[(false,eval b X.env)]:=by exact ng rfl):
  Snd X Y (.Call (.Name "min" p) [a,b] [] pos) (zd qk fa fb):=.mk λρ=>
 PE.imp (ZH (YR C) x u PyProof.Rows.Boot.«min» (zh (y ρ) (zh (w ρ) zt e) (by rw[k,e])) 01 01 (by rw[k,e]) (by rw[e];rfl)) λL H Q ⟨B,I,q⟩=>
  step I q λt v F _ M l o r=>step o r λt' N J _ G g D f=>by
   cases l with
   |int i=>
    cases g with
    |int j=>exact⟨i,j,rfl,nk D.sB f rfl (.int _)⟩
    |_=>exact f.elim
   |_=>cases g<;>exact f.elim
noncomputable def ue:List T->Option Bool
 |[]=>some true
 |.bl k::r=>match ue r with|some j=>some (k&&j)|none=>none
 |_::_=>none
def Xb:T->R T
 |.lst ts=>match ue ts with|some k=>.ok (.bl k)|none=>.bad
 |_=>.bad
theorem qm:∀{H:Hp} {xs:List V} {ts:List T} {f:List Value} {k:Bool},zr H xs ts->Vals xs f->ue ts=some k->∃tr:Nat->Bool,(∀i v,f[i]?=some v->v=Value.bool (tr i))/\(aV f.length).all tr=k
 |_,_,_,_,k,.nil,.nil,h=>by
  have h':=h;cases h';exact⟨λ_=>true,λi v e=>by simp at e,rfl⟩
 |H,_,_,_,k,.cons r rs,.cons (b:=u) rv vs,h=>by
  cases r with
  |bl b=>
   unfold ue at h;split at h
   ·rename_i j e;cases h;obtain⟨tr,l,g⟩:=qm rs vs e;obtain rfl:u=Value.bool b:=rv;refine⟨λi=>match i with|0=>b|i+1=>tr i,λi v e=>?_,?_⟩
    ·cases i with
     |zero=>simp at e;exact e.symm
     |succ i=>exact l i v (by simpa using e)
    ·rw[aA,dE,dg,lL,←g];rfl
   ·cases h
  |_=>cases h
def qo (C:X.A.handled=none):Zc X (.builtin "all") (λvs H Q=>∃l xs ts k,vs=[.ref l]/\H l=some (.lst xs)/\zr H xs ts/\ue ts=some k/\Q (.bl k) H):=by
 intro x s P H vs O Q I f h;obtain⟨l,xs,ts,k,rfl,y,r,J,q⟩:=h;obtain⟨u,rfl,G⟩:=Zk f;obtain rfl:u=Value.ref l:=G;obtain⟨g,f,p,_⟩:=zH I (.inl y) r;obtain⟨tr,D,B⟩:=qm r f J;refine call_all_walk (cW p ?_);have j:=I.hok.lt y;have old:∀b o,s.heap.get? b=some o->(s.heap.push {cls:=.type "list_iterator",data:=.fields #[.ref l,.int 0 0]}).get? b=some o:=λb o e=>aa _ e;refine⟨s.1.1.size,_,_,_,_,_,tr,rfl,ll (A:=X.A.in1) C _ l (aD j) g.toArray,?_,?_,λh' tk w=>?_⟩
 ·refine⟨?_,p.at λo e=>old _ o e⟩;exact⟨_,ai _ rfl,rfl,rfl⟩
 ·intro i v N L M hi F;rw[D i v (by simpa using hi)]
  exact be F
 ·rw[aJ,B];refine⟨.bl k,H,I.kept (λb o e=>w b o ?_ (old b o e)),rfl,q⟩;simp;exact aD (av e)
def HJ (f:X.A.handled=none)(i:Gl X "all")(o:X.mg "all"=none)(u:jv X Y a fa)(j:nr X a:=by exact ng rfl):Snd X Y (.Call (.Name "all" p) [a] [] pos) (mM Xb fa):=
 JT (qo f) (λv t B H Q r g q=>by
  cases r with
  |@lst l xs ts h r=>
   have q:Po Y rC B H (match ue ts with|some k=>.ok _|none=>.bad) Q:=q
   split at q
   ·rename_i k e;exact⟨l,xs,ts,k,rfl,h,r,e,nk g q rfl (.bl k)⟩
   ·exact q.elim
  |_=>exact q.elim) i o PyProof.Rows.Boot.«all» u j
end
inductive RS where
 |nx (ρ:En)|rt (t:T)|bk (ρ:En)|ct (ρ:En)|ex (c:Nat)|bad|rf (ts:List T)
noncomputable def R.s {d:Type}(r:R d)(k:d->RS):RS:=match r with
 |.ok a=>k a
 |.ex c=>.ex c
 |.bad=>.bad
def PoS (Y:Fx)(B:Hp)(r:RS)(D:Vb):Prop:=match r with
 |.nx ρ'=>∀σ' d e,zi B e->SI Y e ρ' σ' d->D.nx σ' d
 |.rt t=>∀v d,zi Y.H0 d->Rep (zy Y.B0 Y.H0 d) v t->D.rt v d
 |.bk ρ'=>∀σ' d e,zi B e->SI Y e ρ' σ' d->D.bk σ' d
 |.ct ρ'=>∀σ' d e,zi B e->SI Y e ρ' σ' d->D.ct σ' d
 |.ex c=>XP Y B c
 |.bad=>False
 |.rf ts=>∀a xs d e,zi Y.H0 d->Y.H0 a=none->d a=some (.lst xs)->zr e xs ts->e a=none->zi e (zy Y.B0 Y.H0 d)->D.rt (.ref a) d
def PoS.up {Y:Fx}{B g:Hp}{r:RS}{D:Vb}(s:zi B g)(h:PoS Y B r D):PoS Y g r D:=by
 cases r with
 |nx ρ=>exact λσ' a e f I=>h σ' a e (s.trans f) I
 |bk ρ=>exact λσ' a e f I=>h σ' a e (s.trans f) I
 |ct ρ=>exact λσ' a e f I=>h σ' a e (s.trans f) I
 |rt t=>exact h
 |rf t=>exact h
 |ex c=>exact λd a i j=>h d a i (s.trans j)
 |bad=>exact h
def pF (Y:Fx)(f:En->RS)(ρ:En):TS:=λD a H=>∃B,SI Y B ρ a H/\PoS Y B (f ρ) D
structure Wg (X:Cx) (Y:Fx) (e:Stmt) (f:En->RS):Prop where
 mk::
 go:∀ρ,PS X e (pF Y f ρ)
instance {X:Cx}{Y:Fx}{e:Stmt}{f:En->RS}:CoeFun (Wg X Y e f) λ_=>∀ρ,PS X e (pF Y f ρ):=⟨Wg.go⟩
structure WS (X:Cx) (Y:Fx) (e:List Stmt) (f:En->RS):Prop where
 mk::
 go:∀ρ,PSs X e (pF Y f ρ)
instance {X:Cx}{Y:Fx}{e:List Stmt}{f:En->RS}:CoeFun (WS X Y e f) λ_=>∀ρ,PSs X e (pF Y f ρ):=⟨WS.go⟩
def jY {j l:Type}{Y:Fx}{g:Hp->Hp->l->j->Prop}{f:En->R j}{k:j->RS}{ρ:En}{B:Hp}{i:Sg}{H:Hp}{D:Vb}{K:l->Hp->Prop}
  (I:SI Y B ρ i H) (h:PoS Y B ((f ρ).s k) D)
  (n:∀a b d,f ρ=.ok a->zi H d->g (zy B H d) d b a->SI Y (zy B H d) ρ i d->PoS Y (zy B H d) (k a) D->K b d):tS Y g f ρ i H K:=by
 refine⟨B,I,?_⟩;cases e:f ρ with
 |bad=>rw[e]at h;exact h
 |ex c=>rw[e]at h;exact h
 |ok a=>
  rw[e]at h;exact λb d s r=>n a b d e s r (I.grow s) (PoS.up (zy.ge I.sB s) h)
def zx {a:Type}{xs:List a}{i j:Nat}{x y:a}(h:(xs.set i x)[j]?=some y):(j=i/\y=x)\/(j≠i/\xs[j]?=some y):=by
 by_cases e:j=i
 ·subst e
  by_cases c:j<xs.length
  ·rw[aI c]at h;exact .inl ⟨rfl,(aF h).symm⟩
  ·rw[aS (by rw[aZ];omega)]at h;cases h
 ·rw[ak (aT e)]at h;exact .inr ⟨e,h⟩
def UD {a:Type}{xs:List a}{i:Nat}{x y:a}(h:(xs.set i x)[i]?=some y):i<xs.length:=by
 by_cases c:i<xs.length
 ·exact c
 ·rw[aS (by rw[aZ];omega)]at h;cases h
theorem StI.set {Y:Fx}{B:Hp}{ρ:En}{d:Sg}{H:Hp}{f:List Addr}{O:Addr->Option (Nat×Nat)}(x:StI Y B ρ d H f O)(i:Nat)(s:Sl)(v:Option V)(l:s.isO=false)(g:∀ts,s≠.ow ts):StI Y B (ρ.set i s) (d.set i v) H f O:=
 x.on (λj y hy h=>by
  rcases zx h with ⟨_,e⟩|⟨a,h'⟩
  ·rw[e,l]at hy;cases hy
  ·exact⟨h',ak (aT a)⟩) (zi.refl _) rfl rfl (zi.refl _) λb o q k p _=>⟨q,k,p,λok j c h=>by
  rcases zx h with ⟨_,e⟩|⟨a,h'⟩
  ·exact absurd e.symm (g c)
  ·rw[ak (aT a)];exact ok j c h'⟩
def SI.setV {Y:Fx}{B:Hp}{ρ:En}{p:Sg}{H:Hp}(I:SI Y B ρ p H)(i:Nat){v:V}{t:T}(r:Rep B v t):SI Y B (ρ.set i (.vl t)) (p.set i (some v)) H where
 s0:=I.s0
 sH:=I.sH
 sB:=I.sB
 old:=I.old
 len:=by rw[aZ,aZ];exact I.len
 vl:=λj u h=>by
  rcases zx h with ⟨rfl,e⟩|⟨f,h'⟩
  ·cases e;exact⟨v,aI (by rw[←I.len];exact UD h),r⟩
  ·obtain⟨w,e,g⟩:=I.vl j u h';exact⟨w,by rw[ak (aT f)];exact e,g⟩
 ow:=λj J h=>by
  rcases zx h with ⟨rfl,e⟩|⟨f,h'⟩
  ·cases e
  ·obtain⟨a,xs,e,q,D,C,g,d⟩:=I.ow j J h';refine⟨a,xs,by rw[ak (aT f)];exact e,q,D,C,g,λk F G y=>?_⟩
   rcases zx y with ⟨rfl,L⟩|⟨o,l⟩
   ·cases L
   ·rw[ak (aT o)];exact d k F G l
 xc:=λj c h=>by
  rcases zx h with ⟨rfl,e⟩|⟨f,h'⟩
  ·cases e
  ·obtain⟨a,e,r⟩:=I.xc j c h';exact⟨a,by rw[ak (aT f)];exact e,r⟩
 st:=let ⟨as,O,x⟩:=I.st;⟨as,O,x.set i _ _ rfl (λ_=>Sl.noConfusion)⟩
def SI.newO {Y:Fx}{B:Hp}{ρ:En}{P:Sg}{H:Hp}(I:SI Y B ρ P H)(i:Nat){p:Addr}{xs:List V}{ts:List T}(hp:H p=none)(r:zr B xs ts):SI Y B (ρ.set i (.ow ts)) (P.set i (some (.ref p))) (kj H p (.lst xs)) where
 s0:=I.s0
 sH:=I.sH.trans (zi.new hp _)
 sB:=I.sB.trans (zi.new hp _)
 old:=I.old
 len:=by rw[aZ,aZ];exact I.len
 vl:=λj u h=>by
  rcases zx h with ⟨rfl,e⟩|⟨f,h'⟩
  ·cases e
  ·obtain⟨w,e,M⟩:=I.vl j u h';exact⟨w,by rw[ak (aT f)];exact e,M⟩
 ow:=λj C h=>by
  have op:∀k g a,ρ[k]?=some (Sl.ow g)->P[k]?=some (some (V.ref a))->a≠p:=λk g a U Q=>by
   obtain⟨a',D,e,_,_,J,_⟩:=I.ow k g U;rw[e]at Q;cases Q;exact zD J hp
  rcases zx h with ⟨rfl,e⟩|⟨f,h'⟩
  ·cases e;refine⟨p,xs,aI (by rw[←I.len];exact UD h),I.sB.free hp,I.sH.free hp,zf,r,λk g N F=>?_⟩
   rcases zx F with ⟨rfl,Z⟩|⟨q,l⟩
   ·exact absurd rfl N
   ·rw[ak (aT q)];exact λz=>op k g p l z rfl
  ·obtain⟨a,D,e,G,L,J,M,d⟩:=I.ow j C h';refine⟨a,D,by rw[ak (aT f)];exact e,G,L,by rw[zg (op j C a h' e)];exact J,M,λk g N F=>?_⟩
   rcases zx F with ⟨rfl,Z⟩|⟨q,l⟩
   ·rw[aI (by rw[←I.len];exact UD F)]
    intro z;exact op j C a h' e (by injection z with z;injection z with z;injection z with z;exact z.symm)
   ·rw[ak (aT q)];exact d k g N l
 xc:=λj c h=>by
  rcases zx h with ⟨rfl,e⟩|⟨f,h'⟩
  ·cases e
  ·obtain⟨a,e,r⟩:=I.xc j c h';exact⟨a,by rw[ak (aT f)];exact e,r⟩
 st:=by
  obtain⟨X,O,x⟩:=I.st;refine⟨X,O,x.on (λj y hy h=>?_) (zi.refl _) rfl rfl (zi.refl _) λb o S G L _=>?_⟩
  ·rcases zx h with ⟨_,e⟩|⟨f,h'⟩
   ·subst e;cases hy
   ·exact⟨h',ak (aT f)⟩
  ·have v:b≠p:=zD S hp;refine⟨by rw[zg v];exact S,G,L,λok j C h=>?_⟩
   rcases zx h with ⟨rfl,e⟩|⟨f,h'⟩
   ·rw[aI (by rw[←I.len];exact UD h)]
    intro z;injection z with z;injection z with z;injection z with z;exact v z.symm
   ·rw[ak (aT f)];exact ok j C h'
def SI.chg {Y:Fx}{B:Hp}{ρ:En}{L:Sg}{H:Hp}(I:SI Y B ρ L H)(i:Nat){p:Addr}{ts v:List T}{G:List V}(hi:ρ[i]?=some (.ow ts))(q:L[i]?=some (some (.ref p)))(r:zr B G v):SI Y B (ρ.set i (.ow v)) L (kj H p (.lst G)):=by
 obtain⟨p',xs,e,S,Q,hh,rr,d⟩:=I.ow i ts hi;rw[q]at e;cases e;have nb:∀b o,B b=some o->b≠p:=λb o h z=>by subst z;rw[S]at h;cases h
 have Z:∀b o,Y.H0 b=some o->b≠p:=λb o h z=>by subst z;rw[Q]at h;cases h
 refine⟨I.s0,λb o h=>by rw[zg (Z b o h)];exact I.sH b o h,λb o h=>by rw[zg (nb b o h)];exact I.sB b o h,I.old,by rw[aZ];exact I.len,λj u h=>?_,λj U h=>?_,λj c h=>?_,?_⟩
 rotate_right
 ·obtain⟨as,O,x⟩:=I.st;refine⟨as,O,x.on (λj y hy h=>?_) (zi.refl _) rfl rfl (zi.refl _) λb o J D M cs=>?_⟩
  ·rcases zx h with ⟨_,e⟩|⟨l,h'⟩
   ·subst e;cases hy
   ·exact⟨h',rfl⟩
  ·have f:b≠p:=λz=>by
    subst z;rcases cs with ⟨C,dx,vs,ez⟩|ok
    ·rw[hh]at J;cases J;cases ez
    ·exact ok i ts hi q
   refine⟨by rw[zg f];exact J,D,M,λok j v h=>?_⟩
   rcases zx h with ⟨rfl,e⟩|⟨l,h'⟩
   ·rw[q];intro z;injection z with z;injection z with z;injection z with z;exact f z.symm
   ·exact ok j v h'
 rotate_right
 ·rcases zx h with ⟨rfl,z⟩|⟨l,h'⟩
  ·cases z
  ·exact I.xc j c h'
 ·rcases zx h with ⟨rfl,z⟩|⟨l,h'⟩
  ·cases z
  ·exact I.vl j u h'
 ·rcases zx h with ⟨rfl,z⟩|⟨l,h'⟩
  ·cases z;refine⟨p,G,q,S,Q,zf,r,λk vs w F=>?_⟩;rcases zx F with ⟨rfl,e'⟩|⟨N,g⟩
   ·exact absurd rfl w
   ·exact d k vs w g
  ·obtain⟨a,P,e,X,g0,gg,ss,d'⟩:=I.ow j U h';have f:a≠p:=λz=>by subst z;exact d j U l h' e
   refine⟨a,P,e,X,g0,by rw[zg f];exact gg,ss,λk vs w F=>?_⟩
   rcases zx F with ⟨rfl,e'⟩|⟨N,g⟩
   ·rw[q];intro z;injection z with z;injection z with z;injection z with z;exact f z.symm
   ·exact d' k vs w g
noncomputable def sj:Sl->Sl
 |.ow ts=>.vl (.lst ts)
 |.ob _ _=>.un
 |.st _=>.un
 |x=>x
def frz (ρ:En):En:=ρ.map sj
def SI.up {Y:Fx}{B:Hp}{ρ:En}{a:Sg}{H:Hp}(I:SI Y B ρ a H):zi B (zy B Y.H0 H):=λb o h=>by
 cases q:Y.H0 b with
 |none=>rw[zJ q];exact I.sB b o h
 |some u=>rw[zI q];exact h
theorem SI.frz {Y:Fx}{B:Hp}{ρ:En}{l:Sg}{H:Hp}(I:SI Y B ρ l H):SI Y (zy B Y.H0 H) (PV.frz ρ) l H:=by
 have up:zi B (zy B _ H):=λb o h=>by
  cases q:Y.H0 b with
  |none=>rw[zJ q];exact I.sB b o h
  |some u=>rw[zI q];exact h
 refine⟨I.s0,I.sH,λb o h=>?_,λb o h=>by rw[zI h];exact I.old b o h,by unfold PV.frz;rw[ag];exact I.len,λj t h=>?_,λj ts h=>?_,λj c h=>?_,?_⟩
 rotate_right
 ·have no:∀(j:Nat) (y:Sl),y.isS=true->(PV.frz ρ)[j]?≠some y:=λj y hy h=>by
   unfold PV.frz at h;rw[aw]at h;cases e:ρ[j]? with
   |none=>rw[e]at h;cases h
   |some x=>rw[e]at h;cases x<;>(cases h;cases hy)
  obtain⟨Q,O,x⟩:=I.st;refine⟨Y.as,λ_=>none,ig _,λi os e=>(no i _ rfl e).elim,λi j os w e=>(no i _ rfl e).elim,λi k n e=>(no i _ rfl e).elim,λi k fs h=>?_,λi os e=>(no i _ rfl e).elim⟩;have h':ρ[i]?=some (Sl.oc k fs):=by
   unfold PV.frz at h;rw[aw]at h;cases e:ρ[i]? with
   |none=>rw[e]at h;cases h
   |some x=>rw[e]at h;cases x<;>(cases h;try rfl)
  obtain⟨a,C,L,vs,f,p,J,N,M⟩:=x.oc i k fs h';exact⟨a,C,L,vs,f,p,J,N,M.mono up (zi.refl _)⟩
 rotate_right
 ·unfold PV.frz at h;rw[aw]at h;cases e:ρ[j]? with
  |none=>rw[e]at h;cases h
  |some x=>
   rw[e]at h;cases x with
   |xc d=>
    cases h;obtain⟨a,f,r⟩:=I.xc j _ e;exact⟨a,f,up a _ r⟩
   |un=>cases h
   |vl _=>cases h
   |ow _=>cases h
   |ob _ _=>cases h
   |oc _ _=>cases h
   |st _=>cases h
 ·cases q:Y.H0 b with
  |none=>rw[zJ q]at h;exact h
  |some u=>rw[zI q]at h;exact I.sB b o h
 ·unfold PV.frz at h;rw[aw]at h;cases e:ρ[j]? with
  |none=>rw[e]at h;cases h
  |some x=>
   rw[e]at h;cases x with
   |un=>cases h
   |vl u=>
    cases h;obtain⟨v,f,r⟩:=I.vl j _ e;exact⟨v,f,r.mono up⟩
   |ow g=>
    cases h;obtain⟨a,xs,f,P,F,D,G,_⟩:=I.ow j g e;exact⟨.ref a,f,.lst (by rw[zJ F];exact D) (G.mono up)⟩
   |xc _=>cases h
   |ob _ _=>cases h
   |oc _ _=>cases h
   |st _=>cases h
 ·unfold PV.frz at h;rw[aw]at h;cases e:ρ[j]? with
  |none=>rw[e]at h;cases h
  |some x=>
   rw[e]at h;cases x with
   |un=>cases h
   |vl u=>cases h
   |ow g=>cases h
   |xc _=>cases h
   |ob _ _=>cases h
   |oc _ _=>cases h
   |st _=>cases h
def UE {Y:Fx}{B H a:Hp}(c:zi Y.H0 H)(old:∀b o,Y.H0 b=some o->B b=Y.B0 b)(s:zi H a)(d:zi B H):zi (zy B H a) (zy Y.B0 Y.H0 a):=λb o h=>by
 cases q:H b with
 |none=>
  rw[zJ q]at h;rw[zJ (c.free q)];exact h
 |some u=>
  rw[zI q]at h;cases z:Y.H0 b with
  |none=>rw[zJ z];exact s b o (d b o h)
  |some w=>rw[zI z,←old b w z];exact h
section
variable {X:Cx}{Y:Fx}{a b c d:Expr}{fa fb fc fd:En->R T}{pos p:Pos}{st:Stmt}{sts sts':List Stmt}{f g:En->RS}
def mS:En->RS:=λρ=>.nx ρ
def zp (f g:En->RS):En->RS:=λρ=>match f ρ with
 |.nx ρ'=>g ρ'
 |r=>r
def IM:WS X Y [] mS:=.mk λρ=>PSs.imp Wa λD e H ⟨B,I,q⟩=>q e H B (zi.refl B) I
def F1 (h:Wg X Y st f):WS X Y [st] f:=.mk λρ=>ZN (h ρ)
def JU (l:Wg X Y st f)(k:WS X Y sts g):WS X Y (st::sts) (zp f g):=.mk λρ=>by
 refine PSs.imp (zX (u:=λD i H=>∃ρ',pF Y g ρ' D i H) (l ρ) ?_) ?_
 ·intro j s i H D I ⟨ρ',q⟩;exact k ρ' _ s i H D I q
 ·intro D i H ⟨B,I,q⟩;refine⟨B,I,?_⟩;unfold zp at q;cases e:f ρ with
  |nx ρ'=>
   rw[e]at q;intro σ' w v r o;exact⟨ρ',v,o,PoS.up r q⟩
  |rt t=>rw[e]at q;exact q
  |rf t=>rw[e]at q;exact q
  |bk ρ'=>rw[e]at q;exact q
  |ct ρ'=>rw[e]at q;exact q
  |ex c=>rw[e]at q;exact q
  |bad=>rw[e]at q;exact q
def zG (i:Nat)(fa:En->R T):En->RS:=λρ=>(fa ρ).s λt=>.nx (ρ.set i (.vl t))
def Ev {i:Nat}{x:Str}{e:Pos}(u:X.N.Nodup)(hi:X.N[i]?=some x)(l:L2.Loc X.env.scope x)(w:Snd X Y a fa)(r:swapsWith a (some (.Name x e)) pos.line X.env=pure false:=by rfl)
  (y:X.fn x=true\/X.env.scope.names.lookup x=some .local:=by first|exact .inl rfl|exact .inr rfl|assumption):Wg X Y (.Assign [.Name x e] a pos) (zG i fa):=.mk λρ=>
 PS.imp (JP u hi l (w ρ) r y) λD F H ⟨B,I,q⟩=>jY I q λt v C _ G j k o=>o _ _ _ (zi.refl _) (k.setV i j)
def Yz (i:Nat)(e:En->R (List T)):En->RS:=λρ=>(e ρ).s λts=>if ts.length<=mR then .nx (ρ.set i (.ow ts))else .bad
def EN {i:Nat}{x:Str}{o:Pos}{e:List Expr}{l:En->R (List T)}(w:X.N.Nodup)(hi:X.N[i]?=some x)(u:L2.Loc X.env.scope x)(C:UB X Y e l)(v:swapsWith (.List e p) (some (.Name x o)) pos.line X.env=pure false:=by rfl)
  (F:X.fn x=true\/X.env.scope.names.lookup x=some .local:=by first|exact .inl rfl|exact .inr rfl|assumption):Wg X Y (.Assign [.Name x o] (.List e p) pos) (Yz i l):=.mk λρ=>
 PS.imp (JP w hi u (WX (C ρ)) v F) λD J H ⟨B,I,q⟩=>jY I q λts vs G _ L k r j=>by
  split at j
  ·rename_i y;exact⟨by rw[k.length];exact ZD y,λp hp=>j _ _ _ (zi.refl _) (r.newO i hp k)⟩
  ·exact j.elim
def zw (fa:En->R T):En->RS:=λρ=>(fa (frz ρ)).s λt=>.rt t
def Fv (l:Snd X Y a fa):Wg X Y (.Return (some a) pos) (zw fa):=.mk λρ=>
 PS.imp (Jh (l _)) λD o H ⟨B,I,q⟩=>by
  refine⟨_,I.frz,?_⟩;unfold zw at q;cases e:fa _ with
  |bad=>rw[e]at q;exact q
  |ex c=>
   rw[e]at q;exact λd i j k=>q d i j (I.up.trans k)
  |ok t=>
   rw[e]at q;intro v i s r;have J:=I.frz;exact q v i (I.sH.trans s) (r.mono (UE J.sH J.old s J.sB))
def mT (g:En->R Bool)(i e:En->RS):En->RS:=λρ=>(g ρ).s λk=>if k=true then i ρ else e ρ
def E9 {k:En->R Bool}(u:ua X Y c k)(r:WS X Y sts f)(o:WS X Y sts' g):Wg X Y (.If c sts sts' pos) (mT k f g):=.mk λρ=>
 PS.imp (Vr (u ρ) (r ρ) (o ρ)) λD x H ⟨B,I,q⟩=>jY I q λt v w _ y l i j=>by
  have e:=l;subst e;cases v with
  |true=>exact⟨_,i,j⟩
  |false=>exact⟨_,i,j⟩
def wH (fa:En->R T):En->RS:=λρ=>(fa ρ).s λ_=>.nx ρ
def HF (k:Snd X Y a fa)(j:swapsWith a none pos.line X.env=pure false:=by rfl):Wg X Y (.Expr a pos) (wH fa):=.mk λρ=>
 PS.imp (jz (k ρ) j) λD r H ⟨B,I,q⟩=>jY I q λt v o _ u l e i=>i _ _ _ (zi.refl _) e
def VL (i:Nat)(fa:En->R T):En->RS:=λρ=>match ρ[i]? with
 |some (.ow ts)=>(fa ρ).s λt=>if ts.length<mR then .nx (ρ.set i (.ow (ts++[t])))else .bad
 |_=>.bad
def Vd (i:Nat)(fa:En->R T):En->RS:=λρ=>match ρ[i]? with
 |some (.ow ts)=>(fa ρ).s λt=>match t with
  |.lst e=>if ts.length+e.length<=mR then .nx (ρ.set i (.ow (ts++e)))else .bad
  |_=>.bad
 |_=>.bad
def UF {n:Nat}(h:n<mR):n<sizeLine:=by exact h
def HU {i:Nat}{x:Str}{j o:Pos}(N:PE X (.Name x j) (Za i))(M:Snd X Y a fa)(w:attributeBase (.Name x j) "append" X.env (eval (.Name x j) X.env)=eval (.Name x j) X.env:=by rfl)(u:nr X a:=by exact ng rfl)
  (hz:(o.endLine==p.line)=true:=by rfl) (G:swapsWith (.Call (.Attribute (.Name x j) "append" o) [a] [] p) none pos.line X.env=pure false:=by rfl):Wg X Y (.Expr (.Call (.Attribute (.Name x j) "append" o) [a] [] p) pos) (VL i fa):=.mk λρ=>by
 have k:(((((backTo p (starEach [a] X.env)).all λx=> !x.fst)&&(backToKw p (keywordEach [] X.env)).all λx=>x.fst.isSome)&&decide (([a].length+([]:List Keyword).length+if ([]:List Keyword).isEmpty=true then 0 else 1)<30))=true):=by rw[u];rfl
 refine PS.imp (jz (U2 cG dh di ja N (zh (M ρ) zt u) w k hz u rfl) G) λD S H ⟨B,I,q⟩=>?_;unfold VL at q;split at q
 ·rename_i ts e;obtain⟨l,xs,k,P,Q,y,F,d⟩:=I.ow i ts e;refine⟨.ref l,k,.inl ⟨rfl,_,SqL.of y⟩,?_⟩;refine jY I q λt v O _ C J L r=>?_;split at r
  ·rename_i w;refine⟨l,xs,v,rfl,rfl,C _ _ y,by rw[F.length];exact UF w,?_⟩
   exact r _ _ _ (zi.refl _) (L.chg i e k ((F.mono (zy.ge I.sB C)).append (.cons J .nil)))
  ·exact r.elim
 ·exact q.elim
def Ly {i:Nat}{x:Str}{k u:Pos}(U:PE X (.Name x k) (Za i))(S:Snd X Y a fa)(y:attributeBase (.Name x k) "extend" X.env (eval (.Name x k) X.env)=eval (.Name x k) X.env:=by rfl)(w:nr X a:=by exact ng rfl)
  (hz:(u.endLine==p.line)=true:=by rfl) (M:swapsWith (.Call (.Attribute (.Name x k) "extend" u) [a] [] p) none pos.line X.env=pure false:=by rfl):Wg X Y (.Expr (.Call (.Attribute (.Name x k) "extend" u) [a] [] p) pos) (Vd i fa):=.mk λρ=>by
 have o:(((((backTo p (starEach [a] X.env)).all λx=> !x.fst)&&(backToKw p (keywordEach [] X.env)).all λx=>x.fst.isSome)&&decide (([a].length+([]:List Keyword).length+if ([]:List Keyword).isEmpty=true then 0 else 1)<30))=true):=by rw[w];rfl
 refine PS.imp (jz (U2 cG PySem.F.slot_list_extend PySem.F.type_list_extend YY U (zh (S ρ) zt w) y o hz w rfl) M) λD σ H ⟨B,I,q⟩=>?_;unfold Vd at q;split at q
 ·rename_i ts e;obtain⟨l,xs,o,b0,h0,C,J,d⟩:=I.ow i ts e;refine⟨.ref l,o,.inl ⟨rfl,_,SqL.of C⟩,?_⟩;refine jY I q λt v Z _ G N L j=>?_;cases N with
  |@lst b O P y r=>
   have j:PoS Y _ (if ts.length+P.length<=mR then .nx _ else .bad) D:=j
   split at j
   ·rename_i Q;refine⟨l,b,xs,O,rfl,rfl,G _ _ C,L.sB _ _ y,by rw[J.length,r.length];exact ZD Q,?_⟩
    exact j _ _ _ (zi.refl _) (L.chg i e o ((J.mono (zy.ge I.sB G)).append r))
   ·exact j.elim
  |_=>exact j.elim
 ·exact q.elim
end
def spP (cl:Nat->Value)(n:Nat)(g:List T->R T):Sp:=λvs H Q E=>∃B ts,ts.length=n/\zi B H/\zr B vs ts/\Po ⟨B,H,E,cl,[]⟩ rC B H (g ts) Q
def spP.len {cl:Nat->Value}{n:Nat}{g:List T->R T}(vs:List V)(H:Hp)(Q:VK)(E:XK)(h:spP cl n g vs H Q E):vs.length=n:=by
 obtain⟨B,ts,a,_,r,_⟩:=h;rw[r.length,a]
def zb (n:Nat)(g:List T->R T)(a:En->R (List T)):En->R T:=λρ=>(a ρ).bind λts=>if ts.length=n then g ts else .bad
section
variable {X:Cx}{Y:Fx}{a b c d:Expr}{fa fb fc fd:En->R T}{pos p:Pos}
def Hd {CX:n5}{k n:Nat}{f:Addr}{fd:FuncData}{j:List Str}{g:List T->R T}{x:Str}{i:List Expr}{o:En->R (List T)}(F:wQ X.prog X.w X.K X.mg X.base CX k f fd j (spP Y.cl n g))(hr:jH k X.A)(v:Gl X x)(G:X.mg x=some (.ref f))
  (kp:dq X.K (.ref f)=true) (J:L2.Binds X.K fd j []) (r:wR CX X Y.E) (L:UB X Y (a::i) o) (hd:(x==("__debug__":Str))=false:=by decide)
  (D:starEach (a::i) X.env=(false,eval a X.env)::starEach i X.env:=by exact zz rfl) (hz:((backTo pos (starEach i X.env)).any λx=>x.fst)=false:=by exact zY rfl):Snd X Y (.Call (.Name x p) (a::i) [] pos) (zb n g o):=.mk λρ=>
 PE.imp (j9 F hr v G kp J .nil r (L ρ) hd D hz) λO H Q ⟨B,I,q⟩=>step I q λts vs M _ N C l e=>by
  split at e
  ·rename_i hn;rw[br];refine⟨_,ts,hn,l.sB,C,?_⟩;revert e;cases g ts with
   |bad=>exact λe=>e
   |ex c=>exact λe d y s u=>e d y (l.sH.trans s) u
   |ok t=>exact λe=>e
  ·exact e.elim
end
noncomputable def zn:RS->R T
 |.rt t=>.ok t
 |.rf ts=>.ok (.lst ts)
 |.nx _=>.ok .non
 |.ex c=>.ex c
 |_=>.bad
def mO (n:Nat)(ts:List T):En:=ts.map Sl.vl++ar (n-ts.length) Sl.un
theorem zr.vl {H:Hp}:∀{vs:List V} {ts:List T} {i:Nat} {t:T} {n m:Nat},zr H vs ts->(ts.map Sl.vl++ar n Sl.un)[i]?=some (Sl.vl t)->∃v:V,(vs.map some++ar m none)[i]?=some (some v)/\Rep H v t
 |_,_,i,t,n,m,.nil,h=>by
  simp only[bO,cq]at h;rw[b7]at h;split at h
  ·cases h
  ·cases h
 |_,_,0,t,n,m,.cons r _,h=>by
  simp at h;subst h;exact⟨_,rfl,r⟩
 |_,_,i+1,t,n,m,.cons _ q,h=>by
  obtain⟨v,c,a⟩:=zr.vl q (by simpa using h)
  exact⟨v,by simpa using c,a⟩
theorem Xc {n:Nat}:∀{ts:List T} {i:Nat} {a:List T},(ts.map Sl.vl++ar n Sl.un)[i]?=some (Sl.ow a)->False
 |[],i,a,h=>by
  simp only[bO,cq]at h;rw[b7]at h;split at h
  ·cases h
  ·cases h
 |t::ts,0,a,h=>by simp at h
 |t::ts,i+1,a,h=>Xc (by simpa using h)
theorem Xd {n:Nat}:∀{ts:List T} {i:Nat} {c:Nat},(ts.map Sl.vl++ar n Sl.un)[i]?=some (Sl.xc c)->False
 |[],i,a,h=>by
  simp only[bO,cq]at h;rw[b7]at h;split at h
  ·cases h
  ·cases h
 |t::ts,0,a,h=>by simp at h
 |t::ts,i+1,a,h=>Xd (by simpa using h)
theorem qp {n:Nat}{x:Sl}(c:∀t,x≠.vl t)(a:x≠.un):∀{ts:List T} {i:Nat},(ts.map Sl.vl++ar n Sl.un)[i]?=some x->False
 |[],i,h=>by
  simp only[bO,cq]at h;rw[b7]at h;split at h
  ·exact a (aF h).symm
  ·cases h
 |t::ts,0,h=>c t (aF (by simpa using h)).symm
 |t::ts,i+1,h=>qp c a (by simpa using h)
theorem SI.start {Y:Fx}{N:List Str}{vs:List V}{ts:List T}(s:zi Y.B0 Y.H0)(r:zr Y.B0 vs ts):SI Y Y.B0 (mO N.length ts) (L2.start N vs) Y.H0 where
 s0:=s
 sH:=zi.refl _
 sB:=s
 old:=λ_ _ _=>rfl
 len:=by unfold mO L2.start;simp[r.length]
 vl:=λi t h=>r.vl h
 ow:=λi ts h=>(Xc h).elim
 xc:=λi c h=>(Xd h).elim
 st:=StI.no λi s a h=>qp (λt z=>by rw[z]at a;cases a) (λz=>by rw[z]at a;cases a) h
section
variable {P:Program}{w:World}{K:aj}{mg:Str->Option Value}{base:Heap}
def Et {cl:Nat->Value}{x qual:Str}{st:Stmt}{f:Addr}{o:FuncData}{N i:List Str}{k n:Nat}{j:En->RS}{g:List T->R T}(F:Fun K x qual st f o)(S:JQ N i (zj st))(hn:n=i.length)
  (y:∀(cdv:Value) (A:Around) (outer:List Env) (s:Shared) (H:Hp) (E:XK) (Y:Fx),Y.cl=cl->jH k (A.deeper (envOfC qual (zj st) s.1.1.size f cdv))->
   WS (Js nh P w K mg base N qual (zj st) f cdv A outer s H E).nox Y (Zf st) j)
  (G:∀ts,ts.length=n->g ts=zn (j (mO N.length ts))):wQ P w K mg base nh (k+1) f o i (spP cl n g):=by
 subst hn;refine F.ok S spP.len λcdv A outer s H vs Q E hr ⟨B,ts,C,p,r,q⟩=>?_;refine⟨_,y cdv A _ s H E ⟨B,H,E,cl,[]⟩ rfl hr _,B,SI.start p r,?_⟩;rw[G ts C]at q;revert q;cases j _ with
 |rt t=>exact λq v d s r=>q v d s r
 |rf t=>exact λq a xs d D u n e r _ l=>q _ d u (.lst (by rw[zJ n];exact e) (r.mono l))
 |nx ρ=>exact λq σ' d D _ I=>q _ d I.sH .non
 |ex c=>exact λq=>q
 |bk ρ=>exact λq=>q.elim
 |ct ρ=>exact λq=>q.elim
 |bad=>exact λq=>q
end
abbrev rI:Hp->Hp->It->List T->Prop:=λB1 _ J ts=>∀B2 H2,zi B1 B2->zi B2 H2->(∀i,i<ts.length->J.go i H2)/\(∀(i:Nat) t x H3,ts[i]?=some t->J.yld i H2 x H3->zi H2 H3/\Rep (zy B2 H2 H3) x t)/\(∀i,ts.length<=i->J.stop i H2)
structure Wh (X:Cx) (Y:Fx) (tg iter:Expr) (f:En->R (List T)):Prop where
 mk::
 go:∀ρ,PI X tg iter (tS Y rI f ρ)
instance {X:Cx}{Y:Fx}{tg iter:Expr}{f:En->R (List T)}:CoeFun (Wh X Y tg iter f) λ_=>∀ρ,PI X tg iter (tS Y rI f ρ):=⟨Wh.go⟩
section
variable {X:Cx}{Y:Fx}{a b c d tg:Expr}{fa fb fc fd:En->R T}{pos p:Pos}
def PI.imp {e:Expr}{t t':TI}(h:PI X tg e t)(i:∀f H Q,t' f H Q->t f H Q):PI X tg e t':=λg s f H Q I q=>h _ s f H Q I (i f H Q q)
def UG {l:Expr}{tl:TE}(D:PE X l tl):PI X tg l (λr H R=>tl r H λx f=>∃a,x=.ref a/\(((∃xs,SqL X.K f a xs)/\R (oX X.K a) f)\/((∃xs,SqT X.K f a xs)/\R (tj X.K a) f))):=by
 intro u s r H R I h;refine mN (D _ s r H _ I h) λv g ⟨x,f,i,B,y⟩=>?_;obtain⟨a,e,q⟩:=y;subst e;obtain rfl:v=Value.ref a:=B;have ok:∀b∈[g.1.1.size],wF X _ f b:=λb C=>by
  have e:=by simpa using C
  subst e;exact i.fpOk (aq _) (i.hok.fresh (aq _))
 rcases q with ⟨⟨xs,j⟩,q⟩|⟨⟨xs,j⟩,q⟩
 ·obtain⟨k,w,p,hz⟩:=i.list j;exact cW p.isList ⟨g.1.1.size,[g.1.1.size],_,_,f,rfl,i.kept λb o e=>aa _ e,WV a _,⟨_,ai _ rfl,rfl,rfl⟩,ok,q⟩
 ·obtain⟨k,w,p,hz⟩:=i.tuple j;exact cQ (show g.heap.IsTuple a _ from p) ⟨g.1.1.size,[g.1.1.size],_,_,f,rfl,i.kept λb o e=>aa _ e,wN a _,⟨_,ai _ rfl,rfl,rfl⟩,ok,q⟩
def HA {K:aj}{g o:Hp}{a:Addr}{xs:List V}{ts:List T}(h:g a=some (.tup xs))(r:zr g xs ts):rI g o (tj K a) ts:=λu w k j=>by
 have f:=j _ _ (k _ _ h);refine⟨λi hi=>?_,λi t x H3 e y=>?_,λi hi=>⟨xs,SqT.of f,by rw[r.length];exact hi⟩⟩
 ·obtain⟨v,e,_⟩:=r.get (ah hi);exact⟨xs,v,SqT.of f,e⟩
 ·obtain⟨rfl,y⟩:=y;obtain⟨v,q,l⟩:=r.get e;have:=y xs (SqT.of f);rw[q]at this;cases this;refine⟨zi.refl _,?_⟩;rw[zy.self u _ j];exact l.mono k
def Lk {K:aj}{g o:Hp}{a:Addr}{xs:List V}{ts:List T}(h:g a=some (.lst xs))(r:zr g xs ts):rI g o (oX K a) ts:=λu w k j=>by
 have f:=j _ _ (k _ _ h);refine⟨λi hi=>?_,λi t x H3 e y=>?_,λi hi=>⟨xs,SqL.of f,by rw[r.length];exact hi⟩⟩
 ·obtain⟨v,e,_⟩:=r.get (ah hi);exact⟨xs,v,SqL.of f,e⟩
 ·obtain⟨rfl,y⟩:=y;obtain⟨v,q,l⟩:=r.get e;have:=y xs (SqL.of f);rw[q]at this;cases this;refine⟨zi.refl _,?_⟩;rw[zy.self u _ j];exact l.mono k
noncomputable def rng (lo:Int)(n:Nat):List T:=(aV n).map λ(i:Nat)=>T.int (lo+(i:Int))
def Xe {j g:Hp}{lo:Int}{n:Nat}:rI j g (rF lo n) (rng lo n):=λo l q k=>by
 have f:(rng lo n).length=n:=by unfold rng;simp
 refine⟨λi hi=>by rw[f]at hi;exact hi,λi t x H3 e y=>?_,λi hi=>by rw[f]at hi;exact hi⟩
 obtain⟨rfl,rfl⟩:=y;refine⟨zi.refl _,?_⟩;unfold rng at e;rw[aw]at e
 by_cases hi:i<n
 ·rw[dk hi]at e;cases e;exact .int _
 ·rw[aS (by simp;omega)]at e;cases e
def ZI (fa:En->R T):En->R (List T):=λρ=>(fa ρ).bind λt=>match t with
 |.int j=>if-1000000<j/\j<1000000 then .ok (rng 0 j.toNat)else .bad
 |_=>.bad
def Jv (fa fb:En->R T):En->R (List T):=λρ=>(fa ρ).bind λt=>(fb ρ).bind λt'=>match t,t' with
 |.int i,.int j=>if-1000000<i/\i<1000000/\ -1000000<j/\j<1000000 then .ok (rng i (j-i).toNat)else .bad
 |_,_=>.bad
def FG (o:Gl X "range")(l:X.mg "range"=none)(r:Snd X Y a fa)(f:nr X a:=by exact ng rfl):Wh X Y tg (.Call (.Name "range" p) [a] [] pos) (ZI fa):=.mk λρ=>PI.imp (YL o l (zh (r ρ) zt f) f) λu H R ⟨B,I,q⟩=>step I q λt v k _ w g i e=>by
 cases g with
 |int j=>
  have e:Po Y rI _ k (if-1000000<j/\j<1000000 then .ok _ else .bad) R:=e
  split at e
  ·exact⟨j,rfl,by omega,by omega,ZR i e Xe⟩
  ·exact e.elim
 |_=>exact e.elim
def EL (y:Gl X "range")(w:X.mg "range"=none)(C:Snd X Y a fa)(x:Snd X Y b fb)(k:starEach [a,b] X.env=[(false,eval a X.env),(false,eval b X.env)]:=by exact nT rfl rfl)(f:nr X b:=by exact ng rfl):Wh X Y tg (.Call (.Name "range" p) [a,b] [] pos) (Jv fa fb):=.mk λρ=>
 PI.imp (YM y w (zh (C ρ) (zh (x ρ) zt f) (by rw[k,f])) k f) λJ H R ⟨B,I,q⟩=>step I q λt v F _ L l o u=>step o u λt' M r _ G g D e=>by
  cases l with
  |int i=>
   cases g with
   |int j=>
    have e:Po Y rI _ r (if-1000000<i/\i<1000000/\ -1000000<j/\j<1000000 then .ok _ else .bad) R:=e
    split at e
    ·exact⟨i,j,rfl,⟨by omega,by omega,by omega,by omega⟩,ZR D e Xe⟩
    ·exact e.elim
   |_=>exact e.elim
  |_=>cases g<;>exact e.elim
def rH (X:Cx)(Y:Fx)(tg:Expr)(g:T->En->R En):Prop:=∃t:TG,PG X tg t/\∀B ρ e H v x Q,SI Y B ρ e H->Rep B v x->(match g x ρ with|.ok ρ'=>∀σ',SI Y B ρ' σ' H->Q σ' H|_=>False)->t v e H Q
def zB (i:Nat):T->En->R En:=λt ρ=>.ok (ρ.set i (.vl t))
def Xf {i:Nat}{x:Str}(e:X.N.Nodup)(hi:X.N[i]?=some x)(g:L2.Loc X.env.scope x)(f:X.fn x=true\/X.env.scope.names.lookup x=some .local:=by first|exact .inl rfl|exact .inr rfl|assumption):rH X Y (.Name x pos) (zB i):=
 ⟨Zh i,Z4 e hi g f,λB ρ j H v x Q I r q=>q _ (I.setV i r)⟩
def zS (i j:Nat):T->En->R En:=λt ρ=>match t with
 |.tup [x,y]=>.ok ((ρ.set i (.vl x)).set j (.vl y))
 |_=>.bad
def LH {i j:Nat}{x y:Str}{C p2:Pos}{k:Nat}(G:X.calm=true)(g:X.N.Nodup)(hi:X.N[i]?=some x)(u:X.N[j]?=some y)(w:L2.Loc X.env.scope x)(hy:L2.Loc X.env.scope y)
  (F:X.fn x=true\/X.env.scope.names.lookup x=some .local:=by first|exact .inl rfl|exact .inr rfl|assumption) (f:X.fn y=true\/X.env.scope.names.lookup y=some .local:=by first|exact .inl rfl|exact .inr rfl|assumption):
  rH X Y (.Tuple [.Name x pos,.Name y C] k p2) (zS i j):=by
 refine⟨X4 X.K 2 _,WU G (Zb (Z4 g hi w F) (Zb (Z4 g u hy f) JO)),λB ρ J H v t Q I r q=>?_⟩;cases r with
 |@tup l xs ts h r=>
  cases r with
  |nil=>exact q.elim
  |cons D e=>
   cases e with
   |nil=>exact q.elim
   |cons o e=>
    cases e with
    |cons _ _=>exact q.elim
    |nil=>
     exact⟨l,_,rfl,SqT.of (I.sB _ _ h),rfl,_,_,rfl,_,_,rfl,rfl,q _ ((I.setV i D).setV j o)⟩
 |_=>exact q.elim
def ZJ (g:T->En->R En)(fb:En->RS):List T->En->RS
 |[],ρ=>.nx ρ
 |t::ts,ρ=>match g t ρ with
  |.ok ρ1=>match fb ρ1 with
   |.nx e=>ZJ g fb ts e
   |.ct e=>ZJ g fb ts e
   |.bk e=>.nx e
   |r=>r
  |.ex c=>.bad
  |.bad=>.bad
def j5 (e:En->R (List T))(g:T->En->R En)(fb:En->RS):En->RS:=λρ=>(e ρ).s λts=>ZJ g fb ts ρ
def DV {iter:Expr}{O:List Stmt}{fi:En->R (List T)}{g:T->En->R En}{fb:En->RS}(hp:PassesOwn 07 X.A X.env X.xe)(hc:X.calm=true)(hi:Wh X Y tg iter fi)(hg:rH X Y tg g)(hb:WS X Y O fb)
  (hs:∀x,foldedSetIterable iter X.env x=pure x:=by intro _;rfl):Wg X Y (.For tg iter O [] pos) (j5 fi g fb):=.mk λρ=>by
 obtain⟨tG,hG,hG'⟩:=hg;refine PS.imp (YO (tb:=λD Q H=>∃ρ',pF Y fb ρ' D Q H) hp hc (hi ρ) hG (λpins s Q H D I ⟨ρ',q⟩=>hb ρ' _ s Q H D I q) hs) λD Q H ⟨B,I,q⟩=>?_;refine jY I q λts J H1 _ s1 r1 I1 q1=>?_;refine⟨λi m σ' P=>m=ts.length-i/\i<=ts.length/\∃ρ' r,SI Y r ρ' σ' P/\zi _ r/\PoS Y r (ZJ g fb (ts.drop i) ρ') D,⟨ts.length,by simp,aU _,ρ,_,I1,zi.refl _,q1⟩,?_⟩
 rintro i m σ' P ⟨rfl,hi,ρ',r,L,u,k⟩
 obtain⟨hgo,F,o⟩:=r1 r P u L.sB
 by_cases l:i<ts.length
 ·refine .inr ⟨hgo i l,λC G=>∃j M,SI Y M j C G/\zi _ M/\PoS Y M _ D,λC G ⟨j,M,I2,v,f⟩=>⟨ts.length-(i+1),by omega,rfl,l,j,M,I2,v,f⟩,λx G y=>?_⟩
  obtain⟨v,r2⟩:=F i _ x G (ah l) y;rw[cy l]at k;unfold ZJ at k;refine hG' _ ρ' σ' G x _ _ (L.grow v) r2 ?_;cases S:g _ ρ' with
  |bad=>rw[S]at k;exact k
  |ex c=>rw[S]at k;exact k
  |ok ρ1=>
   rw[S]at k;intro σ1 J1;refine⟨ρ1,_,J1,?_⟩;have f:=PoS.up (zy.ge L.sB v) k;dsimp only at f;have s3:=u.trans (zy.ge L.sB v);revert f;cases fb ρ1 with
   |nx j=>exact λf U H3 B3 N Z=>⟨j,B3,Z,s3.trans N,PoS.up N f⟩
   |ct j=>exact λf U H3 B3 N Z=>⟨j,B3,Z,s3.trans N,PoS.up N f⟩
   |bk j=>exact λf=>f
   |rt t=>exact λf=>f
   |rf t=>exact λf=>f
   |ex c=>exact λf=>f
   |bad=>exact λf=>f
 ·have e:i=ts.length:=by omega
  subst e;rw[dS]at k;exact .inl ⟨o _ (aq _),k σ' P r (zi.refl _) L⟩
def Zr (g:En->R Bool)(fb:En->RS):Nat->En->RS
 |0,_=>.bad
 |n+1,ρ=>(g ρ).s λk=>if k=true then match fb ρ with
   |.nx e=>Zr g fb n e
   |.ct e=>Zr g fb n e
   |.bk e=>.nx e
   |r=>r
  else .nx ρ
def qr {n:Nat}{k:List Stmt}{l:En->R Bool}{fb:En->RS}(hp:PassesOwn 07 X.A X.env X.xe)(U:ua X Y c l)(S:WS X Y k fb):Wg X Y (.While c k [] pos) (Zr l fb n):=.mk λρ=>by
 refine PS.imp (Vs (tc:=λg H Q=>∃ρ',tS Y rE l ρ' g H Q) (tb:=λD g H=>∃ρ',pF Y fb ρ' D g H) hp (λi s g H D I ⟨ρ',q⟩=>U ρ' _ s g H D I q) (λi s g H D I ⟨ρ',q⟩=>S ρ' _ s g H D I q)) λD g H ⟨B,I,q⟩=>?_;refine⟨λm σ' M=>∃ρ' F,SI Y F ρ' σ' M/\PoS Y F (Zr l fb m ρ') D,⟨n,ρ,B,I,q⟩,?_⟩
 rintro m σ' M ⟨ρ',F,O,C⟩
 cases m with
 |zero=>exact C.elim
 |succ m=>
  unfold Zr at C;refine⟨ρ',jY O C λt v Z _ s1 P N J=>?_⟩;have o:=P;subst o;cases v with
  |false=>exact J _ _ _ (zi.refl _) N
  |true=>
   refine⟨λj G=>∃f L,SI Y L f j G/\PoS Y L _ D,λj G h=>⟨m,dU m,h⟩,ρ',_,N,?_⟩;revert J;cases fb ρ' with
   |nx f=>exact λe r H3 u y x=>⟨f,u,x,PoS.up y e⟩
   |ct f=>exact λe r H3 u y x=>⟨f,u,x,PoS.up y e⟩
   |bk f=>exact λe=>e
   |rt t=>exact λe=>e
   |rf t=>exact λe=>e
   |ex c=>exact λe=>e
   |bad=>exact λe=>e
end
theorem JV {env:Env}:∀(ns:List (Str×NameKind)) (acc:List (Str×Addr)),(∀x∈ns,x.2=NameKind.free->∃c,env.cells.lookup x.1=some c)->(∀x c,acc.lookup x=some c->env.cells.lookup x=some c)->
  ∃cl,(forIn ns acc (λ(x:Str×NameKind) (r:List (Str×Addr))=>if (x.2==NameKind.free)=true then (do let c ←cellOf env x.1;pure (ForInStep.yield ((x.1,c)::r)))else pure (ForInStep.yield r)):Sem _)=pure cl/\
   (∀x c,cl.lookup x=some c->env.cells.lookup x=some c)/\(∀x c,acc.lookup x=some c->∃w,cl.lookup x=some w)/\(∀x∈ns,x.2=NameKind.free->∃c,cl.lookup x.1=some c)
 |[],acc,_,h=>⟨acc,rfl,h,λx c e=>⟨c,e⟩,λx a=>by simp at a⟩
 |(n,k)::ns,acc,o,h=>by
  by_cases i:k=NameKind.free
  ·obtain⟨c,u⟩:=o _ ae i;have h':∀x d,((n,c)::acc).lookup x=some d->env.cells.lookup x=some d:=λx d e=>by
    by_cases a:x=n
    ·subst a;have p:=by simpa[aG]using e
     cases p;exact u
    ·have p:=by
      rw[aG,(beq_eq_false_iff_ne.mpr a)]at e;exact e
     exact h x d p
   obtain⟨cl,e,l,g,j⟩:=JV ns _ (λx a=>o x (a9 _ a)) h';refine⟨cl,?_,l,λx d v=>?_,λx a f=>?_⟩
   ·rw[mB];subst i;have q:cellOf env n=pure c:=by unfold cellOf;rw[u]
    simp only[beq_self_eq_true,if_true,q];exact e
   ·by_cases a:x=n
    ·subst a;exact g x c (by simp[aG])
    ·exact g x d (by rw[aG,(beq_eq_false_iff_ne.mpr a)];exact v)
   ·rcases au.mp a with rfl|a
    ·exact g n c (by simp[aG])
    ·exact j x a f
  ·obtain⟨cl,e,l,g,j⟩:=JV ns acc (λx a=>o x (a9 _ a)) h;refine⟨cl,?_,l,g,λx a f=>?_⟩
   ·rw[mB];have q:(k==NameKind.free)=false:=by simpa using i
    simp only[q,aH,if_false];exact e
   ·rcases au.mp a with rfl|a
    ·exact absurd f i
    ·exact j x a f
def qt {scope:Scope}{env:Env}(f:∀x∈scope.names,x.2=NameKind.free->∃c,env.cells.lookup x.1=some c):
  ∃cl,closureFor scope env=pure cl/\(∀x c,cl.lookup x=some c->env.cells.lookup x=some c)/\(∀x∈scope.names,x.2=NameKind.free->∃c,cl.lookup x.1=some c):=by
 obtain⟨cl,e,d,_,a⟩:=JV _ [] f (λx c e=>by simp at e)
 refine⟨cl,?_,d,a⟩;unfold closureFor;exact(by simpa using e)
def o9 (X:Cx)(scope:Scope)(N':List Str)(cl:List (Str×Addr))(C:Addr)(c:Shared)(H3:Hp)(fp:List Addr)(a:List (Addr×Obj)):Cx:=
 {X with N:=N',s₀:=c,H₀:=H3,env:=compEnvC scope cl C X.env,outer:=X.stack,stack:=X.stack,ex:=fp,fn:=λ_=>false,pn:=X.pn++a,xe:=λ_ _=>False}
structure rR (X:Cx) (scope:Scope):Prop where
 kind:scope.kind=.function
 nocell:∀x∈scope.names,x.2≠.cell
 loc:∀x∈scope.names,x.2=.local->scope.names.lookup x.1=some .local
 fre:∀x∈scope.names,x.2=.free->X.env.kindOf x.1=some .cell\/X.env.kindOf x.1=some .free
def jL {scope:Scope}{env:Env}{x:Str}{k:NameKind}(h:(relabel scope env).names.lookup x=some k)(e:k=.cell\/k=.free)(hn:∀x∈scope.names,x.2≠NameKind.cell):∃y∈scope.names,y.1=x/\y.2=.free:=by
 have go:∀ns:List (Str×NameKind),(∀x∈ns,x.2≠NameKind.cell)->(ns.map λ(n,k)=>if (k==NameKind.free&&env.scope.kind==.function&&env.kindOf n==some .cell)then (n,NameKind.cell)else (n,k)).lookup x=some k->∃y∈ns,y.1=x/\y.2=.free:=by
  intro ns
  induction ns with
  |nil=>intro _ h;simp at h
  |cons y ns i=>
   intro hn h;obtain⟨n,c⟩:=y
   by_cases d:x=n
   ·subst d;refine⟨(x,c),ae,rfl,?_⟩;rw[ao]at h
    by_cases a:(c==NameKind.free&&env.scope.kind==.function&&env.kindOf x==some .cell)=true
    ·rw[am,am]at a;exact eq_of_beq a.1.1
    ·simp only[if_neg a,aG,beq_self_eq_true]at h;cases h;rcases e with rfl|rfl
     ·exact absurd rfl (hn _ ae)
     ·rfl
   ·obtain⟨z,hz,g,f⟩:=i (λz hz=>hn z (a9 _ hz)) (by
     rw[ao]at h
     by_cases a:(c==NameKind.free&&env.scope.kind==.function&&env.kindOf n==some .cell)=true
     ·simp only[if_pos a,aG,(beq_eq_false_iff_ne.mpr d)]at h;exact h
     ·simp only[if_neg a,aG,(beq_eq_false_iff_ne.mpr d)]at h;exact h)
    exact⟨z,a9 _ hz,g,f⟩
 exact go _ hn h
section
variable {X:Cx}{pins:List (Addr×Obj)}{σ:Sg}{H:Hp}{s:Shared}
def qu {scope:Scope}{N':List Str}{cl:List (Str×Addr)}{fp:List Addr}{h':Heap}{tk:Nat}{σ':Sg}(I:L2.Inv X pins σ H s)(S:rR X scope)(hc:X.calm=true)
  (a:∀x c,cl.lookup x=some c->X.env.cells.lookup x=some c) (B:∀x∈scope.names,x.2=NameKind.free->∃c,cl.lookup x.1=some c)
  (l:∀b∈fp,wF X pins H b) (hfo:∀b∈fp,∃o,s.heap.get? b=some o)
  (Z:h'.Ns s.1.1.size (λ_=>none)) (G:∀b o,s.heap.get? b=some o->h'.get? b=some o)
  (hl:σ'.length=N'.length) (hσ:∀(i:Nat) (x:Str) (v:V),N'[i]?=some x->σ'[i]?=some (some v)->∃j:Nat,X.N[j]?=some x/\σ[j]?=some (some v)/\pU X.env.scope x/\(scope.names.lookup x=some .free)/\(X.env.kindOf x=some .cell\/X.env.kindOf x=some .free)):
  L2.Inv (o9 X scope N' cl s.1.1.size s H fp pins) [] σ' H {s with heap:=h',toks:=tk}:=by
 have D:=I.stkSub;have P:=λb f=>let ⟨o,e⟩:=hfo b f;av e;have fresh:=I.hok.fresh (aq _);refine⟨⟨I.ok.mod,S.kind,I.ok.glob,I.ok.blt,aq _,λx y c L Q=>I.ok.inj x y c (a _ _ L) (a _ _ Q),λx r=>?_,λx c h _=>(az h).elim,λ_=>I.ok.hd hc,I.ok.frames,.inl rfl,λb f=>?_,I.bs,
   aC I.ok.bsz I.sz,λb o e f=>?_,λb f hb'=>?_,I.stack,I.stkFree⟩,rfl,I.bare,Un.kept G,⟨_,Z,λi x v L Q h3=>?_⟩,λx c e=>?_,fresh,λx c e=>I.freeC x c (a _ _ e),λp hp=>?_,I.hok.kept G,hl⟩
 ·have hx':=r;obtain⟨y,hy,rfl,hyf⟩:∃y∈scope.names,y.1=x/\y.2=.free:=by
   rcases hx' with h|h
   ·exact jL h (.inl rfl) S.nocell
   ·exact jL h (.inr rfl) S.nocell
  exact B y hy hyf
 ·refine⟨aD (P b f),λx c e=>(l b f).2.2.2.2.1 x c (a _ _ e)⟩
 ·rcases(l b f).2.2.2.1 with h|h
  ·exact I.ok.noex b o e h
  ·exact absurd (aL (av e) (aC I.ok.bsz h)) (bo _)
 ·have q:=l b f;rcases au.mp (D b hb')with z|z
  ·exact q.2.1 z
  ·exact q.2.2.1 z
 ·obtain⟨j,e1,e2,e3,e4,e5⟩:=hσ i x v L Q;obtain⟨m,hn,F⟩:=I.loc;obtain⟨u,ru,lk⟩:=F j x v e1 e2 e3;refine⟨u,ru,.inr ⟨?_,?_⟩⟩
  ·rcases h3 with h|h|h
   ·exfalso;have:∀ns:List _,ns.lookup x=some .free->(ns.map λ(n,k)=>if (k==NameKind.free&&X.env.scope.kind==.function&&X.env.kindOf n==some .cell)then (n,NameKind.cell)else (n,k)).lookup x≠some .local:=by
     intro ns
     induction ns with
     |nil=>intro z;simp at z
     |cons y ns ih=>
      obtain⟨n,k⟩:=y;intro z w;rw[ao]at w
      by_cases r:x=n
      ·subst r;have U:=by simpa[aG]using z
       by_cases d:(k==NameKind.free&&X.env.scope.kind==.function&&X.env.kindOf x==some .cell)=true
       ·simp only[if_pos d,aG,beq_self_eq_true]at w;cases w
       ·simp only[if_neg d,aG,beq_self_eq_true]at w;rw[U]at w;cases w
      ·have z':=by rw[aG,(beq_eq_false_iff_ne.mpr r)]at z;exact z
       refine ih z' ?_
       by_cases d:(k==NameKind.free&&X.env.scope.kind==.function&&X.env.kindOf n==some .cell)=true
       ·simp only[if_pos d,aG,(beq_eq_false_iff_ne.mpr r)]at w;exact w
       ·simp only[if_neg d,aG,(beq_eq_false_iff_ne.mpr r)]at w;exact w
    exact this _ e4 h
   ·exact .inl h
   ·exact .inr h
  ·rcases lk with ⟨J,_⟩|⟨_,c,M,g⟩
   ·rcases e5 with z|z<;>(rw[z]at J;cases J)
   ·obtain⟨c',C⟩:=B _ (b_ e4) rfl;have:=a x c' C;rw[M]at this;cases this;obtain⟨o,eo,O⟩:=g;exact⟨c,C,o,G _ _ eo,O⟩
 ·obtain⟨v,o,eo,O⟩:=I.cell x c (a _ _ e);exact⟨v,o,G _ _ eo,O⟩
 ·have hp':=by
   have:=hp;rwa[br]at this
  obtain⟨e,n,ne,nf,dc⟩:=I.pin p hp';refine⟨G _ _ e,n,aD (av e),λf=>?_,dc⟩;rcases au.mp (D _ f)with z|z
  ·exact ne z
  ·exact nf z
end
def PIf (X:Cx)(d:List Expr)(t:TT):Prop:=
 ∀(a:List (Addr×Obj)) (s:Shared) (e:Sg) (H:Hp) (Q:Bool->Hp->Prop),L2.Inv X a e H s->t e H Q->
  wpAny 07 X.A (forIn d true λc r=>if r=true then do let ok ←isTrue c X.env (eval c X.env);pure (ForInStep.yield ok)else pure (ForInStep.yield r)) (TP X a e Q) X.xe s
def qv {X:Cx}:PIf X [] (λ_ H Q=>Q true H):=λ_ _ a H _ I h=>wpAny_tests_nil ⟨H,I,h⟩
def kT {X:Cx}{c:Expr}{t:TT}(h:PT X c t):PIf X [c] t:=λa s d H Q I q=>wpAny_tests_one (h _ s d H Q I q)
noncomputable abbrev XE (X:Cx)(xe:Value->Shared->Prop):Cx:={X with xe:=xe}
def UH {X:Cx}{a:List (Addr×Obj)}{c:Sg}{H:Hp}{s:Shared}{xe:Value->Shared->Prop}(I:L2.Inv X a c H s):L2.Inv (XE X xe) a c H s:=
 ⟨⟨I.ok.mod,I.ok.kind,I.ok.glob,I.ok.blt,I.ok.above,I.ok.inj,I.ok.has,I.ok.cab,I.ok.hd,I.ok.frames,I.ok.stk,I.ok.exf,I.ok.bs,I.ok.bsz,I.ok.noex,I.ok.exfs,I.ok.funs,I.ok.frf⟩,I.os,I.bare,I.base,I.loc,I.cell,I.free,I.freeC,I.pin,I.hok,I.len⟩
def qw {X:Cx}{a:List (Addr×Obj)}{c:Sg}{H:Hp}{s:Shared}{xe:Value->Shared->Prop}(I:L2.Inv (XE X xe) a c H s):L2.Inv X a c H s:=(UH I:L2.Inv _ _ c H s)
def EH {X:Cx}{e:Expr}{t:TG}{xe:Value->Shared->Prop}(d:X.xe=λ_ _=>False)(h:PG X e t):PG (XE X xe) e t:=λa s f H v u Q I r q=>cI (h _ s f H v u Q (qw I) r q) (λ_ j ⟨σ',c,i,g⟩=>⟨σ',c,UH i,g⟩) λe j z=>by rw[d]at z;exact z.elim
def HQ {X:Cx}{e:List Expr}{t:TT}{xe:Value->Shared->Prop}(d:X.xe=λ_ _=>False)(h:PIf X e t):PIf (XE X xe) e t:=λa s f H Q I q=>cI (h _ s f H Q (qw I) q) (λ_ j ⟨c,i,g⟩=>⟨c,UH i,g⟩) λe j z=>by rw[d]at z;exact z.elim
def UI {a:Type}{M:Model}{A:Around}{m:Sem a}{Q:a->Shared->Prop}{E c:Value->Shared->Prop}{s:Shared}(hE:∀e d,c e d->E e d)(h:wpAny M A m Q c s):wpAny M A m Q E s:=cI h (λ_ _ q=>q) hE
def wI (J:It)(D:Addr)(g:TG)(tt:TT)(te:TE)(e:Sg->Hp->Prop)(W:Nat->Nat->List V->Sg->Hp->Prop):Prop:=
 ∀i m c f H,W i m c f H->H D=some (.lst c)/\((J.stop i H/\e f H)\/(J.go i H/\∀x o,J.yld i H x o->g x f o λa H3=>tt a H3 λk j=>
  if k=true then te a j λv l=>l D=some (.lst c)/\c.length<sizeLine/\∃d,d<m/\W (i+1) d (c++[v]) a (kj l D (.lst (c++[v])))else ∃d,d<m/\W (i+1) d c a j))
def uf {X:Cx}{R:Result->Shared->Prop}(hx:∀e B,X.xe e B->notedBy 07 X.A X.env (λe B=>R (.error e) B) e B)(hc:X.calm=true){tg iter P:Expr}{O:List Expr}{scope:Scope}{pos:Pos}{J:It}{fp:List Addr}{it:Addr}{tn:Nat->Heap->Prop}(S:Uw X.prog X.w X.K tg J fp it tn)
  {g:TG} {tt:TT} {te:TE} (hg:PG X tg g) (ht:PIf X O tt) (he:PE X P te) {D:Addr} {N:Sg->Hp->Prop} (W:Nat->Nat->List V->Sg->Hp->Prop) (Q:wI J D g tt te N W)
  (hR:∀s σ H,L2.Inv X [] σ H s->N σ H->R (.ok .next) s) {m0:Nat} {F:Sg} {H0:Hp} {s0:Shared} (w0:W 0 m0 [] F H0) (I0:L2.Inv X [] F H0 s0) (t0:tn 0 s0.heap) (f0:∀b∈fp,wF X [] H0 b):
  codeAny 07 X.A (.compLoop (.ListComp P [⟨tg,iter,O,0⟩] scope pos) 0 (.ref it) (.ref D) X.env) R s0:=by
 have c:∀{f:Hp},(∀b∈fp,f b=none)->∀b∈fp,wF X [] f b:=λhn b j=>⟨hn b j,(f0 b j).2⟩;refine codeAny_loop rfl (λn B=>∃i I σ' f,L2.Inv X [] σ' f B/\tn i B.heap/\(∀b∈fp,f b=none)/\W i n I σ' f) (λn s3 h3=>?_) m0 ⟨0,[],F,H0,I0,t0,λb j=>(f0 b j).1,w0⟩;obtain⟨i,I,a,H3,I3,st3,fr3,w3⟩:=h3;show wpAny _ X.A ((compTurn _ 0 _ _ _).onRaise (λx=>do noteFrame x _;theTreesLotGoes x)) _ _ s3
 refine wpAny_noted ?_;obtain⟨hD,h⟩:=Q i n I a H3 w3;rcases h with ⟨Z,qn⟩|⟨go,next⟩
 ·refine a8 (d_ (a8 (mN (S.done X rfl rfl rfl hc i [] s3 a H3 _ I3 (c fr3) st3 Z) λr s4 ⟨hr,I4⟩=>?_)));subst hr;exact ac (hR s4 a H3 I4 qn)
 ·refine a8 (d_ (a8 (mN (S.item X rfl rfl rfl hc i [] s3 a H3 _ I3 (c fr3) st3 go) λr s4 ⟨u,hr,h4⟩=>?_)));subst hr;refine a8 (mN h4 λ_ s5 ⟨x,H5,I5,r5,y5,q,fr5⟩=>?_);have I5':=I5.pinned (c fr5) (S.obj _ _ q);refine a8 (UI hx (mN (hg _ s5 a H5 x u _ I5' r5 (next x H5 y5)) λ_ s6 ⟨p,H6,I6,q6⟩=>?_));have again:∀{l:Sg} {L:Hp} {U:Shared} {G:List V},L2.Inv X _ l L U->(∃C,C<n/\W (i+1) C G l L)->∃m,m<n/\∃i I σ' f,L2.Inv X [] σ' f U/\tn i _/\(∀b∈fp,f b=none)/\W i m I σ' f:=λ{l L U G} M ⟨C,hm,w7⟩=>by
   refine⟨C,hm,i+1,G,l,L,M.unpinned,S.keep _ _ _ q λb j o e=>(M.pin _ (bz _ (bz _ (jl j e)))).1,λb j=>?_,w7⟩;obtain⟨o,e,d⟩:=S.obj _ _ q b j;exact(M.pin _ (bz _ (bz _ (jl j e)))).2.1
  refine a8 (UI hx (mN (ht _ s6 p H6 _ I6 q6) λk U ⟨L,M,q7⟩=>?_));cases k with
  |false=>exact ac ⟨rfl,again M q7⟩
  |true=>
   refine a8 (a8 (UI hx (mN (he _ U p L _ M q7) λv s8 ⟨y,H8,I8,r8,hD8,hlen,q8⟩=>?_)));refine a8 (UI hx (mN (ja _ s8 p H8 (.ref D) [y] _ [v] (λ_ H9=>∃C,C<n/\W _ C _ p H9) I8 rfl (.cons r8 .nil) ⟨D,I,y,rfl,rfl,hD8,hlen,q8⟩) λw s9 ⟨_,H9,I9,_,q9⟩=>?_));exact ac (ac ⟨rfl,again I9 q9⟩)
def Jy (k:Nat)(js:List Nat)(a:Sg):Sg:=ar k none++js.map λj=>(a[j]?).getD none
section
variable {X:Cx}
abbrev qx (X:Cx)(scope:Scope)(N':List Str)(P:Cx->Prop):Prop:=∀cl C s3 H3 fp pins,P (o9 X scope N' cl C s3 H3 fp pins)
abbrev Xg (X:Cx)(scope:Scope)(N':List Str)(E:XK)(P:Cx->Prop):Prop:=∀cl C s3 H3 fp pins xe,wR (DG X.prog X.w) (XE (o9 X scope N' cl C s3 H3 fp pins) xe) E->P (XE (o9 X scope N' cl C s3 H3 fp pins) xe)
structure G5 (X:Cx) (scope:Scope) (N':List Str) (k:Nat) (js:List Nat):Prop where
 len:N'.length=k+js.length
 cap:∀(i j:Nat),js[i]?=some j->∃x,N'[k+i]?=some x/\X.N[j]?=some x/\pU X.env.scope x/\scope.names.lookup x=some .free/\(X.env.kindOf x=some .cell\/X.env.kindOf x=some .free)
def jM {E:XK}(hp:GL X E){tg iter elt:Expr}{ifs:List Expr}{scope:Scope}{pos pos':Pos}{N':List Str}{k:Nat}{js:List Nat}{wi:TI}{g:TG}{tt:TT}{te:TE}{use:Option (Value->Sem Unit)}(S:rR X scope)(CP:G5 X scope N' k js)(hc:X.calm=true)
  (hi:PI X tg iter wi) (hg:qx X scope N' λXC=>PG XC tg g) (ht:qx X scope N' λXC=>PIf XC ifs tt) (he:Xg X scope N' E λXC=>PE XC elt te) {a:List (Addr×Obj)} {N:Sg} {H:Hp} {s:Shared} {Q:Value->Shared->Prop} {F:Addr->Hp->Prop} (I:L2.Inv X a N H s)
  (h:wi N H λJ H1=>∀D,H1 D=none->∃W,(∃m,W 0 m [] (Jy k js N) (kj H1 D (.lst [])))/\wI J D g tt te (λ_ H'=>F D H') W)
  (hQ:∀D C H' O,L2.Inv X a N H' O->F D H'->H' C=none->(X.s₀.1.1.size<=C)->C≠X.env.locals->(∀x c,X.env.cells.lookup x=some c->c≠C)->(∀p∈X.pn++a,p.1≠C)->(∃m,O.heap.Ns C m)->compPost 07 X.A X.xe use Q (.ref D) C (.ok .next) O)
  (hs:∀x,foldedSetIterable iter X.env x=pure x:=by intro _;rfl):
  wpAny 07 X.A (comprehension (.ListComp elt [⟨tg,iter,ifs,0⟩] scope pos) scope X.env pos' (newList []) false (eval iter X.env) use) Q X.xe s:=by
 obtain⟨cl,ecl,hcl,hcf⟩:=qt (scope:=scope) (env:=X.env) λx hx hf=>I.ok.has x.1 (S.fre x hx hf);refine wpAny_comprehension_free rfl hs ecl S.kind S.loc ?_;refine mN (hi a s N H _ I h) λv s1 h1=>mN h1 λitv d M=>?_;obtain⟨it,fp,tn,J,H2,e,I2,TJ,nT,f2,q2⟩:=M;subst e;refine aO ?_;have hD:=I2.hok.fresh (aq _);have r:L2.Inv X a N (kj H2 d.1.1.size (.lst [])) {d with heap:=d.heap.push {cls:=.type "list",data:=.seq _} }:=
  I2.laid (t':=d.toks) (λb u e=>aa _ e) (aq _) ⟨aU _,[],_,.nil,ai _ rfl⟩
 obtain⟨W,⟨m0,w0⟩,turn⟩:=q2 d.1.1.size hD;have f3:∀b∈fp,wF X a (kj H2 d.1.1.size (.lst [])) b:=λb l=>by
  obtain⟨o,P,_⟩:=TJ.obj _ _ nT b l;exact⟨by rw[zg (aD (av P))];exact(f2 b l).1,(f2 b l).2⟩
 have o3:∀b∈fp,∃o,(d.heap.push {cls:=.type "list",data:=.seq ([]:List Value).toArray}).get? b=some o:=λb l=>by
  obtain⟨o,P,_⟩:=TJ.obj _ _ nT b l;exact⟨o,aa _ P⟩
 refine wpAny_newFunctionEnv S.nocell (by intro y hy;simp at hy) (λh4 B L=>?_) S.kind
 generalize hG:d.heap.push _=G3 at r o3 B L⊢;have s3e:∃f:Shared,f={d with heap:=G3}:=⟨_,rfl⟩;obtain⟨f,U⟩:=s3e;have hh3:f.heap=d.heap.push {cls:=.type "list",data:=.seq ([]:List Value).toArray}:=by rw[U,hG]
 have hg3:G3=f.heap:=by rw[U]
 rw[←U]at r;rw[hg3]at B L o3;have k4:=λb o e=>L.extBut b o (aD (av e)) (aa _ e);have IC:=qu (N':=N') (cl:=cl) (fp:=fp) (σ':=Jy k js N) (tk:=f.toks+([]:List (Str×Value)).length) r S hc hcl hcf f3 o3 B k4 (by unfold Jy;simp[CP.len]) (λi x v h1 M=>by
  unfold Jy at M
  by_cases hik:i<k
  ·rw[b6 (by simpa using hik),b7,if_pos hik]at M
   cases M
  ·have hk':k<=i:=by omega
   rw[aW (by simpa using hk'),aY,aw]at M
   cases ej:js[i-k]? with
   |none=>rw[ej]at M;cases M
   |some j=>
    rw[ej]at M;obtain⟨y,e1,e2,e3,e4,e5⟩:=CP.cap (i-k) j ej;have:k+(i-k)=i:=by omega
    rw[this,h1]at e1;cases e1;refine⟨j,e2,?_,e3,e4,e5⟩;have h2':some ((N[j]?).getD none)=some (some v):=M;cases ez:N[j]? with
    |none=>rw[ez]at h2';cases h2'
    |some z=>rw[ez]at h2';exact congrArg some (aF h2'))
 have TC:Uw _ _ _ tg J fp it tn:=TJ;have t4:tn 0 h4:=TJ.keep _ _ _ nT λb l o e=>k4 b o (by rw[hh3];exact aa _ e)
 have fC:∀b∈fp,wF (o9 X scope N' cl f.1.1.size f (kj H2 d.1.1.size (.lst [])) fp a) [] _ b:=λb l=>by
  obtain⟨q0,q1,q2,q3,q4,q5⟩:=f3 b l;obtain⟨o,P⟩:=o3 b l;refine⟨q0,aD (av P),λhb'=>?_,.inl l,λx c e=>q4 x c (hcl _ _ e),λp hp=>?_⟩
  ·rcases au.mp (r.stkSub b hb')with z|z
   ·exact q1 z
   ·exact q2 z
  ·exact q5 p (by
    have:=hp;rwa[br]at this)
 have fin:∀(s5:Shared) (Z:Sg) (H5:Hp),L2.Inv (o9 X scope N' cl f.1.1.size f (kj H2 d.1.1.size (.lst [])) fp a) [] Z H5 s5->F d.1.1.size H5->compPost 07 X.A X.xe use Q _ f.1.1.size (.ok .next) s5:=λs5 Z H5 I5 q5=>by
  have J5:=r.call' (ch:=fp) I5.os I5.base I5.hok I5.bare λb l=>by
   obtain⟨q0,q1,q2,q3,q4,q5⟩:=f3 b l;exact⟨q3,q1,q4,q5⟩
  refine hQ _ _ H5 s5 J5 q5 I5.free r.sz (cM r.lt) (λx c e z=>?_) (λp hp z=>?_) (let ⟨m,hm,_⟩:=I5.loc;⟨m,hm⟩)
  ·obtain⟨v',o,P,_⟩:=r.cell x c e;exact absurd (av P) (by rw[z];exact bo _)
  ·exact absurd (av (r.pin p hp).1) (by rw[z];exact bo _)
 have pass:wR (DG X.prog X.w) (XE (o9 X scope N' cl f.1.1.size f (kj H2 d.1.1.size (.lst [])) fp a) (notedBy 07 X.A (compEnvC scope cl f.1.1.size X.env) λe O=>compPost 07 X.A X.xe use Q (.ref d.1.1.size) f.1.1.size (.error e) O)) E:=by
  intro pins1 σ1 H1 s1 e O I1 c1;have J1:=r.call' I1.os I1.base I1.hok I1.bare λb l=>by
   obtain⟨q0,q1,q2,q3,q4,q5⟩:=f3 b l;exact⟨q3,q1,q4,q5⟩
  obtain⟨m1,hm1,_⟩:=I1.loc;refine mN (hp a N H1 s1 e O _ m1 _ _ J1 hm1 I1.free r.sz (λz=>?_) rfl c1) λ_ s'' q=>?_
  ·obtain⟨_,o,P,_⟩:=r.stack.mem z;exact absurd (av P) (bo _)
  ·cases use<;>exact q
 have G:=uf (X:=XE (o9 X scope N' cl _ f _ fp _) (notedBy _ X.A _ λe O=>compPost _ X.A _ use Q _ _ _ O)) (iter:=iter) (scope:=scope) (pos:=pos) (λ_ _ z=>z) hc TC (EH rfl (hg _ _ _ _ _ _)) (HQ rfl (ht _ _ _ _ _ _)) (he _ _ _ _ _ _ _ pass) W turn (λs5 Z H5 I5=>fin s5 Z H5 (qw I5)) w0 (UH IC) t4 fC;rw[U]at G;exact codeAny_compStart_list G (TJ.self _ _ _ _ _ t4 G)
end
def zq (g:T->En->R En)(ft:En->R Bool)(fe:En->R T):List T->En->R (List T)
 |[],_=>.ok []
 |t::ts,ρ=>(g t ρ).bind λρ1=>(ft ρ1).bind λk=>if k=true then (fe ρ1).bind λv=>(zq g ft fe ts ρ1).bind λvs=>.ok (v::vs)else zq g ft fe ts ρ1
noncomputable def U6:Option Sl->Sl
 |some (.vl t)=>.vl t
 |some (.ob k _)=>.oc k []
 |some (.oc k fs)=>.oc k fs
 |_=>.un
def Jz (k:Nat)(js:List Nat)(ρ:En):En:=ar k .un++js.map λj=>U6 ρ[j]?
noncomputable def quiet {c:Type}:R c->R c
 |.ok a=>.ok a
 |_=>.bad
def zo (g:T->En->R En)(ft:En->R Bool)(fe:En->R T)(k:Nat)(js:List Nat)(ρ:En)(ts:List T):R (List T):=if ts.length<=mR then quiet (zq g ft fe ts (Jz k js ρ))else .bad
def zE (a:En->R (List T))(g:T->En->R En)(ft:En->R Bool)(fe:En->R T)(k:Nat)(js:List Nat):En->R T:=λρ=>(a ρ).bind λts=>(zo g ft fe k js ρ ts).bind λvs=>.ok (.lst vs)
def o0 (c:TG)(g:T->En->R En):Prop:=∀Y B ρ a H v x Q,SI Y B ρ a H->Rep B v x->(match g x ρ with|.ok ρ'=>∀σ',SI Y B ρ' σ' H->Q σ' H|_=>False)->c v a H Q
def UJ (i:Nat):o0 (Zh i) (zB i):=λY B ρ a H v x Q I r q=>q _ (I.setV i r)
def VM (K:aj)(i j:Nat):o0 (X4 K 2 (jV (Zh i) (jV (Zh j) G1))) (zS i j):=λY B ρ e H v t Q I r q=>by
 cases r with
 |@tup l xs ts h r=>
  cases r with
  |nil=>exact q.elim
  |cons c a=>
   cases a with
   |nil=>exact q.elim
   |cons d a=>
    cases a with
    |cons _ _=>exact q.elim
    |nil=>exact⟨l,_,rfl,SqT.of (I.sB _ _ h),rfl,_,_,rfl,_,_,rfl,rfl,q _ ((I.setV i c).setV j d)⟩
 |_=>exact q.elim
def SI.blockS {Y:Fx}{B:Hp}{ρ:En}{p:Sg}{H J:Hp}(I:SI Y B ρ p H)(k:Nat)(js:List Nat)(E:XK)(s:zi H J):SI ⟨B,H,E,Y.cl,[]⟩ B (Jz k js ρ) (Jy k js p) J where
 s0:=I.sB
 sH:=s
 sB:=I.sB.trans s
 old:=λ_ _ _=>rfl
 len:=by unfold Jz Jy;simp
 vl:=λi t h=>by
  unfold Jz at h;unfold Jy
  by_cases g:i<k
  ·rw[b6 (by simpa using g),b7,if_pos g]at h;cases h
  ·have l:k<=i:=by omega
   rw[aW (by simpa using l),aY,aw]at h⊢
   cases o:js[i-k]? with
   |none=>rw[o]at h;cases h
   |some j=>
    rw[o]at h;have h':U6 ρ[j]?=.vl t:=aF h;unfold U6 at h';split at h'
    ·rename_i u e;cases h';obtain⟨v,U,r⟩:=I.vl j _ e;exact⟨v,by show some ((p[j]?).getD none)=_;rw[U];rfl,r⟩
    all_goals cases h'
 ow:=λi ts h=>by
  exfalso;unfold Jz at h
  by_cases g:i<k
  ·rw[b6 (by simpa using g),b7,if_pos g]at h;cases h
  ·have l:k<=i:=by omega
   rw[aW (by simpa using l),aY,aw]at h
   cases o:js[i-k]? with
   |none=>rw[o]at h;cases h
   |some j=>
    rw[o]at h;have h':U6 ρ[j]?=.ow ts:=aF h;unfold U6 at h';split at h'<;>cases h'
 xc:=λi c h=>by
  exfalso;unfold Jz at h
  by_cases g:i<k
  ·rw[b6 (by simpa using g),b7,if_pos g]at h;cases h
  ·have l:k<=i:=by omega
   rw[aW (by simpa using l),aY,aw]at h
   cases o:js[i-k]? with
   |none=>rw[o]at h;cases h
   |some j=>
    rw[o]at h;have h':U6 ρ[j]?=.xc c:=aF h;unfold U6 at h';split at h'<;>cases h'
 st:=by
  have get:∀(i:Nat) (x:Sl),x.isO=true->(Jz k js ρ)[i]?=some x->∃j,js[i-k]?=some j/\k<=i/\U6 ρ[j]?=x:=λi x P h=>by
   unfold Jz at h
   by_cases g:i<k
   ·rw[b6 (by simpa using g),b7,if_pos g]at h
    cases h;cases P
   ·have l:k<=i:=by omega
    rw[aW (by simpa using l),aY,aw]at h
    cases o:js[i-k]? with
    |none=>rw[o]at h;cases h
    |some j=>
     rw[o]at h;exact⟨j,rfl,l,aF h⟩
  refine⟨[],λ_=>none,ig _,λi os h=>?_,λi _ os _ h=>?_,λi S n h=>?_,λi S fs h=>?_,λi os h=>?_⟩
  ·obtain⟨j,_,_,e⟩:=get i _ rfl h;unfold U6 at e;split at e<;>cases e
  ·obtain⟨j,_,_,e⟩:=get i _ rfl h;unfold U6 at e;split at e<;>cases e
  ·obtain⟨j,_,_,e⟩:=get i _ rfl h;unfold U6 at e;split at e<;>cases e
  ·obtain⟨j,o,l,e⟩:=get i _ rfl h;have L:(Jy k js p)[i]?=some ((p[j]?).getD none):=by
    unfold Jy;rw[aW (by simpa using l),aY,aw,o];rfl
   obtain⟨Z,O,x⟩:=I.st;unfold U6 at e;split at e
   ·cases e
   ·rename_i M X q;cases e;obtain⟨a,C,D,vs,_,y,G,F,_,_,w⟩:=x.ob j _ _ q;exact⟨a,C,D,vs,by rw[L,y];rfl,G,F,w,λm f d z=>by cases z⟩
   ·rename_i M Q q;cases e;obtain⟨a,C,D,vs,y,G,F,w,N⟩:=x.oc j _ _ q;exact⟨a,C,D,vs,by rw[L,y];rfl,G,I.sH _ _ F,w,N.mono (zi.refl _) I.sH⟩
   ·cases e
  ·obtain⟨j,_,_,e⟩:=get i _ rfl h;unfold U6 at e;split at e<;>cases e
def SI.block {Y:Fx}{B:Hp}{ρ:En}{a:Sg}{H H3:Hp}{D:Addr}(I:SI Y B ρ a H)(k:Nat)(js:List Nat)(E:XK)(c:H D=none)(o:HO):SI ⟨B,H,E,Y.cl,[]⟩ B (Jz k js ρ) (Jy k js a) (kj H D o):=I.blockS k js E (zi.new c _)
def SI.acc {Y:Fx}{B:Hp}{ρ:En}{f:Sg}{H:Hp}{D:Addr}(I:SI Y B ρ f H)(w:B D=none)(v:Y.H0 D=none)(y:∀(i:Nat) (ts:List T),ρ[i]?=some (Sl.ow ts)->f[i]?≠some (some (V.ref D)))(c:∀(i:Nat) (x:Sl),ρ[i]?=some x->Sl.isS x=true->False)(o:HO):SI Y B ρ f (kj H D o) where
 s0:=I.s0
 sH:=λb u h=>by
  rw[zg (λz=>by subst z;rw[v]at h;cases h)];exact I.sH b u h
 sB:=λb u h=>by
  rw[zg (λz=>by subst z;rw[w]at h;cases h)];exact I.sB b u h
 old:=I.old
 len:=I.len
 vl:=I.vl
 ow:=λi ts h=>by
  obtain⟨a,xs,e,l,g,q,r,d⟩:=I.ow i ts h;refine⟨a,xs,e,l,g,?_,r,d⟩;rw[zg (λz=>y i ts h (by rw[e,z]))];exact q
 xc:=I.xc
 st:=let ⟨as,O,x⟩:=I.st;⟨as,O,x.pre,λi os h=>c i _ h rfl|>.elim,λi j os p h=>c i _ h rfl|>.elim,λi k n h=>c i _ h rfl|>.elim,x.oc,λi os h=>c i _ h rfl|>.elim⟩
def kU (ρ:En):Prop:=∀(i:Nat) (x:Sl),ρ[i]?=some x->(∀ts,x≠Sl.ow ts)/\(x.isS=true->False)
def UK (k:Nat)(js:List Nat)(ρ:En):kU (Jz k js ρ):=λi x h=>by
 unfold Jz at h
 by_cases a:i<k
 ·rw[b6 (by simpa using a),b7,if_pos a]at h
  cases h;exact⟨λ_=>Sl.noConfusion,az⟩
 ·have c:=by omega
  rw[aW (by simpa using c),aY,aw]at h
  cases d:js[i-k]? with
  |none=>rw[d]at h;cases h
  |some j=>
   rw[d]at h;have h':U6 _=x:=aF h;unfold U6 at h';split at h'<;>(subst h';exact⟨λ_=>Sl.noConfusion,az⟩)
def Wi {ρ:En}{i:Nat}{t:T}(h:kU ρ):kU (ρ.set i (.vl t)):=λj x e=>by
 rcases zx e with ⟨_,z⟩|⟨_,z⟩
 ·subst z;exact⟨λ_=>Sl.noConfusion,az⟩
 ·exact h j x z
def oY (g:T->En->R En):Prop:=(∀t ρ ρ',kU ρ->g t ρ=.ok ρ'->kU ρ')/\∀t ρ c,g t ρ≠.ex c
def UL (i:Nat):oY (zB i):=⟨λt ρ ρ' h e=>by
 cases e;exact Wi h,λt ρ c e=>by cases e⟩
def VN (i j:Nat):oY (zS i j):=⟨λt ρ ρ' h e=>(by
 unfold zS at e;split at e
 ·cases e;exact Wi (Wi h)
 ·cases e),λt ρ c e=>by unfold zS at e;split at e<;>cases e⟩
section
variable {X:Cx}{Y:Fx}{tg iter elt:Expr}{ifs:List Expr}{scope:Scope}{pos pos':Pos}{N':List Str}{k:Nat}{js:List Nat}{fi:En->R (List T)}{tG:TG}{g:T->En->R En}{ft:En->R Bool}{fe:En->R T}
structure Jw (X:Cx) (Y:Fx) (ifs:List Expr) (f:En->R Bool):Prop where
 mk::
 go:∀ρ,PIf X ifs (tS Y rE f ρ)
instance {X:Cx}{Y:Fx}{ifs:List Expr}{f:En->R Bool}:CoeFun (Jw X Y ifs f) λ_=>∀ρ,PIf X ifs (tS Y rE f ρ):=⟨Jw.go⟩
def PIf.imp {X:Cx}{e:List Expr}{t t':TT}(h:PIf X e t)(i:∀a H Q,t' a H Q->t a H Q):PIf X e t':=λc s a H Q I q=>h _ s a H Q I (i a H Q q)
def Z2:En->R Bool:=λ_=>.ok true
def F2 {X:Cx}:Jw X Y [] Z2:=.mk λρ=>PIf.imp qv λa H Q ⟨B,I,q⟩=>ZR I q rfl
def Fk {X:Cx}{c:Expr}(h:ua X Y c ft):Jw X Y [c] ft:=.mk λρ=>kT (h ρ)
noncomputable def tJ (r:R (List T))(P:List T->Prop)(Z:Nat->Prop):Prop:=match r with
 |.ok vs=>P vs
 |.ex c=>Z c
 |.bad=>False
def Y4 {O L:Hp}{σ:Sg}{ρ:En}{J:It}{ts:List T}{r:R (List T)}{D:Addr}{E0:XK}(hG:o0 tG g)(hN:oY g)(I:SI Y O ρ σ L)(rI':rI O L J ts)(hl:ts.length<=mR)(ev:zq g ft fe ts (Jz k js ρ)=r)(hD:L D=none){F:Hp->Prop}
  (hF:tJ r (λvs=>∀f xs l,zi L f->f D=some (.lst xs)->zr l xs vs->zi l (zy O L f)->l D=none->zi O l->F f) λc=>∀d f,zi L f->zi O f->E0 (Y.cl c) d f):
  ∃W,(∃m,W 0 m [] (Jy k js σ) (kj L D (.lst [])))/\wI J D tG (λσ H Q=>∃Y' ρ',Y'.cl=Y.cl/\tS Y' rE ft ρ' σ H Q) (λσ H Q=>∃Y' ρ',Y'.cl=Y.cl/\Y'.E=E0/\tS Y' rC fe ρ' σ H Q) (λ_ f=>F f) W:=by
 refine⟨λi m ys σ' f=>m=ts.length-i/\i<=ts.length/\ys.length<=i/\f D=some (.lst ys)/\∃ρ' l us,SI ⟨O,L,E0,Y.cl,[]⟩ l ρ' σ' f/\kU ρ'/\zi O l/\l D=none/\zr l ys us/\((zq g ft fe (ts.drop i) ρ').bind λws=>.ok (us++ws))=r,
  ⟨ts.length,by simp,aU _,aU _,zf,_,O,[],I.block (H3:=L) k js _ hD _,UK k js ρ,zi.refl _,I.sB.free hD,.nil,by rw[eV,ev];cases r<;>rfl⟩,?_⟩
 rintro i m ys σ' f ⟨rfl,hi,hyl,M,ρ',l,us,I',no',C,bD,r',U⟩
 refine⟨M,?_⟩;obtain⟨hgo,hyld,hstop⟩:=rI' l f C I'.sB;have tD:∀N,zi f N->zy l f N D=none:=λN s=>by rw[zI M];exact bD
 by_cases G:i<ts.length
 ·refine .inr ⟨hgo i G,λx N y=>?_⟩;obtain⟨s2,r2⟩:=hyld i _ x N (ah G) y;rw[cy G]at U;unfold zq at U;have I2:=I'.grow s2;refine hG _ _ ρ' σ' N x _ _ I2 r2 ?_;cases eg:g ts[i] ρ' with
  |bad=>rw[eg]at U;subst U;exact hF
  |ex c=>exact(hN.2 _ _ _ eg).elim
  |ok ρ1=>
   rw[eg]at U;have P:=hN.1 _ _ _ no' eg;intro σ1 J1;refine⟨⟨O,L,E0,Y.cl,[]⟩,ρ1,rfl,_,J1,?_⟩;have p:((ft ρ1).bind (λk=>if k=true then (fe ρ1).bind λv=>(zq g ft fe (ts.drop (i+1)) ρ1).bind λvs=>.ok (v::vs)else zq g ft fe (ts.drop _) ρ1)).bind (λws=>.ok _)=r:=U
   cases ef:ft ρ1 with
   |bad=>rw[ef]at p;subst p;exact hF
   |ex c=>
    rw[ef]at p;subst p;exact λd f a b=>hF d f a ((C.trans (zy.ge I'.sB s2)).trans b)
   |ok kk=>
    rw[ef]at p;intro b H3 s3 eb;have eb':=eb;subst eb';have ew2:=p;have J2:=J1.grow s3;have Z:H3 D=some _:=s3 _ _ (s2 _ _ M);have bD3:zy (zy l f N) N H3 D=none:=by rw[zI (s2 _ _ M)];exact tD N s2
    have S:=(zy.ge I'.sB s2).trans (zy.ge I2.sB s3);cases b with
    |false=>exact⟨ts.length-(i+1),by omega,rfl,G,by omega,Z,ρ1,_,us,J2,P,C.trans S,bD3,r'.mono S,ew2⟩
    |true=>
     refine⟨⟨O,L,E0,Y.cl,[]⟩,ρ1,rfl,rfl,_,J2,?_⟩;have B:=ew2;cases ee:fe ρ1 with
     |bad=>rw[ee]at B;subst B;exact hF
     |ex c=>
      rw[ee]at B;subst B;exact λd f a b=>hF d f a ((C.trans S).trans b)
     |ok v=>
      rw[ee]at B;have ew4:=B;have ew5:(zq g ft fe (ts.drop (i+1)) ρ1).bind (λws=>.ok ((us++[v])++ws))=r:=by
       rw[←ew4];cases zq g ft fe _ ρ1 with
       |ok ws=>show R.ok _=R.ok _;rw[bN];rfl
       |_=>rfl
      intro w H4 s4 rw4;have hD4:=s4 _ _ Z;have J3:=J2.grow s4;have bD4:zy (zy (zy l f N) N H3) H3 H4 D=none:=by rw[zI Z];exact bD3
      have sB4:=S.trans (zy.ge J2.sB s4);refine⟨hD4,aL (b9 hyl G) (ZD hl),ts.length-(i+1),by omega,rfl,G,by rw[aB,aM];omega,zf,ρ1,_,us++[v],?_,P,C.trans sB4,bD4,(r'.mono sB4).append (.cons rw4 .nil),ew5⟩
      exact J3.acc bD4 hD (λj ts' e=>((P j _ e).1 ts' rfl).elim) (λj x e=>(P j x e).2) _
 ·have e:i=ts.length:=by omega
  subst e;refine .inl ⟨hstop _ (aq _),?_⟩;rw[dS]at U;have ew':R.ok _=r:=U;rw[br]at ew';subst ew';refine hF f ys l I'.sH M r' (λb o h=>?_) bD C;cases q:L b with
  |none=>rw[zJ q];exact I'.sB b o h
  |some u=>
   rw[zI q];have z:l b=O b:=I'.old b u q;rw[←z];exact h
def jN {f d:Hp}{e:Sg}{ρ:En}{J:It}{ts vs:List T}{D:Addr}(u:o0 tG g)(p:oY g)(I:SI Y f ρ e d)(j:rI f d J ts)(r:ts.length<=mR)(q:zq g ft fe ts (Jz k js ρ)=.ok vs)(l:d D=none){F:Hp->Prop}
  (o:∀a xs i,zi d a->a D=some (.lst xs)->zr i xs vs->zi i (zy f d a)->i D=none->zi f i->F a):
  ∃W,(∃m,W 0 m [] (Jy k js e) (kj d D (.lst [])))/\wI J D tG (λe H Q=>∃c ρ',c.cl=Y.cl/\tS c rE ft ρ' e H Q) (λe H Q=>∃c ρ',c.cl=Y.cl/\(c.E=λ_ _ _=>False)/\tS c rC fe ρ' e H Q) (λ_ a=>F a) W:=Y4 u p I j r q l o
structure Jk (X:Cx) (Y:Fx) (tg iter elt:Expr) (ifs:List Expr) (scope:Scope) (N':List Str) (k:Nat) (js:List Nat) (fi:En->R (List T)) (tG:TG) (g:T->En->R En) (ft:En->R Bool) (fe:En->R T):Prop where
 sc:rR X scope
 cp:G5 X scope N' k js
 cm:X.calm=true
 it:Wh X Y tg iter fi
 gt:qx X scope N' λXC=>PG XC tg tG
 gk:o0 tG g
 gn:oY g
 tt:∀Y',Y'.cl=Y.cl->qx X scope N' λXC=>Jw XC Y' ifs ft
 el:∀Y',Y'.cl=Y.cl->Xg X scope N' Y'.E λXC=>Snd XC Y' elt fe
 hs:∀x,foldedSetIterable iter X.env x=pure x
def Xh (C:Jk X Y tg iter elt ifs scope N' k js fi tG g ft fe):Snd X Y (.ListComp elt [⟨tg,iter,ifs,0⟩] scope pos) (zE fi g ft fe k js):=.mk λρ=>by
 intro i s f H Q I ⟨B,J,q⟩;refine jM (ZU rfl) (F:=λD u=>Q (.ref D) u) (te:=λf H Q=>∃a ρ',a.cl=Y.cl/\(a.E=λ_ _ _=>False)/\tS a rC fe ρ' f H Q) (tt:=λf H Q=>∃a ρ',a.cl=Y.cl/\tS a rE ft ρ' f H Q) C.sc C.cp C.cm (C.it ρ) C.gt
  (λcl p G H3 fp i j s f H Q I ⟨a,ρ',w,q⟩=>C.tt a w cl p G H3 fp _ ρ' _ s f H Q I q) (λcl p G H3 fp i xe hp j s f H Q I ⟨a,ρ',w,eE,q⟩=>C.el a w cl p G H3 fp _ xe (eE▸hp) ρ' _ s f H Q I q) I ?_ ?_ C.hs
 ·refine step J q λts P N _ s1 r1 J1 d=>?_;intro D L;unfold zo at d;split at d
  ·rename_i hl;cases v:zq g ft fe ts _ with
   |bad=>rw[v]at d;exact d.elim
   |ex c=>rw[v]at d;exact d.elim
   |ok vs=>
    rw[v]at d;refine jN C.gk C.gn J1 r1 hl v L λu xs B' M e' r' l' b' Z=>?_;refine(show Po Y rC _ N _ Q from d) _ u M ?_;exact .lst (by rw[zJ L];exact e') (r'.mono l')
  ·exact d.elim
 ·intro D Cc u M U q' hC S hL l r x;obtain⟨m,O⟩:=x;refine⟨m,O,λh' y=>⟨.ref D,u,?_,rfl,q'⟩⟩;exact U.turned (λb o hb e=>y.extBut b o hb e) hC (aT hL).symm (.inr S) l r
end
section
variable {X:Cx}{Y:Fx}{tg iter elt:Expr}{ifs:List Expr}{scope:Scope}{pos pos':Pos}{N':List Str}{k:Nat}{js:List Nat}{fi:En->R (List T)}{tG:TG}{g:T->En->R En}{ft:En->R Bool}{fe:En->R T}
def FU {i:Nat}{x:Str}{pc p':Pos}(C:Jk X Y tg iter elt ifs scope N' k js fi tG g ft fe)(hN:X.N.Nodup)(hi:X.N[i]?=some x)(hx:L2.Loc X.env.scope x)
  (hsw:swapsWith (.ListComp elt [⟨tg,iter,ifs,0⟩] scope pc) (some (.Name x p')) pos.line X.env=pure true) (hf:X.fn x=true\/X.env.scope.names.lookup x=some .local:=by first|exact .inl rfl|exact .inr rfl|assumption):
  Wg X Y (.Assign [.Name x p'] (.ListComp elt [⟨tg,iter,ifs,0⟩] scope pc) pos) (zG i (zE fi g ft fe k js)):=.mk λρ=>by
 intro p s l H D I ⟨B,J,q⟩;rw[exec_Assign_Name_used _ _ _ _ hsw];refine a8 (d_ (a8 ?_));refine a8 (mN (jM (ZU rfl) (F:=λM L=>D.nx (l.set i (some (.ref M))) L) (te:=λl H Q=>∃f ρ',f.cl=Y.cl/\(f.E=λ_ _ _=>False)/\tS f rC fe ρ' l H Q) (tt:=λl H Q=>∃f ρ',f.cl=Y.cl/\tS f rE ft ρ' l H Q) C.sc C.cp C.cm (C.it ρ) C.gt
  (λcl r s3 H3 fp p u s l H Q I ⟨f,ρ',P,q⟩=>C.tt f P cl r s3 H3 fp _ ρ' _ s l H Q I q) (λcl r s3 H3 fp p xe hp u s l H Q I ⟨f,ρ',P,eE,q⟩=>C.el f P cl r s3 H3 fp _ xe (eE▸hp) ρ' _ s l H Q I q) I ?_ ?_ C.hs) λ_ G hq=>ac (ac hq))
 ·have q':PoS Y B (((fi ρ).s λts=>(zo g ft fe k js ρ ts).s λvs=>.nx (ρ.set i (.vl (.lst vs))))) D:=by
   unfold zG zE at q;revert q;cases fi ρ with
   |bad=>exact λq=>q
   |ex c=>exact λq=>q
   |ok ts=>
    intro q;have q2:PoS Y B (((zo g ft fe k js ρ ts).bind λvs=>R.ok _).s λt=>RS.nx _) D:=q;show PoS Y B ((zo g ft fe k js ρ ts).s λvs=>RS.nx _) D;revert q2;cases zo g ft fe k js ρ ts with
    |bad=>exact λq=>q
    |ex c=>exact λq=>q
    |ok vs=>exact λq=>q
  refine jY J q' λts it' H1 _ s1 r1 Z j=>?_;intro M hD;unfold zo at j;split at j
  ·rename_i hl;cases O:zq g ft fe ts _ with
   |bad=>rw[O]at j;exact j.elim
   |ex c=>rw[O]at j;exact j.elim
   |ok vs=>
    rw[O]at j;refine jN C.gk C.gn Z r1 hl O hD λL xs B' G e' r' l' b' sb'=>?_;have rr:Rep _ _ _:=.lst (by rw[zJ hD];exact e') (r'.mono l')
    exact j _ _ _ (zy.ge Z.sB G) ((Z.grow G).setV i rr)
  ·exact j.elim
 ·intro M Cc L G I' q' hC h0 hL d w hns;obtain⟨m,hm⟩:=hns;refine wpAny_assign_Name (WT (v:=.ref M) I' hN hi hx rfl (λs'' U ⟨a,hsb,ha⟩=>?_) hf);have S:Cc≠a:=by
   rcases ha with rfl|ha
   ·exact hL
   ·exact(d x a ha).symm
  refine⟨m,hm.sameBut hsb S,λh' y=>⟨_,L,?_,q'⟩⟩;exact U.turned (λb o hb e=>y.extBut b o hb e) hC hL (.inr h0) d w
end
noncomputable def Dn (x:Str):It:=⟨λi _=>i<x.cps.size,λi H v a=>a=H/\∃c,x.cps[i]?=some c/\v=.str ⟨#[c]⟩,λi _=>x.cps.size<=i⟩
def wU {P:Program}{w:World}{K:aj}{tg:Expr}{x:Str}{t:Tok}{g:String}(it:Addr)(f:g="str_ascii_iterator"\/g="str_iterator"):Uw P w K tg (Dn x) [it] it (λi h=>h.IsStrIter it g x t i):=by
 have W:∀A:Around,A.handled=none->Walks P w A it [it] [it] x.cps.size (SignAt x) (λi h=>h.IsStrIter it g x t i):=λA N=>by
  rcases f with rfl|rfl
  ·exact Walks.strAscii N it x t
  ·exact Walks.strWide N it x t
 have hn:["enumerate","zip","dict_itemiterator","dict_reverseitemiterator","odict_iterator","itertools.zip_longest","itertools.pairwise"].contains g=false:=by rcases f with rfl|rfl<;>decide
 refine⟨by simp,λi h st b a=>?_,λi h h' st k=>?_,?_,?_,λA i s Q E st h=>?_⟩
 ·have e:b=it:=by simpa using a
  subst e;obtain⟨o,e,c,d⟩:=st;exact⟨o,e,λv z=>by rw[d]at z;cases z⟩
 ·obtain⟨o,e,r⟩:=st;exact⟨o,k it (by simp) o e,r⟩
 ·intro X Z U hK F i l s O H E I C st L;obtain⟨D,y,f2,p,B,q⟩:=C it (by simp)
  refine(W X.A (I.ok.hd F)).item i s _ _ L st λv h' tk hv j S=>?_;obtain⟨c,u,J,rfl⟩:=hv;have I1:L2.Inv X _ O H {s with heap:=h',toks:=tk}:=I.turned (λb o a e=>S b o (by simpa using a) e) D y p B q
  obtain⟨o,e,cl,d⟩:=id j;exact⟨_,rfl,yS e cl d hn ⟨.str _,H,I1,⟨u,rfl⟩,⟨rfl,c,J,rfl⟩,j,λb a=>(C b a).1⟩⟩
 ·intro X Z U hK F i l s O H E I C st L;obtain⟨D,y,f2,p,B,q⟩:=C it (by simp)
  have M:=bW L;rcases f with rfl|rfl
  ·exact wpAny_pyNext_ascii_end (I.ok.hd F) st M λh' G=>⟨rfl,I.turned (λb o a e=>G b o a e) D y p B q⟩
  ·exact wpAny_pyNext_wide_end (I.ok.hd F) st M λh' G=>⟨rfl,I.turned (λb o a e=>G b o a e) D y p B q⟩
 ·rcases f with rfl|rfl
  ·exact wpAny_pyIter_striter_ascii st h
  ·exact wpAny_pyIter_striter_wide st h
noncomputable def JW (x:Str):List T:=x.cps.toList.map λc=>T.str ⟨#[c]⟩
def VO {g f:Hp}{x:Str}:rI g f (Dn x) (JW x):=λo l p k=>by
 have d:(JW x).length=x.cps.size:=by unfold JW;simp
 refine⟨λi hi=>by rw[d]at hi;exact hi,λi t v H3 e y=>?_,λi hi=>by rw[d]at hi;exact hi⟩
 obtain⟨rfl,c,j,rfl⟩:=y;refine⟨zi.refl _,?_⟩;unfold JW at e;rw[aw]at e;have a:x.cps.toList[i]?=some c:=by simpa using j
 rw[a]at e;cases e;exact .str _
section
variable {X:Cx}{Y:Fx}{a b c d tg:Expr}{fa fb fc fd:En->R T}{pos p:Pos}
def HL {l:Expr}{tl:TE}(F:PE X l tl):PI X tg l (λr H R=>tl r H λx f=>(∃a,x=.ref a/\(((∃xs,SqL X.K f a xs)/\R (oX X.K a) f)\/((∃xs,SqT X.K f a xs)/\R (tj X.K a) f)))\/(∃z,x=.str z/\R (Dn z) f)):=by
 intro w s r H R I h;refine mN (F _ s r H _ I h) λv g ⟨x,f,i,u,C⟩=>?_;have ok:∀b∈[g.1.1.size],wF X _ f b:=λb D=>by
  have e:=by simpa using D
  subst e;exact i.fpOk (aq _) (i.hok.fresh (aq _))
 rcases C with ⟨a,e,q⟩|⟨z,e,q⟩
 ·subst e;obtain rfl:v=Value.ref a:=u;rcases q with ⟨⟨xs,j⟩,q⟩|⟨⟨xs,j⟩,q⟩
  ·obtain⟨k,B,p,hz⟩:=i.list j;exact cW p.isList ⟨g.1.1.size,[g.1.1.size],_,_,f,rfl,i.kept λb o e=>aa _ e,WV a _,⟨_,ai _ rfl,rfl,rfl⟩,ok,q⟩
  ·obtain⟨k,B,p,hz⟩:=i.tuple j;exact cQ (show g.heap.IsTuple a _ from p) ⟨g.1.1.size,[g.1.1.size],_,_,f,rfl,i.kept λb o e=>aa _ e,wN a _,⟨_,ai _ rfl,rfl,rfl⟩,ok,q⟩
 ·subst e;obtain⟨t,rfl⟩:=u;cases y:z.cps.all _
  ·exact wpAny_pyIter_wide y ⟨g.1.1.size,[g.1.1.size],_,_,f,rfl,i.kept λb o e=>aa _ e,wU _ (.inr rfl),⟨_,ai _ rfl,rfl,rfl⟩,ok,q⟩
  ·exact wpAny_pyIter_ascii y ⟨g.1.1.size,[g.1.1.size],_,_,f,rfl,i.kept λb o e=>aa _ e,wU _ (.inl rfl),⟨_,ai _ rfl,rfl,rfl⟩,ok,q⟩
def Jl:T->R (List T)
 |.lst xs=>.ok xs
 |.tup xs=>.ok xs
 |.str x=>.ok (JW x)
 |_=>.bad
def Zj (fa:En->R T):En->R (List T):=λρ=>(fa ρ).bind Jl
def IQ (j:Snd X Y a fa):Wh X Y tg a (Zj fa):=.mk λρ=>PI.imp (HL (j ρ)) λk H R ⟨B,I,q⟩=>step I q λt v g _ o i e f=>by
 cases i with
 |@tup l xs ts h r=>
  exact .inl ⟨l,rfl,.inr ⟨⟨xs,SqT.of (e.sB _ _ h)⟩,ZR e (show Po Y rI _ g _ R from f) (HA h r)⟩⟩
 |@lst l xs ts h r=>
  exact .inl ⟨l,rfl,.inl ⟨⟨xs,SqL.of (e.sB _ _ h)⟩,ZR e (show Po Y rI _ g _ R from f) (Lk h r)⟩⟩
 |str z=>exact .inr ⟨z,rfl,ZR e (show Po Y rI _ g _ R from f) VO⟩
 |_=>exact f.elim
end
def Inv.laidT {X:Cx}{d:List (Addr×Obj)}{j:Sg}{H:Hp}{s:Shared}{h':Heap}{tk:Nat}{ch:List Addr}{a:Addr}{xs:List V}(I:L2.Inv X d j H s)(l:∀b∈ch,wF X d H b)(k:∀b o,b∉ch->s.heap.get? b=some o->h'.get? b=some o)
  (G:∀b o,b∈ch->s.heap.get? b=some o->∃C,h'.get? b=some C) (p:s.1.1.size<=a) (new:zQ X.prog X.w (kj H a (.tup xs)) h' a (.tup xs)):L2.Inv X d j (kj H a (.tup xs)) {s with heap:=h',toks:=tk}:=by
 have hn:=I.hok.fresh p;have i:∀b u,H b=some u->b∉ch:=λb u e g=>by rw[(l b g).1]at e;cases e
 refine I.call' rfl ⟨λb o e n _ f=>k b o f e,λb o e n _ f=>⟨o.slots,k b o f e⟩,λb o e n _=>by rw[zg (aD (aL (av e) p))];exact n,λb o e f=>⟨o,k b o f e⟩,
  λb r e=>by rw[zg (zD e hn)];exact e,λb o u e=>by rw[zg (zD e hn)];exact e,λb F q e=>by rw[zg (zD e hn)];exact e⟩ (λb u e=>?_) I.bare λb g=>?_
 ·by_cases g:b=a
  ·subst g;rw[zf]at e;cases e;exact new
  ·rw[zg g]at e;refine(I.hok b u e).stay (λc v f q=>?_) (λc q=>by rw[zg (zD q hn)];exact q) (λc r q=>by rw[zg (zD q hn)];exact q) λc o u q=>by rw[zg (zD q hn)];exact q
   rcases f with rfl|f
   ·exact k c v (i c u e) q
   ·exact k c v (i c _ f) q
 ·obtain⟨J,y,L,D,B,x⟩:=l b g;exact⟨D,y,B,x⟩
def DI (K:aj)(l:Addr):It:=
 ⟨λi H=>∃xs x,SqL K H l xs/\xs[i]?=some x,λi H v a=>∃p x,H p=none/\v=.ref p/\(∀xs,SqL K H l xs->xs[i]?=some x)/\a=kj H p (.tup [.int i,x]),λi H=>∃xs,SqL K H l xs/\xs.length<=i⟩
def qy {P:Program}{w:World}{K:aj}{C:List Expr}{kk:Nat}{pt:Pos}(e it l:Addr)(D:e≠it)(M:l≠e)(G:l≠it):
  Uw P w K (.Tuple C kk pt) (DI K l) [e,it] e (λi h=>(∃old,IsEnum h e it i old)/\h.IsListIter it l i) where
 mem:=by simp
 obj:=λi h st b a=>by
  obtain⟨⟨old,q⟩,o,e1,c,d⟩:=st;rcases au.mp a with rfl|a
  ·exact⟨_,q,λv z=>nomatch z⟩
  ·have z:b=it:=by simpa using a
   subst z;exact⟨o,e1,λv z=>by rw[d]at z;cases z⟩
 keep:=λi h h' st k=>by
  obtain⟨⟨old,q⟩,f⟩:=st;exact⟨⟨old,k e (by simp) _ q⟩,f.at λo x=>k it (by simp) o x⟩
 item:=by
  intro X J U hK S i L s σ H E I Q st hg;subst J U hK;obtain⟨xs,x,O,hx⟩:=hg;obtain⟨g,Z,p,hz⟩:=I.list O;obtain⟨u,hu,ru⟩:=Z.get hx;obtain⟨⟨old,q⟩,f⟩:=st;have hi:i<g.toArray.size:=by
   have:=(aP.mp hu).1;simpa using this
  refine(m8 (prog:=X.prog) (w:=X.w) (I.ok.hd S) e it l D M G g.toArray).item i s _ _ hi ⟨⟨old,q⟩,f,p.isList⟩ λT vals h' tk J hT N hM hk=>?_;obtain⟨t,y,hy,rfl⟩:=J;have hyu:y=u:=by
   have:g[i]?=some y:=by simpa using hy
   rw[hu]at this;exact(aF this).symm
  subst hyu;refine⟨.ref T,rfl,?_⟩;refine(m8 (prog:=X.prog) (w:=X.w) (I.ok.hd S) e it l D M G g.toArray).go C kk pt i T _ _ _ hM λh2 j F=>?_;have hTn:H T=none:=I.hok.fresh hT;have B:∀b∈[e,it],b≠T:=λb a z=>by
   obtain⟨_,_,_,h3,h4⟩:=hM;rcases au.mp a with rfl|a
   ·exact h3 z.symm
   ·have:b=it:=by simpa using a
    subst this;exact h4 z.symm
  have YC:IsTup h2 T #[.int i t,y]:=by
   obtain⟨o,eo,r⟩:=N;exact⟨o,F T o (λa=>B T a rfl) eo,r⟩
  refine⟨.ref T,kj H T (.tup [.int i,x]),Inv.laidT (s:=s) (h':=h2) (ch:=[e,it]) (tk:=tk) I Q (λb o a e=>F b o a (hk b o a e)) (λb o a _=>?_) hT ⟨by rw[c7];show 2<=16777216;decide,[.int i t,y],.cons ⟨t,rfl⟩ (.cons ru .nil),YC,.inl ⟨_,_,rfl⟩⟩,rfl,⟨T,x,hTn,rfl,λys hy=>by rw[I.list_inj hy O];exact hx,rfl⟩,⟨j.1,j.2.1⟩,λb a=>?_⟩
  ·obtain⟨⟨old2,he2⟩,⟨o2,eo2,_⟩,_⟩:=j;rcases au.mp a with rfl|a
   ·exact⟨_,he2⟩
   ·have:b=it:=by simpa using a
    subst this;exact⟨o2,eo2⟩
  ·rw[zg (B b a)];exact(Q b a).1
 done:=by
  intro X J U hK S i L s σ H E I Q st hg;subst J U hK;obtain⟨xs,O,hx⟩:=hg;obtain⟨g,Z,p,hz⟩:=I.list O;obtain⟨⟨old,q⟩,f⟩:=st;have hl:=Z.length;refine wpAny_pyNext_enum_end (I.ok.hd S) q f p.isList (bW (by simp;omega)) λh' hk=>⟨rfl,?_⟩
  obtain⟨f0,f1,f2,f3,f4,f5⟩:=Q it (by simp)
  exact I.turned (t':=s.toks) (λb o a e=>hk b o a e) f0 f1 f3 f4 f5
 self:=λ_ _ _ _ _ st h=>let ⟨⟨_,q⟩,_⟩:=st;wpAny_pyIter_enum q h
noncomputable def jt (xs:List T):List T:=(xs.zipIdx).map λp=>T.tup [.int (p.2:Nat),p.1]
def ug {xs:List T}{i:Nat}{t:T}(h:(jt xs)[i]?=some t):∃x,xs[i]?=some x/\t=.tup [.int (i:Nat),x]:=by
 unfold jt at h;rw[aw,iS]at h;cases e:xs[i]? with
 |none=>rw[e]at h;cases h
 |some x=>rw[e]at h;cases h;exact⟨x,rfl,by simp⟩
def Jm (xs:List T):(jt xs).length=xs.length:=by unfold jt;simp
def kX {K:aj}{d k:Hp}{a:Addr}{xs:List V}{ts:List T}(h:d a=some (.lst xs))(r:zr d xs ts):rI d k (DI K a) (jt ts):=λu q g f=>by
 have c:=f _ _ (g _ _ h);rw[Jm];refine⟨λi hi=>?_,λi t x H3 e y=>?_,λi hi=>⟨xs,SqL.of c,by rw[r.length];exact hi⟩⟩
 ·obtain⟨v,e,_⟩:=r.get (ah hi);exact⟨xs,v,SqL.of c,e⟩
 ·obtain⟨p,v,hp,rfl,y,rfl⟩:=y;obtain⟨t',o,rfl⟩:=ug e;obtain⟨w,l,j⟩:=r.get o;have:=y xs (SqL.of c);rw[l]at this;cases this;refine⟨zi.new hp _,.tup (jc hp _) (.cons (.int _) (.cons ?_ .nil))⟩;exact(j.mono g).mono (zy.ge f (zi.new hp _))
section
variable {X:Cx}{Y:Fx}{a:Expr}{fa:En->R T}{pos p pt:Pos}{elts:List Expr}{kk:Nat}
def kY {r:TA}(O:Gl X "enumerate")(B:X.mg "enumerate"=none)(N:PA X [a] r)(L:nr X a:=by exact ng rfl):
  PI X (.Tuple elts kk pt) (.Call (.Name "enumerate" p) [a] [] pos) (λk H R=>r k H λvs c=>∃l xs,vs=[.ref l]/\c l=some (.lst xs)/\R (DI X.K l) c):=by
 intro x s k H R I h;refine Call_ (j4 I O B PyProof.Rows.Boot.«enumerate» (bg (mN (N pos _ s k H _ I h) λQ g ⟨vs,c,d,J,C⟩=>?_) L rfl));obtain⟨l,xs,e,M,q⟩:=C;subst e;obtain⟨u,rfl,F⟩:=Zk J;obtain rfl:u=Value.ref l:=F;obtain⟨_,D,n,P,v⟩:=(show zQ _ X.w c _ l _ from d.hok l _ M);have i:=av v;refine call_enumerate_1 v λh' y j hsz G=>wpAny_pyIter_enum y ?_;have f:∀b∈[g.1.1.size+1,g.1.1.size],wF X _ c b:=λb o=>by
  rcases au.mp o with rfl|o
  ·exact d.fpOk (cD _) (d.hok.fresh (cD _))
  ·have z:=by simpa using o
   subst z;exact d.fpOk (aq _) (d.hok.fresh (aq _))
 exact⟨g.1.1.size+1,[g.1.1.size+1,g.1.1.size],_,_,c,rfl,d.kept G,qy _ _ l (m9 _) (aD (c8 i)) (aD i),⟨⟨_,y⟩,j⟩,f,q⟩
def VP (fa:En->R T):En->R (List T):=λρ=>(fa ρ).bind λt=>match t with
 |.lst xs=>.ok (jt xs)
 |_=>.bad
def Iq (k:Gl X "enumerate")(i:X.mg "enumerate"=none)(j:Snd X Y a fa)(e:nr X a:=by exact ng rfl):Wh X Y (.Tuple elts kk pt) (.Call (.Name "enumerate" p) [a] [] pos) (VP fa):=.mk λρ=>
 PI.imp (kY k i (zh (j ρ) zt e) e) λo H R ⟨B,I,q⟩=>step I q λt v g _ u f c d=>by
  cases f with
  |@lst l xs ts h r=>exact⟨l,xs,rfl,c.sB _ _ h,ZR c (show Po Y rI _ g _ R from d) (kX h r)⟩
  |_=>exact d.elim
noncomputable def YA:List T->Option (List Str)
 |[]=>some []
 |.str x::r=>match YA r with|some c=>some (x::c)|none=>none
 |_::_=>none
def Ec (c:Str):T->R T
 |.lst ts=>match YA ts with
  |some d=>if (d.map (·.length)).sum+d.length*c.length<=16777216 then .ok (.str (Txt.join c d))else .bad
  |none=>.bad
 |_=>.bad
theorem Wj {H:Hp}:∀{xs:List V} {ts:List T} {c:List Value} {d:List Str},zr H xs ts->Vals xs c->YA ts=some d->StrsAre c d
 |_,_,_,d,.nil,q,h=>by
  have h':=h;cases q;cases h';exact .nil
 |_,_,_,d,.cons r rs,q,h=>by
  cases q with
  |cons f vs=>
  cases r with
  |str x=>
   unfold YA at h;split at h
   ·rename_i g e;cases h;obtain⟨tk,rfl⟩:=f;exact .cons x tk (Wj rs vs e)
   ·cases h
  |_=>cases h
def kZ:pT X "str.join" (λx xs H Q=>∃z l f ts c,x=.str z/\xs=[.ref l]/\H l=some (.lst f)/\zr H f ts/\YA ts=some c/\(c.map (·.length)).sum+c.length*z.length<=16777216/\Q (.str (Txt.join z c)) H):=by
 intro g s C H x xs v B Q I o d h;obtain⟨z,l,f,ts,c,rfl,rfl,y,r,e,w,q⟩:=h;obtain⟨t,rfl⟩:=o;obtain⟨u,rfl,j⟩:=Zk d;obtain rfl:u=Value.ref l:=j;obtain⟨i,d,p,_⟩:=zH I (.inl y) r;exact join_list p (by simpa using Wj r d e) w λt' k=>⟨.str _,H,I.tok k,⟨t',rfl⟩,q⟩
def Ik {z:Str}{f:Nat}{g j:Pos}(D:jv X Y a fa)(y:attributeBase (.Constant (.str z) f g) "join" X.env (eval (.Constant (.str z) f g) X.env)=eval (.Constant (.str z) f g) X.env:=by rfl)(i:nr X a:=by exact ng rfl)
  (hz:(j.endLine==p.line)=true:=by rfl):Snd X Y (.Call (.Attribute (.Constant (.str z) f g) "join" j) [a] [] p) (mM (Ec z) fa):=.mk λρ=>by
 have w:(((((backTo p (starEach [a] X.env)).all λx=> !x.fst)&&(backToKw p (keywordEach [] X.env)).all λx=>x.fst.isSome)&&decide (([a].length+([]:List Keyword).length+if ([]:List Keyword).isEmpty=true then 0 else 1)<30))=true):=by rw[i];rfl
 refine PE.imp (U2 PySem.F.plainAttrs_str PySem.F.slot_str_join PySem.F.type_str_join kZ X3 (zh (D ρ) zt i) y w hz i rfl) λJ H Q ⟨B,I,q⟩=>?_;refine⟨rfl,step I q λt v k _ G o u c=>?_⟩;cases o with
 |@lst l xs ts h r=>
  have c:Po Y rC _ k (match YA ts with|some d=>if (d.map _).sum+d.length*z.length<=16777216 then .ok _ else .bad|none=>.bad) Q:=c
  split at c
  ·rename_i d e;split at c
   ·rename_i C;exact⟨z,l,xs,ts,d,rfl,rfl,h,r,e,C,nk u.sB c rfl (.str _)⟩
   ·exact c.elim
  ·exact c.elim
 |_=>exact c.elim
end
noncomputable def dd:List Str->List Str->List Str
 |acc,[]=>acc
 |acc,x::r=>dd (if x∈acc then acc else acc++[x]) r
section
variable {prog:Program}{w:World}{A:Around}{R:Result->Shared->Prop}{I:Addr}{fp wr:List Addr}{n:Nat}{P:Nat->Value->Prop}{St:Nat->Heap->Prop}
def jm {h h':Heap}{S:Addr}{f g:Str->Bool}{m k:Nat}(x:h.SetOf (strKind prog w) S f m)(e:∀o,h.get? S=some o->h'.get? S=some o)(c:f=g)(i:m=k):h'.SetOf (strKind prog w) S g k:=by
 subst c i;obtain⟨o,a,ep,t,d,r⟩:=x;exact⟨o,a,ep,t,e o d,r⟩
def VQ (W:Walks prog w A.in1 I fp wr n P St)(S:Addr)(c:S∉fp)(val:Nat->Str)(g:∀i v,P i v->∃t,v=Value.str (val i) t)(a:n+1<scanBound):
  ∀(k i:Nat) (acc:List Str) (s:Shared),n-i=k->i<=n->acc.length<=i->St i s.heap->s.heap.SetOf (strKind prog w) S (λx=>decide (x∈acc)) acc.length->
   (∀h' tk,(∀b o,b∉S::wr->s.heap.get? b=some o->h'.get? b=some o)->h'.SetOf (strKind prog w) S (λx=>decide (x∈dd acc ((mq i k).map val))) (dd acc ((mq i k).map val)).length->
    R (.ok (.ret .none)) {s with heap:=h',toks:=tk})->codeAny 08 A (.builtin "set.update.loop" ⟨[.ref S,.ref I],[]⟩) R s:=by
 intro k
 induction k with
 |zero=>
  intro i acc s hk hi M d G y;obtain rfl:i=n:=by omega
  refine bJ ij ?_;refine a8 (W.done s _ _ d λh' tk r=>ac ?_);exact y h' tk (λb o a e=>r b o (λz=>a (a9 _ z)) e) (jm G (λo e=>r S o (λz=>c (W.sub _ z)) e) rfl rfl)
 |succ k Z=>
  intro i acc s hk hi M d G y;refine bJ ij ?_;refine a8 (W.item i s _ _ 00 d λv U Q X l q=>?_)
  obtain⟨t,rfl⟩:=g i v X;have u:=jm G (λo e=>q S o (λz=>c (W.sub _ z)) e) rfl rfl;refine a8 (m:=holding _ _) (bp ?_);unfold setAdd;have j:(strKind prog w).is (val i) (.str (val i) t)=true:=strKind_is _ _ _ _;refine bp (a8 ((strKind _ w).pyHash j ?_));refine wpAny_setAddHashed_of j rfl u 00 λh2 p J=>?_
  have O:(if decide (val i∈acc)=true then acc.length else acc.length+1)=(if val i∈acc then acc else acc++[val i]).length:=by
   by_cases f:val i∈acc
   ·simp[f]
   ·simp[f]
  have e1:(λx=>decide (x∈acc)||decide (x=val i))=(λx=>decide (x∈(if val i∈acc then acc else acc++[val i]))):=by
   funext x
   by_cases f:val i∈acc
   ·simp only[if_pos f]
    by_cases N:x=val i
    ·subst N;simp[f]
    ·simp[N]
   ·simp[f,Bool.decide_or]
  have B:=jm J (λo e=>e) e1 O;refine ac ⟨cg F.plain_set_update_loop _,Z _ _ _ 00 00 ?_ (W.frame _ U _ l λb a o e=>?_) B λh3 L C D=>?_⟩
  ·split
   ·omega
   ·rw[aB,aM];omega
  ·exact(p.2 b (λz=>c (z▸a))).trans e
  ·refine y h3 L (λb o a e=>C b o a ?_) D;exact(p.2 b (λz=>a (z▸ae))).trans (q b o (λz=>a (a9 _ z)) e)
end
section
variable {prog:Program}{w:World}{A:Around}{E:Value->Shared->Prop}{s:Shared}
set_option maxRecDepth 100000 in
set_option maxHeartbeats 3200000 in
def qz {l:Addr}{a:List Value}{g:List Str}{Q:Value->Shared->Prop}(hh:A.handled=none)(hl:s.heap.IsList l a.toArray)(hi:StrsAre a g)(Z:a.length+1<scanBound)
  (h:∀(h':Heap) (tk:Nat),h'.SetOf (strKind prog w) s.1.1.size (λx=>decide (x∈dd [] g)) (dd [] g).length->(∀b o,b<s.1.1.size->s.heap.get? b=some o->h'.get? b=some o)->
   Q (.ref s.1.1.size) {s with heap:=h',toks:=tk}):wpAny 08 A (call (.type "set") [.ref l]) Q E s:=by
 have L:∀{a:List Value} {g:List Str},StrsAre a g->a.length=g.length/\∀(i:Nat) (v:Value),a[i]?=some v->∃t,v=Value.str (g.getD i ⟨#[]⟩) t:=λ{a g} hi=>by
  induction hi with
  |nil=>exact⟨rfl,λi v e=>by simp at e⟩
  |cons y t _ ih=>
   refine⟨by simp[ih.1],λi v e=>?_⟩
   cases i with
   |zero=>exact⟨t,by simpa using e.symm⟩
   |succ i=>exact ih.2 i v (by simpa using e)
 obtain⟨X,O⟩:=L hi;have hys:(mq 0 a.length).map (λi=>g.getD i ⟨#[]⟩)=g:=by
  rw[X];refine cX λi=>?_;rw[aw]
  by_cases C:i<g.length
  ·rw[List.getElem?_range' C,ah C];simp[ah C]
  ·rw[aS (by simp;omega),aS 00]
   rfl
 obtain⟨c,tl,hmro⟩:=dF.mro;have hmade:=dF.made;have hsub:=dF.sub;have h1:=dF.notType;have h2:=dF.canCreate;have hct:=F.typeCall_set_1 (.ref l);refine wpAny_call (codeAny_of_tree (show wpAny _ _ (callAny (.type "set") _) _ _ _ from ?_));refine ac ⟨Code.quiet_builtin _ (by decide+kernel),bJ F.entry_type_call ?_⟩
 rw[Around.under_plain (weight_type_call_type "set" [.ref l] []) rfl]
 repeat any_goals (first|assumption|wp_step)
 refine eQ (code_set_new_1 (.ref l) (E:=E) (Q₁:=λobj p=>∃d:Bool,obj=.ref s.1.1.size/\p={s with heap:=s.heap.push {cls:=.type "set",dict:=none,data:=.set #[] 0 (.fresh 0 0 d)} }) λd=>⟨d,rfl,rfl⟩) λr p hr=>?_;cases r with
 |error e=>exact hr
 |ok fl=>
  cases fl with
  |ret obj=>
   obtain⟨d,rfl,rfl⟩:=hr;generalize hG:s.heap.push {cls:=.type "set",dict:=none,data:=.set #[] 0 (.fresh 0 0 d)}=G;have hS:G.get? s.1.1.size=some {cls:=.type "set",dict:=none,data:=.set #[] 0 (.fresh 0 0 d)}:=by rw[←hG];exact ai _ rfl
   have B:G.objs.size=s.1.1.size+1:=by rw[←hG,bT]
   have U:∀b o,s.heap.get? b=some o->G.get? b=some o:=λb o e=>by rw[←hG];exact aa _ e
   have hT:fx {s with heap:=G} (.ref s.1.1.size) "set":=⟨_,hS,rfl⟩;have hli:=dF.init.lookup;have hbi:=dF.init.bind (.ref s.1.1.size)
   repeat any_goals (first|assumption|wp_step)
   refine eQ (codeAny_call_builtin (R:=wants (λr k=>r=.none/\∃h' tk,k={s with heap:=h',toks:=tk}/\h'.SetOf (strKind prog w) s.1.1.size (λx=>decide (x∈dd [] g)) (dd [] g).length/\
     (∀b o,b<s.1.1.size->s.heap.get? b=some o->h'.get? b=some o)) E) dF.init.plain F.entry_set_init (check_set_init_1 hT ?_)) λJ k f=>?_
   ·obtain⟨⟨ocls,odict,odata,oslots⟩,S,M,nl,D⟩:=hl;simp only at M D;subst M;subst D;have P:=U _ _ S;have hsls:=F.sub_list_set;have hslf:=F.sub_list_frozenset;have hne:(Value.type "list"==Value.type "dict")=false:=by decide
    have I:G.IsList l a.toArray:=⟨_,P,rfl,nl,rfl⟩;have N:l<s.1.1.size:=av S;unfold Builtin.«set.__init__» noKeywords Builtin.Frozenset.updateFrom;generalize hPI:pyIter=PI
    wp_walk
    subst hPI;refine cW I (a8 (wpAny_runValue ?_));have hSf:s.1.1.size∉[G.objs.size,l]:=by
     rw[B];intro z;rcases au.mp z with z|z
     ·exact absurd z (aD (dU _))
     ·exact absurd (ax.mp z) (cM N)
    refine VQ (ll (A:=A.in1.in1.in1) (by simp[hh]) G.objs.size l (by rw[B];exact aD (c8 N)) a.toArray) s.1.1.size hSf (λi=>g.getD i ⟨#[]⟩) (λi v e=>O i v (by simpa using e)) (by simpa using Z) a.length 0 [] _ (by simp) (aU _) (aq _)
     ⟨⟨_,ai _ rfl,rfl,rfl⟩,I.push _⟩ ?_ ?_
    ·have q:(G.push {cls:=.type "list_iterator",data:=.fields #[.ref l,.int 0 0]}).get? s.1.1.size=some {cls:=.type "set",dict:=none,data:=.set #[] 0 (.fresh 0 0 d)}:=aa _ hS;exact jm ((PyProof.Rows.setObjOf_fresh (knd:=strKind prog w) d).setOf q (by unfold scanBound;omega)) (λo e=>e) (by funext x;simp) rfl
    ·intro h' tk' hm j;rw[hys]at j;refine ac (show wpAny _ _ (ret Value.none) _ _ _ from ac ⟨rfl,h',tk',rfl,j,λb o Z e=>?_⟩);refine hm b o (λz=>?_) (aa _ (U b o e));rcases au.mp z with z|z
     ·exact absurd z (aD Z)
     ·have z':b=G.objs.size:=ax.mp z;rw[B]at z';exact absurd z' (aD (c8 Z))
   ·cases J with
    |error e=>exact f
    |ok u=>
     cases u with
     |ret r=>
      obtain⟨rfl,h',tk,rfl,j,hk'⟩:=f
      repeat any_goals (first|assumption|wp_step)
      exact h _ _ j hk'
     |_=>exact f.elim
  |_=>exact hr.elim
end
section
variable {X:Cx}{Y:Fx}{a b:Expr}{fa fb:En->R T}{pos pos' p p':Pos}
def qA (B:X.A.handled=none):Zc X (.type "set") (λvs H Q=>∃l xs ts c,vs=[.ref l]/\H l=some (.lst xs)/\zr H xs ts/\YA ts=some c/\ts.length+1<4096/\
  ∀q,H q=none->Q (.ref q) (kj H q (.ext λh=>h.SetOf (strKind X.prog X.w) q (λx=>decide (x∈dd [] c)) (dd [] c).length))):=by
 intro k s σ H vs Z Q I g h;obtain⟨l,xs,ts,c,rfl,M,r,y,hb,q⟩:=h;obtain⟨u,rfl,F⟩:=Zk g;obtain rfl:u=Value.ref l:=F;obtain⟨C,g,pl,D,_⟩:=zH I (.inl M) r;refine qz B pl (Wj r g y) (by unfold scanBound;omega) λh' tk v J=>?_
 refine⟨.ref _,_,I.laid (λb u e=>J b u (av e) e) (aq _) ?_,rfl,q _ (I.hok.fresh (aq _))⟩;obtain⟨o,P,ep,t,N,U⟩:=id v;exact⟨v,⟨o,N⟩,λS O ⟨G,j,d,L,f,i⟩ e=>⟨G,j,d,L,e _ f,i⟩⟩
def qB:Zc X (.builtin "len") (λvs H Q=>∃q c f n,vs=[.ref q]/\H q=some (.ext c)/\(∀h:Heap,c h->h.SetOf (strKind X.prog X.w) q f n)/\Q (.int n) H):=by
 intro e s C H vs B Q I i h;obtain⟨l,c,f,n,rfl,v,d,q⟩:=h;obtain⟨u,rfl,k⟩:=Zk i;obtain rfl:u=Value.ref l:=k;obtain⟨j,_,_⟩:=(show zQ _ X.w H _ l _ from I.hok l _ v);obtain⟨o,g,ep,t,x,hex,hd,_,_,r,y,hn⟩:=d _ j;refine call_len_set x hex hd y ?_ ⟨.int _,H,I.tok _,⟨_,rfl⟩,by rw[hn];exact q⟩
 have:g.size<4096:=r;omega
def VR:T->R T
 |.lst ts=>match YA ts with
  |some c=>if ts.length+1<4096 then .ok (.int (dd [] c).length)else .bad
  |none=>.bad
 |_=>.bad
def FZ (i:X.A.handled=none)(u:Gl X "len")(x:X.mg "len"=none)(g:Gl X "set")(f:X.mg "set"=none)(C:jv X Y a fa)(k:nr X a:=by exact ng rfl)(d:nr X (.Call (.Name "set" p') [a] [] pos'):=by exact ng rfl):
  Snd X Y (.Call (.Name "len" p) [.Call (.Name "set" p') [a] [] pos'] [] pos) (mM VR fa):=.mk λρ=>
 PE.imp (ZH qB u x PySem.boot_len (zh (ZT (qA i) g f PyProof.Rows.Boot.«set» (zh (C ρ) zt k) 01 01 k rfl) zt d) 01 01 d rfl) λG H Q ⟨B,I,q⟩=>
  step I q λt v o _ D w F c=>by
   cases w with
   |@lst l xs ts h r=>
    have c:Po Y rC _ o (match YA ts with|some j=>if ts.length+1<4096 then .ok _ else .bad|none=>.bad) Q:=c
    split at c
    ·rename_i j e;split at c
     ·rename_i y;refine⟨l,xs,ts,j,rfl,h,r,e,y,λz hz=>⟨z,_,_,_,rfl,zf,λh i=>i,?_⟩⟩;exact c _ _ (zi.new hz _) (.int _)
     ·exact c.elim
    ·exact c.elim
   |_=>exact c.elim
def Ve (i j:Nat)(c:En->R (List T)):En->RS:=λρ=>(c ρ).s λts=>match ts with
 |[x,y]=>.nx ((ρ.set i (.vl x)).set j (.vl y))
 |_=>.bad
def Fe {i j:Nat}{x y:Str}{u:En->R (List T)}{k l pt c:Pos}{o e:Nat}(P:X.calm=true)(F:X.N.Nodup)(hi:X.N[i]?=some x)(v:X.N[j]?=some y)(f:i≠j)(C:X.env.scope.names.lookup x=some .local)(hy:X.env.scope.names.lookup y=some .local)
  (O:UB X Y [a,b] u) (L:swappedStores [.Tuple [.Name x k,.Name y l] o pt] (.Tuple [a,b] e c) X.env=pure (some [x,y])) (w:swapsWithSole [.Tuple [.Name x k,.Name y l] o pt] (.Tuple [a,b] e c) pos.line X.env=pure false:=by rfl):
  Wg X Y (.Assign [.Tuple [.Name x k,.Name y l] o pt] (.Tuple [a,b] e c) pos) (Ve i j u):=.mk λρ=>
 PS.imp (Gr P F hi v f C hy (O ρ) L w) λD U H ⟨B,I,q⟩=>jY I q λts vs Q _ S G J d=>by
  cases G with
  |nil=>exact d.elim
  |cons r g=>
   cases g with
   |nil=>exact d.elim
   |cons M g=>
    cases g with
    |cons _ _=>exact d.elim
    |nil=>exact⟨_,_,rfl,d _ _ _ (zi.refl _) ((J.setV i r).setV j M)⟩
end
def uh {X:Cx}{E:XK}:wR nh X E:=λ_ _ _ _ _ _ _ h=>h.elim
section
variable {X:Cx}{Y:Fx}{a b:Expr}{fa fb:En->R T}{pos pos' p p':Pos}
def K0 {cl:Nat->Value}{k j n:Nat}{f:Addr}{d:FuncData}{i:List Str}{g:List T->R T}{x:Str}{c:List Expr}{e:En->R (List T)}(hy:Y.cl=cl)(F:wQ X.prog X.w X.K X.mg X.base nh j f d i (spP cl n g))(hr:jH k X.A)(l:j<=k)(u:Gl X x)
  (q:X.mg x=some (.ref f)) (kp:dq X.K (.ref f)=true) (r:L2.Binds X.K d i []) (v:UB X Y (a::c) e) (hd:(x==("__debug__":Str))=false:=by decide)
  (o:starEach (a::c) X.env=(false,eval a X.env)::starEach c X.env:=by exact zz rfl) (hz:((backTo pos (starEach c X.env)).any λx=>x.fst)=false:=by exact zY rfl):Snd X Y (.Call (.Name x p) (a::c) [] pos) (zb n g e):=by
 subst hy;exact Hd F (hr.mono l) u q kp r uh v hd o hz
def Wk {x:Str}{i:Int}{u:Value}(d:Gl X x)(c:X.mg x=some u)(e:∃t,u=Value.int i t)(hd:(x==("__debug__":Str))=false:=by decide):Snd X Y (.Name x pos) (cE (.int i)):=.mk λρ=>
 PE.imp (XT (v:=.int i) d c e hd) λf H Q ⟨B,I,q⟩=>ZR I q (.int i)
end
noncomputable def G6 (scope a:Scope):Bool:=(scope.kind==.function)&&scope.names.all (λx=>x.2 !=.cell)&&scope.names.all (λx=>x.2 !=.local||scope.names.lookup x.1==some .local)&&
 scope.names.all (λx=>x.2 !=.free||a.names.lookup x.1==some .cell||a.names.lookup x.1==some .free)
def qC {X:Cx}{scope:Scope}(a:Scope)(k:X.env.scope=a)(h:G6 scope a=true):rR X scope:=by
 unfold G6 at h;simp only[am,aR]at h;obtain⟨⟨⟨j,d⟩,e⟩,g⟩:=h;refine⟨eq_of_beq j,λx c=>by simpa using d x c,λx c f=>?_,λx c i=>?_⟩
 ·have:=e x c;rw[f]at this;simpa using this
 ·have:=g x c;rw[i]at this;show X.env.scope.names.lookup x.1=_\/X.env.scope.names.lookup x.1=_;rw[k];simpa using this
noncomputable def Xi (N N':List Str)(scope a:Scope)(k:Nat)(js:List Nat):Bool:=(N'.length==k+js.length)&&(aV js.length).all λi=>match js[i]? with
 |none=>true
 |some j=>match N'[k+i]?,N[j]? with
  |some x,some y=>(x==y)&&(a.names.lookup x==some .cell||a.names.lookup x==some .free)&&(scope.names.lookup x==some .free)
  |_,_=>false
def Wl {X:Cx}{scope:Scope}{N':List Str}{k:Nat}{js:List Nat}(N:List Str)(a:Scope)(p:X.N=N)(c:X.env.scope=a)(h:Xi N N' scope a k js=true):G5 X scope N' k js:=by
 unfold Xi at h;simp only[am,aR]at h;obtain⟨o,f⟩:=h;refine⟨eq_of_beq o,λi j e=>?_⟩;have hi:=(aP.mp e).1;have q:=f i (bu.mpr hi);rw[e]at q;dsimp only at q;split at q
 ·rename_i x y l g;simp only[am,eI,beq_iff_eq]at q;obtain⟨⟨rfl,d⟩,r⟩:=q;refine⟨x,l,by rw[p];exact g,?_,r,?_⟩
  ·rw[c];exact .inr d
  ·show X.env.scope.names.lookup x=_\/X.env.scope.names.lookup x=_;rw[c];exact d
 ·cases q
def Xj {X:Cx}{Y:Fx}{j iter f:Expr}{e:List Expr}{scope:Scope}{k:Nat}{js:List Nat}{l:En->R (List T)}{i:TG}{g:T->En->R En}{ft:En->R Bool}{fe:En->R T}(N':List Str)(N:List Str)(a:Scope)(r:X.N=N)(o:X.env.scope=a)
  (h:(G6 scope a&&Xi N N' scope a k js)=true) (p:X.calm=true) (it:Wh X Y j iter l) (y:qx X scope N' λd=>PG d j i) (q:o0 i g) (u:oY g) (tt:∀c,c.cl=Y.cl->qx X scope N' λd=>Jw d c e ft)
  (v:∀c,c.cl=Y.cl->Xg X scope N' c.E λd=>Snd d c f fe) (w:∀x,foldedSetIterable iter X.env x=pure x:=by intro _;rfl):Jk X Y j iter f e scope N' k js l i g ft fe:=by
 rw[am]at h;exact⟨qC a o h.1,Wl N a r o h.2,p,it,y,q,u,tt,v,w⟩
end PV
namespace PV
open PySem PySem.Spec PyProof.Rows L2 PySem.W
end PV
namespace PySem.W
open PySem PySem.Calls PyProof.Rows PySem.Spec Builtin Builtin.ObjectAttr Builtin.Getset_descriptor
end PySem.W
namespace PySem.W
open PySem PySem.Calls PyProof.Rows PySem.Spec Builtin Builtin.ObjectAttr Builtin.Getset_descriptor
end PySem.W
namespace PySem.W
open PySem PySem.Calls PyProof.Rows PySem.Spec Builtin Builtin.ObjectAttr Builtin.Getset_descriptor
end PySem.W
namespace PV
open PySem PySem.Spec PyProof.Rows L2 PySem.W
end PV
namespace PySem.ZG
open PySem PySem.Spec PySem.Builtin.SmallTypes
structure U7 (i:Addr) (fp:List Addr) (v:Nat->Option Value) (St:Nat->Heap->Prop):Prop where
 mem:i∈fp
 item:∀{prog:Program} {w:World} {A:Around} {E:Value->Shared->Prop} {s:Shared} {Q:Value->Shared->Prop} {k:Nat} {x:Value},St k s.heap->v k=some x->(∀h',St (k+1) h'->b8 i s.heap h'->Q x {s with heap:=h'})->wpAny 08 A (nextOf (.ref i)) Q E s
 stop:∀{prog:Program} {w:World} {A:Around} {E:Value->Shared->Prop} {s:Shared} {Q:Value->Shared->Prop} {k:Nat},A.handled=none->St k s.heap->v k=none->(∀h' e,eL i s.heap h'->(∃o,h'.get? e=some o/\o.cls=.type "StopIteration")->E (.ref e) {s with heap:=h'})->wpAny 08 A (nextOf (.ref i)) Q E s
 keep:∀{k:Nat} {h h':Heap},St k h->(∀b∈fp,∀o,h.get? b=some o->h'.get? b=some o)->St k h'
 there:∀{k:Nat} {h:Heap},St k h->∀b∈fp,∃o,h.get? b=some o
def U7.but {i:Addr}{fp:List Addr}{v:Nat->Option Value}{St:Nat->Heap->Prop}(N:U7 i fp v St){k:Nat}{h h':Heap}{b:Addr}(x:St k h)(e:eL b h h')(n:b∉fp):St k h':=
 N.keep x λc a o q=>e c o (λz=>n (z▸a)) q
def K1 {i l:Addr}(c:l≠i)(xs:Array Value):U7 i [i,l] (λk=>xs[k]?) (λk h=>h.IsListIter i l k/\h.IsList l xs) where
 mem:=.head _
 item:=λst d h=>wpAny_nextOf_list_item st.1 st.2 d λh' a b=>h h' ⟨a,st.2.extBut b.extBut c⟩ b
 stop:=λp st d h=>wpAny_nextOf_list_end p st.1 st.2 d h
 keep:=λst k=>⟨st.1.at λo e=>k i (.head _) o e,st.2.at λo e=>k l (.tail _ (.head _)) o e⟩
 there:=λst b f=>by
  obtain⟨⟨o,e,_⟩,j,g,_⟩:=st;rcases au.mp f with z|f
  ·exact⟨o,z▸e⟩
  ·exact⟨j,(ax.mp f)▸g⟩
end PySem.ZG
namespace PySem.ZG
open PySem PySem.Spec PySem.Builtin.SmallTypes
section
variable {prog:Program}{w:World}{A:Around}{E:Value->Shared->Prop}{s:Shared}{it l:Addr}{k:Nat}{xs:Array Value}{Q:Value->Shared->Prop}
def UM (c:s.heap.IsTupleIter it l k)(h:wpAny 08 A.in1 (Builtin.«tuple_iterator.__next__» ⟨[.ref it],[]⟩) (λa d=>∃v,a=.done (.ret v)/\Q v d) E s):wpAny 08 A (nextOf (.ref it)) Q E s:=by
 exact a8 (aX c.typeIs eX (aN eX c.typeIs PySem.F.entry_tuple_iterator_next
  (cI h (λa d ⟨v,e,q⟩=>⟨v,e,ac q⟩) λ_ _ z=>z) (PySem.F.args_tuple_iterator_next_1 _)))
def tup_item (a:s.heap.IsTupleIter it l k)(f:s.heap.IsTuple l xs){x:Value}(i:xs[k]?=some x)(h:∀h',h'.IsTupleIter it l (k+1)->b8 it s.heap h'->Q x {s with heap:=h'}):wpAny 08 A (nextOf (.ref it)) Q E s:=by
 refine UM a ?_;obtain⟨o,c,j,hd⟩:=id a;obtain⟨q,e,_,p,d⟩:=f;refine a8 (m:=field _ 0) (bh c hd rfl ?_);refine a8 (bh c hd rfl (a8 (bU e d ?_)));simp only[a_,i];have g:=cz (eB (·.setIfInBounds 1 (rawInt (k+1)))) c (ff (cR hd _));refine a8 (dw c hd (by simp) (ac ⟨x,rfl,h _ ⟨_,g,(hJ ..).trans j,?_⟩ (bH ..)⟩))
 rw[cR hd];simp[rawInt]
def tup_stop (i:A.handled=none)(a:s.heap.IsTupleIter it l k)(g:s.heap.IsTuple l xs)(j:xs[k]?=none)
  (h:∀h' e,eL it s.heap h'->(∃o,h'.get? e=some o/\o.cls=.type "StopIteration")->E (.ref e) {s with heap:=h'}):wpAny 08 A (nextOf (.ref it)) Q E s:=by
 refine UM a ?_;obtain⟨o,f,r,hd⟩:=id a;obtain⟨q,d,_,p,c⟩:=g;refine a8 (m:=field _ 0) (bh f hd rfl ?_);refine a8 (bh f hd rfl (a8 (bU d c ?_)));simp only[a_,j];refine a8 (df (a8 (dw f hd (by simp) (a8 ?_))))
 refine a8 (aO (a8 (c9 (by first|rfl|(simp only[firstArgMember])) (aO ?_ (by size_fits)))) (by size_fits))
 refine a8 (wpAny_handled ?_);rw[i];exact a8 (ac (wpAny_throw (h _ _ (((bH ..).extBut.push _).push _) ⟨_,ai _ rfl,rfl⟩)))
end
def nx_tup {i l:Addr}(f:l≠i)(xs:Array Value):U7 i [i,l] (λk=>xs[k]?) (λk h=>h.IsTupleIter i l k/\h.IsTuple l xs) where
 mem:=.head _
 item:=λst g h=>tup_item st.1 st.2 g λh' a b=>h h' ⟨a,st.2.extBut b.extBut f⟩ b
 stop:=λq st g h=>tup_stop q st.1 st.2 g h
 keep:=λst k=>by
  obtain⟨⟨o,e,r⟩,c,d,p⟩:=st;exact⟨⟨o,k i (.head _) o e,r⟩,c,k l (.tail _ (.head _)) c d,p⟩
 there:=λst b j=>by
  obtain⟨⟨o,e,_⟩,c,d,_⟩:=st;rcases au.mp j with z|j
  ·exact⟨o,z▸e⟩
  ·exact⟨c,(ax.mp j)▸d⟩
end PySem.ZG
namespace PySem.ZG
open PySem PySem.Spec PySem.Builtin.SmallTypes
structure Ap (z TI TO i1 i2:Addr) (fp1 fp2:List Addr):Prop where
 Iz:TI≠z
 Oz:TO≠z
 IO:TI≠TO
 I1:TI≠i1
 I2:TI≠i2
 z1:z∉fp1
 z2:z∉fp2
 O1:TO∉fp1
 O2:TO∉fp2
 a:i1∉fp2
 b:i2∉fp1
section
variable {prog:Program}{w:World}{A:Around}{E:Value->Shared->Prop}{s:Shared}{z TI TO i1 i2:Addr}{fp1 fp2:List Addr}{v1 v2:Nat->Option Value}{S1 S2:Nat->Heap->Prop}{k:Nat}{x y a b:Value}
def Ap.ne1 (D:Ap z TI TO i1 i2 fp1 fp2)(c:U7 i1 fp1 v1 S1):i1≠z/\i1≠TO:=⟨λe=>D.z1 (e▸c.mem),λe=>D.O1 (e▸c.mem)⟩
def Ap.ne2 (D:Ap z TI TO i1 i2 fp1 fp2)(c:U7 i2 fp2 v2 S2):i2≠z/\i2≠TO:=⟨λe=>D.z2 (e▸c.mem),λe=>D.O2 (e▸c.mem)⟩
def K2 {Q:Value->Shared->Prop}(f:U7 i1 fp1 v1 S1)(g:U7 i2 fp2 v2 S2)(D:Ap z TI TO i1 i2 fp1 fp2)(hz:IsZip s.heap z TI TO .none)(L:IsPair s.heap TI (.ref i1) (.ref i2))(I:IsPair s.heap TO a b)(p1:S1 k s.heap)(p2:S2 k s.heap)(hx:v1 k=some x)(hy:v2 k=some y)
  (hQ:∀h',IsZip h' z TI TO (rawInt s.1.1.size)->IsPair h' TO x y->S1 (k+1) h'->S2 (k+1) h'->IsPair h' s.1.1.size x y->
   (∀c o,c≠z->c≠TO->c≠i1->c≠i2->s.heap.get? c=some o->h'.get? c=some o)->Q (.ref s.1.1.size) {s with heap:=h'}):
  wpAny 08 A (Builtin.«zip.__next__» ⟨[.ref z],[]⟩) (λF s'=>∃v,F=.done (.ret v)/\Q v s') E s:=by
 refine a8 (m:=field (.ref z) 2) (bh hz rfl (x:=.bool false) rfl (a8 (bh hz rfl (x:=.ref TI) rfl (a8 (bU L rfl ?_)))));refine a8 ?_;refine a8 (bh hz rfl (x:=.none) rfl (ac ?_));refine a8 (df (a8 (bh hz rfl (x:=.ref TO) rfl (a8 (bi hz (by simp) λg1 M p=>?_)))))
 replace M:=M
 refine a8 ?_;refine a8 (a8 (wpAny_onRaise (a8 (f.item (f.but p1 p.extBut D.z1) hx λg2 q1 j=>ac ?_))));have S:IsPair g2 TO a b:=j.extBut _ _ (D.ne1 f).2.symm (p.extBut _ _ D.Oz I);refine a8 (bU S rfl (a8 (wpAny_updateSeq_pair S λg3 t3 l=>?_)));refine a8 (dO (ac ?_));refine a8 (a8 (wpAny_onRaise (a8 (g.item (g.but (g.but (g.but p2 p.extBut D.z2) j.extBut D.a) l.extBut D.O2) hy λg4 q2 u=>ac ?_))));have U:IsPair g4 TO x b:=u.extBut _ _ (D.ne2 g).2.symm t3;refine a8 (bU U rfl (a8 (wpAny_updateSeq_pair U λd C r=>?_)))
 replace C:IsPair d TO x y:=C
 refine a8 (dO (ac (ac ?_)));refine a8 (bU C rfl (a8 (wpAny_newTuple ?_)));have sz:d.objs.size=s.1.1.size:=by rw[r.1,u.1,l.1,j.1,p.1]
 have Z:=r.extBut _ _ D.Oz.symm (u.extBut _ _ (D.ne2 g).1.symm (l.extBut _ _ D.Oz.symm (j.extBut _ _ (D.ne1 f).1.symm M)));have k5:∀c o,c≠z->c≠TO->c≠i1->c≠i2->s.heap.get? c=some o->d.get? c=some o:=λc o i B G J e=>
  r.extBut _ _ B (u.extBut _ _ J (l.extBut _ _ B (j.extBut _ _ G (p.extBut _ _ i e))))
 have r1:S1 (k+1) d:=f.but (f.but (f.but q1 l.extBut D.O1) u.extBut D.b) r.extBut D.O1;have r2:S2 (k+1) d:=g.but q2 r.extBut D.O2;refine a8 ?_;have z6:IsZip (d.push {cls:=.type "tuple",data:=.seq #[x,y]}) z TI TO _:=aa _ Z;refine a8 (bi z6 (by simp) λg7 z7 P=>?_)
 refine bi z7 (by simp) λg8 z8 X=>?_
 have up:∀c o,c≠z->d.get? c=some o->g8.get? c=some o:=λc o i e=>X.extBut _ _ i (P.extBut _ _ i (aa _ e));have hn:d.objs.size≠z:=cM (av Z);have O:=X.extBut _ _ hn (P.extBut _ _ hn (ai _ rfl));rw[sz]at z8 O;refine ac ⟨_,rfl,?_⟩;rw[sz];exact hQ g8 z8 (up _ _ D.Oz C) (f.keep r1 λc N o e=>up c o (λq=>D.z1 (q▸N)) e) (g.keep r2 λc N o e=>up c o (λq=>D.z2 (q▸N)) e) O λc o i B G J e=>up c o i (k5 c o i B G J e)
def K3 {Q:Fin->Shared->Prop}(O:A.handled=none)(f:U7 i1 fp1 v1 S1)(v:U7 i2 fp2 v2 S2)(D:Ap z TI TO i1 i2 fp1 fp2)(hz:IsZip s.heap z TI TO .none)(L:IsPair s.heap TI (.ref i1) (.ref i2))(J:IsPair s.heap TO a b)(p1:S1 k s.heap)(p2:S2 k s.heap)(u:v1 k=none\/v2 k=none)
  (hE:∀h' e,(∀c o,c≠z->c≠TO->c≠i1->c≠i2->s.heap.get? c=some o->h'.get? c=some o)->(∃o,h'.get? e=some o/\o.cls=.type "StopIteration")->E (.ref e) {s with heap:=h'}):
  wpAny 08 A (Builtin.«zip.__next__» ⟨[.ref z],[]⟩) Q E s:=by
 refine a8 (m:=field (.ref z) 2) (bh hz rfl (x:=.bool false) rfl (a8 (bh hz rfl (x:=.ref TI) rfl (a8 (bU L rfl ?_)))));refine a8 ?_;refine a8 (bh hz rfl (x:=.none) rfl (ac ?_));simp only[if_true];refine a8 (df (a8 (bh hz rfl (x:=.ref TO) rfl (a8 (bi hz (by simp) λg1 F p=>?_)))))
 replace F:=F
 refine a8 ?_;have off:∀{g:Heap} {e:Addr} {j:Obj},IsZip g z TI TO .ellipsis->g.get? e=some j->j.cls=.type "StopIteration"->e≠z:=λhg r i q=>by
  subst q;rw[hg]at r;cases r;simp at i
 cases G:v1 k with
 |none=>
  refine a8 (a8 (wpAny_onRaise (a8 (f.stop O (f.but p1 p.extBut D.z1) G λg2 e d r=>?_))));obtain⟨j,C,i⟩:=r;have S:=d _ _ (D.ne1 f).1.symm F;exact bi S (by simp) λM _ l=>hE M e (λc o B _ I _ q=>l.extBut _ _ B (d _ _ I (p.extBut _ _ B q))) ⟨j,l.extBut _ _ (off S C i) C,i⟩
 |some x=>
  have hy:v2 k=none:=by
   rcases u with q|q
   ·rw[G]at q;cases q
   ·exact q
  refine a8 (a8 (wpAny_onRaise (a8 (f.item (f.but p1 p.extBut D.z1) G λg2 q1 d=>ac ?_))));have N:=d.extBut _ _ (D.ne1 f).2.symm (p.extBut _ _ D.Oz J);refine a8 (bU N rfl (a8 (wpAny_updateSeq_pair N λM t3 l=>a8 (dO (ac ?_)))));refine a8 (a8 (wpAny_onRaise (a8 (v.stop O (v.but (v.but (v.but p2 p.extBut D.z2) d.extBut D.a) l.extBut D.O2) hy λg4 e X r=>?_))));obtain⟨j,C,i⟩:=r;have P:=X _ _ (D.ne2 v).1.symm (l.extBut _ _ D.Oz.symm (d.extBut _ _ (D.ne1 f).1.symm F));exact bi P (by simp) λg5 _ U=>hE g5 e (λc o B Z I c4 q=>U.extBut _ _ B (X _ _ c4 (l.extBut _ _ Z (d.extBut _ _ I (p.extBut _ _ B q))))) ⟨j,U.extBut _ _ (off P C i) C,i⟩
def K4 {Q:Option Value->Shared->Prop}(v:U7 i1 fp1 v1 S1)(i:U7 i2 fp2 v2 S2)(D:Ap z TI TO i1 i2 fp1 fp2)(hz:IsZip s.heap z TI TO .none)(e:IsPair s.heap TI (.ref i1) (.ref i2))(d:IsPair s.heap TO a b)(p1:S1 k s.heap)(p2:S2 k s.heap)(p:v1 k=some x)(hy:v2 k=some y)
  (u:∀h',IsZip h' z TI TO (rawInt s.1.1.size)->IsPair h' TO x y->S1 (k+1) h'->S2 (k+1) h'->IsPair h' s.1.1.size x y->
   (∀c o,c≠z->c≠TO->c≠i1->c≠i2->s.heap.get? c=some o->h'.get? c=some o)->Q (some (.ref s.1.1.size)) {s with heap:=h'}):wpAny 08 A (pyNext (.ref z)) Q E s:=by
 have f:s.TypeIs (.ref z) _:=⟨_,hz,rfl⟩;exact a8 (ci (aX f dM (aN dM f iC
  (K2 v i D hz e d p1 p2 p hy λh' l B r q g j=>ac (u h' l B r q g j)) (ik _))))
def K5 {Q:Option Value->Shared->Prop}(l:A.handled=none)(v:U7 i1 fp1 v1 S1)(j:U7 i2 fp2 v2 S2)(D:Ap z TI TO i1 i2 fp1 fp2)(hz:IsZip s.heap z TI TO .none)(g:IsPair s.heap TI (.ref i1) (.ref i2))(f:IsPair s.heap TO a b)(p1:S1 k s.heap)(p2:S2 k s.heap)(d:v1 k=none\/v2 k=none)
  (p:∀h',(∀c o,c≠z->c≠TO->c≠i1->c≠i2->s.heap.get? c=some o->h'.get? c=some o)->Q none {s with heap:=h'}):wpAny 08 A (pyNext (.ref z)) Q E s:=by
 have i:s.TypeIs (.ref z) _:=⟨_,hz,rfl⟩;refine a8 (ci (aX i dM (aN dM i iC
  (K3 l v j D hz g f p1 p2 d λh' e kp r=>?_) (ik _))))
 obtain⟨o,q,u⟩:=r;exact a8 (cC ⟨o,q,u⟩ isSubtype_stop (ac (p _ kp)))
end
end PySem.ZG
namespace PySem.ZG
open PySem PySem.Spec PySem.Builtin.SmallTypes
structure K6 (l:Addr) (o:Obj) (P:Heap->Prop):Prop where
 go:∀{prog:Program} {w:World} {A:Around} {E:Value->Shared->Prop} {s:Shared} {Q:Value->Shared->Prop},P s.heap->Q (.ref s.1.1.size) {s with heap:=s.heap.push o}->wpAny 08 A (pyIter (.ref l)) Q E s
 push:∀{h:Heap} (o':Obj),P h->P (h.push o')
 fresh:o.isFreed=false
noncomputable abbrev oL (l:Addr):Obj:={cls:=.type "list_iterator",data:=.fields #[.ref l,.int 0 0]}
noncomputable abbrev oT (l:Addr):Obj:={cls:=.type "tuple_iterator",data:=.fields #[.ref l,.int 0 0]}
def K7 (l:Addr)(xs:Array Value):K6 l (oL l) (λh=>h.IsList l xs):=⟨λp q=>cW p q,λo p=>Heap.IsList.push p o,rfl⟩
def FY (l:Addr)(xs:Array Value):K6 l (oT l) (λh=>h.IsTuple l xs):=⟨λp q=>cQ p q,λo p=>lN.push p o,rfl⟩
noncomputable abbrev Cd (h:Heap)(o1 o2:Obj):Heap:=(h.push o1).push o2
abbrev C3 (h:Heap)(o1 o2:Obj):Heap:=(Cd h o1 o2).push {cls:=.type "tuple",data:=.seq #[.ref h.objs.size,.ref (h.push o1).objs.size]}
abbrev DB (h:Heap)(o1 o2:Obj):Heap:=(C3 h o1 o2).push {cls:=.type "tuple",data:=.seq #[.none,.none]}
abbrev pY (h:Heap)(o1 o2:Obj):Heap:=(DB h o1 o2).push {cls:=.type "zip",data:=.fields #[.none,.bool false,.bool false,.ref (Cd h o1 o2).objs.size,.ref (C3 h o1 o2).objs.size]}
def FV {k j:Addr}{a c:Obj}{f e:Heap->Prop}(r:K6 k a f)(l:K6 j c e):
  Meets (Builtin.«zip.__new__» ⟨[.type "zip",.ref k,.ref j],[]⟩) (λ_ R s=>f s.heap/\e s.heap/\R (.ok (.ret (.ref (DB s.heap a c).objs.size))) {s with heap:=pY s.heap a c}):=
 .of_wp λprog w A R s h=>by
  obtain⟨hp,g,d,tk,os⟩:=s;obtain⟨q,u,h⟩:=h;have i:=sub_zip;have p:f (mr ⟨hp,g,d,tk,os⟩):=q;have o:e (mr ⟨hp.push a,g,d,tk,os⟩):=l.push a u
  wp_walk using r.go p,l.go o
  exact⟨_,rfl,h⟩
end PySem.ZG
namespace PySem.ZG
open PySem PySem.Spec PySem.Builtin.SmallTypes
def K8 {prog:Program}{w:World}{A:Around}{E:Value->Shared->Prop}{s:Shared}{x v:Addr}{a d:Obj}{C u:Heap->Prop}{Q:Value->Shared->Prop}(y:K6 x a C)(l:K6 v d u)(G:C s.heap)(I:u s.heap)
  (h:∀h' n,n=s.1.1.size->IsZip h' (n+4) (n+2) (n+3) .none->IsPair h' (n+2) (.ref n) (.ref (n+1))->IsPair h' (n+3) .none .none->h'.get? n=some a->h'.get? (n+1)=some d->
   (∀c o,s.heap.get? c=some o->h'.get? c=some o)->Q (.ref (n+4)) {s with heap:=h'}):wpAny 08 A (call (.type "zip") [.ref x,.ref v]) Q E s:=by
 refine callType_new PySem.F.called_zip 01 (PySem.F.typeCall_zip_2 _ _) (PySem.F.newCall_zip_2 _ _) (λobj=>PySem.F.args_object_init_3 obj _ _) PySem.F.entry_zip_new (FV y l) ⟨G,I,?_⟩
 have f:(s.heap.push a).objs.size=s.1.1.size+1:=bT ..;have g:(Cd s.heap a d).objs.size=s.1.1.size+2:=by rw[bT,f]
 have i:(C3 s.heap a d).objs.size=s.1.1.size+3:=by rw[bT,g]
 have r:(DB s.heap a d).objs.size=s.1.1.size+4:=by rw[bT,i]
 have up:∀{h:Heap} {c:Addr} {o:Obj} (k:Obj),h.get? c=some o->(h.push k).get? c=some o:=λk e=>aa k e;have j:(pY s.heap a d).get? _=some _:=ai _ rfl;have D:(pY s.heap a d).get? _=some _:=up _ (ai _ rfl);have B:(pY s.heap a d).get? _=some _:=up _ (up _ (ai _ rfl));have p:(pY s.heap a d).get? _=some _:=up _ (up _ (up _ (ai _ l.fresh)));have J:(pY s.heap a d).get? _=some _:=up _ (up _ (up _ (up _ (ai _ y.fresh))));rw[g,i,r]at j;rw[f,g]at B;rw[i]at D;rw[f]at p;rw[r];exact⟨⟨_,j,rfl⟩,h _ _ rfl j B D J p λc o q=>up _ (up _ (up _ (up _ (up _ q))))⟩
end PySem.ZG
namespace PV
open PySem PySem.Spec PyProof.Rows L2 PySem.ZG
inductive SK where
 |l|t
noncomputable def SK.it:SK->Heap->Addr->Addr->Nat->Prop
 |.l=>λh i l k=>h.IsListIter i l k
 |.t=>λh i l k=>h.IsTupleIter i l k
noncomputable def SK.has:SK->Heap->Addr->Array Value->Prop
 |.l=>λh l xs=>h.IsList l xs
 |.t=>λh l xs=>h.IsTuple l xs
def SK.sq (K:aj):SK->Hp->Addr->List V->Prop
 |.l=>λH a xs=>SqL K H a xs
 |.t=>λH a xs=>SqT K H a xs
noncomputable def SK.tr:SK->List V->HO
 |.l=>.lst
 |.t=>.tup
def SK.ob:SK->Addr->Obj
 |.l=>oL
 |.t=>oT
def SK.nx (k:SK){i l:Addr}(h:l≠i)(xs:Array Value):U7 i [i,l] (λn=>xs[n]?) (λn hp=>k.it hp i l n/\k.has hp l xs):=by
 cases k with
 |l=>exact K1 h xs
 |t=>exact nx_tup h xs
def SK.of (k:SK)(l:Addr)(xs:Array Value):K6 l (k.ob l) (λh=>k.has h l xs):=by
 cases k with
 |l=>exact K7 l xs
 |t=>exact FY l xs
def SK.start (k:SK){h:Heap}{i l:Addr}(e:h.get? i=some (k.ob l)):k.it h i l 0:=by
 cases k with
 |l=>exact⟨_,e,rfl,rfl⟩
 |t=>exact⟨_,e,rfl,rfl⟩
def SK.obj {k:SK}{h:Heap}{i l:Addr}{n:Nat}(x:k.it h i l n):∃o,h.get? i=some o/\∀v,o.data≠.cell v:=by
 cases k with
 |l=>obtain⟨o,e,_,d⟩:=x;exact⟨o,e,λv z=>by rw[d]at z;cases z⟩
 |t=>obtain⟨o,e,_,d⟩:=x;exact⟨o,e,λv z=>by rw[d]at z;cases z⟩
def SK.at_ {k:SK}{h h':Heap}{i l:Addr}{n:Nat}(x:k.it h i l n)(q:∀o,h.get? i=some o->h'.get? i=some o):k.it h' i l n:=by
 cases k with
 |l=>obtain⟨o,e,r⟩:=x;exact⟨o,q o e,r⟩
 |t=>obtain⟨o,e,r⟩:=x;exact⟨o,q o e,r⟩
def SK.sqOf {K:aj}(k:SK){H:Hp}{a:Addr}{xs:List V}(e:H a=some (k.tr xs)):k.sq K H a xs:=by
 cases k with
 |l=>exact SqL.of e
 |t=>exact SqT.of e
def Inv.seq {X:Cx}{d:List (Addr×Obj)}{f:Sg}{H:Hp}{s:Shared}(I:L2.Inv X d f H s)(k:SK){a:Addr}{xs:List V}(h:k.sq X.K H a xs):∃c:List Value,Vals xs c/\k.has s.heap a c.toArray/\∃o,s.heap.get? a=some o:=by
 cases k with
 |l=>
  obtain⟨c,r,p,_⟩:=I.list h;obtain⟨o,_,e,_⟩:=id p;exact⟨c,r,p.isList,o,e⟩
 |t=>
  obtain⟨c,r,p,_⟩:=I.tuple h;obtain⟨o,e,_⟩:=id p;exact⟨c,r,p,o,e⟩
def Bt (K:aj)(e c:SK)(d f:Addr):It:=
 ⟨λi H=>∃xs a x y,e.sq K H d xs/\c.sq K H f a/\xs[i]?=some x/\a[i]?=some y,λi H v g=>∃p x y,H p=none/\v=.ref p/\(∀xs,e.sq K H d xs->xs[i]?=some x)/\(∀a,c.sq K H f a->a[i]?=some y)/\g=kj H p (.tup [x,y]),
  λi H=>∃xs a,e.sq K H d xs/\c.sq K H f a/\(xs.length<=i\/a.length<=i)⟩
def Inv.seq_inj {X:Cx}{c:List (Addr×Obj)}{e:Sg}{H:Hp}{s:Shared}(I:L2.Inv X c e H s)(k:SK){a:Addr}{xs d:List V}(h:k.sq X.K H a xs)(h':k.sq X.K H a d):xs=d:=by
 cases k with
 |l=>exact I.list_inj h h'
 |t=>exact I.tuple_inj h h'
def nN {a b:Nat}(h:a≠b):@Ne Addr a b:=h
def nM {a b c:Nat}(h:a≠b)(h':a≠c):¬@Membership.mem Addr (List Addr) _ [b,c] a:=λq=>by
 rcases au.mp q with z|z
 ·exact h z
 ·exact h' (ax.mp z)
def VS {P:Program}{w:World}{K:aj}{O:List Expr}{kk:Nat}{pt:Pos}(G B:SK){n l1 l2:Nat}(h1:l1<n)(h2:l2<n):
  Uw P w K (.Tuple O kk pt) (Bt K G B l1 l2) [n+4,n+2,n+3,n,n+1] (n+4)
   (λi h=>IsZip h (n+4) (n+2) (n+3) .none/\IsPair h (n+2) (.ref n) (.ref (n+1))/\(∃a b,IsPair h (n+3) a b)/\G.it h n l1 i/\B.it h (n+1) l2 i):=by
 have D:Ap (n+4) (n+2) (n+3) n (n+1) [n,l1] [n+1,l2]:=by
  refine⟨nN 00,nN 00,nN 00,nN 00,nN 00,nM 00 00,nM 00 00,nM 00 00,nM 00 00,nM 00 00,nM 00 00⟩
 refine⟨by simp,λi h st b d=>?_,λi h h' st k=>?_,?_,?_,?_⟩
 ·obtain⟨hz,p,⟨a,c,C⟩,p1,p2⟩:=st;simp only[au,bX,or_false]at d;rcases d with rfl|rfl|rfl|rfl|rfl
  ·exact⟨_,hz,λv z=>nomatch z⟩
  ·exact⟨_,p,λv z=>nomatch z⟩
  ·exact⟨_,C,λv z=>nomatch z⟩
  ·exact SK.obj p1
  ·exact SK.obj p2
 ·obtain⟨hz,p,⟨a,c,C⟩,p1,p2⟩:=st;exact⟨k _ (by simp) _ hz,k _ (by simp) _ p,⟨a,c,k _ (by simp) _ C⟩,SK.at_ p1 λo e=>k n (by simp) o e,SK.at_ p2 λo e=>k (n+1) (by simp) o e⟩
 ·intro X hP hw hK j i pins s σ H E I S st hg;subst hP hw hK;obtain⟨xs,ys,x,y,s1,s2,hx,hy⟩:=hg;obtain⟨hz,p,⟨a,c,C⟩,p1,p2⟩:=st;obtain⟨l,r1,b1,_⟩:=Inv.seq I G s1;obtain⟨r,r2,b2,_⟩:=Inv.seq I B s2;obtain⟨u,hu,ru⟩:=r1.get hx;obtain⟨v,hv,rv⟩:=r2.get hy;refine K4 (G.nx (aD h1) l.toArray) (B.nx (i:=n+1) (nN 00) r.toArray) D hz p C ⟨p1,b1⟩ ⟨p2,b2⟩ (x:=u) (y:=v) (by simpa using hu) (by simpa using hv) λg a1 a2 a3 a4 a5 kp=>⟨_,rfl,?_⟩
  refine wpAny_letOwnedTupleGo_zip a1 λg2 z2 J=>?_;have hlt:n+4<s.1.1.size:=av hz;have ne:∀b:Nat,b<=n+4->s.1.1.size≠b:=λb d=>by
   omega
  have f:∀b o,b∉[n+4,n+2,n+3,n,n+1]->s.heap.get? b=some o->g2.get? b=some o:=λb o d e=>by
   simp only[au,bX,or_false,not_or]at d;exact J.extBut _ _ d.1 (kp b o d.1 d.2.2.1 d.2.2.2.1 d.2.2.2.2 e)
  have N:=J.extBut _ _ (ne _ (aq _)) a5;have L:=J.extBut _ _ D.Iz (kp _ _ D.Iz D.IO D.I1 D.I2 p);have M:=J.extBut _ _ D.Oz a2;have q1:=SK.at_ a3.1 λo e=>J.extBut _ _ (nN 00) e
  have q2:=SK.at_ a4.1 λo e=>J.extBut _ _ (nN 00) e
  have hfr:=I.hok.fresh (aq _);refine⟨.ref s.1.1.size,kj H s.1.1.size (.tup [x,y]),Inv.laidT (s:=s) (h':=g2) (tk:=s.toks) I S f (λb o d _=>?_) (aq _)
   ⟨by rw[c7];show 2<=16777216;decide,[u,v],.cons ru (.cons rv .nil),⟨_,N,rfl,_,rfl⟩,.inr ⟨_,N,rfl⟩⟩,rfl,⟨_,x,y,hfr,rfl,λzs hq=>by rw[←Inv.seq_inj I G s1 hq];exact hx,λzs hq=>by rw[←Inv.seq_inj I B s2 hq];exact hy,rfl⟩,⟨z2,L,⟨u,v,M⟩,q1,q2⟩,λb d=>?_⟩
  ·simp only[au,bX,or_false]at d;rcases d with rfl|rfl|rfl|rfl|rfl
   ·exact⟨_,z2⟩
   ·exact⟨_,L⟩
   ·exact⟨_,M⟩
   ·obtain⟨o',e',_⟩:=SK.obj q1;exact⟨o',e'⟩
   ·obtain⟨o',e',_⟩:=SK.obj q2;exact⟨o',e'⟩
  ·have hb2:(b:Nat)<=n+4:=by
    have d:=by simpa using d
    rcases d with rfl|rfl|rfl|rfl|rfl
    ·exact aq _
    ·exact fJ 01 n
    ·exact fJ 01 n
    ·exact aQ _ _
    ·exact fJ 01 n
   rw[zg λz=>ne b hb2 z.symm];exact(S b d).1
 ·intro X hP hw hK j i pins s σ H E I S st hg;subst hP hw hK;obtain⟨xs,ys,s1,s2,Z⟩:=hg;obtain⟨hz,p,⟨a,c,C⟩,p1,p2⟩:=st;obtain⟨l,r1,b1,_⟩:=Inv.seq I G s1;obtain⟨r,r2,b2,_⟩:=Inv.seq I B s2;have l1':=r1.length;have l2':=r2.length;refine K5 (I.ok.hd j) (G.nx (aD h1) l.toArray) (B.nx (nN 00) _) D hz p C ⟨p1,b1⟩ ⟨p2,b2⟩ ?_ λg kp=>⟨rfl,?_⟩
  ·rcases Z with q|q
   ·exact .inl (bW (by rw[aJ,←l1'];exact q))
   ·exact .inr (bW (by rw[aJ,←l2'];exact q))
  ·have f:∀b o,b∉[n+4,n+3,n,n+1]->s.heap.get? b=some o->g.get? b=some o:=λb o d e=>by
    simp only[au,bX,or_false,not_or]at d;exact kp b o d.1 d.2.1 d.2.2.1 d.2.2.2 e
   have U:∀b u,H b=some u->b∉[n+4,n+3,n,n+1]:=λb u e d=>by
    have F:b∈[n+4,n+2,n+3,n,n+1]:=by
     simp only[au,bX,or_false]at d⊢;rcases d with q|q|q|q
     ·exact .inl q
     ·exact .inr (.inr (.inl q))
     ·exact .inr (.inr (.inr (.inl q)))
     ·exact .inr (.inr (.inr (.inr q)))
    rw[(S b F).1]at e;cases e
   refine I.call' rfl ⟨λb o e _ _ j=>f b o j e,λb o e _ _ j=>⟨o.slots,f b o j e⟩,λb o e q _=>q,λb o e j=>⟨o,f b o j e⟩,λb ys e=>e,λb o u e=>e,λ_ _ _ e=>e⟩ (λb u e=>?_) I.bare λb d=>?_
   ·refine(I.hok b u e).stay (λc v j q=>f c v ?_ q) (λ_ q=>q) λ_ _ q=>q;rcases j with rfl|j
    ·exact U c u e
    ·exact U c _ j
   ·have F:b∈[n+4,n+2,n+3,n,n+1]:=by
     simp only[au,bX,or_false]at d⊢;rcases d with q|q|q|q
     ·exact .inl q
     ·exact .inr (.inr (.inl q))
     ·exact .inr (.inr (.inr (.inl q)))
     ·exact .inr (.inr (.inr (.inr q)))
    obtain⟨f0,f1,f2,f3,f4,f5⟩:=S b F;exact⟨f3,f1,f4,f5⟩
 ·intro A i s Q E st h;exact wpAny_pyIter_zip st.1 h
noncomputable def Vf (xs a:List T):List T:=(xs.zip a).map λp=>T.tup [p.1,p.2]
def VT {xs a:List T}{i:Nat}{t:T}(h:(Vf xs a)[i]?=some t):∃x y,xs[i]?=some x/\a[i]?=some y/\t=.tup [x,y]:=by
 unfold Vf at h;rw[aw]at h;cases e:(xs.zip a)[i]? with
 |none=>rw[e]at h;cases h
 |some p=>
  rw[e]at h;cases h;have:=List.getElem?_zip_eq_some.mp e;exact⟨p.1,p.2,this.1,this.2,rfl⟩
def U8 (xs a:List T):(Vf xs a).length=min xs.length a.length:=by unfold Vf;simp
def Ht {K:aj}{d G:Hp}{w g:SK}{a b:Addr}{xs c:List V}{ts l:List T}(P:d a=some (w.tr xs))(N:d b=some (g.tr c))(r:zr d xs ts)(q:zr d c l):rI d G (Bt K w g a b) (Vf ts l):=λU S f o=>by
 have B:=w.sqOf (K:=K) (o _ _ (f _ _ P));have b2:=g.sqOf (K:=K) (o _ _ (f _ _ N));rw[U8];refine⟨λi hi=>?_,λi t x H3 e y=>?_,λi hi=>⟨xs,c,B,b2,?_⟩⟩
 ·obtain⟨v,k,_⟩:=r.get (ah (show i<ts.length by omega))
  obtain⟨u,j,_⟩:=q.get (ah (show i<l.length by omega))
  exact⟨xs,c,v,u,B,b2,k,j⟩
 ·obtain⟨p,v,u,hp,rfl,F,J,rfl⟩:=y;obtain⟨Z,Q,M,O,rfl⟩:=VT e;obtain⟨v',k,L⟩:=r.get M;obtain⟨X,j,I⟩:=q.get O;have C:=F xs B;have D:=J c b2;rw[k]at C;cases C;rw[j]at D;cases D;have up:=zy.ge o (zi.new hp (.tup [v,u]));exact⟨zi.new hp _,.tup (jc hp _) (.cons ((L.mono f).mono up) (.cons ((I.mono f).mono up) .nil))⟩
 ·rw[r.length,q.length];omega
section
variable {X:Cx}{Y:Fx}{a b:Expr}{fa fb:En->R T}{pos p pt:Pos}{elts:List Expr}{kk:Nat}
def E4 {y:TA}(hg:Gl X "zip")(N:X.mg "zip"=none)(ha:PA X [a,b] y)(hs:starEach [a,b] X.env=[(false,eval a X.env),(false,eval b X.env)])(o:starEach [b] X.env=[(false,eval b X.env)]):
  PI X (.Tuple elts kk pt) (.Call (.Name "zip" p) [a,b] [] pos) (λx H R=>y x H λvs j=>∃d c l k xs B,vs=[.ref l,.ref k]/\j l=some (SK.tr d xs)/\j k=some (SK.tr c B)/\R (Bt X.K d c l k) j):=by
 intro D s x H R I h;refine Call_ (j4 I hg N PyProof.Rows.Boot.«zip» (bg (mN (ha pos _ s x H _ I h) λus i ⟨vs,j,r,r1,Q⟩=>?_) (by rw[hs,o]) (by rw[o];rfl)))
 obtain⟨d,c,l,k,xs,B,e,P,L,q⟩:=Q;subst e;obtain⟨u,v,rfl,U,O⟩:=yX r1;obtain rfl:u=Value.ref l:=U;obtain rfl:v=Value.ref k:=O;obtain⟨C,_,Z,o1,e1⟩:=Inv.seq r d (d.sqOf P);obtain⟨G,_,b2,o2,M⟩:=Inv.seq r c (c.sqOf L);refine K8 (d.of l _) (c.of k _) Z b2 λg n hn J z2 z3 S z5 kp=>wpAny_pyIter_zip J ?_;subst hn;have f:∀b∈[i.1.1.size+4,i.1.1.size+2,i.1.1.size+3,i.1.1.size,i.1.1.size+1],wF X _ j b:=λb F=>by
  have w:i.1.1.size<=b:=by
   simp only[au,bX,or_false]at F;rcases F with rfl|rfl|rfl|rfl|rfl
   ·exact aQ _ _
   ·exact aQ _ _
   ·exact aQ _ _
   ·exact aq _
   ·exact aQ _ _
  exact r.fpOk w (r.hok.fresh w)
 exact⟨i.1.1.size+4,_,_,_,j,rfl,r.kept kp,VS d c (av e1) (av M),⟨J,z2,⟨_,_,z3⟩,SK.start d S,SK.start c z5⟩,f,q⟩
noncomputable def jZ:T->R (List T)
 |.lst xs=>.ok xs
 |.tup xs=>.ok xs
 |_=>.bad
def Xk (fa fb:En->R T):En->R (List T):=λρ=>(fa ρ).bind λt=>(fb ρ).bind λu=>(jZ t).bind λxs=>(jZ u).bind λc=>.ok (Vf xs c)
def qD {B:Hp}{v:V}{t:T}{xs:List T}(r:Rep B v t)(e:jZ t=.ok xs):∃(k:SK) (a:Addr) (vs:List V),v=.ref a/\B a=some (k.tr vs)/\zr B vs xs:=by
 cases r with
 |lst h r=>cases e;exact⟨.l,_,_,rfl,h,r⟩
 |tup h r=>cases e;exact⟨.t,_,_,rfl,h,r⟩
 |_=>cases e
def UN (t:T)(c:Nat):jZ t≠.ex c:=by cases t<;>exact λz=>nomatch z
def FS (O:Gl X "zip")(C:X.mg "zip"=none)(N:Snd X Y a fa)(M:Snd X Y b fb)(w:starEach [a,b] X.env=[(false,eval a X.env),(false,eval b X.env)]:=by exact nT rfl rfl)(e:starEach [b] X.env=[(false,eval b X.env)]:=by exact ng rfl):
  Wh X Y (.Tuple elts kk pt) (.Call (.Name "zip" p) [a,b] [] pos) (Xk fa fb):=.mk λρ=>
 PI.imp (E4 O C (zh (N ρ) (zh (M ρ) zt e) (by rw[w,e])) w e) λσ H R ⟨B,I,q⟩=>step I q λt v S _ Z J r G=>step r G λu v' F _ L y k d=>by
  cases g:jZ t with
  |bad=>rw[g]at d;exact d.elim
  |ex c=>exact absurd g (UN _ _)
  |ok xs=>
   rw[g]at d;cases f:jZ u with
   |bad=>rw[f]at d;exact d.elim
   |ex c=>exact absurd f (UN _ _)
   |ok U=>
    rw[f]at d;obtain⟨P,D,j,rfl,o,w1⟩:=qD (J.mono (zy.ge r.sB L)) g;obtain⟨x,Q,i,rfl,l,w2⟩:=qD y f;exact⟨P,x,D,Q,j,i,rfl,k.sB _ _ o,k.sB _ _ l,ZR k (show Po Y rI _ F _ R from d) (Ht o l w1 w2)⟩
end
end PV
namespace PV
open PySem PySem.Spec PyProof.Rows L2
section
variable {X:Cx}{Y:Fx}{a b:Expr}{fa fb:En->R T}{pos p p' pos':Pos}
def qE:T->R T
 |.bl b=>.ok (.int (b2 b))
 |.int i=>.ok (.int i)
 |_=>.bad
def IU (v:V)(t:T)(B H:Hp)(Q:VK)(r:Rep B v t)(c:zi B H)(q:Po Y rC B H (qE t) Q):
  (∃i,[v]=[V.int i]/\Q (.int i) H)\/∃k,[v]=[V.bl k]/\Q (.int (if k then 1 else 0)) H:=by
 cases r with
 |int i=>exact .inl ⟨i,rfl,nk c q rfl (.int i)⟩
 |bl k=>exact .inr ⟨k,rfl,nk c q rfl (by cases k<;>exact .int _)⟩
 |_=>exact q.elim
def IG (c:Gl X "int")(e:X.mg "int"=none)(d:Snd X Y a fa)(f:nr X a:=by exact ng rfl):Snd X Y (.Call (.Name "int" p) [a] [] pos) (mM qE fa):=
 Xa YS IU c e (PyProof.Rows.Boot.«int») d f
def qF:Zc X (.type "range") (λxs H Q=>∃i j,xs=[.int i,.int j]/\∀r,H r=none->Q (.ref r) (kj H r (.rng i j))):=by
 intro c s k H xs g Q I r h;obtain⟨i,j,rfl,q⟩:=h;obtain⟨u,v,rfl,f,d⟩:=yX r;obtain⟨t,rfl⟩:=f;obtain⟨t',rfl⟩:=d;exact call_range_2 ⟨.ref _,_,I.laid (λb o e=>aa _ e) (aq _) (show zQ _ X.w _ _ _ (.rng i j) from ⟨_,_,_,ai _ rfl⟩),rfl,q _ (I.hok.fresh (aq _))⟩
noncomputable def Vg (lo:Int)(n:Nat):List V:=(aV n).map λ(i:Nat)=>V.int (lo+(i:Int))
def Wm (C:X.A.handled=none):Zc X (.type "list") (λxs H Q=>∃r lo hi,xs=[.ref r]/\H r=some (.rng lo hi)/\(-1000000<lo/\lo<1000000/\ -1000000<hi/\hi<1000000)/\∀l,H l=none->Q (.ref l) (kj H l (.lst (Vg lo (hi-lo).toNat)))):=by
 intro o s S H xs N Q I B h;obtain⟨r,lo,hi,rfl,e,⟨P,L,M,O⟩,q⟩:=h;obtain⟨u,rfl,G⟩:=Zk B;obtain rfl:u=Value.ref r:=G;obtain⟨t,v,U,J⟩:=(show zQ _ X.w H _ r _ from I.hok r _ e);have hn:ic lo hi 1=((hi-lo).toNat):=by rw[rangeSize_one];split<;>omega
 refine call_list_range C J (small_one 00 00 00 00) hn 00 λh' tk acc c kp i d=>?_
 have g:Vals (Vg lo (hi-lo).toNat) acc.toList:=by
  have k:∀(n:Nat) (lo:Int) (vs:List _),vs.length=n->(∀(j:Nat) (v:Value),vs[j]?=some v->∃t,v=Value.int (lo+(j)) t)->Vals (Vg lo n) vs:=by
   intro n
   induction n with
   |zero=>
    intro lo vs f _;rw[List.eq_nil_of_length_eq_zero f];exact .nil
   |succ n F=>
    intro lo vs f g;cases vs with
    |nil=>cases f
    |cons v vs=>
     have e:Vg lo (n+1)=V.int (lo+0)::Vg (lo+1) n:=by
      unfold Vg;rw[dE,ao,aK];refine congrArg _ (b5 λj _=>?_);show V.int _=V.int _;congr 1;omega
     rw[e];refine .cons (g 0 v rfl) (F _ vs (by simpa using f) λj x D=>?_)
     obtain⟨t,z⟩:=g (j+1) x (by simpa using D)
     exact⟨t,by rw[z];congr 1;omega⟩
  refine k _ lo _ (by simpa using d.1) λj v y=>?_
  obtain⟨t,z⟩:=d.2 j v (by simpa using y)
  exact⟨t,by rw[z];congr 1;omega⟩
 have hz:(Vg lo (hi-lo).toNat).length<=sizeLine:=by
  rw[c7];unfold Vg;rw[ag,ba];omega
 exact⟨.ref _,_,I.laid kp (aq _) (show zQ _ X.w _ h' _ (.lst _) from ⟨hz,acc.toList,c,g,by simpa using i⟩),rfl,q _ (I.hok.fresh (aq _))⟩
def Av (c:En->R (List T)):En->R T:=λρ=>(c ρ).bind λts=>.ok (.lst ts)
def qG {B:Hp}(lo:Int)(n:Nat):zr B (Vg lo n) (rng lo n):=by
 unfold Vg rng
 induction aV n with
 |nil=>exact .nil
 |cons i d c=>exact .cons (.int _) c
def K9 (y:X.A.handled=none)(D:Gl X "list")(J:X.mg "list"=none)(k:Gl X "range")(g:X.mg "range"=none)(M:Snd X Y a fa)(L:Snd X Y b fb)
  (x:starEach [a,b] X.env=[(false,eval a X.env),(false,eval b X.env)]:=by exact nT rfl rfl) (d:nr X b:=by exact ng rfl):Snd X Y (.Call (.Name "list" p) [.Call (.Name "range" p') [a,b] [] pos'] [] pos) (Av (Jv fa fb)):=.mk λρ=>
 PE.imp (ZT (Wm y) D J PyProof.Rows.Boot.«list» (zh (ZT qF k g boot_range (zh (M ρ) (zh (L ρ) zt d) (by rw[x,d])) 01 01 (by rw[x,d]) (by rw[d];rfl)) zt (ng rfl)) 01 01 (ng rfl) rfl) λU H Q ⟨B,I,q⟩=>by
  have q:Po Y rC B H ((fa ρ).bind λt=>(fb ρ).bind λt'=>(match t,t' with|.int i,.int j=>if-1000000<i/\i<1000000/\ -1000000<j/\j<1000000 then R.ok (rng i (j-i).toNat)else .bad|_,_=>.bad).bind λts=>.ok (.lst ts)) Q:=by
   revert q;unfold Av Jv;cases fa ρ with
   |ok t=>cases fb ρ<;>exact λq=>q
   |ex c=>exact λq=>q
   |bad=>exact λq=>q
  refine step I q λt v N _ P F G C=>step G C λt' Z O _ S w I2 e=>?_;cases F with
  |int i=>
   cases w with
   |int j=>
    by_cases c: -1000000<i/\i<1000000/\ -1000000<j/\j<1000000
    ·dsimp only at e;rw[if_pos c]at e;refine⟨i,j,rfl,λr hr=>⟨r,i,j,rfl,zf,c,λl f=>?_⟩⟩;have o:l≠r:=λz=>by rw[z,zf]at f;cases f
     have u:=by rw[zg o]at f;exact f
     refine e _ _ (zi.new hr _|>.trans (zi.new f _)) (.lst ?_ (qG _ _))
     rw[zJ u,zf]
    ·dsimp only at e;rw[if_neg c]at e;exact e.elim
   |_=>exact e.elim
  |_=>cases w<;>exact e.elim
def Bh (i j:Nat):En->RS:=λρ=>match ρ[j]? with
 |some (.ow ts)=>.nx ((ρ.set j (.vl (.lst ts))).set i (.vl (.lst ts)))
 |_=>.bad
def SI.give {Y:Fx}{B:Hp}{ρ:En}{L:Sg}{H:Hp}(I:SI Y B ρ L H){j:Nat}{ts:List T}(Q:ρ[j]?=some (.ow ts)):∃(a:Addr) (P:Hp),L[j]?=some (some (V.ref a))/\zi B P/\Rep P (.ref a) (.lst ts)/\SI Y P (ρ.set j (.vl (.lst ts))) L H:=by
 obtain⟨a,xs,e,Z,h0,S,rr,d⟩:=I.ow j ts Q;have l:zi B (kj B a (.lst xs)):=zi.new Z _;have U:Rep _ _ _:=.lst zf (rr.mono l);refine⟨a,_,e,l,U,⟨I.s0,I.sH,λb o q=>?_,λb o q=>?_,by rw[aZ];exact I.len,λk t q=>?_,λk F q=>?_,λk c q=>?_,?_⟩⟩
 ·by_cases u:b=a
  ·subst u;rw[zf]at q;cases q;exact S
  ·rw[zg u]at q;exact I.sB b o q
 ·rw[zg λz=>by rw[z,h0]at q;cases q];exact I.old b o q
 ·rcases zx q with ⟨rfl,z⟩|⟨_,z⟩
  ·cases z;exact⟨_,e,U⟩
  ·obtain⟨v,e1,r⟩:=I.vl k t z;exact⟨v,e1,r.mono l⟩
 ·rcases zx q with ⟨rfl,z⟩|⟨hk,z⟩
  ·cases z
  ·obtain⟨D,N,G,f,i,M,J,d'⟩:=I.ow k F z;have g:D≠a:=λw=>by subst w;exact d k F hk z G
   refine⟨D,N,G,by rw[zg g];exact f,i,M,J.mono l,λm ws hm hw=>?_⟩
   rcases zx hw with ⟨rfl,w⟩|⟨_,w⟩
   ·cases w
   ·exact d' m ws hm w
 ·rcases zx q with ⟨rfl,z⟩|⟨_,z⟩
  ·cases z
  ·obtain⟨D,G,r⟩:=I.xc k c z;exact⟨D,G,l _ _ r⟩
 ·obtain⟨as,O,x⟩:=I.st;refine⟨as,O,x.on (λk y hy h=>?_) l rfl rfl (zi.refl _) λb o u f i cs=>?_⟩
  ·rcases zx h with ⟨_,z⟩|⟨_,z⟩
   ·subst z;cases hy
   ·exact⟨z,rfl⟩
  ·have g:b≠a:=λz=>by
    subst z;rcases cs with ⟨C,dx,vs,ez⟩|ok
    ·rw[S]at u;cases u;cases ez
    ·exact ok j ts Q e
   refine⟨u,by rw[zg g];exact f,i,λok k F h=>?_⟩
   rcases zx h with ⟨_,z⟩|⟨_,z⟩
   ·cases z
   ·exact ok k F z
def BU {i j:Nat}{x y:Str}{c:Pos}(v:PE X (.Name y c) (Za j))(l:X.N.Nodup)(hi:X.N[i]?=some x)(f:L2.Loc X.env.scope x)(g:swapsWith (.Name y c) (some (.Name x p')) pos.line X.env=pure false:=by rfl)
  (o:X.fn x=true\/X.env.scope.names.lookup x=some .local:=by first|exact .inl rfl|exact .inr rfl|assumption):Wg X Y (.Assign [.Name x p'] (.Name y c) pos) (Bh i j):=.mk λρ=>
 PS.imp (JP l hi f v g o) λD w H ⟨B,I,q⟩=>by
  unfold Bh at q;split at q
  ·rename_i ts e;obtain⟨a,u,d,k,r,J⟩:=I.give e;exact⟨_,d,q _ _ u k (J.setV i r)⟩
  ·exact q.elim
end
noncomputable def zR:List T->Option (List Int)
 |[]=>some []
 |.int i::r=>match zR r with|some l=>some (i::l)|none=>none
 |_::_=>none
def VU:T->R T
 |.lst ts=>match zR ts with|some l=>.ok (.int l.sum)|none=>.bad
 |_=>.bad
def sP (a:En->R (List T))(g:T->En->R En)(ft:En->R Bool)(fe:En->R T)(k:Nat)(js:List Nat):En->RS:=λρ=>(a (frz ρ)).s λts=>(zo g ft fe k js (frz ρ) ts).s λvs=>.rf vs
def G7:En->RS:=λ_=>.bad
def EG {X:Cx}{Y:Fx}{st:Stmt}:Wg X Y st G7:=.mk λρ=>λa s c H D I ⟨B,J,q⟩=>q.elim
theorem J0:∀{H:Hp} {xs:List V} {ts:List T} {a:List Value} {c:List Int},zr H xs ts->Vals xs a->zR ts=some c->∃d:List (Int×Tok),a=d.map (λp=>Value.int p.1 p.2)/\d.map (·.1)=c
 |_,_,_,_,c,.nil,.nil,h=>by
  have h':=h;cases h';exact⟨[],rfl,rfl⟩
 |H,_,_,_,c,.cons r rs,.cons g vs,h=>by
  cases r with
  |int i=>
   unfold zR at h;split at h
   ·rename_i l e;cases h;obtain⟨d,j,f⟩:=J0 rs vs e;obtain⟨tk,rfl⟩:=g;exact⟨(i,tk)::d,by rw[j];rfl,by rw[ao,f]⟩
   ·cases h
  |_=>cases h
section
variable {X:Cx}{Y:Fx}{a b:Expr}{fa fb:En->R T}{pos p p' pos':Pos}
def qH (o:X.A.handled=none):Zc X (.builtin "sum") (λvs H Q=>∃l xs ts c,vs=[.ref l]/\H l=some (.lst xs)/\zr H xs ts/\zR ts=some c/\Q (.int c.sum) H):=by
 intro i s C H vs B Q I d h;obtain⟨l,xs,ts,c,rfl,y,r,x,q⟩:=h;obtain⟨u,rfl,w⟩:=Zk d;obtain rfl:u=Value.ref l:=w;obtain⟨f,d,p,_⟩:=zH I (.inl y) r;obtain⟨g,v,j⟩:=J0 r d x;have e:f.toArray=intItems g.toArray:=by rw[v];simp[intItems]
 rw[e]at p;refine sum_intListG o p λh' tk t' kp=>?_;have k:preSum (numAt g.toArray) g.toArray.size=c.sum:=by
  rw[preSum_eq,iD (by simp),←j]
 rw[k];exact⟨.int _,H,I.kept kp,⟨t',rfl⟩,q⟩
def HC (c:X.A.handled=none)(f:Gl X "sum")(i:X.mg "sum"=none)(j:jv X Y a fa)(g:nr X a:=by exact ng rfl):Snd X Y (.Call (.Name "sum" p) [a] [] pos) (mM VU fa):=
 JT (qH c) (λv t B H Q r d q=>by
  cases r with
  |@lst l xs ts h r=>
   have q:Po Y rC B H (match zR ts with|some k=>.ok _|none=>.bad) Q:=q
   split at q
   ·rename_i k e;exact⟨l,xs,ts,k,rfl,h,r,e,nk d q rfl (.int _)⟩
   ·exact q.elim
  |_=>exact q.elim) f i boot_sum j g
end
section
variable {X:Cx}{Y:Fx}{tg iter elt:Expr}{ifs:List Expr}{scope:Scope}{pos pos':Pos}{N':List Str}{k:Nat}{js:List Nat}{fi:En->R (List T)}{tG:TG}{g:T->En->R En}{ft:En->R Bool}{fe:En->R T}
def Xl (C:Jk X Y tg iter elt ifs scope N' k js fi tG g ft fe):Wg X Y (.Return (some (.ListComp elt [⟨tg,iter,ifs,0⟩] scope pos)) pos') (sP fi g ft fe k js):=.mk λρ=>by
 have pe:PE X (.ListComp elt [⟨tg,iter,ifs,0⟩] scope pos) (λa H Q=>∃B,SI Y B (frz ρ) a H/\PoS Y B ((fi (frz ρ)).s λts=>(zo g ft fe k js (frz ρ) ts).s λvs=>.rf vs) {nx:=λ_ _=>False,rt:=Q}):=by
  intro i s a H Q I ⟨B,J,q⟩;refine jM (ZU rfl) (F:=λD v=>Q (.ref D) v) (te:=λa H Q=>∃d ρ',d.cl=Y.cl/\(d.E=λ_ _ _=>False)/\tS d rC fe ρ' a H Q) (tt:=λa H Q=>∃d ρ',d.cl=Y.cl/\tS d rE ft ρ' a H Q) C.sc C.cp C.cm (C.it (frz ρ)) C.gt
   (λcl l L H3 fp i p s a H Q I ⟨d,ρ',x,q⟩=>C.tt d x cl l L H3 fp _ ρ' _ s a H Q I q) (λcl l L H3 fp i xe hp p s a H Q I ⟨d,ρ',x,eE,q⟩=>C.el d x cl l L H3 fp _ xe (eE▸hp) ρ' _ s a H Q I q) I ?_ ?_ C.hs
  ·refine jY J q λts P H1 _ s1 r1 r f=>?_;intro D N;unfold zo at f;split at f
   ·rename_i hl;cases w:zq g ft fe ts _ with
    |bad=>rw[w]at f;exact f.elim
    |ex c=>rw[w]at f;exact f.elim
    |ok vs=>
     rw[w]at f;refine jN C.gk C.gn r r1 hl w N λv xs B' y e' r' l' S Z=>?_;exact(show PoS Y _ _ _ from f) D xs v B' (r.sH.trans y) (r.sH.free N) e' r' S (l'.trans (UE r.sH r.old y r.sB))
   ·exact f.elim
  ·intro D Cc v y I' q' hC U hL j u M;obtain⟨m,O⟩:=M;refine⟨m,O,λh' G=>⟨.ref D,v,?_,rfl,q'⟩⟩;exact I'.turned (λb o hb e=>G.extBut b o hb e) hC (aT hL).symm (.inr U) j u
 refine PS.imp (Jh pe) λD a H ⟨B,I,q⟩=>⟨_,I.frz,?_⟩;have q:=PoS.up I.up q;unfold sP at q;revert q;cases fi _ with
 |bad=>exact λq=>q
 |ex c=>exact λq=>q
 |ok ts=>
  show PoS Y _ ((zo g ft fe k js _ ts).s λvs=>.rf vs) D->PoS Y _ ((zo g ft fe k js _ ts).s λvs=>.rf vs) _;cases zo g ft fe k js _ ts with
  |bad=>exact λq=>q
  |ex c=>exact λq=>q
  |ok vs=>exact λq=>q
end
end PV
namespace PySem.RV
open PySem PySem.Spec PyProof.Rows PySem.Builtin.SmallTypes
def UO:Manifest.owners.lookup (String.ofList "desrever".toList.reverse)=some Manifest.sig_reversed:=by kernel_rfl
def jd:Slot "reversed" "__next__" "reversed.__next__":=
 .of (owner:="reversed") (n:="__next__") 06 (by decide+kernel) (by decide+kernel) (by decide+kernel)
  (by first|exact .inl (by decide+kernel)|exact .inr (by decide+kernel)) 06
def wV:entryFor table "reversed.__next__"=some Builtin.«reversed.__next__»:=entryFor_of_tree 06
def ui (a:Value):argsOk "reversed.__next__" ⟨[a],[]⟩:=by
 unfold argsOk;rw[signature?_of (n:="__txen__".toList) 06 UO];kernel_rfl
def uj:Slot "reversed" "__iter__" "reversed.__iter__":=
 .of (owner:="reversed") (n:="__iter__") 06 (by decide+kernel) (by decide+kernel) (by decide+kernel)
  (by first|exact .inl (by decide+kernel)|exact .inr (by decide+kernel)) 06
def qI (a:Value):argsOk "reversed.__iter__" ⟨[a],[]⟩:=by
 unfold argsOk;rw[signature?_of (n:="__reti__".toList) 06 UO];kernel_rfl
def Y5:entryFor table "reversed.__iter__"=some Builtin.«dict_keyiterator.__iter__»:=
 entryFor_alias (id':="dict_keyiterator.__iter__") 06 (by first|rfl|decide+kernel|(unfold String.splitOn;simp+decide [String.splitOnAux])) (by decide+kernel) 06
def HP:typeLookup (.type "tuple") "__reversed__"=pure none:=by rw[typeLookup_type,builtinLookup_eq_fast];kernel_rfl
def Fi:isSubtype (.type "tuple") (.type "dict")=pure false:=by rw[isSubtype_type];kernel_rfl
noncomputable abbrev IsRv (h:Heap)(it:Addr)(v:Value)(i:Int):Prop:=h.get? it=some {cls:=.type "reversed",data:=.fields #[v,rawInt i]}
section
variable {prog:Program}{w:World}{A:Around}{E:Value->Shared->Prop}{s:Shared}{it l:Addr}{xs:Array Value}
def U9 {v:Value}{i:Int}(x:IsRv s.heap it v i):s.TypeIs (.ref it) "reversed":=⟨_,x,rfl⟩
def next_item {i:Nat}{x:Value}{Q:Option Value->Shared->Prop}(a:IsRv s.heap it (.ref l) (i:Int))(c:IsTup s.heap l xs)(o:(xs.size:Int)<2^63)(d:xs[i]?=some x)
  (e:∀h' tk,IsRv h' it (.ref l) ((i:Int)-1)->b8 it s.heap h'->Q (some x) {s with heap:=h',toks:=tk}):wpAny 08 A (pyNext (.ref it)) Q E s:=by
 refine a8 (ci (aX (U9 a) jd (aN jd (U9 a) wV ?_ (ui _))));refine a8 (c9 rfl ?_);refine a8 (bh a rfl rfl ?_);refine a8 (bh a rfl rfl ?_);have hi:=(Array.getElem?_eq_some_iff.mp d).1;have k:=c.typeIs;refine a8 (cb k slot_tuple_getitem.lookup ?_);refine a8 (wpAny_mkInt ?_);refine a8 (ci (getItem_tuple c 00 00 (seqIndex_of 00 00) (by simpa using d) ?_))
 refine a8 (bh a rfl rfl ?_);refine a8 (bi a (by simp) λg j f=>?_)
 exact ac ⟨x,rfl,ac (e g _ j f)⟩
def next_end {Q:Option Value->Shared->Prop}(i:A.handled=none)(a:IsRv s.heap it (.ref l) (-1))
  (d:∀h',eL it s.heap h'->Q none {s with heap:=h'}):wpAny 08 A (pyNext (.ref it)) Q E s:=by
 refine a8 (ci (aX (U9 a) jd (aN jd (U9 a) wV ?_ (ui _))));refine a8 (c9 rfl ?_);refine a8 (bh a rfl rfl ?_);refine a8 (bh a rfl rfl ?_);refine a8 (df ?_);refine a8 (show wpAny _ _ _ _ _ _ from ?_);refine a8 (bi a (by simp) λj g f=>?_)
 refine bi g (by simp) λk o c=>?_
 refine a8 (show wpAny _ _ (newExc _ []>>=λe=>raiseNew e) _ _ _ from ?_);refine a8 ?_;refine a8 (aO (a8 (c9 (by first|rfl|(simp only[firstArgMember])) (aO ?_ (by size_fits)))) (by size_fits))
 refine a8 (wpAny_handled ?_);rw[i];refine a8 (ac (wpAny_throw ?_));refine a8 (cC ⟨_,ai _ rfl,rfl⟩ isSubtype_stop ?_);exact ac (d _ (((f.extBut.trans c.extBut).push _).push _))
def iter_rv {v:Value}{i:Int}{Q:Value->Shared->Prop}(a:IsRv s.heap it v i)(h:Q (.ref it) s):wpAny 08 A (pyIter (.ref it)) Q E s:=by
 refine wpAny_pyIter_slot (U9 a) uj (aN uj (U9 a) Y5 ?_ (qI _));exact ac ⟨_,rfl,"reversed",_,U9 a,jd.lookup,h⟩
def Xm:mroOf (.type "reversed")=pure [.type "reversed",.type "object"]:=by rw[mroOf_type];kernel_rfl
def Ff:typeLookup (.type "reversed") "__new__"=pure (some (.builtin "reversed.__new__")):=by kernel_rfl
def Ka:Bind.madeBy (.type "reversed")=pure (some "reversed.__new__"):=madeBy_type Xm Ff (by decide+kernel)
def ER:isSubtype (.type "reversed") (.type "reversed")=pure true:=by rw[isSubtype_type];kernel_rfl
def Lq (a:Value):newClass "reversed" ⟨[.type "reversed",a],[]⟩=pure (.type "reversed",[a]):=by
 unfold newClass;simp only[isType,ER,pure_bind,eC,aH,if_false]
def qJ:entryFor table "reversed.__new__"=some Builtin.«reversed.__new__»:=entryFor_of_tree 06
def VV {Q:Fin->Shared->Prop}(c:IsTup s.heap l xs)(d:(xs.size:Int)<2^63)
  (h:∀tk,Q (.done (.ret (.ref s.1.1.size))) {s with heap:=s.heap.push {cls:=.type "reversed",data:=.fields #[.ref l,rawInt ((xs.size:Int)-1)]},toks:=tk}):
  wpAny 08 A (Builtin.«reversed.__new__» ⟨[.type "reversed",.ref l],[]⟩) Q E s:=by
 have a:=c.typeIs;refine a8 (c9 (Lq _) ?_);refine a8 (c9 (by first|rfl|kernel_rfl) ?_)
 refine a8 (c9 (by first|rfl|kernel_rfl) ?_)
 refine a8 (cb a HP ?_);refine a8 ?_;refine a8 (cC a Fi ?_);refine a8 (cb a slot_tuple_getitem.lookup ?_);refine ac ?_;refine a8 (len_tuple c d ?_);refine a8 (c9 rfl ?_);refine a8 (show wpAny _ _ (newObj _ (.fields #[.ref l,rawInt _])) _ _ _ from ?_);exact aO (ac (h _)) (by size_fits)
def qK:Slot "reversed" "__init__" "object.__init__":=
 .of (owner:="object") (n:="__init__") 06 (by decide+kernel) (by decide+kernel) (by decide+kernel)
  (by first|exact .inl (by decide+kernel)|exact .inr (by decide+kernel)) 06
def qL:TypeCalled "reversed" "reversed.__new__" "object.__init__":=
 ⟨by decide+kernel,by decide+kernel,⟨_,_,Xm⟩,Ka,by decide+kernel,by kernel_rfl,qK⟩
def VW (a:Value):checkTypeCall "reversed" ⟨[a],[]⟩=pure ():=by kernel_rfl
def VX (a:Value):checkBuiltinCall "reversed.__new__" ⟨[.type "reversed",a],[]⟩=pure ():=by kernel_rfl
def call_rvT {Q:Value->Shared->Prop}(a:IsTup s.heap l xs)(f:(xs.size:Int)<2^63)
  (h:∀tk,Q (.ref s.1.1.size) {s with heap:=s.heap.push {cls:=.type "reversed",data:=.fields #[.ref l,rawInt ((xs.size:Int)-1)]},toks:=tk}):wpAny 08 A (call (.type "reversed") [.ref l]) Q E s:=by
 refine callType_new (S:=λ_ R s=>(∃xs,IsTup s.heap l xs/\(xs.size:Int)<2^63/\∀tk,R (.ok (.ret (.ref s.1.1.size))) {s with heap:=s.heap.push {cls:=.type "reversed",data:=.fields #[.ref l,rawInt ((xs.size)-1)]},toks:=tk})) qL 01 (VW _) (VX _) (λobj=>PySem.F.args_object_init_2 obj _) qJ (.of_wp λprog w A R s h=>?_) ⟨xs,a,f,λtk=>?_⟩
 ·obtain⟨xs,e,c,d⟩:=h;exact VV e c λtk=>⟨_,rfl,d tk⟩
 ·exact⟨⟨_,ai _ rfl,rfl⟩,h tk⟩
end
end PySem.RV
namespace PySem.RV
open PySem PySem.Spec PyProof.Rows
def VY:typeLookup (.type "list_reverseiterator") "__len__"=pure none:=by rw[typeLookup_type,builtinLookup_eq_fast];kernel_rfl
def Kc:typeLookup (.type "list_reverseiterator") "__length_hint__"=pure (some (.builtin "list_reverseiterator.__length_hint__")):=by rw[typeLookup_type];kernel_rfl
section
variable {prog:Program}{w:World}{A:Around}{E:Value->Shared->Prop}{s:Shared}{I:Addr}{fp wr:List Addr}{G:Array GenState->Array GenState->Prop}{n:Nat}{P:Nat->Value->Prop}{St:Nat->Shared->Prop}
def Y6 {Q:List Value->Shared->Prop}(W:WalksS prog w A.in1 I fp wr G n P St)(d:∀i s,St i s->s.TypeIs (.ref I) "list_reverseiterator")(l:St 0 s)(j:∀b∈fp,b<s.1.1.size)(y:I∈fp)
  (x:∀f acc,Moved wr G s f->ItemsOf P acc n->Q acc.toList f) (hn:n<=sizeLine):wpAny 08 A (collect (.ref I)) Q E s:=by
 have p:=λz=>bo _ (j _ z);have v:s.1.1.size≠I:=λz=>p (z▸y);unfold collect;refine a8 (wpAny_runValue (bJ F.entry_proto_collect ?_));refine a8 (aO (ac ⟨cg F.plain_list_iadd _,bJ F.entry_list_iadd ?_⟩));have a:=W.frame 0 s (s.heap.push {cls:=.type "list",data:=.seq ([]:List _).toArray}) _ l (aq _) λb _ o e=>aa _ e;have B:(s.heap.push {cls:=.type "list",data:=.seq ([]:List _).toArray}).get? _=some _:=ai _ rfl;have r:h_ (.ref s.1.1.size) (.ref I)=false:=by simp[h_,v]
 refine(show wpAny _ _ (fM _ _ _) _ _ _ from ?_);refine a8 (dR (d 0 _ a) ?_);rw[if_neg (by rw[r];decide)]
 refine a8 (W.self 0 _ _ _ a (a8 (bp ?_)));refine a8 (cb (d 0 _ a) VY ?_);refine a8 (cb (d 0 _ a) Kc ?_);generalize k:("list_reverseiterator.__length_hint__")=id0;subst k;refine a8 (cC (b:=true) (d 0 _ a) 06 ?_)
 refine ac ?_;refine ac ⟨cg F.plain_extend_loop _,codeAny_extend_loopS W hn _ p _ n 0 _ _ _ rfl (aU _) a B (ItemsOf.nil P) λf q C u g c=>?_⟩;exact a8 (wpAny_load g (ac (x f _ (Moved.drop_new u (aq _)) c)))
def LI {Q₁:Value->Shared->Prop}(W:WalksS prog w A.in1.in1 I fp wr G n P St)(j:∀i s,St i s->s.TypeIs (.ref I) "list_reverseiterator")(d:St 0 s)(g:∀b∈fp,b<s.1.1.size)(q:I∈fp)
  (h:∀c acc,Moved wr G s c->ItemsOf P acc n->Q₁ (.ref c.1.1.size) {c with heap:=c.heap.push {cls:=.type "tuple",data:=.seq acc} }) (hsz:n<=sizeLine):
  codeAny 08 A (.call (.builtin "tuple.__new__") ⟨[.type "tuple",.ref I],[]⟩) (wants Q₁ E) s:=by
 refine codeAny_of_tree ?_;refine(show wpAny _ A.in1 (do checkBuiltinCall "tuple.__new__" ⟨[.type "tuple",.ref I],[]⟩;again (.builtin "tuple.__new__" ⟨[.type "tuple",.ref I],[]⟩)) _ _ s from ?_)
 refine a8 (c9 (F.newCall_tuple_1 _) (ac ⟨cg lO _,bJ F.entry_tuple_new ?_⟩));rw[Around.under_plainId lO _];have k:=sub_tuple_self;have f:=init_tuple_lookup;have l:=madeHere_tuple;have p:=j 0 s d
 wp_walk using dR p,Y6 (hn:=hsz) W j d g q
 intro c acc o a;have e:acc.toList.toArray=acc:=by simp
 refine(show wpAny _ _ (i5 acc.toList.toArray>>=λv=>ret v) _ _ _ from ?_);unfold i5;refine a8 (aO (ac ?_) (by rw[e];show acc.size<=sizeLine;rw[a.1];exact hsz))
 rw[e];exact h c acc o a
def tuple_lr {Q:Value->Shared->Prop}(W:WalksS prog w A.in1.in1.in1 I fp wr G n P St)(j:∀i s,St i s->s.TypeIs (.ref I) "list_reverseiterator")(f:St 0 s)(e:∀b∈fp,b<s.1.1.size)(l:I∈fp)
  (k:∀c acc,Moved wr G s c->ItemsOf P acc n->Q (.ref c.1.1.size) {c with heap:=c.heap.push {cls:=.type "tuple",data:=.seq acc} }) (hsz:n<=sizeLine):
  wpAny 08 A (call (.type "tuple") [.ref I]) Q E s:=
 callType_codes (Q₁:=λobj a=>a.TypeIs obj _/\Q obj _) iT (F.typeCall_tuple_1 _) F.entry_object_init
  (LI (hsz:=hsz) W j f e l λc acc g d=>⟨⟨_,ai _ rfl,rfl⟩,k c acc g d⟩) λobj a h₁=>
   ⟨h₁.1,iU obj _,object_init_meets iT.init.lookup iT.made 01 _ w _ _ _ ⟨h₁.1,rfl,h₁.2⟩⟩
end
end PySem.RV
namespace PV
open PySem PySem.Spec PyProof.Rows L2
def B6 (K:aj)(a:Addr)(n:Nat):It:=
 ⟨λi H=>∃xs x,SqT K H a xs/\xs.length=n/\xs.reverse[i]?=some x,λi H x c=>c=H/\∀xs,SqT K H a xs->xs.reverse[i]?=some x,λi H=>∃xs,SqT K H a xs/\xs.length=n/\n<=i⟩
def Ct (K:aj)(a:Addr)(n:Nat):It:=
 ⟨λi H=>∃xs x,SqL K H a xs/\xs.length=n/\xs.reverse[i]?=some x,λi H x c=>c=H/\∀xs,SqL K H a xs->xs.reverse[i]?=some x,λi H=>∃xs,SqL K H a xs/\xs.length=n/\n<=i⟩
def Xn {a:Type}{xs:List a}{i:Nat}{x:a}(h:xs.reverse[i]?=some x):i<xs.length/\xs[xs.length-1-i]?=some x:=by
 have hi:=(aP.mp h).1;rw[cL]at hi;rw[iO hi]at h;exact⟨hi,h⟩
def VZ {P:Program}{w:World}{K:aj}{tg:Expr}(a it:Addr)(n:Nat):Uw P w K tg (B6 K a n) [it] it (λi h=>i<=n/\RV.IsRv h it (.ref a) ((n:Int)-1-(i:Int))) where
 mem:=by simp
 obj:=λi h st b d=>by
  have e:b=it:=by simpa using d
  subst e;exact⟨_,st.2,λv z=>nomatch z⟩
 keep:=λi h h' st k=>⟨st.1,k it (by simp) _ st.2⟩
 item:=by
  intro X C l D S i f s Q H E I j st N;subst C l D;obtain⟨xs,x,q,hn,r⟩:=N;obtain⟨y,O,p,hz⟩:=I.tuple q;obtain⟨hi,G⟩:=Xn r;obtain⟨u,Z,ru⟩:=O.get G;obtain⟨L,F,f2,M,J,B⟩:=j it (by simp)
  have hl:=O.length;have e:(n:Int)-1-(i:Int)=((xs.length-1-i:Nat):Int):=by omega
  have c:=st.2;rw[e]at c;have d:(y.toArray.size:Int)<2^63:=by
   rw[c7]at hz;simp;omega
  refine RV.next_item c p d (x:=u) (by simpa using Z) λh' tk g sb=>?_
  have I1:Inv X f Q H {s with heap:=h',toks:=tk}:=I.turned (t':=tk) (λb o d e=>(sb.2 b d).trans e) L F M J B;have U:((xs.length-1-i:Nat):Int)-1=(n:Int)-1-((i+1:Nat):Int):=by omega
  rw[U]at g;exact⟨u,rfl,yS (s:={s with heap:=h',toks:=tk}) g rfl rfl 01 ⟨x,H,I1,ru,⟨rfl,λys hy=>by rw[I.tuple_inj hy q];exact r⟩,⟨by omega,g⟩,λb d=>(j b d).1⟩⟩
 done:=by
  intro X C l D S i f s Q H E I j st N;subst C l D;obtain⟨xs,q,hn,r⟩:=N;obtain⟨L,F,f2,M,J,B⟩:=j it (by simp)
  have c:=st.2;have h1:=st.1;rw[show (n:Int)-1-(i:Int)= -1 by omega]at c
  exact RV.next_end (I.ok.hd S) c λh' eb=>⟨rfl,I.turned (t':=s.toks) (λb o d e=>eb b o d e) L F M J B⟩
 self:=λ_ _ _ _ _ st h=>RV.iter_rv st.2 h
def x8 {P:Program}{w:World}{K:aj}{tg:Expr}(a it:Addr)(n:Nat):Uw P w K tg (Ct K a n) [it] it (λi h=>i<=n/\h.IsRevIter it a ((n:Int)-1-(i:Int))) where
 mem:=by simp
 obj:=λi h st b l=>by
  have e:b=it:=by simpa using l
  subst e;obtain⟨o,e,c,d⟩:=st.2;exact⟨o,e,λv z=>by rw[d]at z;cases z⟩
 keep:=λi h h' st k=>⟨st.1,st.2.at λo e=>k it (by simp) o e⟩
 item:=by
  intro X D r F S i g s Q H E I q st O;subst D r F;obtain⟨xs,x,y,hn,B⟩:=O;obtain⟨its,rv,p,hz⟩:=I.list y;obtain⟨hi,J⟩:=Xn B;obtain⟨u,Z,ru⟩:=rv.get J;obtain⟨M,G,f2,N,L,C⟩:=q it (by simp)
  have e:(n:Int)-1-(i:Int)=((xs.length-1-i:Nat):Int):=by omega
  have f:=st.2;rw[e]at f;refine wpAny_pyNext_rev_item f p.isList (x:=u) (by simpa using Z) λh' j sb=>?_
  have I1:Inv X g Q H {s with heap:=h'}:=I.turned (t':=s.toks) (λb o l e=>(sb.2 b l).trans e) M G N L C;have U:((xs.length-1-i:Nat):Int)-1=(n:Int)-1-((i+1:Nat):Int):=by omega
  rw[U]at j;obtain⟨o,e,c,d⟩:=id j;exact⟨u,rfl,yS (s:={s with heap:=h'}) e c d 01 ⟨x,H,I1,ru,⟨rfl,λys hy=>by rw[I.list_inj hy y];exact B⟩,⟨by omega,j⟩,λb l=>(q b l).1⟩⟩
 done:=by
  intro X D r F S i g s Q H E I q st O;subst D r F;obtain⟨xs,y,hn,B⟩:=O;obtain⟨M,G,f2,N,L,C⟩:=q it (by simp)
  have f:=st.2;have h1:=st.1;rw[show (n:Int)-1-(i:Int)= -1 by omega]at f
  exact wpAny_pyNext_rev_end (I.ok.hd S) f λh' eb=>⟨rfl,I.turned (t':=s.toks) (λb o l e=>eb b o l e) M G N L C⟩
 self:=λ_ _ _ _ _ st h=>wpAny_pyIter_revIter st.2 h
theorem zr.rev {H:Hp}:∀{vs:List V} {ts:List T},zr H vs ts->zr H vs.reverse ts.reverse
 |_,_,.nil=>.nil
 |_,_,.cons r t=>by rw[cY,cY];exact(zr.rev t).append (.cons r .nil)
def Lj {K:aj}{d k:Hp}{a:Addr}{xs:List V}{ts:List T}(h:d a=some (.tup xs))(r:zr d xs ts):rI d k (B6 K a xs.length) ts.reverse:=λo p g f=>by
 have c:=f _ _ (g _ _ h);have hr:=r.rev;refine⟨λi hi=>?_,λi t x H3 e y=>?_,λi hi=>⟨xs,SqT.of c,rfl,by rw[cL]at hi;rw[r.length];exact hi⟩⟩
 ·obtain⟨v,e,_⟩:=hr.get (ah hi);exact⟨xs,v,SqT.of c,rfl,e⟩
 ·obtain⟨rfl,y⟩:=y;obtain⟨v,l,j⟩:=hr.get e;have:=y xs (SqT.of c);rw[l]at this;cases this;refine⟨zi.refl _,?_⟩;rw[zy.self o _ f];exact j.mono g
def Ih {K:aj}{d k:Hp}{a:Addr}{xs:List V}{ts:List T}(h:d a=some (.lst xs))(r:zr d xs ts):rI d k (Ct K a xs.length) ts.reverse:=λo p g f=>by
 have c:=f _ _ (g _ _ h);have hr:=r.rev;refine⟨λi hi=>?_,λi t x H3 e y=>?_,λi hi=>⟨xs,SqL.of c,rfl,by rw[cL]at hi;rw[r.length];exact hi⟩⟩
 ·obtain⟨v,e,_⟩:=hr.get (ah hi);exact⟨xs,v,SqL.of c,rfl,e⟩
 ·obtain⟨rfl,y⟩:=y;obtain⟨v,l,j⟩:=hr.get e;have:=y xs (SqL.of c);rw[l]at this;cases this;refine⟨zi.refl _,?_⟩;rw[zy.self o _ f];exact j.mono g
def Cz (a:En->R T):En->R (List T):=λρ=>(a ρ).bind λt=>(jZ t).bind λxs=>.ok xs.reverse
def x9:T->R T
 |.lst xs=>if xs.length<=mR then .ok (.tup xs.reverse)else .bad
 |_=>.bad
section
variable {X:Cx}{Y:Fx}{a b tg:Expr}{fa fb:En->R T}{pos p p' pos':Pos}
def F4 {r:TA}(J:Gl X "reversed")(x:X.mg "reversed"=none)(G:PA X [a] r)(D:nr X a:=by exact ng rfl):
  PI X tg (.Call (.Name "reversed" p) [a] [] pos) (λj H R=>r j H λvs c=>∃l xs,vs=[.ref l]/\((c l=some (.lst xs)/\R (Ct X.K l xs.length) c)\/(c l=some (.tup xs)/\R (B6 X.K l xs.length) c))):=by
 intro v s j H R I h;refine Call_ (j4 I J x boot_reversed (bg (mN (G pos _ s j H _ I h) λL f ⟨vs,c,g,C,y⟩=>?_) D rfl));obtain⟨l,xs,e,q⟩:=y;subst e;obtain⟨u,rfl,B⟩:=Zk C;obtain rfl:u=Value.ref l:=B;have ok:∀b∈[f.1.1.size],wF X _ c b:=λb F=>by
  have e:=by simpa using F
  subst e;exact g.fpOk (aq _) (g.hok.fresh (aq _))
 rcases q with ⟨k,q⟩|⟨k,q⟩
 ·obtain⟨d,i,p,hz⟩:=g.list (SqL.of k);have e:((d.toArray.size):Int)-1=(xs.length)-1-((0):Int):=by have:=i.length;simp;omega
  refine call_reversed_list p.isList ?_;rw[e];have st:(f.heap.push (revObj l ((xs.length)-1-((0):Int)))).IsRevIter _ l _:=⟨_,ai _ rfl,rfl,rfl⟩;refine wpAny_pyIter_revIter st ?_;exact⟨f.1.1.size,[f.1.1.size],_,_,c,rfl,g.kept (λb o e=>aa _ e),x8 l _ _,⟨aU _,st⟩,ok,q⟩
 ·obtain⟨d,i,p,hz⟩:=g.tuple (SqT.of k);have w:=i.length;have e:((d.toArray.size):Int)-1=(xs.length)-1-((0):Int):=by simp;omega
  refine RV.call_rvT p (by rw[c7]at hz;omega) λtk=>?_
  rw[e];refine RV.iter_rv (ai _ rfl) ?_;exact⟨f.1.1.size,[f.1.1.size],_,_,c,rfl,g.kept (λb o e=>aa _ e),VZ l _ _,⟨aU _,ai _ rfl⟩,ok,q⟩
def FH (k:Gl X "reversed")(i:X.mg "reversed"=none)(j:Snd X Y a fa)(f:nr X a:=by exact ng rfl):Wh X Y tg (.Call (.Name "reversed" p) [a] [] pos) (Cz fa):=.mk λρ=>
 PI.imp (F4 k i (zh (j ρ) zt f) f) λo H R ⟨B,I,q⟩=>step I q λt v e _ u g c d=>by
  cases g with
  |@tup l xs ts h r=>exact⟨l,xs,rfl,.inr ⟨c.sB _ _ h,ZR c (show Po Y rI _ e _ R from d) (Lj h r)⟩⟩
  |@lst l xs ts h r=>exact⟨l,xs,rfl,.inl ⟨c.sB _ _ h,ZR c (show Po Y rI _ e _ R from d) (Ih h r)⟩⟩
  |_=>exact d.elim
theorem UP:∀{xs d:List V} {c e:List Value},Vals xs c->Vals d e->Vals (xs++d) (c++e)
 |_,_,_,_,.nil,q=>q
 |_,_,_,_,.cons r t,q=>.cons r (UP t q)
theorem UQ:∀{xs:List V} {c:List Value},Vals xs c->Vals xs.reverse c.reverse
 |_,_,.nil=>.nil
 |_,_,.cons r t=>by rw[cY,cY];exact UP (UQ t) (.cons r .nil)
def Ke {c:List Value}{acc:Array Value}(h:ItemsOf (λi v=>c.toArray[c.toArray.size-1-i]?=some v) acc c.toArray.size):acc.toList=c.reverse:=by
 have g:=by
  have:=h.1;simpa using this
 have f:=h.2;refine cX λi=>?_
 by_cases hi:i<c.length
 ·have d:i<acc.toList.length:=by simp;omega
  have e:=ah d;have:=f i _ (by rw[←cS];exact e)
  rw[iO hi,e,←this];simp
 ·rw[aS (by simp;omega),aS (by simp;omega)]
def E5 (hh:X.A.handled=none)(gl:Gl X "tuple")(mg:X.mg "tuple"=none)(M:Gl X "reversed")(O:X.mg "reversed"=none)(ha:Snd X Y a fa)(hs:nr X a:=by exact ng rfl)(x:nr X (.Call (.Name "reversed" p') [a] [] pos'):=by exact ng rfl):
  Snd X Y (.Call (.Name "tuple" p) [.Call (.Name "reversed" p') [a] [] pos'] [] pos) (mM x9 fa):=.mk λρ=>by
 intro G s Z H Q I ⟨B,J,q⟩;have hq:tS Y rC fa ρ Z H (λv d=>∃l xs,v=.ref l/\d l=some (.lst xs)/\xs.length<=sizeLine/\∀t,d t=none->Q (.ref t) (kj d t (.tup xs.reverse))):=by
  refine step J q λt v d _ j F w g=>?_;cases F with
  |@lst l xs ts h r=>
   have g:Po Y rC _ d (if ts.length<=mR then .ok (.tup ts.reverse)else .bad) Q:=g
   split at g
   ·rename_i C;exact⟨l,xs,rfl,w.sB _ _ h,by rw[r.length];exact ZD C,λt ht=>GO w.sB g rfl r.rev ht⟩
   ·exact g.elim
  |_=>exact g.elim
 refine cP (j4 I gl mg PyProof.Rows.Boot.«tuple» (bg (rest:=[]) ?_ x rfl));rw[x];refine lg (cP (j4 I M O boot_reversed (bg (e:=a) (rest:=[]) ?_ hs rfl)));refine mN ((zh (ha ρ) zt hs) pos' G s Z H (λvs d=>∃l xs,vs=[.ref l]/\d l=some (.lst xs)/\xs.length<=sizeLine/\∀t,d t=none->Q (.ref t) (kj d t (.tup xs.reverse))) I ?_) λus j ⟨vs,d,w,F,l,xs,e,S,hz,g⟩=>?_
 ·obtain⟨B',J',k⟩:=hq;refine⟨B',J',?_⟩;revert k;cases fa ρ with
  |bad=>exact λk=>k
  |ex c=>exact λk=>k
  |ok t=>
   intro k v d j F;obtain⟨l,xs,rfl,h⟩:=k v d j F;exact⟨l,xs,rfl,h⟩
 subst e;obtain⟨u,rfl,ru⟩:=Zk F;obtain rfl:u=Value.ref l:=ru;obtain⟨f,P,pl,_⟩:=w.list (SqL.of S);have y:=w.hok.lt S;refine call_reversed_list pl.isList (lI ?_);have e0:((f.toArray.size):Int)-1-((0:Nat))=((f.toArray.size):Int)-1:=by omega
 refine RV.tuple_lr (Walks.listRev (A:=X.A.in1.in1.in1) hh _ l (aD y) _).toS (λi s st=>st.2.1.typeIs) ⟨aU _,⟨_,ai _ rfl,rfl,by rw[e0];rfl⟩,pl.isList.push _⟩ (λb C=>?_) (by simp) (λs' acc L D=>?_) (by rw[aJ,←P.length];exact hz)
 ·have C:=by simpa using C
  rcases C with rfl|rfl
  ·rw[bT];exact dU _
  ·rw[bT];exact c8 y
 obtain⟨h',g',d',N,os'⟩:=s';have e1:g'=j.gens:=L.gens;have e2:d'=j.drawn:=L.drawn;have e3:=L.os;subst e1 e2 e3;have kp:∀b o,j.heap.get? b=some o->h'.get? b=some o:=λb o e=>L.heap b o (λz=>by
  have z:b=j.1.1.size:=by simpa using z
  have:=av e;rw[z]at this;exact bo _ this) (aa _ e)
 have U:=w.kept (t':=N) kp;have ea:acc=f.reverse.toArray:=by rw[←Ke D]
 rw[ea];refine⟨.ref h'.objs.size,kj d _ (.tup xs.reverse),U.laid (λb u e=>aa _ e) (aq _) ⟨by rw[cL];exact hz,f.reverse,UQ P,⟨_,ai _ rfl,rfl,_,rfl⟩,.inr ⟨_,ai _ rfl,rfl⟩⟩,rfl,g _ (U.hok.fresh (aq _))⟩
end
noncomputable def wJ:List T->Option Bool
 |[]=>some false
 |.bl k::r=>match wJ r with|some j=>some (k||j)|none=>none
 |_::_=>none
def BR:T->R T
 |.lst ts=>match wJ ts with|some k=>.ok (.bl k)|none=>.bad
 |_=>.bad
theorem qM:∀{H:Hp} {xs:List V} {ts:List T} {a:List Value} {k:Bool},zr H xs ts->Vals xs a->wJ ts=some k->∃tr:Nat->Bool,(∀i v,a[i]?=some v->v=Value.bool (tr i))/\(aV a.length).any tr=k
 |_,_,_,_,k,.nil,.nil,h=>by
  have h':=h;cases h';exact⟨λ_=>true,λi v e=>by simp at e,rfl⟩
 |H,_,_,_,k,.cons r rs,.cons (b:=u) rv vs,h=>by
  cases r with
  |bl b=>
   unfold wJ at h;split at h
   ·rename_i j e;cases h;obtain⟨tr,d,c⟩:=qM rs vs e;obtain rfl:u=Value.bool b:=rv;refine⟨λi=>match i with|0=>b|i+1=>tr i,λi v e=>?_,?_⟩
    ·cases i with
     |zero=>simp at e;exact e.symm
     |succ i=>exact d i v (by simpa using e)
    ·rw[aA,dE,hZ,List.any_map,←c];rfl
   ·cases h
  |_=>cases h
section
variable {X:Cx}{Y:Fx}{a b:Expr}{fa fb:En->R T}{pos p p' pos' pt:Pos}{elts:List Expr}{kk:Nat}
def qN (y:X.A.handled=none):Zc X (.builtin "any") (λvs H Q=>∃l xs ts k,vs=[.ref l]/\H l=some (.lst xs)/\zr H xs ts/\wJ ts=some k/\Q (.bl k) H):=by
 intro j s N H vs M Q I c h;obtain⟨l,xs,ts,k,rfl,w,r,F,q⟩:=h;obtain⟨u,rfl,D⟩:=Zk c;obtain rfl:u=Value.ref l:=D;obtain⟨d,c,p,_⟩:=zH I (.inl w) r;obtain⟨tr,B,x⟩:=qM r c F;refine call_any_walk (cW p ?_);have f:=I.hok.lt w;have old:∀b o,s.heap.get? b=some o->(s.heap.push {cls:=.type "list_iterator",data:=.fields #[.ref l,.int 0 0]}).get? b=some o:=λb o e=>aa _ e;refine⟨s.1.1.size,_,_,_,_,_,tr,rfl,ll (A:=X.A.in1) y _ l (aD f) d.toArray,?_,?_,λh' tk g=>?_⟩
 ·refine⟨?_,p.at λo e=>old _ o e⟩;exact⟨_,ai _ rfl,rfl,rfl⟩
 ·intro i v L G J hi C;rw[B i v (by simpa using hi)]
  exact be C
 ·rw[aJ,x];refine⟨.bl k,H,I.kept (λb o e=>g b o ?_ (old b o e)),rfl,q⟩;simp;exact aD (av e)
def HD (c:X.A.handled=none)(f:Gl X "any")(i:X.mg "any"=none)(j:jv X Y a fa)(g:nr X a:=by exact ng rfl):Snd X Y (.Call (.Name "any" p) [a] [] pos) (mM BR fa):=
 JT (qN c) (λv t B H Q r d q=>by
  cases r with
  |@lst l xs ts h r=>
   have q:Po Y rC B H (match wJ ts with|some k=>.ok _|none=>.bad) Q:=q
   split at q
   ·rename_i k e;exact⟨l,xs,ts,k,rfl,h,r,e,nk d q rfl (.bl k)⟩
   ·exact q.elim
  |_=>exact q.elim) f i PyProof.Rows.Boot.«any» j g
end
noncomputable def UR (x:Int):List Int->List Int
 |[]=>[x]
 |y::a=>if x<=y then x::y::a else y::UR x a
def qO:List Int->List Int
 |[]=>[]
 |x::xs=>UR x (qO xs)
def xa:T->R T
 |.lst ts=>match zR ts with|some l=>if ts.length<64 then .ok (.lst ((qO l).map T.int))else .bad|none=>.bad
 |_=>.bad
theorem JX (x:Int):∀a:List Int,(UR x a).Perm (x::a)
 |[]=>.refl _
 |y::a=>by
  unfold UR;split
  ·exact .refl _
  ·exact((JX x a).cons y).trans (.swap x y a)
theorem uk:∀xs:List Int,(qO xs).Perm xs
 |[]=>.refl _
 |x::xs=>(JX x _).trans ((uk xs).cons x)
theorem JY (x:Int):∀a:List Int,a.Pairwise (·<=·)->(UR x a).Pairwise (·<=·)
 |[],_=>by unfold UR;simp
 |y::a,h=>by
  unfold UR;rw[dG]at h;split
  ·rename_i c;refine dG.mpr ⟨λz hz=>?_,dG.mpr h⟩;rcases au.mp hz with rfl|hz
   ·exact c
   ·exact dW c (h.1 z hz)
  ·refine dG.mpr ⟨λz hz=>?_,JY x a h.2⟩;rcases au.mp ((JX x a).mem_iff.mp hz)with rfl|hz
   ·omega
   ·exact h.1 z hz
theorem JZ:∀xs:List Int,(qO xs).Pairwise (·<=·)
 |[]=>.nil
 |x::xs=>JY x _ (JZ xs)
theorem ul:∀(xs a:List Int),xs.Perm a->xs.Pairwise (·<=·)->a.Pairwise (·<=·)->xs=a
 |[],a,p,_,_=>(List.nil_perm.mp p).symm
 |x::xs,[],p,_,_=>by cases List.perm_nil.mp p
 |x::xs,y::a,p,d,c=>by
  rw[dG]at d c;have e:x=y:=by
   have f:x<=y:=by
    rcases au.mp (p.mem_iff.mpr (ae))with z|z
    ·omega
    ·exact d.1 y z
   have g:y<=x:=by
    rcases au.mp (p.mem_iff.mp (ae))with z|z
    ·omega
    ·exact c.1 x z
   omega
  subst e;rw[ul xs a (List.Perm.cons_inv p) d.2 c.2]
def jJ:∀{a:List Value} {ns:List Int},IntsAre a ns->Vals (ns.map V.int) a:=by
 intro a ns h
 induction h with
 |nil=>exact .nil
 |cons n t _ c=>exact .cons ⟨_,rfl⟩ c
theorem US:∀(a:List (Int×Tok)),IntsAre (a.map λp=>Value.int p.1 p.2) (a.map (·.1))
 |[]=>.nil
 |p::a=>.cons _ _ (US a)
theorem um {H:Hp}:∀ns:List Int,zr H (ns.map V.int) (ns.map T.int)
 |[]=>.nil
 |n::ns=>.cons (.int n) (um ns)
section
variable {X:Cx}{Y:Fx}{a b:Expr}{fa fb:En->R T}{pos p p' pos' pt:Pos}{elts:List Expr}{kk:Nat}
def Y7:Zc X (.builtin "sorted") (λvs H Q=>∃l xs ts d,vs=[.ref l]/\H l=some (.lst xs)/\zr H xs ts/\zR ts=some d/\ts.length<64/\∀r,H r=none->Q (.ref r) (kj H r (.lst ((qO d).map V.int)))):=by
 intro v s P H vs O Q I i h;obtain⟨l,xs,ts,d,rfl,M,r,G,C,q⟩:=h;obtain⟨u,rfl,F⟩:=Zk i;obtain rfl:u=Value.ref l:=F;obtain⟨c,i,p,w,_⟩:=zH I (.inl M) r;obtain⟨o,k,y⟩:=J0 r i G;refine sorted_ints p (k▸US o) 00 λf j B x D=>?_
 have e:=ul _ _ (x.trans (by rw[y];exact(uk d).symm)) D (JZ d)
 obtain⟨n,N⟩:=sortedAll_at _ c f;have g:s.1.1.size<=s.1.1.size+1:=cD _;refine⟨.ref _,kj H _ _,I.laid (λb u e=>sortedAll_old e) g ?_,rfl,by have:=q _ (I.hok.fresh g);rw[←e]at this;exact this⟩
 have J:j.length=ts.length:=by
  have L:=x.length_eq;rw[ag]at L;have S:c.length=o.length:=by rw[k,ag]
  omega
 exact⟨by rw[ag,c7];omega,f.toList,n,jJ B,N⟩
def Hx (g:Gl X "sorted")(f:X.mg "sorted"=none)(i:jv X Y a fa)(d:nr X a:=by exact ng rfl):Snd X Y (.Call (.Name "sorted" p) [a] [] pos) (mM xa fa):=
 JT Y7 (λv t B H Q r k q=>by
  cases r with
  |@lst l xs ts h r=>
   have q:Po Y rC B H (match zR ts with|some l=>if ts.length<64 then .ok _ else .bad|none=>.bad) Q:=q
   split at q
   ·rename_i j e;split at q
    ·rename_i c;refine⟨l,xs,ts,j,rfl,h,r,e,c,λz hz=>?_⟩;exact q _ _ (zi.new hz _) (.lst (jc hz _) (um _))
    ·exact q.elim
   ·exact q.elim
  |_=>exact q.elim) g f PyProof.Rows.Boot.«sorted» i d
end
end PV
namespace PySem.RV
open PySem PySem.Spec PyProof.Rows PySem.Builtin.SmallTypes
def draws_tup {prog:Program}{w:World}{A:Around}(e:A.handled=none)(it l:Addr)(c:l≠it)(items:Array Value):Draws prog w A it [it,l] items.size (λi v=>items[i]?=some v) (λi h=>h.IsTupleIter it l i/\h.IsTuple l items) where
 live:=λi h st=>(ZG.nx_tup c items).there st it (.head _)
 frame:=λi h h' st d=>(ZG.nx_tup c items).keep st d
 item:=λi s Q E hi st f=>ZG.tup_item st.1 st.2 (x:=items[i]) (by simp[hi]) λh' a b=>f _ h' s.toks (by simp[hi]) ⟨a,st.2.extBut b.extBut c⟩ b
 done:=λs Q E st hE=>ZG.tup_stop e st.1 st.2 (by simp) hE
noncomputable abbrev Ef (i:Addr):Obj:={cls:=.type "enumerate",data:=.fields #[.none,.bool false,.ref i,rawInt 0,.none,.none]}
def qQ (l:Addr)(items:Array Value)(n:Nat)(e:Option Addr)(j:Array (Option Value)):
  Meets (Builtin.«enumerate.__new__» ⟨[.type "enumerate",.ref l],[]⟩) (λ_ R s=>s.heap.get? l=some {cls:=.type "tuple",dict:=e,data:=.seq items n,slots:=j}/\
   R (.ok (.ret (.ref (s.heap.push (ZG.oT l)).objs.size))) {s with heap:=(s.heap.push (ZG.oT l)).push (Ef s.1.1.size)}):=
 .of_wp λprog w A R s h=>by
  obtain⟨hp,g,d,tk,os⟩:=s;obtain⟨a,h⟩:=h;have f:=sub_enumerate;have i:lN (mr ⟨hp,g,d,tk,os⟩) l items:=⟨_,a,rfl,n,rfl⟩
  wp_walk using dy a
  refine wpAny_stack_any λst=>ac ?_;split
  ·rename_i c _ _ _ _ _;cases (c==Value.type "enumerate")<;>(wp_walk using dy a,cQ i;exact⟨_,rfl,h⟩)
  ·wp_walk using dy a,cQ i
   exact⟨_,rfl,h⟩
def enum_callT {prog:Program}{w:World}{A:Around}{E:Value->Shared->Prop}{s:Shared}{l:Addr}{items:Array Value}{Q:Value->Shared->Prop}(i:s.heap.IsTuple l items)
  (h:∀h',IsEnum h' (s.1.1.size+1) s.1.1.size 0 .none->h'.IsTupleIter s.1.1.size l 0->(∀b o,s.heap.get? b=some o->h'.get? b=some o)->Q (.ref (s.1.1.size+1)) {s with heap:=h'}):
  wpAny 08 A (call (.type "enumerate") [.ref l]) Q E s:=by
 obtain⟨⟨c,d,e,f⟩,g,j,n,hd⟩:=i;obtain rfl:c=.type _:=j;obtain rfl:e=.seq _ n:=hd;refine callType_new F.called_enumerate 01 (F.typeCall_enumerate_1 _) (F.newCall_enumerate_1 _) (λobj=>iU obj _) F.entry_enumerate_new (qQ l _ n d f) ⟨g,?_⟩
 have hz:(s.heap.push (ZG.oT l)).objs.size=s.1.1.size+1:=bT ..;have a:((s.heap.push (ZG.oT l)).push (Ef s.1.1.size)).get? _=some _:=ai _ rfl;rw[hz]at a;rw[hz];exact⟨⟨_,a,rfl⟩,h _ a ⟨_,aa _ (ai _ rfl),rfl,rfl⟩ λb o x=>aa _ (aa _ x)⟩
end PySem.RV
namespace PV
open PySem PySem.Spec PyProof.Rows L2
def CZ (K:aj)(l:Addr)(n:Nat):It:=
 ⟨λi H=>∃xs x,SqT K H l xs/\xs.length=n/\xs[i]?=some x,λi H v a=>∃p x,H p=none/\v=.ref p/\(∀xs,SqT K H l xs->xs[i]?=some x)/\a=kj H p (.tup [.int i,x]),λi H=>∃xs,SqT K H l xs/\xs.length=n/\n<=i⟩
def Y8 {P:Program}{w:World}{K:aj}{B:List Expr}{kk:Nat}{pt:Pos}(e it l:Addr)(n:Nat)(F:e≠it)(hle:l≠e)(J:l≠it):
  Uw P w K (.Tuple B kk pt) (CZ K l n) [e,it] e (λi h=>i<=n/\(∃old,IsEnum h e it i old)/\h.IsTupleIter it l i) where
 mem:=by simp
 obj:=λi h st b a=>by
  obtain⟨_,⟨old,j⟩,o,e1,c,d⟩:=st;rcases au.mp a with rfl|a
  ·exact⟨_,j,λv z=>nomatch z⟩
  ·have z:b=it:=by simpa using a
   subst z;exact⟨o,e1,λv z=>by rw[d]at z;cases z⟩
 keep:=λi h h' st k=>by
  obtain⟨hn,⟨old,j⟩,o,e1,r⟩:=st;exact⟨hn,⟨old,k e (by simp) _ j⟩,o,k it (by simp) o e1,r⟩
 item:=by
  intro X L U hK hc i M s σ H E I S st hg;subst L U hK;obtain⟨xs,x,O,hxn,Q⟩:=hg;obtain⟨f,Z,p,hz⟩:=I.tuple O;obtain⟨u,hu,ru⟩:=Z.get Q;obtain⟨hin,⟨old,j⟩,C⟩:=st;have hi:i<f.toArray.size:=by
   have:=(aP.mp hu).1;simpa using this
  have D:=RV.draws_tup (prog:=X.prog) (w:=X.w) (A:=X.A.in1) (I.ok.hd hc) it l J f.toArray;have hef:e∉[it,l]:=λz=>by
   rcases au.mp z with z|z
   ·exact F z
   ·exact hle (ax.mp z).symm
  have WE:=WalksT.enumerateD D e F hef (.head _);refine WE.item i s _ _ hi ⟨⟨old,j⟩,C,p⟩ λT vals h' tk L hT N hM hk=>?_;obtain⟨t,y,hy,rfl⟩:=L;have hyu:y=u:=by
   have:f[i]?=some y:=by simpa using hy
   rw[hu]at this;exact(aF this).symm
  subst hyu;refine⟨.ref T,rfl,?_⟩;refine WE.go B kk pt i T _ _ _ hM λh2 g G=>?_;have hTn:H T=none:=I.hok.fresh hT;have q:∀b∈[e,it],b≠T:=λb a z=>by
   obtain⟨_,_,h3,h4⟩:=hM;rcases au.mp a with rfl|a
   ·exact h3 z.symm
   ·have:b=it:=by simpa using a
    subst this;exact h4 z.symm
  have YC:IsTup h2 T #[.int i t,y]:=by
   obtain⟨o,eo,r⟩:=N;exact⟨o,G T o (λa=>q T a rfl) eo,r⟩
  refine⟨.ref T,kj H T (.tup [.int i,x]),Inv.laidT (s:=s) (h':=h2) (ch:=[e,it]) (tk:=tk) I S (λb o a e=>G b o a (hk b o a e)) (λb o a _=>?_) hT ⟨by rw[c7];show 2<=16777216;decide,[.int i t,y],.cons ⟨t,rfl⟩ (.cons ru .nil),YC,.inl ⟨_,_,rfl⟩⟩,rfl,⟨T,x,hTn,rfl,λys hy=>by rw[I.tuple_inj hy O];exact Q,rfl⟩,⟨by have:=(aP.mp Q).1;omega,g.1,g.2.1⟩,λb a=>?_⟩
  ·obtain⟨⟨old2,he2⟩,⟨o2,eo2,_⟩,_⟩:=g;rcases au.mp a with rfl|a
   ·exact⟨_,he2⟩
   ·have:b=it:=by simpa using a
    subst this;exact⟨o2,eo2⟩
  ·rw[zg (q b a)];exact(S b a).1
 done:=by
  intro X L U hK hc i M s σ H E I S st hg;subst L U hK;obtain⟨xs,O,hxn,Q⟩:=hg;obtain⟨f,Z,p,hz⟩:=I.tuple O;obtain⟨hin,⟨old,j⟩,C⟩:=st;have hl:=Z.length;have D:=RV.draws_tup (prog:=X.prog) (w:=X.w) (A:=X.A.in1) (I.ok.hd hc) it l J f.toArray;have hn:f.toArray.size=i:=by simp;omega
  refine wpAny_pyNext_enum_endD D j (by rw[hn];exact⟨C,p⟩) λh' hk=>⟨rfl,?_⟩
  obtain⟨f0,f1,f2,f3,f4,f5⟩:=S it (by simp)
  exact I.turned (t':=s.toks) (λb o a e=>hk b o a e) f0 f1 f3 f4 f5
 self:=λ_ _ _ _ _ st h=>let ⟨_,⟨_,j⟩,_⟩:=st;wpAny_pyIter_enum j h
def xb {K:aj}{d k:Hp}{a:Addr}{xs:List V}{ts:List T}(h:d a=some (.tup xs))(r:zr d xs ts):rI d k (CZ K a xs.length) (jt ts):=λu q g f=>by
 have c:=f _ _ (g _ _ h);rw[Jm];refine⟨λi hi=>?_,λi t x H3 e y=>?_,λi hi=>⟨xs,SqT.of c,rfl,by rw[r.length];exact hi⟩⟩
 ·obtain⟨v,e,_⟩:=r.get (ah hi);exact⟨xs,v,SqT.of c,rfl,e⟩
 ·obtain⟨p,v,hp,rfl,y,rfl⟩:=y;obtain⟨t',o,rfl⟩:=ug e;obtain⟨w,l,j⟩:=r.get o;have:=y xs (SqT.of c);rw[l]at this;cases this;refine⟨zi.new hp _,.tup (jc hp _) (.cons (.int _) (.cons ?_ .nil))⟩;exact(j.mono g).mono (zy.ge f (zi.new hp _))
def UT (a:En->R T):En->R (List T):=λρ=>(a ρ).bind λt=>match t with
 |.tup xs=>.ok (jt xs)
 |_=>.bad
section
variable {X:Cx}{Y:Fx}{a:Expr}{fa:En->R T}{pos p pt:Pos}{elts:List Expr}{kk:Nat}
def xf {r:TA}(M:Gl X "enumerate")(y:X.mg "enumerate"=none)(L:PA X [a] r)(J:nr X a:=by exact ng rfl):
  PI X (.Tuple elts kk pt) (.Call (.Name "enumerate" p) [a] [] pos) (λk H R=>r k H λvs g=>∃l xs,vs=[.ref l]/\g l=some (.tup xs)/\R (CZ X.K l xs.length) g):=by
 intro v s k H R I h;refine Call_ (j4 I M y PyProof.Rows.Boot.«enumerate» (bg (mN (L pos _ s k H _ I h) λO d ⟨vs,g,c,G,B⟩=>?_) J rfl));obtain⟨l,xs,e,w,q⟩:=B;subst e;obtain⟨u,rfl,D⟩:=Zk G;obtain rfl:u=Value.ref l:=D;obtain⟨C,N,pl,hz⟩:=c.tuple (SqT.of w);have i:=c.hok.lt w;refine RV.enum_callT (show d.heap.IsTuple l _ from pl) λh' x j F=>wpAny_pyIter_enum x ?_;have f:∀b∈[d.1.1.size+1,d.1.1.size],wF X _ g b:=λb o=>by
  rcases au.mp o with rfl|o
  ·exact c.fpOk (cD _) (c.hok.fresh (cD _))
  ·have z:=by simpa using o
   subst z;exact c.fpOk (aq _) (c.hok.fresh (aq _))
 exact⟨d.1.1.size+1,[d.1.1.size+1,d.1.1.size],_,_,g,rfl,c.kept F,Y8 _ _ l _ (m9 _) (aD (c8 i)) (aD i),⟨aU _,⟨_,x⟩,j⟩,f,q⟩
def Kf (k:Gl X "enumerate")(i:X.mg "enumerate"=none)(j:Snd X Y a fa)(e:nr X a:=by exact ng rfl):Wh X Y (.Tuple elts kk pt) (.Call (.Name "enumerate" p) [a] [] pos) (UT fa):=.mk λρ=>
 PI.imp (xf k i (zh (j ρ) zt e) e) λo H R ⟨B,I,q⟩=>step I q λt v g _ u f c d=>by
  cases f with
  |@tup l xs ts h r=>exact⟨l,xs,rfl,c.sB _ _ h,ZR c (show Po Y rI _ g _ R from d) (xb h r)⟩
  |_=>exact d.elim
end
end PV
namespace PySem.RW37
open PySem PySem.Spec PyProof.Rows L2
end PySem.RW37
namespace PV
open PySem PySem.Spec PyProof.Rows L2 PySem.RW37
section
variable {X:Cx}{Y:Fx}{pos:Pos}{a b c:Expr}
def Y9 {x:List (Addr×Obj)}{G:L2.St}{H:Hp}{s:Shared}{A:Around}{E:Value->Shared->Prop}{Q:Value->Shared->Prop}{b:Bool}{v:V}{u:Value}{t:T}{B:Addr}{xs:List V}{f:List Value}(I:Inv X x G H s)(g:RelV v u)(r:Rep H v t)(hp:H B=some (.tup xs))(N:Vals xs f)
  (F:∀d,Vals xs d->d=f) (e:eY X.K (.type (nX t)) f=some b) (h:∀tk,Q (.bool b) {s with toks:=tk}):
  wpAny 07 A (call (.builtin "isinstance") [u,.ref B]) Q E s:=by
 obtain⟨_,d,C,⟨o,j,J,n,hd⟩,_⟩:=(show zQ _ X.w H _ B _ from I.hok B _ hp);obtain rfl:=F _ C;obtain⟨c,dd,L,M⟩:=o;subst J hd;cases r with
 |non=>cases (g);exact cV lF I.kIn True.intro j e (λz=>nomatch z) h
 |bl y=>cases (g);exact cV lG I.kIn True.intro j e (λz=>nomatch z) h
 |int i=>obtain⟨t,q⟩:=(g);cases q;exact cV lZ I.kIn True.intro j e (λz=>nomatch z) h
 |str y=>obtain⟨t,q⟩:=(g);cases q;exact cV l_ I.kIn True.intro j e (λz=>nomatch z) h
 |@tup a xs _ l=>
  cases (g);obtain⟨_,_,_,p,_⟩:=(show zQ _ X.w H _ a _ from I.hok a _ l);obtain⟨o,k,D,_⟩:=p;exact cV lc I.kIn ⟨o,k,D⟩ j e (λz=>nomatch z) h
 |@lst a xs _ l=>
  cases (g);obtain⟨_,_,n,_,k⟩:=(show zQ _ X.w H _ a _ from I.hok a _ l);exact cV eP I.kIn ⟨_,k,rfl⟩ j e (λz=>nomatch z) h
 |@fz a ob xs _ l=>
  cases (g);obtain⟨_,_,_,n,_,k⟩:=(show zQ _ X.w H _ a _ from I.hok a _ l);exact cV eP I.kIn ⟨_,k,rfl⟩ j e (λz=>nomatch z) h
def xg {n m:String}:∀d,Vals [.ty n,.ty m] d->d=[.type n,.type m]:=λd h=>by
 cases h with
 |cons p q=>
  cases q with
  |cons f e=>
   cases e;rw[p,f]
def qR:Zc X (.builtin "isinstance") (λxs H Q=>∃v d n m t b,xs=[v,.ref d]/\H d=some (.tup [.ty n,.ty m])/\Rep H v t/\eY X.K (.type (nX t)) [.type n,.type m]=some b/\Q (.bl b) H):=by
 intro f s l H xs k Q I i h;obtain⟨v,d,n,m,t,b,rfl,hp,r,g,q⟩:=h;obtain⟨u,w,rfl,j,e⟩:=yX i;obtain rfl:w=Value.ref d:=e;exact Y9 I j r hp (.cons rfl (.cons rfl .nil)) xg g λtk=>⟨.bl _,H,I.tok tk,rfl,q⟩
def Em (n m:String)(t:T):R T:=.ok (.bl (nP n t||nP m t))
def Kg {K:aj}{t:T}{n m:String}(e:bQ K (.type (nX t)) (.type n)=some (nP n t))(d:bQ K (.type (nX t)) (.type m)=some (nP m t)):
  eY K (.type (nX t)) [.type n,.type m]=some (nP n t||nP m t):=by
 unfold eY;rw[e];cases nP n t with
 |true=>rfl
 |false=>
  unfold eY;rw[d];cases nP m t<;>rfl
def EK {F:En->R T}{p p1 p2 pt:Pos}{n m:String}{e:Nat}(M:∀t,bQ X.K (.type (nX t)) (.type n)=some (nP n t))(y:∀t,bQ X.K (.type (nX t)) (.type m)=some (nP m t))
  (L:Gl X "isinstance") (P:X.mg "isinstance"=none) (u:Gl X (aE n)) (i:X.mg (aE n)=none) (j:bootBuiltins (aE n)=some (.type n)) (C:Gl X (aE m)) (r:X.mg (aE m)=none) (g:bootBuiltins (aE m)=some (.type m)) (S:Snd X Y a F)
  (G:starEach [a,.Tuple [.Name (aE n) p1,.Name (aE m) p2] e pt] X.env=[(false,eval a X.env),(false,eval (.Tuple [.Name (aE n) p1,.Name (aE m) p2] e pt) X.env)]:=by exact nT rfl rfl)
  (d:starEach [.Tuple [.Name (aE n) p1,.Name (aE m) p2] e pt] X.env=[(false,eval (.Tuple [.Name (aE n) p1,.Name (aE m) p2] e pt) X.env)]:=by exact ng rfl)
  (D:starEach [.Name (aE n) p1,.Name (aE m) p2] X.env=[(false,eval (.Name (aE n) p1) X.env),(false,eval (.Name (aE m) p2) X.env)]:=by exact nT rfl rfl)
  (f:starEach [.Name (aE m) p2] X.env=[(false,eval (.Name (aE m) p2) X.env)]:=by exact ng rfl)
  (o:aE n≠"__name__":=by decide) (l:(aE n==("__debug__":Str))=false:=by decide) (k:aE m≠"__name__":=by decide) (w:(aE m==("__debug__":Str))=false:=by decide)
  (hz:((backTo pos (starEach [.Tuple [.Name (aE n) p1,.Name (aE m) p2] e pt] X.env)).any λx=>x.fst)=false:=by exact zY rfl):
  Snd X Y (.Call (.Name "isinstance" p) [a,.Tuple [.Name (aE n) p1,.Name (aE m) p2] e pt] [] pos) (mM (Em n m) F):=.mk λρ=>
 PE.imp (ZH qR L P PyProof.Rows.Boot.«isinstance» (zh (S ρ) (zh (wP (zh (uZ (v:=.ty n) u i j rfl o l) (zh (uZ (v:=.ty m) C r g rfl k w) zt f) (by rw[D,f]))) zt d) (by rw[G,d])) 01 01 (by rw[G,d]) hz) λσ H Q ⟨B,I,q⟩=>
  step I q λt v U _ Z N O J=>⟨ZD (by show 2<=mR;decide),λp hp=>⟨v,p,n,m,t,_,rfl,zf,(N.mono O.sB).mono (zi.new hp _),Kg (M t) (y t),J _ _ (zi.new hp _) (.bl _)⟩⟩
end
end PV
namespace PV
open PySem PySem.Spec PyProof.Rows L2
noncomputable def max2T (t t':T):R T:=match t,t' with
 |.int i,.int j=>.ok (.int (if j>i then j else i))
 |_,_=>.bad
noncomputable def A3:T->R T
 |.int i=>.ok (.int (if i<0 then-i else i))
 |_=>.bad
noncomputable def Zx (f:Int->Int->Bool):Int->List Int->Int
 |i,[]=>i
 |i,j::r=>Zx f (if f j i then j else i) r
def maxLT:T->R T
 |.lst ts=>match zR ts with|some (i::l)=>.ok (.int (Zx (λa b=>decide (b<a)) i l))|_=>.bad
 |_=>.bad
def Ua:T->R T
 |.lst ts=>match zR ts with|some (i::l)=>.ok (.int (Zx (λa b=>decide (a<b)) i l))|_=>.bad
 |_=>.bad
theorem Wn:∀(l:List Int) (i:Int),Zx (λa b=>decide (b<a)) i l∈i::l/\∀x∈i::l,x<=Zx (λa b=>decide (b<a)) i l
 |[],i=>⟨ae,λx h=>by simp at h;subst h;exact Int.le_refl _⟩
 |j::r,i=>by
  unfold Zx
  by_cases e:i<j
  ·simp only[e,decide_true,if_true];obtain⟨f,d⟩:=Wn r j;refine⟨a9 _ f,λx c=>?_⟩;rcases au.mp c with rfl|c
   ·exact dW (Int.le_of_lt e) (d j ae)
   ·exact d x c
  ·simp only[e,decide_false,aH,if_false];obtain⟨f,d⟩:=Wn r i;refine⟨?_,λx c=>?_⟩
   ·rcases au.mp f with h|h
    ·rw[h];exact ae
    ·exact a9 _ (a9 _ h)
   ·rcases au.mp c with rfl|c
    ·exact d x ae
    ·rcases au.mp c with rfl|c
     ·exact dW (Int.not_lt.mp e) (d i ae)
     ·exact d x (a9 _ c)
theorem JA:∀(l:List Int) (i:Int),Zx (λa b=>decide (a<b)) i l∈i::l/\∀x∈i::l,Zx (λa b=>decide (a<b)) i l<=x
 |[],i=>⟨ae,λx h=>by simp at h;subst h;exact Int.le_refl _⟩
 |j::r,i=>by
  unfold Zx
  by_cases e:j<i
  ·simp only[e,decide_true,if_true];obtain⟨f,d⟩:=JA r j;refine⟨a9 _ f,λx c=>?_⟩;rcases au.mp c with rfl|c
   ·exact dW (d j ae) (Int.le_of_lt e)
   ·exact d x c
  ·simp only[e,decide_false,aH,if_false];obtain⟨f,d⟩:=JA r i;refine⟨?_,λx c=>?_⟩
   ·rcases au.mp f with h|h
    ·rw[h];exact ae
    ·exact a9 _ (a9 _ h)
   ·rcases au.mp c with rfl|c
    ·exact d x ae
    ·rcases au.mp c with rfl|c
     ·exact dW (d i ae) (Int.not_lt.mp e)
     ·exact d x (a9 _ c)
def ZX (a:List (Int×Tok))(i:Nat)(h:i<a.length):numAt a.toArray i=(a.map (·.1))[i]'(by simpa using h):=by
 unfold numAt;simp[h]
section
variable {X:Cx}{Y:Fx}{a b:Expr}{fa fb:En->R T}{pos p p' pos' pt:Pos}{elts:List Expr}{kk:Nat}
def Hu (d:Gl X "abs")(c:X.mg "abs"=none)(e:jv X Y a fa)(g:nr X a:=by exact ng rfl):Snd X Y (.Call (.Name "abs" p) [a] [] pos) (mM A3 fa):=
 JT Vw (λv t B H Q r f q=>by
  cases r with
  |int i=>exact⟨i,rfl,nk f q rfl (.int _)⟩
  |_=>exact q.elim) d c PyProof.Rows.Boot.«abs» e g
def z0G (F:X.A.handled=none):Zc X (.builtin "max") (λvs H Q=>∃l xs ts i d,vs=[.ref l]/\H l=some (.lst xs)/\zr H xs ts/\zR ts=some (i::d)/\Q (.int (Zx (λa b=>decide (b<a)) i d)) H):=by
 intro y s U H vs S Q I k h;obtain⟨l,xs,ts,i,d,rfl,O,r,N,q⟩:=h;obtain⟨u,rfl,L⟩:=Zk k;obtain rfl:u=Value.ref l:=L;obtain⟨o,k,p,_⟩:=zH I (.inl O) r;obtain⟨c,G,g⟩:=J0 r k N;have e:o.toArray=intItems c.toArray:=by rw[G];simp[intItems]
 rw[e]at p;have f:=by have:=congrArg eJ g;simpa using this
 refine max_intList F p (by simp[f]) λv h' tk P kp=>?_
 obtain⟨t,rfl⟩:=intItems_at P;obtain⟨M,b2⟩:=argBest_gt (numAt c.toArray) (c.toArray.size-1);have hsz:c.toArray.size=c.length:=by simp
 rw[hsz]at M b2⊢;obtain⟨x,C⟩:=Wn d i;have B:numAt c.toArray (argBest (λi j=>decide (numAt c.toArray i>numAt c.toArray j)) (c.length-1))=Zx (λa b=>decide (b<a)) i d:=by
  refine iK (C _ ?_) ?_
  ·rw[ZX c _ 00,←g]
   exact il _
  ·rw[←g]at x;obtain⟨j,D,J⟩:=cF.mp x;rw[←J];have w:=by simpa using D
   rw[←ZX c j w];exact b2 j 00
 rw[B];exact⟨.int _,H,I.kept kp,⟨t,rfl⟩,q⟩
def qS (F:X.A.handled=none):Zc X (.builtin "min") (λvs H Q=>∃l xs ts i d,vs=[.ref l]/\H l=some (.lst xs)/\zr H xs ts/\zR ts=some (i::d)/\Q (.int (Zx (λa b=>decide (a<b)) i d)) H):=by
 intro y s U H vs S Q I k h;obtain⟨l,xs,ts,i,d,rfl,O,r,N,q⟩:=h;obtain⟨u,rfl,L⟩:=Zk k;obtain rfl:u=Value.ref l:=L;obtain⟨o,k,p,_⟩:=zH I (.inl O) r;obtain⟨c,G,g⟩:=J0 r k N;have e:o.toArray=intItems c.toArray:=by rw[G];simp[intItems]
 rw[e]at p;have f:=by have:=congrArg eJ g;simpa using this
 refine min_intList F p (by simp[f]) λv h' tk P kp=>?_
 obtain⟨t,rfl⟩:=intItems_at P;obtain⟨M,b2⟩:=argBest_lt _ (c.toArray.size-1);have hsz:c.toArray.size=c.length:=by simp
 rw[hsz]at M b2⊢;obtain⟨x,C⟩:=JA d i;have B:numAt c.toArray (argBest (λi j=>decide (numAt c.toArray i<numAt c.toArray j)) (c.length-1))=Zx (λa b=>decide (a<b)) i d:=by
  refine iK ?_ (C _ ?_)
  ·rw[←g]at x;obtain⟨j,D,J⟩:=cF.mp x;rw[←J];have w:=by simpa using D
   rw[←ZX c j w];exact b2 j 00
  ·rw[ZX c _ 00,←g]
   exact il _
 rw[B];exact⟨.int _,H,I.kept kp,⟨t,rfl⟩,q⟩
def Lh (c:X.A.handled=none)(j:Gl X "min")(g:X.mg "min"=none)(o:jv X Y a fa)(f:nr X a:=by exact ng rfl):Snd X Y (.Call (.Name "min" p) [a] [] pos) (mM Ua fa):=
 JT (qS c) (λv t B H Q r d q=>by
  cases r with
  |@lst l xs ts h r=>
   have q:Po Y rC B H (match zR ts with|some (i::l)=>.ok (.int (Zx (λa b=>decide _) i l))|_=>.bad) Q:=q
   split at q
   ·rename_i i k e;exact⟨l,xs,ts,i,k,rfl,h,r,e,nk d q rfl (.int _)⟩
   ·exact q.elim
  |_=>exact q.elim) j g PyProof.Rows.Boot.«min» o f
end
noncomputable def J4:List T->Option (List (Str×Int))
 |[]=>some []
 |.tup [.str x,.int i]::r=>match J4 r with|some l=>some ((x,i)::l)|none=>none
 |_::_=>none
def qT (t k:T):R T:=match t,k with
 |.tup ts,.str x=>match J4 ts with
  |some l=>if (l.map (·.1)).Nodup then (match l.lookup x with|some i=>.ok (.int i)|none=>.bad)else .bad
  |none=>.bad
 |_,_=>.bad
def uo:T->R T
 |.tup ts=>match J4 ts with
  |some l=>if (l.map (·.1)).Nodup then .ok (.int (l.map (·.2)).sum)else .bad
  |none=>.bad
 |_=>.bad
def xh (j:Nat)(a:En->R T)(g:List T->R T):En->RS:=λρ=>((a ρ).bind λt=>(vE j ρ).bind λk=>(qT t k).bind λx=>(uo t).bind λy=>g [x,y]).s λt=>.rt t
noncomputable def Xo:T->T->R T
 |.int i,.int j=>if 0<j/\j.natAbs.log2<9000 then .ok (.int (i/j))else .bad
 |_,_=>.bad
section
variable {X:Cx}{Y:Fx}{a b:Expr}{fa fb:En->R T}{pos:Pos}
def Lg:nc X (binaryOp .FloorDiv) (L2.rI (λ_ j=>0<j/\j.natAbs.log2<9000) λi j=>.int (i/j)):=rV λi j _ _ _ _ _ c q=>by
 exact floordiv_int 00 (by rw[fR i 00];exact q) (.inl (PyProof.noPylong_of_log2 c.2))
def Kh:nc X (binaryOp .FloorDiv) (rG Y Xo):=by
 intro d s f H x y v u Q I k l h;obtain⟨B,t,t',g,r,e,q⟩:=h;cases r with
 |int i=>
  cases e with
  |int j=>
   by_cases c:0<j/\j.natAbs.log2<9000
   ·exact Lg _ s f H _ _ v u Q I k l ⟨i,j,rfl,rfl,c,nk g q (if_pos c) (.int _)⟩
   ·rw[show Xo (.int i) (.int j)=.bad from if_neg c]at q;exact q.elim
  |_=>exact q.elim
 |_=>cases e<;>exact q.elim
def HV (c:Snd X Y a fa)(d:Snd X Y b fb):Snd X Y (.BinOp a .FloorDiv b pos) (zd Xo fa fb):=U4 Kh c d
end
noncomputable def o5:Nat:=2^8000
def nY:T->T->R T
 |.int i,.int j=>if i.natAbs<o5/\j.natAbs<o5 then .ok (.int (i*j))else .bad
 |_,_=>.bad
def UU {i:Int}(h:i.natAbs<o5):j_ i<=2^20:=by
 unfold j_;split
 ·exact aU _
 ·rename_i a;have a:i.natAbs≠0:=λz=>a (by rw[Int.natAbs_eq_zero.mp z];rfl)
  have c:=(Nat.log2_lt a).mpr h;omega
section
variable {X:Cx}{Y:Fx}{a b:Expr}{fa fb:En->R T}{pos:Pos}
def Ln:nc X (binaryOp .Mult) (L2.rI (λi j=>i.natAbs<o5/\j.natAbs<o5) λi j=>.int (i*j)):=rV λi j _ _ _ _ _ c q=>mul_int q (IntMulOk.of_bits (UU c.1) (UU c.2))
def HW:nc X (binaryOp .Mult) (rG Y nY):=by
 intro d s f H x y v u Q I k l h;obtain⟨B,t,t',g,r,e,q⟩:=h;cases r with
 |int i=>
  cases e with
  |int j=>
   by_cases c:i.natAbs<o5/\j.natAbs<o5
   ·exact Ln _ s f H _ _ v u Q I k l ⟨i,j,rfl,rfl,c,nk g q (if_pos c) (.int _)⟩
   ·rw[show nY (.int i) (.int j)=.bad from if_neg c]at q;exact q.elim
  |_=>exact q.elim
 |_=>cases e<;>exact q.elim
def Bw (c:Snd X Y a fa)(d:Snd X Y b fb):Snd X Y (.BinOp a .Mult b pos) (zd nY fa fb):=U4 HW c d
end
def Ki:typeLookup (.type "tuple") "keys"=pure none:=by rw[typeLookup_type,builtinLookup_eq_fast];kernel_rfl
def Kj:typeLookup (.type "tuple") "__getattr__"=pure none:=by rw[typeLookup_type,builtinLookup_eq_fast];kernel_rfl
section
variable {prog:Program}{w:World}{A:Around}{E:Value->Shared->Prop}{s:Shared}
def xi {l:Addr}{a:Array Value}{n:Nat}{i:Array (Option Value)}{u:Tok}{Q:PySem.Fin->Shared->Prop}(c:A.handled=none)(f:s.heap.get? l=some {cls:=.type "tuple",dict:=none,data:=.seq a n,slots:=i})
  (h:∀h' tk e,Heap.NewAttrErr s.heap h' e (.ref l) "keys"->E (.ref e) {s with heap:=h',toks:=tk}):
  wpAny 08 A (Builtin.«object.__getattribute__» ⟨[.ref l,.str "keys" u],[]⟩) Q E s:=by
 obtain⟨hp,g,d,tk,os⟩:=s;have j:(⟨hp,g,d,tk,os⟩:Shared).TypeIs (.ref l) "tuple":=⟨_,f,rfl⟩;have k:=Ki;unfold Builtin.«object.__getattribute__»
 repeat (any_goals (first|assumption|wp_step))
 exact wpAny_raiseAttrError c h (attrMsg_fits (by decide+kernel) (by decide+kernel))
end
section
variable {prog:Program}{w:World}{A:Around}{E:Value->Shared->Prop}{s:Shared}
def Kk {l:Addr}{a:Array Value}{n:Nat}{d:Array (Option Value)}{u:Tok}{R:Result->Shared->Prop}(f:A.handled=none)(c:s.heap.get? l=some {cls:=.type "tuple",dict:=none,data:=.seq a n,slots:=d})
  (h:∀h' tk e,Heap.NewAttrErr s.heap h' e (.ref l) "keys"->R (.error (.ref e)) {s with heap:=h',toks:=tk}):
  codeAny 08 A (.call (.builtin "tuple.__getattribute__") ⟨[.ref l,.str "keys" u],[]⟩) R s:=
 codeAny_call_builtin cT.plain F.entry_tuple_ga (cT.check _ _ _ _ _ _ _ _ (show s.TypeIs _ _ from ⟨_,c,rfl⟩) (F.args_tuple_getattribute_2 _ _) (xi f c h))
def Kl {l:Addr}{a:Array Value}{n:Nat}{p:Array (Option Value)}{Q:Option Value->Shared->Prop}(k:A.handled=none)(i:s.heap.get? l=some {cls:=.type "tuple",dict:=none,data:=.seq a n,slots:=p})
  (h:∀h' tk,(∀b o,s.heap.get? b=some o->h'.get? b=some o)->Q none {s with heap:=h',toks:=tk}):
  wpAny 08 A (getAttr? (.ref l) "keys") Q E s:=by
 obtain⟨hp,g,d,tk,os⟩:=s;have j:∀t,(⟨hp,g,d,t,os⟩:Shared).TypeIs (.ref l) "tuple":=λ_=>⟨_,i,rfl⟩;have r:=sub_AttributeError;have y:=cT.lookup;have x:=cT.bind (.ref l);have v:=Kj;unfold getAttr? getAttrBy? getAttrBy
 repeat (any_goals (first|assumption|exact j _|wp_step))
 refine Kk (s:=⟨hp,g,d,tk+1,os⟩) k i λh' c e f=>?_;obtain⟨t',u,q⟩:=f.there;have hE:(⟨h',g,d,c,os⟩:Shared).TypeIs (.ref e) "AttributeError":=⟨_,q,rfl⟩;show wpAny _ _ (getattributeRaised _ _ _ _ _ _ _) _ _ _;unfold getattributeRaised
 repeat (any_goals (first|assumption|wp_step))
 exact h _ _ f.keeps
end
noncomputable def Zl (h:Heap)(c:List Value)(d:List (Str×Int)):Prop:=Paired (λv (p:Str×Int)=>∃a t u n ob,v=Value.ref a/\h.get? a=some ob/\ob.cls=.type "tuple"/\ob.data=.seq #[.str p.1 t,.int p.2 u] n) c d
def Zl.keep {h h':Heap}{c:List Value}{d:List (Str×Int)}(x:Zl h c d)(k:∀b o,h.get? b=some o->h'.get? b=some o):Zl h' c d:=
 Paired.mapP x λv p ⟨a,t,u,n,ob,f,e,g⟩=>⟨a,t,u,n,ob,f,k _ _ e,g⟩
theorem Zl.off {h h':Heap}{D I:Addr}(k:∀b o,b≠D->b≠I->h.get? b=some o->h'.get? b=some o):∀{c:List Value} {f:List (Str×Int)},Zl h c f->(∀v a,v∈c->v=Value.ref a->a≠D/\a≠I)->Zl h' c f
 |_,_,.nil,_=>.nil
 |_,_,.cons r q,e=>by
  obtain⟨a,t,u,n,ob,d,g,p⟩:=r;obtain⟨i,j⟩:=e _ a ae d;exact .cons ⟨a,t,u,n,ob,d,k _ _ i j g,p⟩ (Zl.off k q λv b l=>e v b (a9 _ l))
def KVs (kvs:List (mV×Value))(a:List (Str×Int)):Prop:=Paired (λ(q:mV×Value) (p:Str×Int)=>q.1=Sum.inr p.1/\∃t,q.2=Value.int p.2 t) kvs a
theorem KVs.snoc:∀{kvs:List (mV×Value)} {a:List (Str×Int)} {x:Str} {i:Int} {t:Tok},KVs kvs a->KVs (kvs++[(Sum.inr x,.int i t)]) (a++[(x,i)])
 |_,_,x,i,t,.nil=>.cons ⟨rfl,t,rfl⟩ .nil
 |_,_,x,i,t,.cons r q=>.cons r (KVs.snoc q)
theorem KVs.keys:∀{kvs:List (mV×Value)} {a:List (Str×Int)},KVs kvs a->kvs.map (·.1)=a.map λp=>(Sum.inr p.1:mV)
 |_,_,.nil=>rfl
 |_,_,.cons r q=>by rw[ao,ao,r.1,KVs.keys q]
def KVs.len {kvs:List (mV×Value)}{a:List (Str×Int)}(h:KVs kvs a):kvs.length=a.length:=by
 have:=congrArg eJ h.keys;simpa using this
def Ya {kvs:List (mV×Value)}{k:mV}{v:Value}(h:k∉kvs.map (·.1)):stored kvs k v=kvs++[(k,v)]:=by
 unfold stored;rw[if_neg];intro z;rw[im]at z;obtain⟨q,a,e⟩:=z;exact h (ay.mpr ⟨q,a,of_decide_eq_true e⟩)
section
variable {prog:Program}{w:World}{A:Around}{R:Result->Shared->Prop}{I:Addr}{fp wr:List Addr}{n:Nat}{P:Nat->Value->Prop}{St:Nat->Heap->Prop}
def UV:entryFor table "dict.update.loop"=some Builtin.«dict.update.loop»:=entryFor_of_tree 06
def UW:plainId "dict.update.loop"=true:=by decide+kernel
theorem J6 {c a:Type}{F:c->a->Prop}:∀{xs:List c} {d:List a} {i:Nat} {y:a},Paired F xs d->d[i]?=some y->∃x,xs[i]?=some x/\F x y
 |_,_,_,_,.nil,h=>by simp at h
 |_,_,0,y,.cons r _,h=>by simp at h;subst h;exact⟨_,rfl,r⟩
 |_,_,i+1,y,.cons _ q,h=>by
  obtain⟨x,e,r⟩:=J6 q (by simpa using h)
  exact⟨x,by simpa using e,r⟩
theorem wW {a d:Type}{F:a->d->Prop}:∀{xs:List a} {c:List d},Paired F xs c->xs.length=c.length
 |_,_,.nil=>rfl
 |_,_,.cons _ q=>by simp[wW q]
def qU {l:Addr}{q:List Value}{c:List (Str×Int)}(hh:A.handled=none)(I D:Addr)(hlI:l≠I)(Q:D≠I)(S:D≠l)(nd:(c.map (·.1)).Nodup)(X:c.length<=sizeLine)(kw:Value):
  ∀(m i:Nat) (s:Shared) (kvs:List (mV×Value)) (f:Tok),c.length-i=m->i<=c.length->s.heap.IsTupleIter I l i->s.heap.IsTuple l q.toArray->Zl s.heap q c->(∀v a,v∈q->v=Value.ref a->a≠D/\a≠I)->
   s.heap.DictOf (Z3 prog w) D kvs->KVs kvs (c.take i)->
   (∀h' tk d,(∀b o,b≠D->b≠I->s.heap.get? b=some o->h'.get? b=some o)->h'.DictOf (Z3 prog w) D d->KVs d c->R (.ok (.ret kw)) {s with heap:=h',toks:=tk})->
   codeAny 08 A (.builtin "dict.update.loop" ⟨[.ref D,.ref I,.int (i:Int) f,kw],[]⟩) R s:=by
 intro m
 induction m with
 |zero=>
  intro i s kvs f hm hi g L hp N hd r hR;obtain rfl:i=c.length:=by omega
  refine bJ UV ?_;unfold Builtin.«dict.update.loop»;dsimp only;have hl:=wW hp;refine a8 (wpAny_pyNext_tuple_end hh g L (by simp[hl]) λh' he=>?_)
  rw[io]at r;refine a8 (c9 (a:=()) rfl (ac ?_));exact hR h' s.toks kvs (λb o _ hb e=>he b o hb e) (hd.extBut he Q) r
 |succ m ih=>
  intro i s kvs f hm hi g L hp N hd r hR;refine bJ UV ?_;unfold Builtin.«dict.update.loop»;dsimp only;have G:i<c.length:=by omega
  have ei:=ah G;obtain⟨v,ev,a,t,u,n,ob,rfl,ga,ca,da⟩:=J6 hp ei;refine a8 (wpAny_pyNext_tuple_item g L (x:=.ref a) (by simpa using ev) λh1 y sb=>?_)
  obtain⟨naD,naI⟩:=N _ a (bR ev) rfl;have B:=(sb.2 a naI).trans ga;have U:=hd.sameBut sb Q;have hTa:fx {s with heap:=h1} (.ref a) "tuple":=⟨_,B,ca⟩;refine a8 (bp (a8 (dP ?_)));refine a8 (dR hTa ?_);refine a8 (bU B da (ac ?_));have J:(Sum.inr c[i].1)∉kvs.map (·.1):=by
   rw[r.keys];intro z;obtain⟨p,hp',e⟩:=ay.mp z;have e:p.1=c[i].1:=by injection e
   obtain⟨j,hj,ej⟩:=cF.mp hp';rw[du]at hj;rw[List.getElem_take]at ej;have hji:j<i:=by omega
   have:=(dZ.mp nd) j i (by rw[ag];omega) (by rw[ag];exact G) hji
   rw[ma,ma]at this;exact this (by rw[ej,e])
  have hz:kvs.length<=sizeLine:=by rw[r.len,du];exact aC (Nat.min_le_right _ _) X
  refine bp (wpAny_dictSet_pairs (jy _ _ _ _) U λh2 C F=>?_);rw[Ya J]at C;refine ac ⟨cg UW _,?_⟩;have Z:KVs (kvs++[(Sum.inr c[i].1,.int c[i].2 u)]) (c.take (i+1)):=by
   rw[List.take_succ,ei];exact r.snoc
  have k:∀b o,b≠D->b≠I->s.heap.get? b=some o->h2.get? b=some o:=λb o O M e=>(F.2 b O).trans ((sb.2 b M).trans e);have:=ih _ {s with heap:=h2,toks:=s.toks+1} _ 0 00 00 (y.extBut F.extBut (aT Q)) (lN.at L λo e=>k l o (aT S) hlI e) ?_ N C Z (λh' tk d k' d' q'=>hR h' tk _ (λb o O M e=>k' b o O M (k b o O M e)) d' q')
  ·exact this
  ·exact hp.off k N
end
theorem Zl.mem {h:Heap}:∀{c:List Value} {i:List (Str×Int)},Zl h c i->∀{v:Value} {a:Addr},v∈c->v=Value.ref a->∃o,h.get? a=some o
 |_,_,.nil,_,_,d,_=>by simp at d
 |_,_,.cons r q,v,a,d,e=>by
  rcases au.mp d with z|d
  ·obtain⟨b,t,u,n,ob,f,g,_⟩:=r;subst z;rw[e]at f;cases f;exact⟨_,g⟩
  ·exact Zl.mem q d e
section
variable {prog:Program}{w:World}{A:Around}{E:Value->Shared->Prop}{s:Shared}
def qV {l:Addr}{g:List Value}{x:List (Str×Int)}{n:Nat}{U:Array (Option Value)}{Q:Value->Shared->Prop}(J:A.handled=none)(M:s.heap.get? l=some {cls:=.type "tuple",dict:=none,data:=.seq g.toArray n,slots:=U})
  (hp:Zl s.heap g x) (nd:(x.map (·.1)).Nodup) (D:x.length<=sizeLine)
  (h:∀h' tk kvs,(∀b o,s.heap.get? b=some o->h'.get? b=some o)->h'.DictOf (Z3 prog w) s.1.1.size kvs->KVs kvs x->Q (.ref s.1.1.size) {s with heap:=h',toks:=tk}):
  wpAny 08 A (call (.type "dict") [.ref l]) Q E s:=by
 refine callType_codes (Q₁:=λobj d=>obj=.ref _/\d={s with heap:=s.heap.push _}) F.kt_called_dict (F.kt_typeCall_dict_1 _) F.entry_dict_init (kt_code_dict_new _ ⟨rfl,rfl⟩) ?_
 rintro obj d ⟨rfl,rfl⟩
 generalize L:s.heap.push _=G;have c:G.DictOf (Z3 prog w) s.1.1.size []:=by rw[←L];exact Heap.DictOf.new _
 have y:∀b o,s.heap.get? b=some o->G.get? b=some o:=λb o e=>by rw[←L];exact aa _ e
 have C:=y _ _ M;have k:=av M;have P:fx {s with heap:=G} (.ref l) _:=⟨_,C,rfl⟩;refine⟨c.typeIs,F.args_dict_init_2 _ _,?_⟩;refine a8 ?_;refine a8 (wpAny_notOrdered_dict c.typeIs ?_);refine ac ?_;refine a8 (dR P ?_);refine a8 (Kl J C λf S p=>?_);refine a8 (df ?_);have j:=p _ _ C;have B:f.IsTuple l _:=⟨_,j,rfl,n,rfl⟩;refine a8 (cQ B ?_);generalize i:f.push _=G2;have u:s.1.1.size<f.objs.size:=by
  obtain⟨o,_,_,e,_⟩:=id c;exact av (p _ _ e)
 have q:∀b o,f.get? b=some o->G2.get? b=some o:=λb o e=>by rw[←i];exact aa _ e
 have Z:G2.get? f.objs.size=some {cls:=.type "tuple_iterator",data:=.fields #[.ref l,.int 0 0]}:=by rw[←i];exact ai _ rfl
 have I:G2.DictOf (Z3 prog w) s.1.1.size []:=by
  obtain⟨o,O,ep,e,r⟩:=c;exact⟨o,O,ep,q _ _ (p _ _ e),r⟩
 refine ac ⟨cg UW _,?_⟩;refine qU (A:=A.in1) J _ _ (aD (dX k u)) (aD u) (cM k) nd D _ _ 0 _ [] 0 rfl (aU _) ⟨_,Z,rfl,rfl⟩ ⟨_,q _ _ j,rfl,n,rfl⟩ (hp.keep λb o e=>q b o (p b o (y b o e))) (λv a hv e=>?_) I .nil λh' tk kvs N dd X=>?_
 ·obtain⟨o,eo⟩:=hp.mem hv e;have:=av eo;exact⟨aD this,aD (dX this u)⟩
 ·refine⟨rfl,h h' tk kvs (λb o e=>N b o (aD (av e)) (aD (dX (av e) u)) (q b o (p b o (y b o e)))) dd X⟩
end
abbrev pL (ps:List (Str×Int)):List (mV×V):=ps.map λp=>(Sum.inr p.1,V.int p.2)
theorem Ei:∀{kvs:List (mV×Value)} {a:List (Str×Int)},KVs kvs a->KV (pL a) kvs
 |_,_,.nil=>.nil
 |_,_,.cons r q=>by
  obtain⟨e,t,c⟩:=r;exact .cons ⟨e.symm,⟨t,c⟩⟩ (Ei q)
theorem qX:∀{a:List (Str×Int)} {kvs:List (mV×Value)},KV (pL a) kvs->KVs kvs a
 |[],_,.nil=>.nil
 |p::a,_,.cons r q=>by
  obtain⟨e,t,c⟩:=r;exact .cons ⟨e.symm,t,c⟩ (qX q)
theorem Xp:∀{kvs:List (mV×Value)} {c:List (Str×Int)} {x:Str} {i:Int},KVs kvs c->c.lookup x=some i->∃t,valueAt kvs (Sum.inr x)=some (.int i t)
 |_,_,x,i,.nil,h=>by simp at h
 |_,_,x,i,.cons (b:=p) r rs,h=>by
  obtain⟨e,t,d⟩:=r;rw[aG]at h
  by_cases a:x=p.1
  ·have:(x==p.1)=true:=by simp[a]
   rw[this]at h;cases h;unfold valueAt;rw[bA,show decide _=true from decide_eq_true (by rw[e,a])]
   simp[d]
  ·have:=beq_eq_false_iff_ne.mpr a;rw[this]at h;obtain⟨t',h'⟩:=Xp rs h;refine⟨t',?_⟩;unfold valueAt at h'⊢;rw[bA,show decide _=false from decide_eq_false (by rw[e];intro z;injection z with z;exact a z.symm)]
   exact h'
def qY {t:T}{ts:List T}{a:List (Str×Int)}(h:J4 (t::ts)=some a):∃x i l,t=.tup [.str x,.int i]/\J4 ts=some l/\a=(x,i)::l:=by
 unfold J4 at h;split at h
 ·rename_i e;cases e
 ·rename_i x i r e;injection e with e1 e2;subst e1 e2;split at h
  ·rename_i l c;cases h;exact⟨x,i,l,rfl,c,rfl⟩
  ·cases h
 ·cases h
theorem qZ:∀{ts:List T} {a:List (Str×Int)},J4 ts=some a->a.length=ts.length
 |[],_,h=>by cases h;rfl
 |t::ts,a,h=>by
  obtain⟨x,i,l,rfl,c,rfl⟩:=qY h;simp[qZ c]
def Hw {H:Hp}{a:List V}{x:Str}{i:Int}(h:zr H a [.str x,.int i]):a=[.str x,.int i]:=by
 cases h with
 |cons c h=>
  cases c;cases h with
  |cons d h=>
   cases d;cases h;rfl
def Km {x:Str}{i:Int}{a:List Value}(h:Vals [V.str x,V.int i] a):∃t u,a=[.str x t,.int i u]:=by
 obtain⟨u1,e,rfl,⟨c,rfl⟩,⟨d,rfl⟩⟩:=yX h;exact⟨c,d,rfl⟩
def xj {X:Cx}{c:List (Addr×Obj)}{o:L2.St}{H:Hp}{s:Shared}(I:Inv X c o H s){v:V}{u:Value}{x:Str}{i:Int}(r:Rep H v (.tup [.str x,.int i]))(k:RelV v u):
  ∃a t p n ob,u=Value.ref a/\s.heap.get? a=some ob/\ob.cls=.type "tuple"/\ob.data=.seq #[.str x t,.int i p] n:=by
 cases r with
 |@tup a C _ y q=>
  obtain rfl:u=Value.ref a:=k;have hy:=Hw q;subst hy;obtain⟨_,e,d,⟨ob,g,f,n,B⟩,_⟩:=(show zQ _ X.w H _ a _ from I.hok a _ y);obtain⟨j,l,rfl⟩:=Km d;exact⟨a,j,l,n,ob,rfl,g,f,B⟩
theorem UX {X:Cx}{d:List (Addr×Obj)}{o:L2.St}{H:Hp}{s:Shared}(I:Inv X d o H s):∀{xs:List V} {ts:List T} {c:List Value} {f:List (Str×Int)},zr H xs ts->Vals xs c->J4 ts=some f->Zl s.heap c f/\∀(i:Int) t,c[0]?≠some (Value.int i t)
 |_,_,_,f,.nil,q,h=>by cases q;cases h;exact⟨.nil,λ_ _ z=>by simp at z⟩
 |_,_,_,f,.cons r rs,q,h=>by
  cases q with
  |cons j vs=>
  obtain⟨x,i,l,rfl,p,rfl⟩:=qY h;obtain⟨p1,_⟩:=UX I rs vs p;obtain⟨a,g,k,n,ob,rfl,e⟩:=xj I r j;exact⟨.cons ⟨a,g,k,n,ob,rfl,e⟩ p1,λ_ _ z=>by simp at z⟩
section
variable {X:Cx}{Y:Fx}{a b:Expr}{fa fb:En->R T}{pos pos' p p':Pos}
def FQ {c:List (Addr×Obj)}{d:L2.St}{H:Hp}{s:Shared}(I:Inv X c d H s):sysModules<s.1.1.size:=dX 01 (I.mod.glob.keeps I.bk).lt
def Yb (G:X.A.handled=none):Zc X (.type "dict") (λvs H Q=>∃l xs ts d,vs=[.ref l]/\H l=some (.tup xs)/\zr H xs ts/\J4 ts=some d/\(d.map (·.1)).Nodup/\
  ∀q,H q=none->Q (.ref q) (kj H q (.dK (pL d)))):=by
 intro y s σ H vs Z Q I g h;obtain⟨l,xs,ts,d,rfl,O,r,v,nd,q⟩:=h;obtain⟨u,rfl,M⟩:=Zk g;obtain rfl:u=Value.ref l:=M;obtain⟨hz,J,g,⟨⟨c,dd,S,U⟩,C,P,n,hd⟩,f⟩:=(show zQ _ X.w H _ l _ from I.hok l _ O);subst P hd;obtain⟨D,L⟩:=UX I r g v;have B:d.length<=sizeLine:=by rw[qZ v,←r.length];exact hz
 have j:dd=none:=by
  rcases f with ⟨i,t,e⟩|⟨o,x,F⟩
  ·exact absurd (by simpa using e) (L i t)
  ·rw[C]at x;cases x;exact F
 subst j;refine qV G C D nd B λh' tk kvs k dd N=>?_;refine⟨.ref _,_,I.laid k (aq _) ?_,rfl,q _ (I.hok.fresh (aq _))⟩;exact⟨by rw[ag];exact B,beq_eq_false_iff_ne.mpr (aT (aD (FQ I))),kvs,Ei N,dd⟩
def EF:IxR X (λx y H Q=>∃a f k i,x=.ref a/\y=.str k/\H a=some (.dK (pL f))/\f.lookup k=some i/\Q (.int i) H):=by
 intro c d g s C H x y v u Q I l o h j;obtain⟨p,f,k,i,rfl,rfl,hp,B,q⟩:=h;cases l;obtain⟨t,rfl⟩:=o;obtain⟨hz,D,vs,r,m⟩:=(show zQ _ X.w H _ p _ from I.hok p _ hp);obtain⟨t',e⟩:=Xp (qX r) B;exact tail_any m.typeIs slot_dict_getitem.lookup (wpAny_getItem_of (jy _ _ _ _) m.mapOf e ⟨.int i,H,I.tok _,⟨_,rfl⟩,q⟩) j
def Q0:pT X "dict.values" (λx xs H Q=>∃a f,x=.ref a/\xs=[]/\H a=some (.dK (pL f))/\∀r,H r=none->Q (.ref r) (kj H r (.ext λh=>h.IsValuesView r a))):=by
 intro d s C H x xs v0 y Q I k j h;obtain⟨a,f,rfl,rfl,u,q⟩:=h;obtain rfl:v0=Value.ref a:=k;cases j;obtain⟨hz,l,vs,r,m⟩:=(show zQ _ X.w H _ a _ from I.hok a _ u);refine call_meetsIn eD m.typeIs PySem.F.entry_dict_values (PySem.F.args_dict_values_1 _) (meets_dict_values _ a l) ⟨⟨vs,m⟩,?_⟩;have c:s.1.1.size<=s.1.1.size:=aq _;refine⟨.ref _,_,I.laid (λb o e=>aa _ e) c ?_,rfl,q _ (I.hok.fresh c)⟩;exact⟨⟨_,ai _ rfl,rfl,rfl⟩,⟨_,ai _ rfl⟩,λB v ⟨o,i,g⟩ e=>⟨o,e _ i,g⟩⟩
theorem Q1 (val:Nat->Int):∀n:Nat,preSum val n=((aV n).map val).sum
 |0=>rfl
 |n+1=>by
  rw[iL,bm,List.sum_append,←Q1 val n];simp[preSum]
def Q2 (M:X.A.handled=none):Zc X (.builtin "sum") (λvs H Q=>∃r j a c,vs=[.ref r]/\H r=some (.ext j)/\(∀h:Heap,j h->h.IsValuesView r a)/\H a=some (.dK (pL c))/\Q (.int (c.map (·.2)).sum) H):=by
 intro F s σ H vs us Q I L h;obtain⟨r,j,a,c,rfl,hr,x,G,q⟩:=h;obtain⟨u,rfl,P⟩:=Zk L;obtain rfl:u=Value.ref r:=P;obtain⟨N,_,_⟩:=(show zQ _ X.w H _ r _ from I.hok r _ hr);obtain⟨hz,hS,vs,O,m⟩:=(show zQ _ X.w H _ a _ from I.hok a _ G);obtain⟨ep,g⟩:=m.dictAt;have y:=qX O;have K:=PySem.W.kdl_values (prog:=X.prog) (knd:=Z3 _ X.w) (r:=r) (d:=a) (kvs:=vs) (ep:=ep);refine call_sum_walkAnyS ?_;obtain⟨Z,St,l,W,st⟩:=K.iter X.A.in1 s M ⟨x _ N,g⟩;refine l _ _ ⟨s.1.1.size,_,_,_,_,_,_,λi=>((c[i]?).map (·.2)).getD 0,rfl,W.toS,st,λb B=>?_,λi v f=>?_,λs' t' C=>?_⟩
 ·rw[size_push'];rcases au.mp B with e|B
  ·rw[e];exact dU _
  ·rw[ax.mp B];exact c8 (I.hok.lt G)
 ·obtain⟨k,f⟩:=f;have hi:i<c.length:=by rw[←y.len];exact(aP.mp f).1
  obtain⟨q',D,U,t,S⟩:=J6 y (ah hi);rw[f]at D;cases D;exact⟨t,by dsimp only;rw[ah hi];exact S⟩
 ·have kp:=λb o e=>
   C.heap b o (λz=>absurd (av e) (by rw[ax.mp z];exact bo _)) (aa _ e)
  rw[Moved.eq_with C];have J:preSum (λi=>((c[i]?).map (·.2)).getD 0) vs.length=(c.map (·.2)).sum:=by
   rw[Q1,y.len];congr 1
   refine cX λi=>?_;rw[aw,aw]
   by_cases hi:i<c.length
   ·simp[hi]
   ·rw[aS (by simp;omega),aS 00];rfl
  rw[J];exact⟨.int _,H,I.kept kp,⟨_,rfl⟩,q⟩
end
def Kn {t k v:T}(h:qT t k=.ok v):∃ts a x i,t=.tup ts/\k=.str x/\J4 ts=some a/\(a.map (·.1)).Nodup/\a.lookup x=some i/\v=.int i:=by
 unfold qT at h;split at h
 ·rename_i ts x;split at h
  ·rename_i l e;split at h
   ·rename_i nd;split at h
    ·rename_i i c;cases h;exact⟨ts,l,x,i,rfl,rfl,e,nd,c,rfl⟩
    ·cases h
   ·cases h
  ·cases h
 ·cases h
def Q3 (t k:T):(∃v,qT t k=.ok v)\/qT t k=.bad:=by
 unfold qT;split
 ·split
  ·split
   ·split
    ·exact .inl ⟨_,rfl⟩
    ·exact .inr rfl
   ·exact .inr rfl
  ·exact .inr rfl
 ·exact .inr rfl
section
variable {X:Cx}{Y:Fx}{a:Expr}{fa:En->R T}{pos pos' p p':Pos}
def xk {t:T}{ts:List T}{c:List (Str×Int)}(d:t=.tup ts)(e:J4 ts=some c)(nd:(c.map (·.1)).Nodup):uo t=.ok (.int (c.map (·.2)).sum):=by
 subst d;unfold uo;dsimp only;rw[e];dsimp only;rw[if_pos nd]
def Ko {i j k jf:Nat}{x y f:Str}{fo:Addr}{fd:FuncData}{ps:List Str}{g:List T->R T}{cl:Nat->Value}{p1 p2 p3 p4 M p6 p7 p8 p9 pa pb pc pd:Pos}(hij:i≠j)(hy:Y.cl=cl)(F:wQ X.prog X.w X.K X.mg X.base nh jf fo fd ps (spP cl 2 g))(hr:jH k X.A)(hjf:jf<=k)(gf:Gl X f)
  (mf:X.mg f=some (.ref fo)) (kp:dq X.K (.ref fo)=true) (bd:L2.Binds X.K fd ps []) (hN:X.N.Nodup) (hi:X.N[i]?=some x) (hx:L2.Loc X.env.scope x) (gl:Gl X "dict") (mg:X.mg "dict"=none) (gs:Gl X "sum") (ms:X.mg "sum"=none)
  (pi:PE X (.Name x p3) (Za i)) (pj:PE X (.Name y p4) (Za j)) (ha:Snd X Y a fa) (pi':PE X (.Name x M) (Za i):=by exact ZS 09 09) (hs:nr X a:=by exact ng rfl)
  (hsw:swapsWith (.Call (.Name "dict" p2) [a] [] pa) (some (.Name x p1)) pb.line X.env=pure false:=by rfl) (hf:X.fn x=true\/X.env.scope.names.lookup x=some .local:=by first|exact .inl rfl|exact .inr rfl|assumption) (hd:(f==("__debug__":Str))=false:=by decide)
  (J:attributeBase (.Name x M) "values" X.env (eval (.Name x M) X.env)=eval (.Name x M) X.env:=by rfl) (hli:(p6.endLine==p7.line)=true:=by rfl):
  WS X Y [.Assign [.Name x p1] (.Call (.Name "dict" p2) [a] [] pa) pb,.Return (some (.Call (.Name f p8) [.Subscript (.Name x p3) (.Name y p4) p9,.Call (.Name "sum" pc) [.Call (.Attribute (.Name x M) "values" p6) [] [] p7] [] pd] [] pos)) pos'] (xh j fa g):=.mk λρ=>by
 subst hy;have hh:=hr.hd;have G:starEach [.Subscript (.Name x p3) (.Name y p4) p9,.Call (.Name "sum" pc) [.Call (.Attribute (.Name x M) "values" p6) [] [] p7] [] pd] X.env=(false,eval _ X.env)::starEach _ X.env:=zz rfl;have W:=(zX (JP hN hi hx (ZT (Yb hh) gl mg PyProof.Rows.Boot.«dict» (zh (ha ρ) zt hs) 01 01 hs rfl) hsw hf)
  (ZN (Jh (pos:=pos') (j9 (E:=Y.E) (p:=p8) (pos:=pos) F (hr.mono hjf) gf mf kp bd .nil uh
   (zh (GE EF pi pj (λ_ _=>rfl)) (zh (ZH (Q2 hh) gs ms PyProof.Rows.Boot.«sum» (zh (X7 eM eD i6 Q0 pi' J hli) zt (ng rfl)) 01 01 (ng rfl) rfl) zt (ng rfl)) G) hd G (zY rfl)))))
 intro S s σ H D Iv ⟨B,I,q⟩;have U:i<σ.length:=by rw[Iv.len];exact(aP.mp hi).1
 refine W S s σ H D Iv ?_;have q':PoS Y B ((fa ρ).s λt=>(((vE j ρ).bind λk=>(qT t k).bind λx=>(uo t).bind λy=>g [x,y]).s λt=>.rt t)) D:=by
  have e:xh j fa g ρ=((fa ρ).s λt=>(((vE j ρ).bind λk=>(qT t k).bind λx=>(uo t).bind λy=>g [x,y]).s λt=>.rt t)):=by
   unfold xh;cases fa ρ<;>rfl
  rw[←e];exact q
 refine jY I q' λt v H1 _ s1 r1 O C=>?_;unfold vE at C;split at C
 ·rename_i kk e;obtain⟨u,eu,ru⟩:=O.vl j kk e;have C:PoS Y _ (((qT t kk).bind λx=>(uo t).bind λy=>g [x,y]).s λt=>.rt t) D:=C;rcases Q3 t kk with ⟨v',Z⟩|Z
  ·obtain⟨ts,qs,z,m,rfl,rfl,e1,nd,ei,rfl⟩:=Kn Z;rw[Z]at C;rw[xk rfl e1 nd]at C;have C:PoS Y _ ((g _).s λt=>.rt t) D:=C;cases r1 with
   |@tup l xs _ h r=>
    cases ru;refine⟨l,xs,ts,qs,rfl,O.sB _ _ h,r.mono O.sB,e1,nd,λw hw=>?_⟩;have gi:(σ.set i (some (V.ref w)))[i]?=some (some (V.ref w)):=by rw[aI U]
    have gj:(σ.set i (some (V.ref w)))[j]?=some (some (V.str z)):=by rw[ak hij];exact eu
    refine⟨_,gi,_,gj,w,qs,z,m,rfl,rfl,zf,ei,?_⟩;refine⟨_,gi,.inr (.inr (.inl ⟨rfl,.inl ⟨_,zf⟩⟩)),w,qs,rfl,rfl,zf,λy hy=>?_⟩;have P:y≠w:=λe=>by rw[e,zf]at hy;cases hy
    have hy1:=by rw[zg P]at hy;exact hy
    refine⟨y,_,w,qs,rfl,zf,λh z=>z,by rw[zg (aT P)];exact zf,?_⟩
    have Q:zi H1 (kj (kj H1 w (.dK (pL qs))) y (.ext λh=>h.IsValuesView y w)):=λb o J=>by
     have n1:b≠w:=λe=>by rw[e,hw]at J;cases J
     have n2:b≠y:=λe=>by rw[e,hy1]at J;cases J
     rw[zg n2,zg n1];exact J
    have L:=O.grow Q;refine⟨_,[.int m,.int _],rfl,L.sB,.cons (.int _) (.cons (.int _) .nil),?_⟩;revert C;cases g _ with
    |bad=>exact λC=>C
    |ex c=>exact λC d H' s sB=>C d H' (L.sH.trans s) ((zy.ge O.sB Q).trans sB)
    |ok t=>exact λC b H' s r=>C b H' (L.sH.trans s) (r.mono (UE L.sH L.old s L.sB))
  ·rw[Z]at C;exact C.elim
 ·exact C.elim
end
end PV
namespace PySem.RV
open PySem PySem.Spec PyProof.Rows PySem.Builtin.SmallTypes
end PySem.RV
namespace PV
open PySem PySem.Spec PyProof.Rows L2
end PV
namespace PV
open PySem PySem.W PyProof.Rows
section
variable {α β:Type}
noncomputable def Gd (lt:Nat->Nat->Bool)(n:Nat):KasT α->(α->Prop)->Prop
 |.ret a,P=>P a
 |.ask i j k,P=>(i<n/\j<n/\i≠j)/\Gd lt n (k (lt i j)) P
theorem Gd.mono {lt:Nat->Nat->Bool}{n:Nat}{P c:α->Prop}(h:∀a,P a->c a):∀(t:KasT α),Gd lt n t P->Gd lt n t c
 |.ret a,g=>h a g
 |.ask i j k,⟨d,g⟩=>⟨d,Gd.mono h _ g⟩
theorem Gd.bind {lt:Nat->Nat->Bool}{n:Nat}{P:β->Prop}{f:α->KasT β}:∀(t:KasT α),Gd lt n t (λa=>Gd lt n (f a) P)->Gd lt n (t.bind f) P
 |.ret a,g=>g
 |.ask i j k,⟨c,g⟩=>⟨c,Gd.bind _ g⟩
theorem Gd.wp {lt:Nat->Nat->Bool}{n:Nat}{c:Nat->Nat->(Bool->Shared->Prop)->Shared->Prop}{J:Shared->Prop}(l:∀i j C s,i<n->j<n->i≠j->J s->(∀d,J d->C (lt i j) d)->c i j C s){P:α->Prop}{Q:α->Shared->Prop}(f:∀a s,P a->J s->Q a s):∀(t:KasT α) (s:Shared),Gd lt n t P->J s->t.kasWp c Q s
 |.ret a,s,g,j=>f a s g j
 |.ask i j k,s,⟨⟨q,o,p⟩,g⟩,js=>l i j _ s q o p js λd e=>Gd.wp l f _ d g e
end
section
variable {O:KeyOrd}{n:Nat}{key:Nat->O.α}
noncomputable abbrev kp (key:Nat->O.α)(p:Array Nat)(i:Nat):O.α:=key (p.getD i 0)
structure Pm (n:Nat) (p:Array Nat):Prop where
 sz:p.size=n
 pm:p.toList.Perm (aV n)
def Pm.lt {p:Array Nat}(h:Pm n p){i:Nat}(hi:i<n):p.getD i 0<n:=by
 have a:i<p.size:=by rw[h.sz];exact hi
 have e:p.getD i 0=p[i]:=by simp[lm,a]
 rw[e];exact bu.mp (h.pm.mem_iff.mp (Array.getElem_mem_toList a))
def Pm.inj {p:Array Nat}(h:Pm n p){i j:Nat}(hi:i<n)(g:j<n)(e:p.getD i 0=p.getD j 0):i=j:=by
 have c:i<p.size:=by rw[h.sz];exact hi
 have a:j<p.size:=by rw[h.sz];exact g
 have f:p.getD i 0=p[i]:=by simp[lm,c]
 have d:p.getD j 0=p[j]:=by simp[lm,a]
 rw[f,d]at e;have nd:=h.pm.nodup_iff.mpr List.nodup_range;have:=(dm (h₀:=by simpa using c) (h₁:=by simpa using a) nd).mp (by simpa using e)
 exact this
def So (key:Nat->O.α)(p:Array Nat)(m:Nat):Prop:=∀i j,i<j->j<m->O.klt (kp key p i) (kp key p j)
def Wo {p q:Array Nat}{i j:Nat}(h:p[i]?=q[j]?):p.getD i 0=q.getD j 0:=by
 have e:∀(a:Array Nat) (k:Nat),a.getD k 0=(a[k]?).getD 0:=λa k=>by simp
 rw[e,e,h]
variable (hk:∀i j,i<n->j<n->key i=key j->i=j)
include hk
def Kp {p:Array Nat}(h:Pm n p){i j:Nat}(hi:i<n)(c:j<n)(a:i≠j)(d:O.blt (kp key p i) (kp key p j)=false):O.klt (kp key p j) (kp key p i):=by
 cases q:O.blt _ _ with
 |true=>exact q
 |false=>exact absurd (h.inj hi c (hk _ _ (h.lt hi) (h.lt c) (O.total _ _ d q))) a
omit hk in
def So.snoc {p:Array Nat}{m:Nat}(h:So key p m)(g:1<=m)(e:O.klt (kp key p (m-1)) (kp key p m)):So key p (m+1):=λi j c f=>by
 by_cases a:j=m
 ·subst a
  by_cases d:i=j-1
  ·rw[d];exact e
  ·exact dj (h i _ 00 00) (eZ e)
 ·exact h i j c 00
theorem Q4 {p:Array Nat}(hp:Pm n p):∀(f m:Nat),1<=m->m+f=n->So key p m->Gd (λi j=>O.blt (key i) (key j)) n (kas_asc p f m) λr=>m<=r/\r<=n/\So key p r/\(r<n->O.klt (kp key p r) (kp key p (r-1)))
 |0,m,_,d,h=>⟨aq _,by omega,h,λz=>by omega⟩
 |f+1,m,e,d,h=>by
  refine⟨⟨hp.lt 00,hp.lt 00,λz=>absurd (hp.inj 00 00 z) 00⟩,?_⟩
  show Gd _ n (if O.blt _ _=true then .ret m else kas_asc p f _) _
  cases q:O.blt _ _ with
  |true=>exact⟨aq _,by omega,h,λ_=>q⟩
  |false=>
   exact Gd.mono (λr ⟨a,b,c⟩=>⟨by omega,b,c⟩) _ (Q4 hp f _ 00 00 (h.snoc e (Kp hk hp 00 00 00 q)))
def De (key:Nat->O.α)(p:Array Nat)(m:Nat):Prop:=∀i j,i<j->j<m->O.klt (kp key p j) (kp key p i)
theorem Q5 {p:Array Nat}(hp:Pm n p):∀(f m:Nat),2<=m->m+f=n->De key p m->Gd (λi j=>O.blt (key i) (key j)) n (kas_desc f p m 0) λr=>r.1=p/\r.2.2=0/\m<=r.2.1/\r.2.1<=n/\De key p r.2.1
 |0,m,_,l,h=>⟨rfl,rfl,aq _,by show m<=n;omega,h⟩
 |f+1,m,v,l,h=>by
  refine⟨⟨hp.lt 00,hp.lt 00,λz=>absurd (hp.inj 00 00 z) 00⟩,?_⟩
  show Gd _ n (if O.blt _ _=true then (if 0>0 then kas_desc f _ _ 0 else kas_desc f p _ 0)else .ask _ _ λd=>if d=true then .ret _ else kas_desc f p _ _) _
  cases q:O.blt _ _ with
  |true=>
   refine Gd.mono (λr ⟨a,b,c,d⟩=>⟨a,b,by omega,d⟩) _ (Q5 hp f _ 00 00 λi j e u=>?_)
   by_cases g:j=m
   ·subst g
    by_cases k:i=j-1
    ·rw[k];exact q
    ·exact dj (show O.klt _ _ from q) (eZ (h i _ 00 00))
   ·exact h i j e 00
  |false=>
   refine⟨⟨hp.lt 00,hp.lt 00,λz=>absurd (hp.inj 00 00 z) 00⟩,?_⟩
   have o:O.blt _ _=true:=Kp hk hp 00 00 00 q
   show Gd _ n (if O.blt _ _=true then .ret _ else _) _
   rw[if_pos o];exact⟨rfl,rfl,aq _,by show m<=n;omega,h⟩
omit hk in
def Xq {p:Array Nat}(hp:Pm n p)(i j:Nat):Pm n (kas_rev p i j):=⟨(mirror_size _ _ _ _).trans hp.sz,(fX.mp (mirror_perm p i j _)).trans hp.pm⟩
omit hk in
def Q6 {p:Array Nat}(hp:Pm n p){m k:Nat}(c:m<=n)(a:k<m):(kas_rev p 0 m).getD k 0=p.getD (m-1-k) 0:=by
 refine Wo ?_;unfold kas_rev;rw[getElem?_mirror_all (by rw[hp.sz];exact c),if_pos ⟨aU _,a⟩]
 congr 1
 omega
def jn {p:Array Nat}(hp:Pm n p)(C:2<=n):Gd (λi j=>O.blt (key i) (key j)) n (kas_count n p) λr=>1<=r.1/\r.1<=n/\Pm n r.2/\So key r.2 r.1:=by
 refine Gd.bind _ (Gd.mono (λm ⟨a,b,c,d⟩=>?_) _ (Q4 hk hp _ 1 (aq _) 00 λi j f k=>by omega))
 by_cases g:m=n
 ·rw[if_pos (by simpa using g)]
  exact⟨a,b,hp,c⟩
 ·rw[if_neg (by simpa using g)]
  by_cases l:m>1
  ·rw[if_pos l];refine⟨⟨hp.lt 00,hp.lt 00,λz=>absurd (hp.inj 00 00 z) 00⟩,?_⟩
   have q:O.blt _ (kp key p (m-1))=true:=c 0 _ 00 00
   show Gd _ n (if O.blt _ _=true then .ret _ else _) _
   rw[if_pos q];exact⟨a,b,hp,c⟩
  ·have e:m=1:=by omega
   subst e;have B:=d 00
   refine Gd.bind _ (Gd.mono (λr ⟨u,v,G,o,x⟩=>?_) _ (Q5 hk hp _ _ 00 00 λi j f k=>by
    have:i=0/\j=1:=by omega
    rw[this.1,this.2];exact B))
   rw[v,u];refine Gd.bind _ (Gd.mono (λF ⟨D,y,w,_⟩=>⟨by omega,y,Xq hp 0 _,w⟩) _ (Q4 hk (Xq hp 0 _) _ _ 00 00 λi j f k=>?_))
   unfold kp;rw[Q6 hp o 00,Q6 hp o k]
   exact x _ _ 00 00
theorem Wp {p:Array Nat}(hp:Pm n p){k:Nat}(a:k<n)(o:So key p k):∀(f l r:Nat),r<=k->l<=r->r-l<=f->(∀i,i<l->O.klt (kp key p i) (kp key p k))->(∀i,r<=i->i<k->O.klt (kp key p k) (kp key p i))->
  Gd (λi j=>O.blt (key i) (key j)) n (kas_place p k f l r) λm=>m<=k/\(∀i,i<m->O.klt (kp key p i) (kp key p k))/\∀i,m<=i->i<k->O.klt (kp key p k) (kp key p i)
 |0,l,r,v,x,y,u,g=>⟨by omega,u,λi hi c=>g i 00 c⟩
 |f+1,l,r,v,x,y,u,g=>by
  unfold kas_place
  by_cases d:l≥r
  ·rw[if_pos d];exact⟨by omega,u,λi hi c=>g i 00 c⟩
  ·rw[if_neg d];refine⟨⟨hp.lt a,hp.lt 00,λz=>absurd (hp.inj a 00 z) 00⟩,?_⟩
   show Gd _ n (if O.blt _ _=true then kas_place p k f l _ else kas_place p k f _ r) _
   cases q:O.blt _ _ with
   |true=>
    refine Wp hp a o f l _ 00 00 00 u λi hi c=>?_
    by_cases e:i=(l+r)/2
    ·rw[e];exact q
    ·exact dj (q) (eZ (o _ _ 00 c))
   |false=>
    refine Wp hp a o f _ r v 00 00 (λi hi=>?_) g
    have w:=Kp hk hp a 00 00 q
    by_cases e:i=(l+r)/2
    ·rw[e];exact w
    ·exact dj (o _ _ 00 00) (eZ w)
omit hk in
def Q7 {p:Array Nat}(hp:Pm n p){k l i:Nat}(a:k<n)(c:l<=k):(bubble p k (k-l)).getD i 0=if i=l then p.getD k 0 else if l<i/\i<=k then p.getD (i-1) 0 else p.getD i 0:=by
 have h:=getElem?_bubble (by rw[hp.sz];exact a) (k-l) 00 i
 rw[show k-(k-l)=l by omega]at h
 repeat' split at h
 all_goals first|(rw[if_pos (by assumption)];exact Wo h)|(rw[if_neg (by assumption),if_pos (by assumption)];exact Wo h)|(rw[if_neg (by assumption),if_neg (by assumption)];exact Wo h)
theorem Xr:∀(f:Nat) (p:Array Nat) (k:Nat),Pm n p->k+f=n->So key p k->Gd (λi j=>O.blt (key i) (key j)) n (kas_bin f p k) λq=>Pm n q/\So key q n
 |0,p,k,hp,d,h=>⟨hp,by rw[←d];exact h⟩
 |f+1,p,k,hp,d,h=>by
  unfold kas_bin;refine Gd.bind _ (Gd.mono (λl ⟨a,b,c⟩=>?_) _ (Wp hk hp 00 h k 0 k (aq _) (aU _) 00 (λi hi=>by omega) λi hi o=>by omega))
  refine Xr f _ _ ⟨(bubble_size _ _ _).trans hp.sz,(fX.mp (bubble_perm p k _)).trans hp.pm⟩ 00 λi j g r=>?_
  unfold kp;rw[Q7 hp 00 a,Q7 hp 00 a]
  by_cases hi:i=l
  ·rw[if_pos hi,if_neg 00,if_pos ⟨by omega,by omega⟩]
   exact c _ 00 00
  ·rw[if_neg hi]
   by_cases e:j=l
   ·rw[if_pos e,if_neg 00]
    exact b i 00
   ·rw[if_neg e]
    by_cases x:l<i/\i<=k
    ·rw[if_pos x,if_pos ⟨by omega,by omega⟩]
     exact h _ _ 00 00
    ·rw[if_neg x]
     by_cases y:l<j/\j<=k
     ·rw[if_pos y];exact h _ _ 00 00
     ·rw[if_neg y];exact h _ _ g 00
def Wq (e:2<=n):Gd (λi j=>O.blt (key i) (key j)) n (kas_sort n) λq=>Pm n q/\So key q n:=by
 refine Gd.bind _ (Gd.mono (λr ⟨a,b,c,d⟩=>?_) _ (jn hk ⟨by simp,by simp⟩ e))
 by_cases h:r.1<n
 ·rw[if_pos h,show max r.1 1=r.1 by omega]
  exact Xr hk _ _ _ c 00 d
 ·rw[if_neg h];exact⟨c,by rw[show n=r.1 by omega];exact d⟩
end
end PV
namespace PV
open PySem PySem.Spec PyProof.Rows L2
section
open PySem.W PySem.Calls
variable {O:KeyOrd}{n:Nat}{key:Nat->O.α}
end
section
variable {prog:Program}{w:World}{A:Around}{E:Value->Shared->Prop}{s:Shared}
open PySem.W PySem.Calls
end
section
variable {X:Cx}{Y:Fx}{a:Expr}{fa:En->R T}{p pos:Pos}
theorem uq {H:Hp}{xs:List V}{ts:List T}(r:zr H xs ts):∀(c:List Nat),(∀i∈c,i<ts.length)->zr H (c.map λi=>xs.getD i V.non) (c.map λi=>ts.getD i T.non)
 |[],_=>.nil
 |i::c,h=>by
  have hi:=h i ae;obtain⟨v,e,d⟩:=r.get (ah hi);have k:xs.getD i V.non=v:=by rw[bv,e];rfl
  have g:ts.getD i T.non=ts[i]:=by rw[bv,ah hi];rfl
  rw[ao,ao,k,g];exact .cons d (uq r c λj f=>h j (a9 _ f))
theorem ur {xs:List V}{d:List Value}(r:L2.Vals xs d):∀(c:List Nat),(∀i∈c,i<xs.length)->L2.Vals (c.map λi=>xs.getD i V.non) (c.map λi=>d.getD i Value.none)
 |[],_=>.nil
 |i::c,h=>by
  have hi:=h i ae;obtain⟨u,f,e⟩:=r.get (ah hi);have g:d.getD i Value.none=u:=by rw[bv,f];rfl
  have l:xs.getD i V.non=xs[i]:=by rw[bv,ah hi];rfl
  rw[ao,ao,g,l];exact .cons e (ur r c λj k=>h j (a9 _ k))
end
end PV
namespace PV
open PySem PySem.Spec PyProof.Rows L2
section
variable {prog:Program}{w:World}{A:Around}{E:Value->Shared->Prop}{s:Shared}
open HT in
open HT in
end
end PV
namespace PV
open PySem PySem.Spec PyProof.Rows L2
end PV
namespace L2
open PySem PySem.Spec PyProof.Rows PySem.W
end L2
namespace L2
open PySem PySem.Spec PyProof.Rows PySem.W
end L2
namespace L2
open PySem PySem.Spec PyProof.Rows PySem.W
end L2
namespace PV
open PySem PySem.Spec PyProof.Rows L2 PySem.W
end PV
namespace L2
open PySem PySem.Spec PyProof.Rows PySem.W
end L2
namespace PV
open PySem PySem.Spec PyProof.Rows L2
def Er (c d:En->R T):En->R T:=λρ=>(c ρ).bind λt=>(d ρ).bind λu=>match t with
 |.lst []=>.ok u
 |.lst ts=>match zR ts with|some (i::l)=>.ok (.int (Zx (λa b=>decide (a<b)) i l))|_=>.bad
 |_=>.bad
section
variable {prog:Program}{w:World}{A:Around}{R:Result->Shared->Prop}{I:Addr}{fp wr:List Addr}{n:Nat}{P:Nat->Value->Prop}{St:Nat->Heap->Prop}
def xl (W:Walks prog w A.in1 I fp wr n P St)(C:Nat->Nat->Bool)(hc:CmpOf prog w A.in1 .Lt P C)(D:Addr)(M:D∉fp)(S:List (Str×Value)):
  ∀(q j:Nat) (s:Shared) (c:Value) (B:Nat),n-(j+1)=q->j+1<=n->St (j+1) s.heap->P (argBest C j) c->
  s.heap.get? D=some {cls:=.type "list",dict:=none,data:=.seq #[c,c] B,slots:=#[]}->
  (∀v h' tk,P (argBest C (n-1)) v->(∀b o,b∉wr->b≠D->s.heap.get? b=some o->h'.get? b=some o)->R (.ok (.ret v)) {s with heap:=h',toks:=tk})->
  codeAny 08 A (.builtin "min.loop" ⟨[.ref I,.none,.ref D],S⟩) R s:=by
 have p:D∉wr:=λz=>M (W.sub _ z);intro q
 induction q with
 |zero=>
  intro j s c B Z U f F r u;have l:j+1=n:=by omega
  refine bJ ip ?_;refine a8 (bU r rfl ?_);refine a8 (dP (W.done s _ _ (l▸f) λX O i=>?_));have a:=i D _ p r;refine a8 (wpAny_updateSeq a rfl (a8 (dO (ac ?_))));exact u c _ O (by rw[←l];exact F) λb o x y z=>(ck _ _ (aT y)).trans (i b o x z)
 |succ q N=>
  intro j s c B Z U f F r u;have g:j+1<n:=by omega
  refine bJ ip ?_;refine a8 (bU r rfl ?_);refine a8 (dP (W.item (j+1) s _ _ g f λv X O Q d i=>?_));have a:=i D _ p r;show wpAny 08 A.in1 (tryCatch _ _>>=_) _ _ _;refine a8 (dP (bp (a8 (hc _ _ v c _ _ _ Q F ?_))));refine a8 (bp (be (a8 (dO (ac ?_)))));cases k:C _ _ with
  |true=>
   refine a8 (wpAny_updateSeq a rfl (a8 (dO ?_)));refine ac ⟨cg fg _,N _ _ v _ 00 g (W.frame _ _ _ d λb x o z=>?_) (by simp only[argBest,k,if_true];exact Q) (cz _ a rfl) λv2 J L e G=>?_⟩
   ·exact(ck _ _ (λy=>M (by rw[y];exact x))).trans z
   ·exact u v2 J L e λb o x y z=>G b o x y ((ck _ _ (aT y)).trans (i b o x z))
  |false=>
   refine a8 (dO ?_);refine ac ⟨cg fg _,N _ _ c B 00 g d (by simp only[argBest,k,aH,if_false];exact F) a λv2 J L e G=>?_⟩
   exact u v2 J L e λb o x y z=>G b o x y (i b o x z)
def Q8 (W:Walks prog w A.in1 I fp wr n P St)(i:Nat->Nat->Bool)(L:CmpOf prog w A.in1 .Lt P i)(D:Addr)(f:D∉fp)(J:Str)(k:Value){s:Shared}{G:Nat}(a:St 0 s.heap)
  (q:s.heap.get? D=some {cls:=.type "list",dict:=none,data:=.seq #[] G,slots:=#[]})
  (F:n=0->∀h' tk,(∀b o,b∉wr->b≠D->s.heap.get? b=some o->h'.get? b=some o)->R (.ok (.ret k)) {s with heap:=h',toks:=tk})
  (B:0<n->∀v h' tk,P (argBest i (n-1)) v->(∀b o,b∉wr->b≠D->s.heap.get? b=some o->h'.get? b=some o)->R (.ok (.ret v)) {s with heap:=h',toks:=tk}):
  codeAny 08 A (.builtin "min.loop" ⟨[.ref I,.none,.ref D],[(J,k)]⟩) R s:=by
 have j:=λz=>f (W.sub _ z);refine bJ ip ?_;refine a8 (bU q rfl ?_);rcases Nat.eq_zero_or_pos n with hz|hp
 ·refine a8 (dP (W.done s _ _ (hz▸a) λl p e=>?_));exact a8 (df (ac (F hz l p λb o x y z=>e b o x z)))
 ·refine a8 (dP (W.item 0 s _ _ hp a λv l p M c e=>?_));have d:=e D _ j q;show wpAny _ _ (updateSeq D (λ_=>#[v,v])>>=_) _ _ _;refine a8 (wpAny_updateSeq d rfl ?_);refine ac ⟨cg fg _,xl W i L D f _ _ 0 _ v _ rfl hp (W.frame _ _ _ c λb x o z=>?_) M (cz _ d rfl) λv2 u C g r=>?_⟩
  ·exact(ck _ _ (λy=>f (by rw[y];exact x))).trans z
  ·exact B hp v2 u C g λb o x y z=>r b o x y ((ck _ _ (aT y)).trans (e b o x z))
end
def xm (a v:Value):argsOk "min" ⟨[a],[(aE "default",v)]⟩:=by kernel_rfl
section
variable {prog:Program}{w:World}{A:Around}{E:Value->Shared->Prop}{s:Shared}{l:Addr}{xs:Array (Int×Tok)}
def UY {Q:Value->Shared->Prop}{c:Value}(r:A.handled=none)(C:s.heap.IsList l (intItems xs))
  (x:xs.size=0->∀h' tk,(∀b o,s.heap.get? b=some o->h'.get? b=some o)->Q c {s with heap:=h',toks:=tk})
  (u:0<xs.size->∀v h' tk,(intItems xs)[argBest (λi j=>decide (numAt xs i<numAt xs j)) (xs.size-1)]?=some v->(∀b o,s.heap.get? b=some o->h'.get? b=some o)->Q v {s with heap:=h',toks:=tk}):
  wpAny 08 A (call (.builtin "min") [.ref l] [(aE "default",c)]) Q E s:=by
 have hsz:(intItems xs).size=xs.size:=by simp[intItems]
 refine kmb_tree PySem.F.kind_min PySem.F.plain_min PySem.F.entry_min (xm _ _) ?_;refine a8 (c9 (show Builtin.Builtins.bindParams _ _ 0 _=pure _ from rfl) (a8 (ac ?_)));refine a8 (iter_intList C λD q st a d=>?_);subst q;refine a8 (aO ?_);have W:=ll (prog:=prog) (w:=w) (A:=A.in1) r _ l d (intItems xs);generalize B:s.heap.push _=G at st a⊢;have e:=λz=>bo _ (a _ z);have kp:∀h':Heap,(∀b o,b∉[s.1.1.size]->b≠G.objs.size->(G.push {cls:=.type "list",data:=.seq ([]:List _).toArray}).get? b=some o->h'.get? b=some o)->∀b o,s.heap.get? b=some o->h'.get? b=some o:=λh' k b o z=>by
  have f:=av z;have p:G.get? b=some o:=by rw[←B];exact aa _ z
  refine k b o (λy=>?_) (λy=>?_) (aa _ p)
  ·rw[ax.mp y]at f;exact bo _ f
  ·have:=av p;rw[y]at this;exact bo _ this
 refine ac ⟨cg fg _,Q8 W _ (CmpOf.ints_lt _ (λ_ _=>intItems_at)) _ e _ c (W.frame _ _ _ st λb _ o z=>aa _ z) (ai _ rfl) (λhz h' tk k=>?_) λhp v h' tk g k=>?_⟩
 ·exact x 00 h' tk (kp h' k)
 ·exact u 00 v h' tk (by rw[hsz]at g;exact g) (kp h' k)
end
section
variable {X:Cx}{Y:Fx}{a b:Expr}{fa fb:En->R T}{pos p p' pos' pt kp:Pos}{elts:List Expr}{kk:Nat}
def Kq {O tb:TE}(P:X.A.handled=none)(gl:Gl X "min")(mg:X.mg "min"=none)(ha:PE X a O)(hb:PE X b tb)(L:nr X a):
  PE X (.Call (.Name "min" p) [a] [⟨some "default",b,kp⟩] pos) (λq H Q=>O q H λv w=>tb q w λu c=>∃l xs ts,([v].length=1/\[u].length=1)/\v=.ref l/\c l=some (.lst xs)/\zr c xs ts/\
   ((ts=[]/\Q u c)\/∃i f,zR ts=some (i::f)/\Q (.int (Zx (λa b=>decide (a<b)) i f)) c)):=by
 intro U s q H Q I h;refine cP (j4 I gl mg PyProof.Rows.Boot.«min» ?_ 01 01)
 refine callWith_kw (mN (zh ha zt L pos _ s q H (λvs w=>tb q w λu c=>∃l xs ts,(vs.length=1/\[u].length=1)/\vs.headD .non=.ref l/\c l=some (.lst xs)/\zr c xs ts/\
   ((ts=[]/\Q u c)\/∃i f,zR ts=some (i::f)/\Q (.int (Zx (λa b=>decide (a<b)) i f)) c)) I h) λus s1 ⟨vs,w,I1,J,q1⟩=>?_) (by rw[L];rfl) (by rw[L];rfl) rfl rfl
 refine mN (k8 hb GC pos _ s1 q w (λx c=>∃l xs ts,(vs.length=1/\x.length=1)/\vs.headD _=.ref l/\c l=some (.lst xs)/\zr c xs ts/\
   ((ts=[]/\Q (x.headD .non) c)\/∃i f,zR ts=some (i::f)/\Q (.int (Zx (λa b=>decide (a<b)) i f)) c)) I1 q1) λws s2 ⟨x,c,F,C,l,xs,ts,⟨l1,l2⟩,M,hl,r,y⟩=>?_
 have hu:∃u,us=[u]/\RelV (.ref l) u:=by
  match vs,J,l1,M with
  |[v],J,_,M=>obtain rfl:v=.ref l:=M;exact Zk J
 have hw:∃z u,x=[z]/\ws=[u]/\RelV z u:=by
  match x,C,l2 with
  |[z],C,_=>obtain⟨u,e,r⟩:=Zk C;exact⟨z,u,rfl,e,r⟩
 obtain⟨u,rfl,ru⟩:=hu;obtain⟨z,d,rfl,rfl,rd⟩:=hw;obtain rfl:u=Value.ref l:=ru;obtain⟨o,N,pl,_⟩:=zH F (.inl hl) r;rcases y with ⟨rfl,y⟩|⟨i,f,hk,y⟩
 ·have hn:o=[]:=by
   cases r with
   |nil=>cases N;rfl
  have e:o.toArray=intItems (#[]:Array _):=by rw[hn];simp[intItems]
  rw[e]at pl;exact UY P pl (λ_ h' tk k=>⟨z,c,F.kept k,rd,y⟩) (λz=>absurd z (by simp))
 ·obtain⟨g,h1,G⟩:=J0 r N hk;have e:o.toArray=intItems g.toArray:=by rw[h1];simp[intItems]
  rw[e]at pl;have B:=by have:=congrArg eJ G;simpa using this
  refine UY P pl (λz=>absurd z (by simp[B])) λ_ v h' tk hv k=>?_
  obtain⟨t,rfl⟩:=intItems_at hv;obtain⟨b1,b2⟩:=argBest_lt _ (g.toArray.size-1);have hsz:g.toArray.size=g.length:=by simp
  rw[hsz]at b1 b2⊢;obtain⟨S,m2⟩:=JA f i;have Z:numAt g.toArray (argBest (λi j=>decide (numAt g.toArray i<numAt g.toArray j)) (g.length-1))=Zx (λa b=>decide (a<b)) i f:=by
   refine iK ?_ (m2 _ ?_)
   ·rw[←G]at S;obtain⟨j,hj,ej⟩:=cF.mp S;rw[←ej];have D:=by simpa using hj
    rw[←ZX g j D];exact b2 j 00
   ·rw[ZX g _ 00,←G]
    exact il _
  rw[Z];exact⟨.int _,c,F.kept k,⟨t,rfl⟩,y⟩
def Iw (j:X.A.handled=none)(x:Gl X "min")(F:X.mg "min"=none)(J:jv X Y a fa)(G:Snd X Y b fb)(D:nr X a:=by exact ng rfl):Snd X Y (.Call (.Name "min" p) [a] [⟨some "default",b,kp⟩] pos) (Er fa fb):=.mk λρ=>
 PE.imp (Kq j x F (J ρ) (G ρ) D) λN H Q ⟨B,I,q⟩=>step I q λt v L _ M d y u=>step y u λt' O o _ C g f c=>by
  have d:=d.mono C;cases d with
  |@lst l xs ts h r=>
   cases ts with
   |nil=>exact⟨l,xs,[],⟨rfl,rfl⟩,rfl,h,r,.inl ⟨rfl,nk f.sB c rfl g⟩⟩
   |cons w ts=>
    have c:Po Y rC _ o (match zR _ with|some (i::l)=>.ok (.int (Zx (λa b=>decide _) i l))|_=>.bad) Q:=c
    split at c
    ·rename_i i k e;exact⟨l,xs,w::ts,⟨rfl,rfl⟩,rfl,h,r,.inr ⟨i,k,e,nk f.sB c rfl (.int _)⟩⟩
    ·exact c.elim
  |_=>exact c.elim
end
end PV
namespace PV
open PySem PySem.Spec PyProof.Rows L2 PySem.W
section
variable {X:Cx}{Y:Fx}{a b:Expr}{fa fb:En->R T}{pos p p':Pos}
def SI.forget {B:Hp}{ρ:En}{g:Sg}{H:Hp}(I:SI Y B ρ g H)(i:Nat)(v:Option V):SI Y B (ρ.set i .un) (g.set i v) H where
 s0:=I.s0
 sH:=I.sH
 sB:=I.sB
 old:=I.old
 len:=by rw[aZ,aZ];exact I.len
 vl:=λj t h=>by
  rcases zx h with ⟨_,z⟩|⟨n,z⟩
  ·cases z
  ·obtain⟨C,e,r⟩:=I.vl j t z;exact⟨C,by rw[ak (aT n)];exact e,r⟩
 ow:=λj ts h=>by
  rcases zx h with ⟨_,z⟩|⟨n,z⟩
  ·cases z
  ·obtain⟨a,xs,e,k,u,q,r,d⟩:=I.ow j ts z;refine⟨a,xs,by rw[ak (aT n)];exact e,k,u,q,r,λl o w h'=>?_⟩
   rcases zx h' with ⟨_,f⟩|⟨y,f⟩
   ·cases f
   ·rw[ak (aT y)];exact d l o w f
 xc:=λj c h=>by
  rcases zx h with ⟨_,z⟩|⟨n,z⟩
  ·cases z
  ·obtain⟨a,e,r⟩:=I.xc j c z;exact⟨a,by rw[ak (aT n)];exact e,r⟩
 st:=let ⟨as,O,x⟩:=I.st;⟨as,O,x.set i _ _ rfl (λ_=>Sl.noConfusion)⟩
def Kr (i j l:Nat):T->En->R En:=λt ρ=>match t with
 |.tup [x,y,z]=>.ok (((ρ.set i (.vl x)).set j (.vl y)).set l (.vl z))
 |_=>.bad
def IJ {i j l:Nat}{x y z:Str}{w D O F:Pos}{k:Nat}(M:X.calm=true)(d:X.N.Nodup)(hi:X.N[i]?=some x)(o:X.N[j]?=some y)(J:X.N[l]?=some z)(u:L2.Loc X.env.scope x)(hy:L2.Loc X.env.scope y)(hz:L2.Loc X.env.scope z)
  (L:X.fn x=true\/X.env.scope.names.lookup x=some .local:=by first|exact .inl rfl|exact .inr rfl|assumption) (f:X.fn y=true\/X.env.scope.names.lookup y=some .local:=by first|exact .inl rfl|exact .inr rfl|assumption) (e:X.fn z=true\/X.env.scope.names.lookup z=some .local:=by first|exact .inl rfl|exact .inr rfl|assumption):
  rH X Y (.Tuple [.Name x w,.Name y D,.Name z O] k F) (Kr i j l):=by
 refine⟨X4 X.K 3 _,WU M (Zb (Z4 d hi u L) (Zb (Z4 d o hy f) (Zb (Z4 d J hz e) JO))),λB ρ P H v t Q I r q=>?_⟩;cases r with
 |@tup a xs ts h r=>
  cases r with
  |nil=>exact q.elim
  |cons G c=>
   cases c with
   |nil=>exact q.elim
   |cons g c=>
    cases c with
    |nil=>exact q.elim
    |cons C c=>
     cases c with
     |cons _ _=>exact q.elim
     |nil=>
      exact⟨a,_,rfl,SqT.of (I.sB _ _ h),rfl,_,_,rfl,_,_,rfl,_,_,rfl,rfl,q _ (((I.setV i G).setV j g).setV l C)⟩
 |_=>exact q.elim
end
end PV
namespace PV
open PySem PySem.Spec PyProof.Rows L2
end PV
namespace PV
open PySem PySem.Spec PyProof.Rows L2 PySem.W
theorem Q9 {x:Str}:∀(ns:List (Str×NameKind)) (n:Nat) (acc:List (Str×Addr)),(∀k,(x,k)∈ns->k≠NameKind.cell)->(cellsFrom n ns acc).lookup x=acc.lookup x
 |[],_,_,_=>rfl
 |(y,k)::ns,n,acc,h=>by
  unfold cellsFrom;have h':=λk a=>h k (a9 _ a);split
  ·rename_i a;rw[Q9 ns _ _ h',aG];have:x≠y:=λz=>h k (by rw[z];exact ae) (eq_of_beq a)
   rw[beq_eq_false_iff_ne.mpr this]
  ·exact Q9 ns _ _ h'
theorem UZ {x:Str}{c:Addr}:∀(ns:List (Str×NameKind)) (n:Nat) (acc:List (Str×Addr)),(cellsFrom n ns acc).lookup x=some c->((x,NameKind.cell)∈ns/\n<=c)\/acc.lookup x=some c
 |[],_,_,h=>.inr h
 |(y,k)::ns,n,acc,h=>by
  unfold cellsFrom at h;split at h
  ·rename_i f;rcases UZ ns _ _ h with ⟨a,b⟩|z
   ·exact .inl ⟨a9 _ a,dN b⟩
   ·rw[aG]at z
    by_cases d:x=y
    ·subst d;rw[beq_self_eq_true]at z;have e:=aF z;rw[eq_of_beq f];exact .inl ⟨ae,Nat.le_of_eq e⟩
    ·rw[beq_eq_false_iff_ne.mpr d]at z;exact .inr z
  ·rcases UZ ns _ _ h with ⟨a,b⟩|z
   ·exact .inl ⟨a9 _ a,b⟩
   ·exact .inr z
theorem Wr {x:Str}:∀(ns:List (Str×NameKind)) (n:Nat) (acc:List (Str×Addr)),(∃c,acc.lookup x=some c)->∃c,(cellsFrom n ns acc).lookup x=some c
 |[],_,_,h=>h
 |(y,k)::ns,n,acc,h=>by
  unfold cellsFrom;split
  ·refine Wr ns _ _ ?_;rw[aG]
   by_cases a:x=y
   ·subst a;rw[beq_self_eq_true];exact⟨_,rfl⟩
   ·rw[beq_eq_false_iff_ne.mpr a];exact h
  ·exact Wr ns _ _ h
theorem Xs {x:Str}:∀(ns:List (Str×NameKind)) (n:Nat) (acc:List (Str×Addr)),(x,NameKind.cell)∈ns->∃c,(cellsFrom n ns acc).lookup x=some c
 |(y,k)::ns,n,acc,h=>by
  unfold cellsFrom;rcases au.mp h with e|h
  ·cases e;refine Wr ns _ _ ⟨n,?_⟩;rw[aG,beq_self_eq_true]
  ·split<;>exact Xs ns _ _ h
theorem Qa {x:Str}{c:Addr}:∀(ns:List (Str×NameKind)) (n m:Nat) (acc:List (Str×Addr)),m<=n->((x,NameKind.cell)∈ns\/∀d,acc.lookup x=some d->m<=d)->(cellsFrom n ns acc).lookup x=some c->m<=c
 |[],_,_,_,_,h,e=>(h.resolve_left (by simp)) _ e
 |(y,k)::ns,n,m,acc,a,h,e=>by
  unfold cellsFrom at e;split at e
  ·refine Qa ns _ m _ (hU a) ?_ e
   by_cases f:x=y
   ·subst f;refine .inr λd z=>?_;rw[aG,beq_self_eq_true]at z;have e:=aF z;rw[←e];exact a
   ·rcases h with h|h
    ·rcases au.mp h with z|z
     ·cases z;exact absurd rfl f
     ·exact .inl z
    ·refine .inr λd z=>?_;rw[aG,beq_eq_false_iff_ne.mpr f]at z;exact h d z
  ·rename_i g;refine Qa ns _ m _ a ?_ e;rcases h with h|h
   ·rcases au.mp h with z|z
    ·cases z;exact absurd rfl g
    ·exact .inl z
   ·exact .inr h
theorem Qb:∀(ns:List (Str×NameKind)) (n:Nat) (acc:List (Str×Addr)),(∀x y c,acc.lookup x=some c->acc.lookup y=some c->x=y)->(∀x c,acc.lookup x=some c->c<n)->∀x y c,(cellsFrom n ns acc).lookup x=some c->(cellsFrom n ns acc).lookup y=some c->x=y
 |[],_,_,h,_=>h
 |(y,k)::ns,n,acc,h,d=>by
  unfold cellsFrom;split
  ·have lk:∀x c,((y,n)::acc).lookup x=some c->(x=y/\c=n)\/acc.lookup x=some c:=λx c e=>by
    rw[aG]at e
    by_cases g:x=y
    ·subst g;rw[beq_self_eq_true]at e;exact .inl ⟨rfl,(aF e).symm⟩
    ·rw[beq_eq_false_iff_ne.mpr g]at e;exact .inr e
   refine Qb ns _ _ (λa b c l j=>?_) λa c e=>?_
   ·rcases lk a c l with ⟨p1,o⟩|i<;>rcases lk b c j with ⟨p2,p⟩|f
    ·rw[p1,p2]
    ·exact absurd (d _ _ f) (by rw[o];exact bo _)
    ·exact absurd (d _ _ i) (by rw[p];exact bo _)
    ·exact h a b c i f
   ·rcases lk a c e with ⟨_,q⟩|z
    ·rw[q];exact dU _
    ·exact c8 (d _ _ z)
  ·exact Qb ns _ _ h d
theorem Ub {x:Str}{c:Addr}:∀(ns:List (Str×NameKind)) (h:Heap) (acc:List (Str×Addr)),(cellsFrom h.objs.size ns acc).lookup x=some c->(∀d,acc.lookup x=some d->∃v,h.IsCell d v)->∃v,(pushCells h ns).IsCell c v
 |[],_,_,e,k=>k c e
 |(y,k)::ns,h,acc,e,f=>by
  unfold pushCells;unfold cellsFrom at e;split at e
  ·rename_i a;rw[if_pos a];have sz:(h.push {cls:=.type "cell",data:=.cell none}).objs.size=h.objs.size+1:=bT ..;rw[←sz]at e;refine Ub ns _ _ e λd z=>?_;rw[aG]at z
   by_cases g:x=y
   ·subst g;rw[beq_self_eq_true]at z;have e:=aF z;rw[←e];exact⟨none,_,ai _ rfl,rfl⟩
   ·rw[beq_eq_false_iff_ne.mpr g]at z;obtain⟨v,o,i,j⟩:=f d z;exact⟨v,o,aa _ i,j⟩
  ·rename_i a;rw[if_neg a];exact Ub ns _ _ e f
def jB {scope:Scope}{env:Env}{x:Str}{k:NameKind}(h:(relabel scope env).names.lookup x=some k):∃a,(x,a)∈scope.names/\(k=a \/a=.free/\k=.cell):=by
 have go:∀ns:List _,(ns.map λ(n,k)=>if (k==NameKind.free&&env.scope.kind==.function&&env.kindOf n==some .cell)then (n,NameKind.cell)else (n,k)).lookup x=some k->∃a,(x,a)∈ns/\(k=a \/a=.free/\k=.cell):=by
  intro ns
  induction ns with
  |nil=>intro h;simp at h
  |cons y ns f=>
   intro h;obtain⟨n,a⟩:=y;rw[ao]at h
   by_cases d:x=n
   ·subst d;refine⟨a,ae,?_⟩
    by_cases c:(a==NameKind.free&&env.scope.kind==.function&&env.kindOf x==some .cell)=true
    ·simp only[if_pos c,aG,beq_self_eq_true]at h;rw[am,am]at c;exact .inr ⟨eq_of_beq c.1.1,(aF h).symm⟩
    ·simp only[if_neg c,aG,beq_self_eq_true]at h;exact .inl (aF h).symm
   ·obtain⟨z,hz,e⟩:=f (by
     by_cases c:(a==NameKind.free&&env.scope.kind==.function&&env.kindOf n==some .cell)=true
     ·simp only[if_pos c,aG,(beq_eq_false_iff_ne.mpr d)]at h;exact h
     ·simp only[if_neg c,aG,(beq_eq_false_iff_ne.mpr d)]at h;exact h)
    exact⟨z,a9 _ hz,e⟩
 exact go _ h
def CL (X:Cx)(scope:Scope)(N':List Str)(cl:List (Str×Addr))(C:Addr)(c:Shared)(H3:Hp)(fp:List Addr)(a:List (Addr×Obj)):Cx:=
 {X with N:=N',s₀:=c,H₀:=H3,env:=compEnvC scope (cellsFrom (C+1) scope.names cl) C X.env,outer:=X.stack,stack:=X.stack,ex:=fp,fn:=λx=>scope.names.lookup x==some .cell,pn:=X.pn++a,xe:=λ_ _=>False}
structure Aj (X:Cx) (scope:Scope):Prop where
 kind:scope.kind=.function
 can:∀x∈scope.names,scope.names.lookup x.1=some x.2
 fre:∀x∈scope.names,x.2=.free->X.env.kindOf x.1=some .cell\/X.env.kindOf x.1=some .free
section
variable {X:Cx}{pins:List (Addr×Obj)}{σ:Sg}{H:Hp}{s:Shared}
def Yc {scope:Scope}{N':List Str}{cl:List (Str×Addr)}{fp:List Addr}{M h':Heap}{tk:Nat}{σ':Sg}(I:L2.Inv X pins σ H s)(S:Aj X scope)(hc:X.calm=true)
  (a:∀x c,cl.lookup x=some c->X.env.cells.lookup x=some c) (w:∀x∈scope.names,x.2=NameKind.free->∃c,cl.lookup x.1=some c)
  (r:∀b∈fp,wF X pins H b) (hfo:∀b∈fp,∃o,s.heap.get? b=some o)
  (h0s:M.objs.size=s.1.1.size+1) (Z:∀b o,s.heap.get? b=some o->M.get? b=some o) (eh:h'=pushCells M scope.names)
  (U:h'.Ns s.1.1.size (λ_=>none)) (g:∀b o,s.heap.get? b=some o->h'.get? b=some o)
  (hl:σ'.length=N'.length) (hσ:∀(i:Nat) (x:Str) (v:V),N'[i]?=some x->σ'[i]?=some (some v)->∃j:Nat,X.N[j]?=some x/\σ[j]?=some (some v)/\pU X.env.scope x/\(scope.names.lookup x=some .free)/\(X.env.kindOf x=some .cell\/X.env.kindOf x=some .free)):
  L2.Inv (CL X scope N' cl s.1.1.size s H fp pins) [] σ' H {s with heap:=h',toks:=tk}:=by
 have C:=I.stkSub;have D:=λb f=>let ⟨o,e⟩:=hfo b f;av e;have fresh:=I.hok.fresh (aq _);have cll:∀x c,cl.lookup x=some c->c<s.1.1.size:=λx c e=>by
  obtain⟨v,o,G,_⟩:=I.cell x c (a x c e);exact av G
 have any:∀x c,(cellsFrom _ scope.names cl).lookup x=some c->s.1.1.size+1<=c\/X.env.cells.lookup x=some c:=λx c e=>by
  rcases UZ _ _ _ e with ⟨_,z⟩|z
  ·exact .inl z
  ·exact .inr (a x c z)
 refine⟨⟨I.ok.mod,S.kind,I.ok.glob,I.ok.blt,aq _,Qb _ _ _ (λx y c L Q=>I.ok.inj x y c (a _ _ L) (a _ _ Q)) (λx c e=>c8 (cll x c e)),λx hx=>?_,λx c h e=>?_,λ_=>I.ok.hd hc,I.ok.frames,.inl rfl,λb f=>?_,I.bs,
   aC I.ok.bsz I.sz,λb o e f=>?_,λb f hb'=>?_,I.stack,I.stkFree⟩,rfl,I.bare,Un.kept g,⟨_,U,λi x v L Q h3=>?_⟩,λx c e=>?_,fresh,λx c e=>?_,λp hp=>?_,I.hok.kept g,hl⟩
 ·have hx':=hx;have:(x,NameKind.cell)∈scope.names\/(x,NameKind.free)∈scope.names:=by
   rcases hx' with h|h
   ·obtain⟨k',m,e|⟨e,_⟩⟩:=jB h
    ·exact .inl (e▸m)
    ·exact .inr (e▸m)
   ·obtain⟨k',m,e|⟨e,_⟩⟩:=jB h
    ·exact .inr (e▸m)
    ·exact .inr (e▸m)
  rcases this with h|h
  ·exact Xs _ _ _ h
  ·exact Wr _ _ _ (w _ h rfl)
 ·have hm:=b_ (eq_of_beq h);exact dN (Qa _ _ _ _ (aq _) (.inl hm) e)
 ·refine⟨aD (D b f),λx c e=>?_⟩;rcases any x c e with z|z
  ·exact λq=>absurd (D b f) (by rw[←q];exact Nat.not_lt.mpr (dN z))
  ·exact(r b f).2.2.2.2.1 x c z
 ·rcases(r b f).2.2.2.1 with h|h
  ·exact I.ok.noex b o e h
  ·exact absurd (aL (av e) (aC I.ok.bsz h)) (bo _)
 ·have q:=r b f;rcases au.mp (C b hb')with z|z
  ·exact q.2.1 z
  ·exact q.2.2.1 z
 ·obtain⟨j,e1,e2,e3,e4,e5⟩:=hσ i x v L Q;obtain⟨m,hn,F⟩:=I.loc;obtain⟨u,ru,lk⟩:=F j x v e1 e2 e3;have only:∀k,(x,k)∈scope.names->k=.free:=λk g=>by
   have:=S.can _ g;rw[e4]at this;exact(aF this).symm
  refine⟨u,ru,.inr ⟨?_,?_⟩⟩
  ·rcases h3 with h|h|h
   ·obtain⟨k',m',e|⟨_,e⟩⟩:=jB h
    ·have:=only _ m';rw[←e]at this;cases this
    ·cases e
   ·exact .inl h
   ·exact .inr h
  ·rcases lk with ⟨J,_⟩|⟨_,c,O,l⟩
   ·rcases e5 with z|z<;>(rw[z]at J;cases J)
   ·obtain⟨c',B⟩:=w _ (b_ e4) rfl;have:=a x c' B;rw[O]at this;cases this;obtain⟨o,G,P⟩:=l;refine⟨c,?_,o,g _ _ G,P⟩;show (cellsFrom _ _ cl).lookup x=_;rw[Q9 _ _ _ λk g=>by rw[only k g];decide]
    exact B
 ·have e:(cellsFrom _ _ cl).lookup x=some c:=e;rw[←h0s]at e;rw[eh];refine Ub _ _ _ e λd z=>?_;obtain⟨v,o,G,P⟩:=I.cell x d (a _ _ z);exact⟨v,o,Z _ _ G,P⟩
 ·rcases any x c e with z|z
  ·exact I.hok.fresh (dN z)
  ·exact I.freeC x c z
 ·have hp':=by
   have:=hp;rwa[br]at this
  obtain⟨e,n,ne,nf,dc⟩:=I.pin p hp';refine⟨g _ _ e,n,aD (av e),λf=>?_,dc⟩;rcases au.mp (C _ f)with z|z
  ·exact ne z
  ·exact nf z
end
def Ks {M:Model}{A:Around}{E:Value->Shared->Prop}{s:Shared}{scope:Scope}{globals:Addr}{a:List (Str×Addr)}{qual:Str}{outer:Env}{Q:Env->Shared->Prop}
  (d:Q {scope,locals:=s.1.1.size,globals,cells:=cellsFrom (s.1.1.size+1) scope.names a,qual:=qual,func:=none,code:=outer.code,frame:=outer.frame,builtins:=outer.builtins} {s with heap:=pushCells (s.heap.push {cls:=.type "dict",data:=.dict #[]}) scope.names}):
  wpAny M A (newFunctionEnv scope globals a [] qual none .none (some outer)) Q E s:=by
 refine a8 (wpAny_alloc ?_);refine a8 (wpAny_layCells _ (λname kind cells=>by cases c:kind==NameKind.cell<;>simp[c]) _ _ _ _ ?_)
 refine a8 (ac (ac ?_));rw[show ({s with heap:=s.heap.push _}:Shared).1.1.size=s.1.1.size+1 from bT ..];exact d
abbrev Qc (X:Cx)(scope:Scope)(N':List Str)(P:Cx->Prop):Prop:=∀cl C s3 H3 fp pins,P (CL X scope N' cl C s3 H3 fp pins)
section
variable {X:Cx}
def Qd {tg iter elt:Expr}{ifs:List Expr}{scope:Scope}{pos pos':Pos}{N':List Str}{k:Nat}{js:List Nat}{wi:TI}{g:TG}{tt:TT}{te:TE}{use:Option (Value->Sem Unit)}(S:Aj X scope)(CP:G5 X scope N' k js)(hc:X.calm=true)
  (hi:PI X tg iter wi) (hg:Qc X scope N' λU=>PG U tg g) (ht:Qc X scope N' λU=>PIf U ifs tt) (he:Qc X scope N' λU=>PE U elt te) {a:List (Addr×Obj)} {G:Sg} {H:Hp} {s:Shared} {Q:Value->Shared->Prop} {F:Addr->Hp->Prop} (I:L2.Inv X a G H s)
  (h:wi G H λJ H1=>∀D,H1 D=none->∃W,(∃m,W 0 m [] (Jy k js G) (kj H1 D (.lst [])))/\wI J D g tt te (λ_ H'=>F D H') W)
  (hQ:∀D C H' s',L2.Inv X a G H' s'->F D H'->H' C=none->(X.s₀.1.1.size<=C)->C≠X.env.locals->(∀x c,X.env.cells.lookup x=some c->c≠C)->(∀p∈X.pn++a,p.1≠C)->(∃m,s'.heap.Ns C m)->compPost 07 X.A X.xe use Q (.ref D) C (.ok .next) s')
  (hs:∀x,foldedSetIterable iter X.env x=pure x:=by intro _;rfl):
  wpAny 07 X.A (comprehension (.ListComp elt [⟨tg,iter,ifs,0⟩] scope pos) scope X.env pos' (newList []) false (eval iter X.env) use) Q X.xe s:=by
 obtain⟨cl,ecl,hcl,hcf⟩:=qt (scope:=scope) (env:=X.env) λx hx hf=>I.ok.has x.1 (S.fre x hx hf);refine wpAny_comprehension_free rfl hs ecl S.kind (λx hx hl=>by rw[S.can x hx,hl]) ?_
 refine mN (hi a s G H _ I h) λv s1 h1=>mN h1 λitv l r=>?_;obtain⟨it,fp,tn,J,H2,e,I2,O,nT,f2,q2⟩:=r;subst e;refine aO ?_;have hD:=I2.hok.fresh (aq _);have N:L2.Inv X a G (kj H2 l.1.1.size (.lst [])) {l with heap:=l.heap.push {cls:=.type "list",data:=.seq _} }:=
  I2.laid (t':=l.toks) (λb u e=>aa _ e) (aq _) ⟨aU _,[],_,.nil,ai _ rfl⟩
 obtain⟨W,⟨m0,w0⟩,turn⟩:=q2 l.1.1.size hD;have f3:∀b∈fp,wF X a (kj H2 l.1.1.size (.lst [])) b:=λb f=>by
  obtain⟨o,M,_⟩:=O.obj _ _ nT b f;exact⟨by rw[zg (aD (av M))];exact(f2 b f).1,(f2 b f).2⟩
 have o3:∀b∈fp,∃o,(l.heap.push {cls:=.type "list",data:=.seq ([]:List Value).toArray}).get? b=some o:=λb f=>by
  obtain⟨o,M,_⟩:=O.obj _ _ nT b f;exact⟨o,aa _ M⟩
 have t3:tn 0 (l.heap.push {cls:=.type "list",data:=.seq ([]:List Value).toArray}):=O.keep _ _ _ nT λb f o e=>aa _ e;refine Ks ?_;generalize hD':l.1.1.size=D at*;generalize hH:kj H2 D (.lst [])=H3 at*;generalize hG:({l with heap:=l.heap.push _}:Shared)=s3 at*;have hg3:l.heap.push {cls:=.type "list",data:=.seq ([]:List Value).toArray}=s3.heap:=by rw[←hG]
 rw[hg3]at o3 t3;have k4:∀b o,s3.heap.get? b=some o->(pushCells (s3.heap.push {cls:=.type "dict",data:=.dict #[]}) scope.names).get? b=some o:=λb o e=>pushCells_keeps _ _ b o (aa _ e);have IC:=Yc (N':=N') (cl:=cl) (fp:=fp) (σ':=Jy k js G) (tk:=s3.toks) N S hc hcl hcf f3 o3 (bT ..) (λb o e=>aa _ e) rfl ((Heap.Ns.new _ _).keeps (pushCells_keeps _ _)) k4 (by unfold Jy;simp[CP.len]) (λi x v h1 r=>by
  unfold Jy at r
  by_cases hik:i<k
  ·rw[b6 (by simpa using hik),b7,if_pos hik]at r
   cases r
  ·have hk':=by omega
   rw[aW (by simpa using hk'),aY,aw]at r
   cases ej:js[i-k]? with
   |none=>rw[ej]at r;cases r
   |some j=>
    rw[ej]at r;obtain⟨y,e1,e2,e3,e4,e5⟩:=CP.cap _ j ej;have:k+(i-k)=i:=by omega
    rw[this,h1]at e1;cases e1;refine⟨j,e2,?_,e3,e4,e5⟩;have B:some ((G[j]?).getD _)=some _:=r;cases ez:G[j]? with
    |none=>rw[ez]at B;cases B
    |some z=>rw[ez]at B;exact congrArg _ (aF B))
 generalize d:CL X _ N' cl _ s3 H3 fp _=XD at IC;have TC:Uw XD.prog XD.w XD.K tg J fp it tn:=by rw[←d];exact O
 have t4:=O.keep _ _ _ t3 λb f o e=>k4 b o e;have fC:∀b∈fp,wF XD [] H3 b:=λb f=>by
  obtain⟨q0,q1,q2,q3,q4,Z⟩:=f3 b f;obtain⟨o,M⟩:=o3 b f;rw[←d];refine⟨q0,aD (av M),λhb'=>?_,.inl f,λx c e=>?_,λp hp=>?_⟩
  ·rcases au.mp (N.stkSub b hb')with z|z
   ·exact q1 z
   ·exact q2 z
  ·rcases UZ _ _ _ e with ⟨_,z⟩|z
   ·exact λq=>absurd (av M) (by rw[←q];exact Nat.not_lt.mpr (dN z))
   ·exact q4 x c (hcl _ _ z)
  ·exact Z p (by
    have:=hp;rwa[br]at this)
 have fin:∀(s5:Shared) (σ5:Sg) (H5:Hp),L2.Inv XD [] σ5 H5 s5->F D H5->compPost _ X.A _ use Q _ _ _ s5:=λs5 σ5 H5 P Z=>by
  subst d;have J5:=N.call' P.os P.base P.hok P.bare λb f=>by
   obtain⟨q0,q1,q2,q3,q4,Z⟩:=f3 b f;exact⟨q3,q1,q4,Z⟩
  refine hQ _ _ H5 s5 J5 Z P.free N.sz (cM N.lt) (λx c e z=>?_) (λp hp z=>?_) (let ⟨m,hm,_⟩:=P.loc;⟨m,hm⟩)
  ·obtain⟨v',o,M,_⟩:=N.cell x c e;exact absurd (av M) (by rw[z];exact bo _)
  ·exact absurd (av (N.pin p hp).1) (by rw[z];exact bo _)
 have hxe:XD.xe=λ_ _=>False:=by rw[←d];rfl
 have L:=uf (iter:=iter) (scope:=scope) (pos:=pos) (λ_ _ z=>by rw[hxe]at z;exact z.elim) (by rw[←d];exact hc) TC (d▸hg cl _ _ _ _ _) (d▸ht cl _ _ _ _ _) (d▸he cl _ _ _ _ _) W turn fin w0 IC t4 fC
 subst d;exact codeAny_compStart_list L (O.self _ _ _ _ _ t4 L)
end
section
variable {X:Cx}{Y:Fx}{tg iter elt:Expr}{ifs:List Expr}{scope:Scope}{pos pos':Pos}{N':List Str}{k:Nat}{js:List Nat}{fi:En->R (List T)}{tG:TG}{g:T->En->R En}{ft:En->R Bool}{fe:En->R T}
def Yd {O L:Hp}{σ:Sg}{ρ:En}{J:It}{ts:List T}{r:R (List T)}{D:Addr}{E0:XK}(hG:o0 tG g)(hN:oY g)(I:SI Y O ρ σ L)(rI':rI O L J ts)(hl:ts.length<=mR)(ev:zq g ft fe ts (Jz k js ρ)=r)(hD:L D=none){F:Hp->Prop}
  (hF:tJ r (λvs=>∀f xs l,zi L f->f D=some (.lst xs)->zr l xs vs->zi l (zy O L f)->l D=none->zi O l->F f) λc=>∀d f,zi L f->zi O f->E0 (Y.cl c) d f):
  ∃W,(∃m,W 0 m [] (Jy k js σ) (kj L D (.lst [])))/\wI J D tG (λσ H Q=>∃Y' ρ',Y'.cl=Y.cl/\zi Y.H0 Y'.H0/\tS Y' rE ft ρ' σ H Q) (λσ H Q=>∃Y' ρ',Y'.cl=Y.cl/\zi Y.H0 Y'.H0/\tS Y' rC fe ρ' σ H Q) (λ_ f=>F f) W:=by
 refine⟨λi m ys σ' f=>m=ts.length-i/\i<=ts.length/\ys.length<=i/\f D=some (.lst ys)/\∃ρ' l us,SI ⟨O,L,E0,Y.cl,[]⟩ l ρ' σ' f/\kU ρ'/\zi O l/\l D=none/\zr l ys us/\((zq g ft fe (ts.drop i) ρ').bind λws=>.ok (us++ws))=r,
  ⟨ts.length,by simp,aU _,aU _,zf,_,O,[],I.block (H3:=L) k js _ hD _,UK k js ρ,zi.refl _,I.sB.free hD,.nil,by rw[eV,ev];cases r<;>rfl⟩,?_⟩
 rintro i m ys σ' f ⟨rfl,hi,hyl,M,ρ',l,us,I',no',C,bD,r',U⟩
 refine⟨M,?_⟩;obtain⟨hgo,hyld,hstop⟩:=rI' l f C I'.sB;have tD:∀N,zi f N->zy l f N D=none:=λN s=>by rw[zI M];exact bD
 by_cases G:i<ts.length
 ·refine .inr ⟨hgo i G,λx N y=>?_⟩;obtain⟨s2,r2⟩:=hyld i _ x N (ah G) y;rw[cy G]at U;unfold zq at U;have I2:=I'.grow s2;refine hG _ _ ρ' σ' N x _ _ I2 r2 ?_;cases eg:g _ ρ' with
  |bad=>rw[eg]at U;subst U;exact hF
  |ex c=>exact(hN.2 _ _ _ eg).elim
  |ok ρ1=>
   rw[eg]at U;have P:=hN.1 _ _ _ no' eg;intro σ1 J1;refine⟨⟨O,L,E0,Y.cl,[]⟩,ρ1,rfl,I.sH,_,J1,?_⟩;have p:((ft ρ1).bind (λk=>if k=true then (fe ρ1).bind λv=>(zq g ft fe _ ρ1).bind λvs=>.ok _ else zq g ft fe _ ρ1)).bind (λws=>.ok _)=r:=U
   cases ef:ft ρ1 with
   |bad=>rw[ef]at p;subst p;exact hF
   |ex c=>
    rw[ef]at p;subst p;exact λd f a b=>hF d f a ((C.trans (zy.ge I'.sB s2)).trans b)
   |ok kk=>
    rw[ef]at p;intro b H3 s3 eb;have eb':=eb;subst eb';have ew2:=p;have J2:=J1.grow s3;have Z:=s3 _ _ (s2 _ _ M);have bD3:zy (zy l f N) N H3 D=none:=by rw[zI (s2 _ _ M)];exact tD N s2
    have S:=(zy.ge I'.sB s2).trans (zy.ge I2.sB s3);cases b with
    |false=>exact⟨ts.length-(i+1),by omega,rfl,G,by omega,Z,ρ1,_,us,J2,P,C.trans S,bD3,r'.mono S,ew2⟩
    |true=>
     refine⟨⟨O,L,E0,Y.cl,[]⟩,ρ1,rfl,I.sH,_,J2,?_⟩;have B:=ew2;cases ee:fe ρ1 with
     |bad=>rw[ee]at B;subst B;exact hF
     |ex c=>
      rw[ee]at B;subst B;exact λd f a b=>hF d f a ((C.trans S).trans b)
     |ok v=>
      rw[ee]at B;have ew4:=B;have ew5:(zq g ft fe (ts.drop (i+1)) ρ1).bind (λws=>.ok ((us++[v])++ws))=r:=by
       rw[←ew4];cases zq g ft fe _ ρ1 with
       |ok ws=>show R.ok _=R.ok _;rw[bN];rfl
       |_=>rfl
      intro w H4 s4 rw4;have hD4:=s4 _ _ Z;have J3:=J2.grow s4;have bD4:zy (zy (zy l f N) N H3) H3 H4 D=none:=by rw[zI Z];exact bD3
      have sB4:=S.trans (zy.ge J2.sB s4);refine⟨hD4,aL (b9 hyl G) (ZD hl),ts.length-(i+1),by omega,rfl,G,by rw[aB,aM];omega,zf,ρ1,_,us++[v],?_,P,C.trans sB4,bD4,(r'.mono sB4).append (.cons rw4 .nil),ew5⟩
      exact J3.acc bD4 hD (λj ts' e=>((P j _ e).1 ts' rfl).elim) (λj x e=>(P j x e).2) _
 ·have e:i=ts.length:=by omega
  subst e;refine .inl ⟨hstop _ (aq _),?_⟩;rw[dS]at U;have ew':R.ok _=r:=U;rw[br]at ew';subst ew';refine hF f ys l I'.sH M r' (λb o h=>?_) bD C;cases q:L b with
  |none=>rw[zJ q];exact I'.sB b o h
  |some u=>
   rw[zI q];have z:l b=O b:=I'.old b u q;rw[←z];exact h
structure Uc (X:Cx) (Y:Fx) (tg iter elt:Expr) (ifs:List Expr) (scope:Scope) (N':List Str) (k:Nat) (js:List Nat) (fi:En->R (List T)) (tG:TG) (g:T->En->R En) (ft:En->R Bool) (fe:En->R T):Prop where
 sc:Aj X scope
 cp:G5 X scope N' k js
 cm:X.calm=true
 it:Wh X Y tg iter fi
 gt:Qc X scope N' λXC=>PG XC tg tG
 gk:o0 tG g
 gn:oY g
 tt:∀Y',Y'.cl=Y.cl->zi Y.H0 Y'.H0->Qc X scope N' λXC=>Jw XC Y' ifs ft
 el:∀Y',Y'.cl=Y.cl->zi Y.H0 Y'.H0->Qc X scope N' λXC=>Snd XC Y' elt fe
 hs:∀x,foldedSetIterable iter X.env x=pure x
def Kt (C:Uc X Y tg iter elt ifs scope N' k js fi tG g ft fe):Snd X Y (.ListComp elt [⟨tg,iter,ifs,0⟩] scope pos) (zE fi g ft fe k js):=.mk λρ=>by
 intro i s f H Q I ⟨B,J,q⟩;refine Qd (F:=λD u=>Q (.ref D) u) (te:=λf H Q=>∃a ρ',a.cl=Y.cl/\zi _ _/\tS a rC fe ρ' f H Q) (tt:=λf H Q=>∃a ρ',a.cl=Y.cl/\zi _ _/\tS a rE ft ρ' f H Q) C.sc C.cp C.cm (C.it ρ) C.gt
  (λcl p L H3 fp i j s f H Q I ⟨a,ρ',w,y,q⟩=>C.tt a w y cl p L H3 fp _ ρ' _ s f H Q I q) (λcl p L H3 fp i j s f H Q I ⟨a,ρ',w,y,q⟩=>C.el a w y cl p L H3 fp _ ρ' _ s f H Q I q) I ?_ ?_ C.hs
 ·refine step J q λts S O _ s1 r1 J1 d=>?_;intro D M;unfold zo at d;split at d
  ·rename_i hl;cases v:zq g ft fe ts _ with
   |bad=>rw[v]at d;exact d.elim
   |ex c=>rw[v]at d;exact d.elim
   |ok vs=>
    rw[v]at d;refine Yd (E0:=λ_ _ _=>False) C.gk C.gn J1 r1 hl v M λu xs B' N e' r' l' b' sb'=>?_;refine(show Po Y rC _ O _ Q from d) _ u N ?_;exact .lst (by rw[zJ M];exact e') (r'.mono l')
  ·exact d.elim
 ·intro D Cc u N Z q' hC U hL l r x;obtain⟨m,P⟩:=x;refine⟨m,P,λh' G=>⟨.ref D,u,?_,rfl,q'⟩⟩;exact Z.turned (λb o hb e=>G.extBut b o hb e) hC (aT hL).symm (.inr U) l r
end
noncomputable def AI (scope a:Scope):Bool:=(scope.kind==.function)&&scope.names.all (λx=>scope.names.lookup x.1==some x.2)&&
 scope.names.all (λx=>x.2 !=.free||a.names.lookup x.1==some .cell||a.names.lookup x.1==some .free)
def Fa {X:Cx}{scope:Scope}(a:Scope)(i:X.env.scope=a)(h:AI scope a=true):Aj X scope:=by
 unfold AI at h;simp only[am,aR]at h;obtain⟨⟨g,d⟩,e⟩:=h;refine⟨eq_of_beq g,λx c=>eq_of_beq (d x c),λx c f=>?_⟩;have:=e x c;rw[f]at this;show X.env.scope.names.lookup x.1=_\/X.env.scope.names.lookup x.1=_;rw[i];simpa using this
def Ku {X:Cx}{Y:Fx}{j iter f:Expr}{e:List Expr}{scope:Scope}{k:Nat}{js:List Nat}{l:En->R (List T)}{i:TG}{g:T->En->R En}{ft:En->R Bool}{fe:En->R T}(N':List Str)(N:List Str)(a:Scope)(r:X.N=N)(o:X.env.scope=a)
  (h:(AI scope a&&Xi N N' scope a k js)=true) (p:X.calm=true) (it:Wh X Y j iter l) (y:Qc X scope N' λd=>PG d j i) (q:o0 i g) (u:oY g) (tt:∀c,c.cl=Y.cl->zi Y.H0 c.H0->Qc X scope N' λd=>Jw d c e ft)
  (v:∀c,c.cl=Y.cl->zi Y.H0 c.H0->Qc X scope N' λd=>Snd d c f fe) (w:∀x,foldedSetIterable iter X.env x=pure x:=by intro _;rfl):Uc X Y j iter f e scope N' k js l i g ft fe:=by
 rw[am]at h;exact⟨Fa a o h.1,Wl N a r o h.2,p,it,y,q,u,tt,v,w⟩
end PV
namespace PV
open PySem PySem.Spec PyProof.Rows L2
structure Fn (K:aj) (mg:Str->Option Value) (x:Str) (st:Stmt) (ps:List Str) (f:Addr) (fd:FuncData):Prop where
 F:Fun K x x st f fd
 b:L2.Binds K fd ps []
 m:mg x=some (.ref f)
noncomputable abbrev FE (K:aj)(mg:Str->Option Value)(x:Str)(st:Stmt)(ps:List Str):Prop:=∃f fd,Fn K mg x st ps f fd
structure Zz where
 P:Program
 w:World
 K:aj
 mg:Str->Option Value
 base:Heap
 cl:Nat->Value
structure QQ (x:Str) (CX:n5) (k:Nat) (sp:Sp) (Z:Zz):Prop where
 ex:∃st ps f fd,Fn Z.K Z.mg x st ps f fd/\wQ Z.P Z.w Z.K Z.mg Z.base CX k f fd ps sp
abbrev qP (Z:Zz)(x:Str)(n k:Nat)(c:List T->R T):Prop:=QQ x nh k (spP Z.cl n c) Z
def oP (m:Nat)(b:En->RS):List T->R T:=λts=>zn (b (mO m ts))
section
variable {P:Program}{w:World}{K:aj}{mg:Str->Option Value}{base:Heap}{cl:Nat->Value}{x:Str}{CX:n5}{k c:Nat}{sp:Sp}{G:Prop}{as:List Str}
def QQ.go (O:QQ x CX k sp ⟨P,w,K,mg,base,cl⟩)(h:∀st d f a,Fn K mg x st d f a->wQ P w K mg base CX k f a d sp->G):G:=by
 obtain⟨⟨st,d,f,a,C,F⟩⟩:=O;exact h st d f a C F
end
section
variable {Z:Zz}{x y:Str}{st:Stmt}{ps:List Str}{c k n m j:Nat}{fb:En->RS}{fm:En->R (T×En)}
abbrev Sc (N ps:List Str)(st:Stmt):Prop:=JQ N ps (zj st)
def mZ (C:FE Z.K Z.mg x st ps)(N:List Str) (d:∀(f:Addr) (cdv:Value) (A:Around) (outer:List Env) (s:Shared) (H:Hp) (E:XK) (Y:Fx),Y.cl=Z.cl->True->jH k (A.deeper (envOfC x (zj st) s.1.1.size f cdv))->N.Nodup->True->
   WS (Js nh Z.P Z.w Z.K Z.mg Z.base N x (zj st) f cdv A outer s H E).nox Y (Zf st) fb)
  (S:Sc N ps st:=by refine⟨rfl,rfl,rfl,?_,rfl,?_,?_⟩<;>decide+kernel) (hn:n=ps.length:=by rfl) (a:m=N.length:=by rfl):qP Z x n (k+1) (oP m fb):=by
 obtain⟨f,e,C⟩:=C;subst a;exact⟨_,_,f,e,C,Et C.F S hn (λcdv A outer s H E Y hy hr=>d f cdv A outer s H E Y hy trivial hr S.nd trivial) λ_ _=>rfl⟩
variable {as:List Str}
def nF (C:FE Z.K Z.mg x st ps)(hn:n=ps.length:=by rfl):qP Z x n k (λ_=>.bad):=by
 obtain⟨f,a,C⟩:=C;exact⟨_,_,f,a,C,λvs H Q E h=>by rw[←hn];exact spP.len vs H Q E h,λA outer s H args d vs Q E _ _ _ _ ⟨B,ts,_,_,_,q⟩=>q.elim⟩
end
section
variable {Z:Zz}{x:Str}{st:Stmt}{ps:List Str}{k n m:Nat}{fb:En->RS}{f:Addr}{fd:FuncData}
def BQ (C:Fn Z.K Z.mg x st ps f fd)(N:List Str) (c:∀(cdv:Value) (A:Around) (outer:List Env) (s:Shared) (H:Hp) (E:XK) (Y:Fx),Y.cl=Z.cl->True->jH k (A.deeper (envOfC x (zj st) s.1.1.size f cdv))->N.Nodup->True->
   WS (Js nh Z.P Z.w Z.K Z.mg Z.base N x (zj st) f cdv A outer s H E).nox Y (Zf st) fb)
  (S:Sc N ps st:=by refine⟨rfl,rfl,rfl,?_,rfl,?_,?_⟩<;>decide+kernel) (hn:n=ps.length:=by rfl) (a:m=N.length:=by rfl):wQ Z.P Z.w Z.K Z.mg Z.base nh (k+1) f fd ps (spP Z.cl n (oP m fb)):=by
 subst a;exact Et C.F S hn (λcdv A outer s H E Y hy hr=>c cdv A outer s H E Y hy trivial hr S.nd trivial) λ_ _=>rfl
end
section
variable {X:Cx}{Y:Fx}{cl:Nat->Value}{k j n:Nat}{g:List T->R T}{x:Str}{a:Expr}{es:List Expr}{ga:En->R (List T)}{p pos:Pos}
def cZ (hy:Y.cl=cl)(O:QQ x nh j (spP cl n g) ⟨X.prog,X.w,X.K,X.mg,X.base,cl⟩)(hr:jH k X.A)(c:UB X Y (a::es) ga)(e:j<=k:=by omega)(d:Gl X x:=by rfl)(hd:(x==("__debug__":Str))=false:=by decide)
  (f:starEach (a::es) X.env=(false,eval a X.env)::starEach es X.env:=by exact zz rfl) (hz:((backTo pos (starEach es X.env)).any λx=>x.fst)=false:=by exact zY rfl):Snd X Y (.Call (.Name x p) (a::es) [] pos) (zb n g ga):=
 O.go λ_ _ _ _ C F=>K0 hy F hr e d C.m C.F.kp C.b c hd f hz
end
noncomputable def oy (N:List Str)(js:List Nat):List Str:=js.map λj=>N.getD j ""
noncomputable def rP:List Str->Bool
 |[]=>true
 |x::r=> !(r.contains x)&&rP r
theorem ut:∀{l:List Str},rP l=true->l.Nodup
 |[],_=>.nil
 |x::r,h=>by
  rw[rP,am]at h;exact cn.mpr ⟨by simpa using h.1,ut h.2⟩
def AM (N N':List Str)(a scope:Scope)(k:Nat)(js:List Nat):Bool:=(G6 scope a&&Xi N N' scope a k js)&&rP N'
section
variable {cl:Nat->Value}{X:Cx}{Y:Fx}{x y:Str}{p p' p2:Pos}{kk:Nat}{iter elt:Expr}{ifs:List Expr}{scope:Scope}{js:List Nat}{fi:En->R (List T)}{ft:En->R Bool}{fe:En->R T}
def BI (hy:Y.cl=cl)(h:AM X.N (x::oy X.N js) X.env.scope scope 1 js=true)(c:((relabel scope X.env).names.lookup x==some .local)=true)(e:X.calm=true)(it:Wh X Y (.Name x p) iter fi)(tt:∀a,a.cl=cl->qx X scope (x::oy X.N js) λd=>Jw d a ifs ft)
  (g:∀a,a.cl=cl->Xg X scope (x::oy X.N js) a.E λd=>Snd d a elt fe) (f:∀x,foldedSetIterable iter X.env x=pure x:=by intro _;rfl):Jk X Y (.Name x p) iter elt ifs scope (x::oy X.N js) 1 js fi (Zh 0) (zB 0) ft fe:=by
 subst hy;rw[AM,am]at h;have c:(relabel scope X.env).names.lookup x=some .local:=eq_of_beq c;exact Xj _ _ _ rfl rfl h.1 e it (λ_ _ _ _ _ _=>Z4 (ut h.2) rfl (.inl c) (.inr c)) (UJ 0) (UL 0) tt g f
def DN (hy:Y.cl=cl)(h:AM X.N (x::y::oy X.N js) X.env.scope scope 2 js=true)(d:((relabel scope X.env).names.lookup x==some .local&&(relabel scope X.env).names.lookup y==some .local)=true)(f:X.calm=true)(it:Wh X Y (.Tuple [.Name x p,.Name y p'] kk p2) iter fi)(tt:∀a,a.cl=cl->qx X scope (x::y::oy X.N js) λc=>Jw c a ifs ft)
  (j:∀a,a.cl=cl->Xg X scope (x::y::oy X.N js) a.E λc=>Snd c a elt fe) (i:∀x,foldedSetIterable iter X.env x=pure x:=by intro _;rfl):Jk X Y (.Tuple [.Name x p,.Name y p'] kk p2) iter elt ifs scope (x::y::oy X.N js) 2 js fi (X4 X.K 2 (jV (Zh 0) (jV (Zh 1) G1))) (zS 0 1) ft fe:=by
 subst hy;rw[AM,am]at h;rw[am]at d;have g:(relabel scope X.env).names.lookup x=some .local:=eq_of_beq d.1;have e:(relabel scope X.env).names.lookup y=some .local:=eq_of_beq d.2;exact Xj _ _ _ rfl rfl h.1 f it (λ_ _ _ _ _ _=>WU f (Zb (Z4 (ut h.2) rfl (.inl g) (.inr g)) (Zb (Z4 (ut h.2) rfl (.inl e) (.inr e)) JO))) (VM _ 0 1) (VN 0 1) tt j i
end
end PV
namespace L2
open PySem PySem.Spec PyProof.Rows
end L2
namespace PV
open PySem PySem.Spec PyProof.Rows L2 PySem.W
end PV
namespace PV
open PySem PySem.Spec PyProof.Rows L2
end PV
namespace PV
open PySem PySem.Spec PyProof.Rows L2 PySem.W
section
variable {cl:Nat->Value}{X:Cx}{Y:Fx}{x:Str}{p:Pos}{iter elt:Expr}{ifs:List Expr}{scope:Scope}{js:List Nat}{fi:En->R (List T)}{ft:En->R Bool}{fe:En->R T}
def IR (f:scope.names.lookup x=some .cell)(hy:Y.cl=cl)(h:((AI scope X.env.scope&&Xi X.N (x::oy X.N js) scope X.env.scope 1 js)&&rP (x::oy X.N js))=true)(i:((relabel scope X.env).names.lookup x==some .cell)=true)(d:X.calm=true)(it:Wh X Y (.Name x p) iter fi)(tt:∀a,a.cl=cl->zi Y.H0 a.H0->Qc X scope (x::oy X.N js) λc=>Jw c a ifs ft)
  (j:∀a,a.cl=cl->zi Y.H0 a.H0->Qc X scope (x::oy X.N js) λc=>Snd c a elt fe) (e:∀x,foldedSetIterable iter X.env x=pure x:=by intro _;rfl):Uc X Y (.Name x p) iter elt ifs scope (x::oy X.N js) 1 js fi (Zh 0) (zB 0) ft fe:=by
 subst hy;rw[am]at h;have g:(relabel scope X.env).names.lookup x=some .cell:=eq_of_beq i;exact Ku _ _ _ rfl rfl h.1 d it (λ_ _ _ _ _ _=>Z4 (ut h.2) rfl (.inr g) (.inl (by show (scope.names.lookup x==some .cell)=true;rw[f];rfl))) (UJ 0) (UL 0) tt j e
end
end PV
namespace PV
open PySem PySem.Spec PyProof.Rows L2
end PV
namespace PV
open PySem PySem.Spec PyProof.Rows L2 PySem.W
section
variable {prog:Program}{w:World}{A:Around}{E:Value->Shared->Prop}{s:Shared}
noncomputable def AR (k:Bool):Value->Bool
 |.bool b=>b==k
 |_=>false
def Z6 {k:Bool}{v:Value}(h:AR k v=true):v=.bool k:=by
 cases v<;>simp_all [AR]
noncomputable def iB (b:Bool):Int:=if b then 1 else 0
def JN {b:Bool}{Q:Int->Shared->Prop}(h:Q (hashInt (iB b)) {s with toks:=s.toks+1}):wpAny 08 A (pyHash (.bool b)) Q E s:=by
 have a:s.TypeIs (.bool b) "bool":=rfl;unfold pyHash;have c:[Value.bool b].any Value.onHeap=false:=rfl;refine a8 ?_;rw[cRoomFor,if_neg (by rw[c];exact az)];refine ac ?_
 refine a8 (cb a cB.lookup ?_);show wpAny _ _ (if (some (Value.builtin "int.__hash__")==some Value.none)=true then _ else _) Q E s
 rw[if_neg (by rw[beq_builtin_none];exact az)]
 refine a8 (cb a cB.lookup ?_);show wpAny _ _ (callSpecialIfBoundUnlessNone? (.bool b) "__hash__" _>>=_) Q E s;refine a8 (wpAny_callSpecialIfBoundUnlessNone?_slot a cB
  (aN cB a lX
   (show wpAny _ _ (do ret (←mkInt (rawHash (iB b)))) _ _ s from by cases b<;>refine wpAny_ret_mkInt ?_<;>exact ac h) (lD _)))
def Kv {a b:Bool}{Q:Bool->Shared->Prop}(h:Q (decide (a=b)) s):wpAny 08 A (eqBool (.bool a) (.bool b)) Q E s:=by
 exact PySem.SeqAt.EqAt.bool_bool a b _ _ _ _ (by rw[show (a==b)=decide (a=b) from by cases a<;>cases b<;>rfl];exact h)
end
def Z8 (prog:Program)(w:World):KeyKind prog w Bool where
 is:=AR
 hash:=λb=>hashInt (iB b)
 inj:=λv a b e d=>by have:=(Z6 e).symm.trans (Z6 d);injection this
 byValue:=λk v h=>by rw[Z6 h];rfl
 pyHash:=λc h=>by rw[Z6 c];exact JN h
 eqBool:=λf c h=>by rw[Z6 f,Z6 c];exact Kv h
 «strs»:=λk x t v h=>by simp[AR]at h
section
variable {prog:Program}{w:World}{K:Type}[DecidableEq K]{knd:HeapKind prog w K}{A:Around}{E:Value->Shared->Prop}{s:Shared}
def w4 {d a:Addr}{xs:List (K×Addr×Value)}{k:K}{dflt:Value}{Q:Value->Shared->Prop}(B:knd.room A)(c:knd.is s.heap k a)(D:s.heap.DictOfH knd d xs)
  (f:∀p,atKey xs k=some p->Q p.2 {s with toks:=s.toks+knd.draws k})
  (u:atKey xs k=none->∀h',h'.DictOfH knd d (xs++[(k,a,dflt)])->b8 d s.heap h'->Q dflt {s with heap:=h',toks:=s.toks+knd.draws k})
  (hsz:xs.length<=sizeLine):wpAny 08 A (dictSetDefault d (.ref a) dflt) Q E s:=by
 obtain⟨o,G,ep,i,F,hd,v,q,hn⟩:=D;unfold dictSetDefault
 try with_reducible refine bp ?_
 refine a8 (knd.pyHash B c ?_);refine a8 (wpAny_dictFind_heap (s:={s with toks:=s.toks+knd.draws k}) B c i hd v q hn ?_ ?_)
 ·intro r;have l:k∉xs.map (·.1):=not_mem_keys_of_get r;refine a8 (df (a8 (wpAny_updateDictKeys (hz:=by have e:=size_of_entries v;omega) (s:={s with toks:=s.toks+knd.draws k}) i hd (ac (u (atKey_none_of_get r) _ ⟨_,_,ep+1,cz _ i (Obj.isFreed_of_dict (iV hd _)),
   F.mapDictKeys _,iV hd _,?_,?_,?_⟩ (bH ..))))))
  ·simp[v,entryOfKey]
  ·intro x g;rcases bI.mp g with g|g
   ·exact knd.keeps (q x g) i hd (bH ..)
   ·simp only[ax]at g;subst g;exact knd.keeps c i hd (bH ..)
  ·rw[bm,hV];refine⟨hn,by simp,?_⟩
   intro x g y hy;simp only[ao,bO,ax]at hy;subst hy;exact λe=>l (e▸g)
 ·intro j p C;refine a8 (bP (s:={s with toks:=s.toks+knd.draws k}) i hd ?_);rw[entry_at v j,C];exact a8 (df (ac (f p (atKey_of_get hn C))))
end
end PV
namespace L2
open PySem PySem.Spec PyProof.Rows
def IS {P:Program}{w:World}{k:mV}{u:Value}(r:RelV (kV k) u):(Z3 P w).is k u=true:=by
 cases k with
 |inl i=>cases (show u=.bool i from r);exact beq_self_eq_true i
 |inr x=>obtain⟨t,e⟩:=r;rw[e];exact jy P w x t
section
variable {κ:Type}[DecidableEq κ]
noncomputable def Ws (kvs:List (κ×Addr×V))(k:κ):Option V:=(kvs.find? λa=>decide (a.1=k)).map (·.2.2)
end
section
variable {κ:Type}[DecidableEq κ]
def JB {p:κ×Addr×V}{r:List (κ×Addr×V)}{k:κ}(e:p.1=k):Ws (p::r) k=some p.2.2:=by simp[Ws,bA,e]
end
section
variable {κ:Type}[DecidableEq κ]
def JC {p:κ×Addr×V}{r:List (κ×Addr×V)}{k:κ}(e:¬p.1=k):Ws (p::r) k=Ws r k:=by simp[Ws,bA,e]
end
section
variable {κ:Type}[DecidableEq κ]
def gX.isSome_eq {o:Option V}{u:Option Value}(r:gX o u):o.isSome=u.isSome:=by
 cases o with
 |none=>cases u with
  |none=>rfl
  |some _=>exact(show False from r).elim
 |some _=>cases u with
  |none=>exact(show False from r).elim
  |some _=>rfl
end
theorem uu {P:Program}{w:World}:∀{a:List mV} {c:List Value},Vals (a.map kV) c->ItemsAre (Z3 P w) a c
 |[],_,r=>by rw[bO]at r;cases r;exact .nil
 |k::a,_,r=>by
  rw[ao]at r;cases r with
  |cons h t=>exact .cons (IS h) (uu t)
abbrev KT (H:Hp):List (List mV×Addr×V)->List (List mV×Addr×Value)->Prop:=Paired λp q=>p.1=q.1/\H q.2.1=some (.tup (p.1.map kV))/\RelV p.2.2 q.2.2/\p.2.1=q.2.1
def KT.val {H:Hp}{kvs:List (List mV×Addr×V)}{xs:List (List mV×Addr×Value)}(r:KT H kvs xs)(k:List mV):gX (Ws kvs k) ((atKey xs k).map (·.2)):=by
 induction r with
 |nil=>exact True.intro
 |@cons p q g qs h t f=>
  obtain⟨c,_,d,_⟩:=h
  by_cases e:p.1=k
  ·have a:q.1=k:=c.symm.trans e;have b:atKey (q::qs) k=some q.2:=by simp[atKey,bA,a]
   rw[JB e,b];exact d
  ·have a:¬q.1=k:=λz=>e (c.trans z);have b:atKey (q::qs) k=atKey qs k:=by simp[atKey,bA,a]
   rw[JC e,b];exact f
def KT.keeps {H a:Hp}{kvs:List (List mV×Addr×V)}{xs:List (List mV×Addr×Value)}(r:KT H kvs xs)(d:∀b c,H b=some (.tup c)->a b=some (.tup c)):KT a kvs xs:=
 Paired.mapP r λ_ _ z=>⟨z.1,d _ _ z.2.1,z.2.2⟩
section
variable {P:Program}{w:World}{H:Hp}{h:Heap}{a:Addr}
def FR {u:HO}(ok:HOk P w H h)(e:Rd H a u):zQ P w H h a u:=e.ok ok
end
section
variable {P:Program}{w:World}{H:Hp}{h:Heap}{a:Addr}
def uv {d:List mV}(ok:HOk P w H h)(e:H a=some (.tup (d.map kV))):(tupleKind (Z3 P w)).is h d a:=by
 obtain⟨_,c,r,⟨o,i,f,n,g⟩,_⟩:=(show zQ P w H h a (.tup (d.map kV)) from ok a _ e);exact⟨o,c.toArray,n,i,f,g,by simpa using uu r⟩
end
section
variable {P:Program}{w:World}{H:Hp}{h:Heap}{a:Addr}
def EX {kvs:List (List mV×Addr×V)}(ok:HOk P w H h)(e:Rd H a (.dT kvs)):kvs.length<=sizeLine/\(a==sysModules)=false/\
  ∃xs,KT H kvs xs/\h.DictOfH (tupleKind (Z3 P w)) a xs:=by
 obtain⟨z,y,xs,r,o,j,ep,k,g,i,u,f⟩:=(show zQ P w H h a (.dT kvs) from FR ok e);refine⟨z,y,xs,r,o,j,ep,k,g,i,u,λx c=>?_,f⟩;have all:∀{l:List (List mV×Addr×V)} {m:List (List mV×Addr×Value)},KT H l m->∀x∈m,(tupleKind (Z3 P w)).is h x.1 x.2.1:=by
  intro l m q
  induction q with
  |nil=>intro x c;exact nomatch c
  |@cons p q B qs d t v=>
   intro x c;rcases au.mp c with e|c
   ·subst e;exact uv ok (by rw[←d.1];exact d.2.1)
   ·exact v x c
 exact all r x c
end
section
variable {P:Program}{w:World}{H:Hp}{h:Heap}{a:Addr}
def uw {kvs:List (List mV×Addr×V)}(ok:HOk P w H h)(e:H a=some (.dT kvs)):kvs.length<=sizeLine/\(a==sysModules)=false/\
  ∃xs,KT H kvs xs/\h.DictOfH (tupleKind (Z3 P w)) a xs:=EX ok (.inl e)
end
section
variable {X:Cx}{pins:List (Addr×Obj)}{σ:St}{H:Hp}{s:Shared}{a:Addr}{y v:V}{u r:Value}{o:Option V}{A:Around}{E:Value->Shared->Prop}
def Inv.bigM (I:Inv X pins σ H s):sysModules<s.1.1.size:=by
 have h:mainGlobals<s.1.1.size:=(I.mod.glob.keeps I.bk).lt;exact dX 01 h
end
section
variable {X:Cx}{pins:List (Addr×Obj)}{σ:St}{H:Hp}{s:Shared}{a:Addr}{y v:V}{u r:Value}{o:Option V}{A:Around}{E:Value->Shared->Prop}
def Qe {h':Heap}{t':Nat}{ob:HO}(I:Inv X pins σ H s)(f:si (H a))(g:b8 a s.heap h')(d:∃q,h'.get? a=some q)(new:zQ X.prog X.w (kj H a ob) h' a ob):
  Inv X pins σ (kj H a ob) {s with heap:=h',toks:=t'}:=
 I.write (x:=a) (e:=a) f (.inl rfl) (λb q c z=>(g.2 b c).trans z) d new
end
def xn {P:Program}{w:World}{H:Hp}(h:Heap)(a:sysModules<h.objs.size):zQ P w H (h.push {cls:=.type "dict",data:=.dict #[]}) h.objs.size (.dT []):=
 ⟨aU _,beq_eq_false_iff_ne.mpr (aT (aD a)),[],.nil,_,#[],0,ai _ rfl,⟨rfl,rfl,rfl⟩,rfl,rfl,List.nodup_nil⟩
def ux:TE:=λ_ H Q=>∀p,H p=none->Q (.ref p) (kj H p (.dT []))
section
variable {X:Cx}{pos:Pos}
def Wt:PE X (.Dict [] [] pos) ux:=λc s d H Q I h=>
 wpAny_Dict_empty ⟨.ref s.1.1.size,_,I.laid (a:=s.1.1.size) (o:=.dT []) (t':=s.toks) (λ_ _ q=>aa _ q) (aq _) (xn s.heap I.bigM),rfl,h _ (I.hok.fresh (aq _))⟩
end
end L2
namespace PV
open PySem PySem.Spec PyProof.Rows L2 PySem.W
def Ie:V->List V->Hp->VK->Prop:=λx vs H Q=>∃d kvs k b v0,x=.ref d/\vs=[.ref b,v0]/\H d=some (.dT kvs)/\H b=some (.tup (k.map kV))/\kvs.length<sizeLine/\(match Ws kvs k with
 |some v=>Q v H
 |none=>Q v0 (kj H d (.dT (kvs++[(k,b,v0)]))))
def Kw {X:Cx}(U:X.A.units+64<cLine):pT X "dict.setdefault" Ie:=by
 intro B s σ H x vs v us Q I O rs h;obtain⟨d,kvs,k,b,v0,rfl,rfl,hd,C,hz,h⟩:=h;cases O;cases rs with
 |@cons _ u1 _ G M rs=>
  cases rs with
  |@cons _ f _ S o rs=>
   cases rs;cases M;obtain⟨z,y,xs,e,dd⟩:=uw I.hok hd;refine aN F.slot_dict_setdefault dd.typeIs F.entry_dict_setdefault ?_ (F.args_dict_setdefault_3 _ _ _);unfold Builtin.«dict.setdefault»;refine a8 ?_;unfold Builtin.Dict.keyAndDefault;refine a8 (wpAny_notOrdered_dict dd.typeIs ?_);show wpAny _ _ (pure (d,Value.ref b,some f)) _ _ s;refine ac ?_;show wpAny _ _ (if (d==sysModules)=true then _ else (dictSetDefault d (.ref b) f>>=_)) _ _ s
   rw[if_neg (by rw[y];exact az)]
   have i:xs.length<=sizeLine:=by rw[←db e];exact z
   have a:=e.val k;refine a8 (w4 (tupleKind_room_in1 00) (uv I.hok C) dd (λp hp=>?_) (λhn h' j l=>?_) i)
   ·rw[hp]at a;revert h;cases g:Ws kvs k with
    |none=>rw[g]at a;exact(show False from a).elim
    |some w=>
     rw[g]at a;exact λh=>ac ⟨p.2,rfl,w,H,I.tok _,a,h⟩
   ·rw[hn]at a;revert h;cases g:Ws kvs k with
    |some w=>rw[g]at a;exact(show False from a).elim
    |none=>
     intro h;obtain⟨q,J,ep,r,L,N,P,_,D⟩:=j;refine ac ⟨f,rfl,v0,_,Qe (ob:=.dT (kvs++[(k,b,v0)])) I (by rw[hd];exact True.intro) l ⟨q,r⟩ ⟨?_,y,_,KT.keeps (show KT H (kvs++[(k,b,v0)]) (xs++[(k,b,f)]) from Paired.snoc e ⟨rfl,C,o,rfl⟩) λc Z u=>?_,q,J,ep,r,L,N,P,D⟩,o,h⟩
     ·rw[aB,aM];omega
     ·rw[zg (ZL u hd (λz=>nomatch z))];exact u
noncomputable abbrev WE:=List Bool×List T
def jF (k:List Bool)(w:T):List WE->List WE
 |[]=>[(k,[w])]
 |(a,c)::r=>if a=k then (a,c++[w])::r else (a,c)::jF k w r
noncomputable def Z9:List T->Option (List Bool)
 |[]=>some []
 |.bl b::ts=>(Z9 ts).map λl=>b::l
 |_=>none
def w8 (g:T->R T):List T->List WE->R (List WE)
 |[],a=>.ok a
 |w::c,a=>(g w).bind λt=>match t with
  |.tup ts=>(match Z9 ts with
   |some k=>w8 g c (jF k w a)
   |none=>.bad)
  |_=>.bad
def Ed (c gw:List T->R T):List T->R (List WE):=λts=>match ts with
 |[d,e]=>(c [d]).bind λt=>match t with
  |.lst a=>if a.length<=mR then w8 (λw=>gw [e,w]) a []else .bad
  |_=>.bad
 |_=>.bad
abbrev kI (k:List Bool):List mV:=k.map Sum.inl
def y0 {a b:List Bool}(h:kI a=kI b):a=b:=(lq λx y e=>by injection e).mp h
def Ye (k:List Bool):(kI k).map kV=k.map V.bl:=by rw[aK];rfl
def Kb (a B H:Hp)(k:List Bool)(b:Addr):Prop:=H b=some (.tup (k.map V.bl))/\(a b=none\/B b=some (.tup (k.map V.bl)))
inductive Jn (H0 B H:Hp) (n:Nat):List (List mV×Addr×V)->List WE->List Addr->Prop
 |nil:Jn H0 B H n [] [] []
 |cons {k:List Bool} {b l:Addr} {xs:List V} {ws:List T} {kvs:List (List mV×Addr×V)} {es:List WE} {ls:List Addr} (kb:Kb H0 B H k b) (e:H l=some (.lst xs)) (b0:B l=none) (r:zr B xs ws) (hn:ws.length<=n) (no:l∉ls) (t:Jn H0 B H n kvs es ls):Jn H0 B H n ((kI k,b,.ref l)::kvs) ((k,ws)::es) (l::ls)
section
variable {H0 B H H':Hp}{n n':Nat}{kvs:List (List mV×Addr×V)}{es:List WE}{ls:List Addr}
def Kb.mono {k:List Bool}{b:Addr}(h:Kb H0 B H k b)(a:∀b xs,H b=some (.tup xs)->H' b=some (.tup xs)):Kb H0 B H' k b:=⟨a _ _ h.1,h.2⟩
theorem Jn.mono (hn:n<=n')(h:Jn H0 B H n kvs es ls)(s:∀l∈ls,H' l=H l)(c:∀b xs,H b=some (.tup xs)->H' b=some (.tup xs)):Jn H0 B H' n' kvs es ls:=by
 induction h with
 |nil=>exact .nil
 |cons d e b r a no t f=>exact .cons (d.mono c) (by rw[s _ ae];exact e) b r (aC a hn) no (f λl a=>s l (a9 _ a))
def Jn.bnone (h:Jn H0 B H n kvs es ls){l:Addr}(a:l∈ls):B l=none:=by
 induction h with
 |nil=>cases a
 |cons d e b r hn no t c=>
  rcases au.mp a with rfl|z
  ·exact b
  ·exact c z
def Jn.islst (h:Jn H0 B H n kvs es ls){l:Addr}(a:l∈ls):∃xs,H l=some (.lst xs):=by
 induction h with
 |nil=>cases a
 |cons d e b r hn no t c=>
  rcases au.mp a with rfl|z
  ·exact⟨_,e⟩
  ·exact c z
def Jn.old {k:List Bool}{v u:V}{w:T}(o:Rep B u w)(h:Jn H0 B H n kvs es ls)(c:Ws kvs (kI k)=some v):
  ∃l xs,v=.ref l/\l∈ls/\H l=some (.lst xs)/\xs.length<=n/\∀H',H' l=some (.lst (xs++[u]))->(∀m∈ls,m≠l->H' m=H m)->(∀b xs,H b=some (.tup xs)->H' b=some (.tup xs))->Jn H0 B H' (n+1) kvs (jF k w es) ls:=by
 induction h with
 |nil=>cases c
 |@cons G L l xs M kvs es ls p e b r J no t F=>
  by_cases i:G=k
  ·subst i;rw[JB rfl]at c;cases c;refine⟨l,xs,rfl,ae,e,by rw[r.length];exact J,λH' g d a=>?_⟩
   rw[jF,if_pos rfl];exact .cons (p.mono a) g b (r.append (.cons o .nil)) (by rw[aB,aM];omega) no (t.mono (cD _) (λm f=>d m (a9 _ f) λz=>no (z▸f)) a)
  ·rw[JC λz=>i (y0 z)]at c;obtain⟨C,j,y,q,D,I,x⟩:=F c;refine⟨C,j,y,a9 _ q,D,I,λH' g d a=>?_⟩;rw[jF,if_neg i];exact .cons (p.mono a) (by rw[d l ae λz=>no (z▸q)];exact e) b r 00 no (x H' g (λm f=>d m (a9 _ f)) a)
def Jn.new {k:List Bool}{u:V}{w:T}(i:Rep B u w){l0 p:Addr}(x:B l0=none)(h:Jn H0 B H n kvs es ls)(q:l0∉ls)(a:Ws kvs (kI k)=none):
  ∀H',Kb H0 B H' k p->H' l0=some (.lst [u])->(∀m∈ls,H' m=H m)->(∀b xs,H b=some (.tup xs)->H' b=some (.tup xs))->Jn H0 B H' (n+1) (kvs++[(kI k,p,.ref l0)]) (jF k w es) (ls++[l0]):=by
 induction h with
 |nil=>exact λH' g c _ _=>.cons g c x (.cons i .nil) (by show 1<=n+1;omega) (by simp) .nil
 |@cons C D l xs G kvs es ls g e b r F no t y=>
  intro H' f c o j
  by_cases d:C=k
  ·subst d;rw[JB rfl]at a;cases a
  ·rw[JC λz=>d (y0 z)]at a;rw[jF,if_neg d];refine .cons (g.mono j) (by rw[o l ae];exact e) b r 00 ?_ (y (λz=>q (a9 _ z)) a H' f c (λm v=>o m (a9 _ v)) j)
   intro z;rcases bI.mp z with z|z
   ·exact no z
   ·exact q (by rw[←ax.mp z];exact ae)
end
theorem Wu:∀{B:Hp} {vs:List V} {ts:List T} {k:List Bool},zr B vs ts->Z9 ts=some k->vs=k.map V.bl
 |_,_,_,_,.nil,h=>by cases h;rfl
 |_,_,_,_,.cons r d,h=>by
  cases r with
  |bl b=>
   unfold Z9 at h;obtain⟨l,c,a⟩:=Option.map_eq_some_iff.mp h;subst a;rw[ao,Wu d c]
  |_=>cases h
def Dt (B H:Hp)(r:R (List WE))(Q:VK):Prop:=match r with
 |.ok f=>∀d kvs e a c n,zi H a->zi B c->zi c (zy B H a)->H d=none->c d=none->a d=some (.dT kvs)->Jn H c a n kvs f e->d∉e->(∀l∈e,H l=none)->Q (.ref d) a
 |_=>False
def rX (g:List T->R (List WE)):Sp:=λvs H Q _=>∃B ts,ts.length=2/\zi B H/\zr B vs ts/\Dt B H (g ts) Q
structure WJ (H Bc:Hp) (d:Addr) (g:T->R T) (ws:List T) (esF:List WE) (H':Hp) (i:Nat) (es:List WE) (kvs:List (List mV×Addr×V)) (ls:List Addr):Prop where
 sB:zi Bc H'
 sH:zi H H'
 hd:H' d=some (.dT kvs)
 en:Jn H Bc H' i kvs es ls
 dn:d∉ls
 hn:∀l∈ls,H l=none
 hk:kvs.length<=i
 hF:w8 g (ws.drop i) es=.ok esF
def C7 {Z:Zz}{x:Str}{st:Stmt}{k ka kw:Nat}{C g wy f an wn:Str}{ga gw:List T->R T}{q1 q2 q3 q4 q5 q6 q7 q8 q9 X N U O q14 q15 q16 q17 q18 q19 q20 q21 q22:Pos}(F:FE Z.K Z.mg x st [C,g])(A0:QQ an nh ka (spP Z.cl 1 ga) Z)(W0:QQ wn nh kw (spP Z.cl 2 gw) Z)(S:Sc [C,g,wy,f] [C,g] st)
  (hst:Zf st=[.Assign [.Name wy q1] (.Dict [] [] q2) q3,
   .For (.Name f q4) (.Call (.Name an q5) [.Name C q6] [] q7) [.Expr (.Call (.Attribute (.Call (.Attribute (.Name wy q8) "setdefault" q9) [.Call (.Name wn X) [.Name g N,.Name f U] [] O,.List [] q14] [] q15) "append" q16) [.Name f q17] [] q18) q19] [] q20,
   .Return (some (.Name wy q21)) q22])
  (hkd:(zj st).names.lookup C=some .local) (hru:(zj st).names.lookup g=some .local) (hwy:(zj st).names.lookup wy=some .local) (hwo:(zj st).names.lookup f=some .local) (han:(zj st).names.lookup an=some .globalImplicit) (hwn:(zj st).names.lookup wn=some .globalImplicit) (z1:(q9.endLine==q15.line)=true) (z2:(q16.endLine==q18.line)=true) (ha:ka<=k:=by omega) (hw:kw<=k:=by omega)
  (d1:(C==("__debug__":Str))=false:=by decide) (d2:(C==("__classdict__":Str))=false:=by decide) (d3:(g==("__debug__":Str))=false:=by decide) (d4:(g==("__classdict__":Str))=false:=by decide) (d5:(wy==("__debug__":Str))=false:=by decide) (d6:(wy==("__classdict__":Str))=false:=by decide) (d7:(f==("__debug__":Str))=false:=by decide) (d8:(f==("__classdict__":Str))=false:=by decide) (d9:(an==("__debug__":Str))=false:=by decide) (d10:(wn==("__debug__":Str))=false:=by decide):QQ x nh (k+1) (rX (Ed ga gw)) Z:=by
 obtain⟨ft,fdt,F⟩:=F;obtain⟨⟨_,pa,fa,fda,CA,FA⟩⟩:=A0;obtain⟨⟨_,pw,fw,fdw,CW,FW⟩⟩:=W0;refine⟨_,_,ft,fdt,F,F.F.ok S (λvs H Q E ⟨B,ts,hl,_,r,_⟩=>by rw[r.length,hl];rfl) λcdv A outer s H vs Q E hr ⟨B,ts,hl,sB,r,q⟩=>?_⟩
 rw[hst];have gA:Gl (Js nh Z.P Z.w Z.K Z.mg Z.base [C,g,wy,f] x (zj st) ft cdv A outer s H E).nox an:=han;have gW:Gl (Js nh Z.P Z.w Z.K Z.mg Z.base [C,g,wy,f] x (zj st) ft cdv A outer s H E).nox wn:=hwn;have v0:∀{p},PE (Js nh Z.P Z.w Z.K Z.mg Z.base [C,g,wy,f] x (zj st) ft cdv A outer s H E).nox (.Name C p) (Za 0):=ZS rfl (.inl hkd) d1 d2;have v1:∀{p},PE (Js nh Z.P Z.w Z.K Z.mg Z.base [C,g,wy,f] x (zj st) ft cdv A outer s H E).nox (.Name g p) (Za 1):=ZS rfl (.inl hru) d3 d4;have v2:∀{p},PE (Js nh Z.P Z.w Z.K Z.mg Z.base [C,g,wy,f] x (zj st) ft cdv A outer s H E).nox (.Name wy p) (Za 2):=ZS rfl (.inl hwy) d5 d6;have v3:∀{p},PE (Js nh Z.P Z.w Z.K Z.mg Z.base [C,g,wy,f] x (zj st) ft cdv A outer s H E).nox (.Name f p) (Za 3):=ZS rfl (.inl hwo) d7 d8;have e1:(((((backTo q18 (starEach [.Name f q17] (Js nh Z.P Z.w Z.K Z.mg Z.base [C,g,wy,f] x (zj st) ft cdv A outer s H E).nox.env)).all λx=> !x.fst)&&(backToKw q18 (keywordEach [] (Js nh Z.P Z.w Z.K Z.mg Z.base [C,g,wy,f] x (zj st) ft cdv A outer s H E).nox.env)).all λx=>x.fst.isSome)&&decide (([Expr.Name f q17].length+([]:List Keyword).length+if ([]:List Keyword).isEmpty=true then 0 else 1)<30))=true):=by rw[ng rfl];rfl
 have s2:starEach [.Call (.Name wn X) [.Name g N,.Name f U] [] O,.List [] q14] (Js nh Z.P Z.w Z.K Z.mg Z.base [C,g,wy,f] x (zj st) ft cdv A outer s H E).nox.env=[(false,eval (.Call (.Name wn X) [.Name g N,.Name f U] [] O) _),(false,eval (.List [] q14) _)]:=nT rfl rfl;have e2:(((((backTo q15 (starEach [.Call (.Name wn X) [.Name g N,.Name f U] [] O,.List [] q14] (Js nh Z.P Z.w Z.K Z.mg Z.base [C,g,wy,f] x (zj st) ft cdv A outer s H E).nox.env)).all λx=> !x.fst)&&(backToKw q15 (keywordEach [] (Js nh Z.P Z.w Z.K Z.mg Z.base [C,g,wy,f] x (zj st) ft cdv A outer s H E).nox.env)).all λx=>x.fst.isSome)&&decide (([Expr.Call (.Name wn X) [.Name g N,.Name f U] [] O,.List [] q14].length+([]:List Keyword).length+if ([]:List Keyword).isEmpty=true then 0 else 1)<30))=true):=by rw[s2];rfl
 have body:=ZN (jz (pos:=q19) (U2 (cpos:=q18) (apos:=q16) cG dh di ja
   (U2 (cpos:=q15) (apos:=q9) eM PySem.F.slot_dict_setdefault PySem.F.type_dict_setdefault (Kw hr.units) (v2 (p:=q8))
    (zh (j9 (pos:=O) (p:=X) FW (hr.mono hw) gW CW.m CW.F.kp CW.b .nil (uh (E:=λ_ _ _=>False)) (zh (v1 (p:=N)) (zh (v3 (p:=U)) zt (ng rfl)) (zz rfl)) d10 (zz rfl) (zY rfl)) (zh (WX zt) zt (ng rfl)) (zz rfl)) rfl e2 z1 (zz rfl) (zY rfl))
   (zh (v3 (p:=q17)) zt (ng rfl)) rfl e1 z2 (ng rfl) rfl) rfl)
 refine⟨_,zX (JP S.nd (i:=2) rfl (.inl hwy) Wt rfl (.inr hwy))
  (zX (YO dJ rfl (UG (j9 (pos:=q7) (p:=q5) FA (hr.mono ha) gA CA.m CA.F.kp CA.b .nil (uh (E:=λ_ _ _=>False)) (zh (v0 (p:=q6)) zt (ng rfl)) d9 (zz rfl) (zY rfl))) (Z4 S.nd (i:=3) rfl (.inl hwo) (.inr hwo)) body)
  (ZN (Jh v2))),?_⟩
 cases r with
 |nil=>cases hl
 |@cons va tk vs1 ts1 r1 rr=>
  cases rr with
  |nil=>cases hl
  |@cons vb tr vs2 ts2 r2 rr=>
   cases rr with
   |cons _ _=>exact absurd hl (by simp)
   |nil=>
    have q:Dt B H ((ga [tk]).bind λt=>match t with|.lst j=>(if j.length<=mR then w8 (λw=>gw [tr,w]) j []else .bad)|_=>.bad) Q:=q
    cases ega:ga [tk]with
    |bad=>rw[ega]at q;exact q.elim
    |ex c=>rw[ega]at q;exact q.elim
    |ok t=>
     rw[ega]at q;intro d hd;have sd:=zi.new hd (HO.dT []);refine⟨va,rfl,B,[tk],rfl,sB.trans sd,.cons r1 .nil,?_⟩;rw[ega];intro v Hc sc rv;cases rv with
     |@lst l xs j hxl rxs=>
      have q:Dt B H (if j.length<=mR then w8 (λw=>gw [tr,w]) j []else .bad) Q:=q
      split at q
      case isFalse=>exact q.elim
      rename_i hbn;have sBc:zi (zy B (kj H d (HO.dT [])) Hc) Hc:=zy.le (sB.trans sd) sc;have bB:zi B (zy B (kj H d (HO.dT [])) Hc):=zy.ge (sB.trans sd) sc;have bd:zy B (kj H d (HO.dT [])) Hc d=none:=by
       rw[zI zf];exact sB.free hd
      have bG:∀L,zi (zy B (kj H d (HO.dT [])) Hc) L->zi (zy B (kj H d (HO.dT [])) Hc) (zy B H L):=λL s' b o h=>by
       cases hb:H b with
       |none=>rw[zJ hb];exact s' _ _ h
       |some u=>
        rw[zI hb];rw[zI (sd _ _ hb)]at h;exact h
      generalize zy B (kj H d (HO.dT [])) Hc=Bc at hxl rxs sBc bB bd bG;cases eF:w8 (λw=>gw [tr,w]) j []with
      |bad=>rw[eF]at q;exact q.elim
      |ex c=>rw[eF]at q;exact q.elim
      |ok esF=>
       rw[eF]at q;refine⟨l,rfl,.inl ⟨⟨xs,SqL.of (sBc _ _ hxl)⟩,?_⟩⟩;refine⟨λi m σ' L=>m=j.length-i/\i<=j.length/\σ'[1]?=some (some vb)/\σ'[2]?=some (some (V.ref d))/\σ'.length=4/\∃es kvs ls,WJ H Bc d (λw=>gw [tr,w]) j esF L i es kvs ls,
        ⟨j.length,by simp,aU _,rfl,rfl,rfl,[],[],[],⟨sBc,sd.trans sc,sc _ _ zf,.nil,by simp,by simp,aq _,eF⟩⟩,?_⟩
       rintro i m σ' L ⟨rfl,hi,c1,c2,c4,es,kvs,ls,I,sH',J,en,dn,hn,hkl,D⟩
       have hl':L l=some (.lst xs):=I _ _ hxl
       by_cases hlt:i<j.length
       ·have hgw:j[i]?=some j[i]:=ah hlt;obtain⟨M,hx0,rx0⟩:=rxs.get hgw;refine .inr ⟨⟨xs,M,SqL.of hl',hx0⟩,λσ2 H2=>σ2=σ'.set 3 (some M)/\∃es kvs ls,WJ H Bc d (λw=>gw [tr,w]) j esF H2 (i+1) es kvs ls,
         λσ2 H2 z=>⟨j.length-(i+1),by omega,rfl,hlt,by rw[z.1,ak 01];exact c1,by rw[z.1,ak 01];exact c2,by rw[z.1,aZ];exact c4,z.2⟩,λy L hy=>?_⟩
        obtain⟨rfl,hy⟩:=hy;have hy:=hy _ (SqL.of hl');rw[hx0]at hy;cases hy;rw[cy hlt]at D;unfold w8 at D;have g1:(σ'.set 3 (some M))[1]?=some (some vb):=by rw[ak 01];exact c1
        have g2:(σ'.set 3 (some M))[2]?=some (some (V.ref d)):=by rw[ak 01];exact c2
        have g3:(σ'.set 3 (some M))[3]?=some (some M):=aI 00
        refine⟨.ref d,g2,.inr (.inr (.inl ⟨rfl,.inr ⟨kvs,J⟩⟩)),vb,g1,M,g3,Bc,[tr,j[i]],rfl,I,.cons (r2.mono bB) (.cons rx0 .nil),?_⟩;cases egw:gw [tr,j[i]]with
        |bad=>rw[egw]at D;cases D
        |ex c=>rw[egw]at D;cases D
        |ok tw=>
         rw[egw]at D;intro v2 H2 s2 rv2;cases rv2 with
         |@tup b vs' ts' hb rb=>
          have D:(match Z9 ts' with|some k=>w8 (λw=>gw [tr,w]) (j.drop (i+1)) (jF k j[i] es)|none=>.bad)=.ok esF:=D
          cases ek:Z9 ts' with
          |none=>rw[ek]at D;cases D
          |some kk=>
           rw[ek]at D;have hvs:=Wu rb ek;have hb2:H2 b=some (.tup vs'):=zy.le I s2 _ _ hb;refine⟨aU _,λp hp=>?_⟩;have kp:∀c o,H2 c=some o->kj H2 p (HO.lst []) c=some o:=λc o a=>by rw[zg (λz=>by rw[z,hp]at a;cases a)];exact a
           refine⟨d,kvs,kI kk,b,.ref p,rfl,rfl,kp _ _ (s2 _ _ J),by rw[Ye,←hvs];exact kp _ _ hb2,UF 00,?_⟩
           have rx:Rep Bc M j[i]:=rx0;have kb2:H b=none\/Bc b=some (.tup (kk.map V.bl)):=by
            rw[←hvs];cases q:L b with
            |none=>exact .inl (sH'.free q)
            |some u=>rw[zI q]at hb;exact .inr hb
           cases hv:Ws kvs (kI kk)with
           |some v=>
            obtain⟨l1,xs1,rfl,m1,h1,n1,fin⟩:=en.old rx hv;have h2:=kp _ _ (s2 _ _ h1);have keep:∀c o,L c=some o->c≠l1->kj (kj H2 p (HO.lst [])) l1 (HO.lst (xs1++[M])) c=some o:=λc o a hne=>by rw[zg hne];exact kp _ _ (s2 _ _ a)
            have bl1:Bc l1=none:=en.bnone m1;refine⟨.inl ⟨rfl,xs1,SqL.of h2⟩,M,g3,l1,xs1,M,rfl,rfl,h2,UF 00,rfl,_,kvs,ls,⟨(λc o a=>keep c o (I _ _ a) λz=>by rw[z,bl1]at a;cases a),(λc o a=>keep c o (sH' _ _ a) λz=>by rw[z,hn l1 m1]at a;cases a),keep _ _ J λz=>dn (z▸m1),fin _ zf (λc a hne=>?_) (λc ys a=>keep c _ a λz=>by rw[z,h1]at a;cases a),dn,hn,by omega,D⟩⟩
            obtain⟨xc,G⟩:=en.islst a;rw[G];exact keep _ _ G hne
           |none=>
            have pd:p≠d:=λz=>by rw[z,s2 _ _ J]at hp;cases hp
            have pH':L p=none:=s2.free hp;have pl:p∉ls:=λz=>by obtain⟨xc,G⟩:=en.islst z;rw[pH']at G;cases G
            have h2:kj (kj H2 p (HO.lst [])) d (HO.dT (kvs++[(kI kk,b,V.ref p)])) p=some (.lst []):=by rw[zg pd,zf]
            have keep:∀c o,L c=some o->c≠d->kj (kj (kj H2 p (HO.lst [])) d (HO.dT (kvs++[(kI kk,b,V.ref p)]))) p (HO.lst ([]++[M])) c=some o:=λc o a hne=>by
             rw[zg (λz=>by rw[z,pH']at a;cases a),zg hne];exact kp _ _ (s2 _ _ a)
            refine⟨.inl ⟨rfl,[],SqL.of h2⟩,M,g3,p,[],M,rfl,rfl,h2,by show 0<sizeLine;exact b9 (aU _) (UF (show 0<mR by decide)),rfl,_,_,_,⟨(λc o a=>keep c o (I _ _ a) λz=>by rw[z,bd]at a;cases a),(λc o a=>keep c o (sH' _ _ a) λz=>by rw[z,hd]at a;cases a),by rw[zg (aT pd),zf],en.new rx (I.free pH') pl hv _ ⟨?_,kb2⟩ zf (λc a=>?_) (λc ys a=>keep c _ a λz=>by rw[z,J]at a;cases a),λz=>?_,λc a=>?_,by rw[aB,aM];omega,D⟩⟩
            ·have bt:H2 b=some (.tup (kk.map V.bl)):=by rw[←hvs];exact hb2
             rw[zg (λz=>by rw[z,hp]at bt;cases bt),zg (λz=>by rw[z,s2 _ _ J]at bt;cases bt)];exact kp _ _ bt
            ·obtain⟨xc,G⟩:=en.islst a;rw[G];exact keep _ _ G λz=>dn (z▸a)
            ·rcases bI.mp z with z|z
             ·exact dn z
             ·exact pd (ax.mp z).symm
            ·rcases bI.mp a with z|z
             ·exact hn c z
             ·rw[ax.mp z];exact sH'.free pH'
         |_=>cases D
       ·have e:i=j.length:=by omega
        subst e;rw[dS]at D;cases D;exact .inl ⟨⟨xs,SqL.of hl',by rw[rxs.length];exact aq _⟩,.ref d,c2,q d kvs ls L Bc _ sH' bB (bG L I) hd bd J en dn hn⟩
     |_=>exact q.elim
section
variable {prog:Program}{w:World}{A:Around}{E:Value->Shared->Prop}{s:Shared}{it d:Addr}{i ep:Nat}{es:Array DictEntry}{od:Obj}{ok ov:Value}{Q:Option Value->Shared->Prop}
def xo (c:IsItemIter s.heap it d i es.size ep ok ov)(U:s.heap.get? d=some od)(hd:od.data=.dict es ep)(hx:i<es.size)
  (hQ:∀h',IsItemIterOut h' it d (i+1) es.size ep es[i].key es[i].val s.1.1.size->h'.get? s.1.1.size=some {cls:=.type "tuple",data:=.seq #[es[i].key,es[i].val]}->
   (∀b o,b≠it->s.heap.get? b=some o->h'.get? b=some o)->Q (some (.ref s.1.1.size)) {s with heap:=h'}):wpAny 08 A (pyNext (.ref it)) Q E s:=by
 obtain⟨hp,g,r,tk,os⟩:=s;have k:fx ⟨hp,g,r,tk,os⟩ (.ref it) "dict_itemiterator":=⟨_,c,rfl⟩;unfold pyNext;refine a8 (ci (aX (name:=aE "__next__") k bL (aN bL k fj ?_ (f8 _))));refine a8 (ac (a8 (a8 ?_)))
 first|refine a8 (wpAny_typeNameOfWhole_itemiter k (ac ?_))|refine a8 (wpAny_typeNameOf_itemiter k (ac ?_))
 refine a8 (dQ c rfl ?_);have G:bq "dict_itemiterator"=true:=by decide
 simp only[G,if_true];show wpAny _ _ (if (Value.ref d==Value.none)=true then _ else _) _ _ _
 rw[if_neg (show ¬((Value.ref d==Value.none)=true) from az)];refine a8 (ac (a8 (bP U hd ?_)));rw[if_neg (by simp)]
 refine a8 (ac (a8 (cu U hd ?_)));rw[if_neg (by simp)]
 refine ac ?_;simp only[show ¬((i:Int)<0) from by omega,if_false,a_,bZ hx]
 refine a8 ?_
 first|refine a8 (wpAny_typeNameOfWhole_itemiter k (ac ?_))|refine a8 (wpAny_typeNameOf_itemiter k (ac ?_))
 refine a8 (wpAny_isOneOf_itemiter k ?_);show wpAny _ _ (setField (.ref it) 3 (rawInt ((i:Int)+1))>>=_) _ _ ⟨hp,g,r,tk,os⟩;refine a8 (bi c (by simp) λl u p=>?_)
 have p:b8 it hp l:=p;have u:IsItemIter l it d (i+1) es.size ep ok ov:=by
  unfold IsItemIter;rw[show ((i+1:Nat):Int)=(i:Int)+1 by omega];simpa[rawInt]using u
 have q:fx ⟨l,g,r,tk,os⟩ (.ref it) "dict_itemiterator":=⟨_,u,rfl⟩;refine a8 (bp (a8 (wpAny_isOneOf_itemiter q (a8 (wpAny_isOneOf_itemiter q ?_)))));show wpAny _ _ (e_ (.ref it) 6 es[i].key es[i].val) _ _ ⟨l,g,r,tk,os⟩;unfold e_;refine a8 (wpAny_newTuple ?_);obtain⟨j,a⟩:∃j,j=l.push {cls:=.type "tuple",data:=.seq #[es[i].key,es[i].val]}:=⟨_,rfl⟩;have v:IsItemIter j it d (i+1) es.size ep ok ov:=by rw[a];exact aa _ u
 have C:hp.objs.size≠it:=cM (av c);have t2:j.get? hp.objs.size=some {cls:=.type "tuple",data:=.seq #[es[i].key,es[i].val]}:=by rw[a,←p.1];exact ai _ rfl
 have Z:∀b o,b≠it->hp.get? b=some o->j.get? b=some o:=λb o f e=>by rw[a];exact aa _ (p.extBut b o f e)
 show wpAny _ _ (eG (.ref it)>>=_) _ _ ⟨_,g,r,tk,os⟩;rw[←a,p.1]
 clear a
 refine a8 ?_;unfold eG;refine a8 (bh v rfl (x:=.none) rfl (ac ?_));simp only[if_true];refine a8 (bh v rfl (x:=ok) rfl (a8 (bh v rfl (x:=ov) rfl ?_)));refine a8 (bi v (by simp) λL N P=>?_)
 have P:b8 it j L:=P;have N:IsItemIter L it d (i+1) es.size ep es[i].key ov:=N;refine a8 (bi N (by simp) λO F J=>?_)
 have J:b8 it L O:=J;have F:IsItemIter O it d (i+1) es.size ep es[i].key es[i].val:=F;refine a8 (bi F (by simp) λy M I=>?_)
 have I:b8 it O y:=I;have M:IsItemIterOut y it d (i+1) es.size ep es[i].key es[i].val hp.objs.size:=M;refine a8 (bi M (by simp) λB X D=>?_)
 have D:b8 it y B:=D;have S:∀b o,b≠it->j.get? b=some o->B.get? b=some o:=λb o f e=>D.extBut b o f (I.extBut b o f (J.extBut b o f (P.extBut b o f e)));exact a8 (dO (ac (ac ⟨_,rfl,ac (hQ B X (S _ _ C t2) λb o f e=>S b o f (Z b o f e))⟩)))
def Qf (k:A.handled=none)(c:IsItemIter s.heap it d i es.size ep ok ov)(g:s.heap.get? d=some od)(hd:od.data=.dict es ep)(l:es.size<=i)(j:∀h',eL it s.heap h'->Q none {s with heap:=h'}):wpAny 08 A (pyNext (.ref it)) Q E s:=by
 have e:s.TypeIs (.ref it) "dict_itemiterator":=⟨_,c,rfl⟩;unfold pyNext;refine a8 (ci (aX (name:=aE "__next__") e bL (aN bL e fj ?_ (f8 _))));refine a8 (ac (a8 (a8 ?_)))
 first|refine a8 (wpAny_typeNameOfWhole_itemiter e (ac ?_))|refine a8 (wpAny_typeNameOf_itemiter e (ac ?_))
 refine a8 (dQ c rfl ?_);have f:bq "dict_itemiterator"=true:=by decide
 simp only[f,if_true];show wpAny _ _ (if (Value.ref d==Value.none)=true then _ else _) _ _ _
 rw[if_neg (show ¬((Value.ref d==Value.none)=true) from az)];refine a8 (ac (a8 (bP g hd ?_)));rw[if_neg (by simp)]
 refine a8 (ac (a8 (cu g hd ?_)));rw[if_neg (by simp)]
 refine ac ?_;simp only[show ¬((i:Int)<0) from by omega,if_false,a_,bW l]
 refine a8 ?_
 first|refine a8 (wpAny_typeNameOfWhole_itemiter e (ac ?_))|refine a8 (wpAny_typeNameOf_itemiter e (ac ?_))
 show wpAny _ _ (setField (.ref it) 2 .none>>=_) _ _ s;refine a8 (dw c rfl (by simp) ?_)
 show wpAny _ _ (newExc (.type "StopIteration") []>>=_) _ _ _;refine a8 ?_;simp only[newExc,newTuple];refine a8 (aO ?_ (by size_fits))
 refine a8 (m:=firstArgMember _ _) (c9 (a:=Value.none) (by first|rfl|(simp only[firstArgMember];rfl)) ?_)
 refine aO ?_ (by size_fits)
 simp only[raiseNew];refine a8 (wpAny_handled ?_);rw[show A.in1.handled=none from k];refine a8 (ac (wpAny_throw ?_));refine a8 (cC (T:="StopIteration") (b:=true) ⟨_,ai _ rfl,rfl⟩ isSubtype_stop ?_);exact ac (j _ (((bH ..).extBut.push _).push _))
end
end PV
namespace L2
open PySem PySem.Spec PyProof.Rows PySem.W
section
variable {X:Cx}{pins:List (Addr×Obj)}{σ:St}{H:Hp}{s:Shared}
def Inv.freeze (I:Inv X pins σ H s){d:Addr}{o:Obj}{kvs:List (List mV×Addr×V)}(hd:H d=some (.dT kvs))(p:s.heap.get? d=some o):Inv X pins σ (kj H d (.frz o (.dT kvs))) s:=by
 have j:∀b xs,H b=some (.tup xs)->kj H d (.frz o (.dT kvs)) b=some (.tup xs):=λb xs e=>by rw[zg (ZL e hd (λz=>nomatch z))];exact e
 have i:∀b f u,H b=some (.frz f u)->kj H d (.frz o (.dT kvs)) b=some (.frz f u):=λb f u e=>by rw[zg (ZL e hd (λz=>nomatch z))];exact e
 have k:∀a b,H b=some (.own a)->kj H d (.frz o (.dT kvs)) b=some (.own a):=λa b e=>by rw[zg (ZL e hd (λz=>nomatch z))];exact e
 have g:HOk X.prog X.w (kj H d (.frz o (.dT kvs))) s.heap:=λb u e=>by
  by_cases l:b=d
  ·subst l;rw[zf]at e;cases e;exact⟨p,(I.hok _ _ hd).stay (λ_ _ _ q=>q) (λc q=>k _ c q) j i⟩
  ·rw[zg l]at e;exact(I.hok b u e).stay (λ_ _ _ q=>q) (λc q=>k _ c q) j i
 exact I.step (ch:=[]) (λ_ z=>nomatch z) (λb o _ _ _ e _=>e) (λb o _ _ _ e _=>⟨o.slots,e⟩) (λb f _ e n=>by rw[zg (λz=>by rw[z,hd]at n;cases n)];exact n) (λb o _ e=>⟨o,e⟩) j i (λb r q e=>by rw[zg (ZL e hd (λz=>nomatch z))];exact e) (λm h=>h) g I.bare
end
end L2
namespace PV
open PySem PySem.Spec PyProof.Rows L2 PySem.W
def AF (d:Addr)(o:Obj):It:=⟨λi H=>∃kvs,H d=some (.frz o (.dT kvs))/\i<kvs.length,λi H x a=>∃kvs k v b T,H d=some (.frz o (.dT kvs))/\kvs[i]?=some (k,b,v)/\H b=some (.tup (k.map kV))/\x=.ref T/\H T=none/\a=kj H T (.tup [.ref b,v]),λi H=>∃kvs,H d=some (.frz o (.dT kvs))/\kvs.length<=i⟩
theorem jO {H:Hp}:∀{kvs:List (List mV×Addr×V)} {xs:List (List mV×Addr×Value)},KT H kvs xs->∀(i:Nat) (p:List mV×Addr×V),kvs[i]?=some p->∃u,xs[i]?=some (p.1,p.2.1,u)/\H p.2.1=some (.tup (p.1.map kV))/\RelV p.2.2 u
 |_,_,.nil,i,p,h=>by simp at h
 |_,_,.cons (b:=q) a t,0,p,h=>by
  cases h;obtain⟨e,d,f,c⟩:=a;refine⟨q.2.2,?_,by rw[c];exact d,f⟩
  rw[e,c];rfl
 |_,_,.cons a t,i+1,p,h=>jO t i p h
def Es {P:Program}{w:World}{H:Hp}{h:Heap}{d:Addr}{o:Obj}{kvs:List (List mV×Addr×V)}{a:Array DictEntry}{ep:Nat}(ok:HOk P w H h)(hd:H d=some (.frz o (.dT kvs)))(F:o.data=.dict a ep):
  h.get? d=some o/\a.size=kvs.length/\∀(i:Nat) (hi:i<a.size),∃k v b u,kvs[i]?=some (k,b,v)/\H b=some (.tup (k.map kV))/\RelV v u/\a[i].key=.ref b/\a[i].val=u:=by
 obtain⟨p,z,y,xs,c,J,x,B,f,I,g,l,G⟩:=ok d _ hd;rw[p]at f;cases f;rw[F]at g;cases g;have j:a.size=xs.length:=by rw[←bF,l,ag]
 refine⟨p,by rw[j,db c],λi hi=>?_⟩
 have e:i<kvs.length:=by rw[db c,←j];exact hi
 obtain⟨u,D,r,C⟩:=jO c i kvs[i] (ah e);refine⟨kvs[i].1,kvs[i].2.2,kvs[i].2.1,u,by rw[ah e],r,C,?_⟩
 have q:a.toList[i]?=some (entryOfKey (tupleKind (Z3 P w)) (kvs[i].1,kvs[i].2.1,u)):=by rw[l,aw,D];rfl
 rw[cS,bZ hi]at q;rw[aF q];exact⟨rfl,rfl⟩
def xp:entryFor table "dict_itemiterator.__iter__"=some Builtin.«dict_keyiterator.__iter__»:=entryFor_alias (id':="dict_keyiterator.__iter__") 06 rfl (by decide+kernel) 06
def Yf {P:Program}{w:World}{K:Frag}{j:List Expr}{U:Nat}{pt:Pos}(it d:Addr)(o:Obj)(C:Array DictEntry)(ep:Nat)(r:o.data=.dict C ep)(hne:d≠it):
  Uw P w K (.Tuple j U pt) (AF d o) [it] it (λi h=>∃ok f,IsItemIter h it d i C.size ep ok f) where
 mem:=by simp
 obj:=λi h ⟨ok,f,st⟩ b B=>by
  rw[ax.mp B];exact⟨_,st,λv z=>nomatch z⟩
 keep:=λi h h' ⟨ok,f,st⟩ k=>⟨ok,f,k it (by simp) _ st⟩
 item:=by
  intro X D x G a i l s σ H E I q ⟨ok,f,st⟩ ⟨kvs,hd,hi⟩;subst D x G;obtain⟨M,hsz,y⟩:=Es I.hok hd r;have p:i<C.size:=by rw[hsz];exact hi
  obtain⟨k,v,b,u,Z,a2,a3,a4,a5⟩:=y i p;have L:H s.1.1.size=none:=I.hok.fresh (aq _);have g:s.1.1.size≠it:=cM (av st);refine xo st M r p λh' x6 t6 k6=>⟨_,rfl,wpAny_letOwnedTupleGo_items x6 λh2 N O=>⟨.ref s.1.1.size,kj H s.1.1.size (.tup [.ref b,v]),?_,rfl,⟨kvs,k,v,b,_,hd,Z,a2,rfl,L,rfl⟩,⟨_,_,N⟩,λc a=>?_⟩⟩
  ·have S:=O.extBut _ _ g t6;refine Inv.laidT (s:=s) (h':=h2) (ch:=[it]) (tk:=s.toks) I q (λc J a e=>O.extBut c J (λz=>a (by simp[z])) (k6 c J (λz=>a (by simp[z])) e)) (λc J a _=>?_) (aq _) ⟨by rw[c7];show 2<=16777216;decide,[.ref b,u],.cons rfl (.cons a3 .nil),⟨_,S,rfl,0,by rw[a4,a5]⟩,.inr ⟨_,S,rfl⟩⟩
   rw[ax.mp a];exact⟨_,N⟩
  ·rw[ax.mp a,zg g.symm];exact(q it (by simp)).1
 done:=by
  intro X D x G a i l s σ H E I q ⟨ok,f,st⟩ ⟨kvs,hd,hi⟩;subst D x G;obtain⟨M,hsz,_⟩:=Es I.hok hd r;refine Qf (I.ok.hd a) st M r (by rw[hsz];exact hi) λh' hk=>⟨rfl,?_⟩
  obtain⟨f0,f1,f2,f3,f4,f5⟩:=q it (by simp)
  exact I.turned (t':=s.toks) (λb o B e=>hk b o B e) f0 f1 f3 f4 f5
 self:=λA i s Q E ⟨ok,f,st⟩ h=>by
  have g:s.TypeIs (.ref it) "dict_itemiterator":=⟨_,st,rfl⟩;refine wpAny_pyIter_slot g fB (aN fB g xp ?_ (F.args_dict_itemiterator_iter_1 _));show wpAny _ _ (ret (.ref it)) _ _ s;exact ac ⟨_,rfl,"dict_itemiterator",_,g,bL.lookup,h⟩
def Yg {prog:Program}{w:World}{A:Around}{E:Value->Shared->Prop}{s:Shared}{v d:Addr}{e:Array DictEntry}{f:Obj}{ep:Nat}{Q:Value->Shared->Prop}(c:s.heap.IsItemsView v d)(g:s.heap.get? d=some f)(hd:f.data=.dict e ep)
  (k:Q (.ref s.1.1.size) {s with heap:=s.heap.push {cls:=.type "dict_itemiterator",data:=.fields #[.none,.bool false,.ref d,.int 0 0,.int e.size 0,.int ep 0,.none,.none]} }):wpAny 08 A (pyIter (.ref v)) Q E s:=by
 obtain⟨o,j,l,i⟩:=id c;refine wpAny_pyIter_slot c.typeIs iE (aN iE c.typeIs F.entry_dict_items_iter ?_ (F.args_dict_items_iter_1 _));unfold Builtin.«dict_items.__iter__»;refine a8 (ac (a8 ?_));unfold f_;refine a8 (bh j i (x:=.ref d) rfl (ac (a8 ?_)));unfold fk;refine a8 (bP g hd (a8 (cu g hd ?_)));have a:bq "dict_itemiterator"=true:=by decide
 simp only[a,if_true];refine aO (ac ⟨_,rfl,"dict_itemiterator",_,⟨_,ai _ rfl,rfl⟩,bL.lookup,?_⟩)
  (by simp only[sizeOk,eH,aJ,aB,aA,cK,c7];omega)
 simpa[rawInt,eH]using k
def xq {X:Cx}{i:Nat}{x:Str}{g C pos pt:Pos}{j:List Expr}{M:Nat}(hv:PE X (.Name x g) (Za i))(r:attributeBase (.Name x g) "items" X.env (eval (.Name x g) X.env)=eval (.Name x g) X.env:=by rfl)(hl:(C.endLine==pos.line)=true:=by rfl):
  PI X (.Tuple j M pt) (.Call (.Attribute (.Name x g) "items" C) [] [] pos) (λk H R=>∃d kvs,k[i]?=some (some (V.ref d))/\H d=some (.dT kvs)/\∀o,R (AF d o) (kj H d (.frz o (.dT kvs)))):=by
 intro J s k H R I ⟨d,kvs,p,hd,P⟩;refine wpAny_Call_method0_late r hl (mN (hv _ s k H (λv U=>v=.ref d/\U=H) I ⟨_,p,rfl,rfl⟩) λv c ⟨x1,O,D,r1,e1,N⟩=>?_);subst e1 N;cases r1;obtain⟨z,hs,xs,Z,o,B,ep,f,y,G,h4⟩:=uw D.hok hd;have l:c.TypeIs (.ref d) "dict":=⟨o,f,y.1⟩;have w:=D.freeze hd f;refine⟨"dict","dict.items",F.plainAttrs_dict,lP,F.type_dict_items,l,λa Q=>by cases Q;exact⟨o,f,y.2.1⟩,eT rfl (i_ ?_)⟩
 refine aN lP l F.entry_dict_items ?_ (F.args_dict_items_1 _);unfold Builtin.«dict.items»;refine a8 ?_;unfold k_;refine a8 (wpAny_notOrdered_dict l ?_);show wpAny _ _ (pure d) _ _ c;refine ac ?_;show wpAny _ _ (cA d>>=_) _ _ c;unfold cA;rw[if_neg (by rw[hs];exact az)]
 refine a8 (ac (a8 (aO (ac ⟨_,rfl,?_⟩))));have L:∀b ob,c.heap.get? b=some ob->(c.heap.push {cls:=.type "dict_items",data:=.fields #[.ref d]}).get? b=some ob:=λb ob e=>aa _ e;have u:(c.heap.push {cls:=.type "dict_items",data:=.fields #[.ref d]}).IsItemsView c.1.1.size d:=⟨_,ai _ rfl,rfl,rfl⟩;refine Yg (s:={c with heap:=c.heap.push {cls:=.type "dict_items",data:=.fields #[.ref d]} }) u (L _ _ f) G ?_;have hz:(c.heap.push {cls:=.type "dict_items",data:=.fields #[.ref d]}).objs.size=c.1.1.size+1:=bT ..;have S:Inv X _ k (kj O d (.frz o (.dT kvs))) {c with heap:=(c.heap.push {cls:=.type "dict_items",data:=.fields #[.ref d]}).push {cls:=.type "dict_itemiterator",data:=.fields #[.none,.bool false,.ref d,.int 0 0,.int B.size 0,.int ep 0,.none,.none]} }:=w.kept λb ob e=>aa _ (L b ob e);have q:=av f;refine⟨_,[_],_,_,_,rfl,S,Yf _ d o B ep G (aD (aL q (by show c.1.1.size<=(c.heap.push _).objs.size;rw[hz];exact cD _))),⟨.none,.none,ai _ rfl⟩,λb r=>?_,P o⟩
 rw[ax.mp r,hz];exact w.fpOk (cD _) (w.hok.fresh (cD _))
end PV
namespace PV
open PySem PySem.Spec PyProof.Rows L2 PySem.W PySem.Calls
section
variable {prog:Program}{w:World}{A:Around}{E:Value->Shared->Prop}{s:Shared}
noncomputable abbrev nB (k:List Bool):List Nat:=k.map Bool.toNat
def Qg {a b:List Bool}(h:nB a=nB b):a=b:=(lq λx y e=>by cases x<;>cases y<;>first|rfl|cases e).mp h
def Ld {x y:List Bool}{a b:Addr}{P:Fin->Shared->Prop}(hx:IsTupleKey (Z8 prog w) s.heap x a)(hy:IsTupleKey (Z8 prog w) s.heap y b)(h:P (.done (.ret (.bool (decide (nB x<nB y))))) s):
  wpAny 08 A (Builtin.«tuple.__lt__» ⟨[.ref a,.ref b],[]⟩) P E s:=by
 have S:=hy.typeIs;obtain⟨oa,xs,na,M,_,Q,N⟩:=hx;obtain⟨ob,l,nb,J,_,G,O⟩:=hy;show wpAny _ _ (isInstance (.ref b) (.type "tuple")>>=_) _ _ s;refine a8 (cC S isSubtype_tuple_tuple ?_);simp only[eC,aH,if_false];refine a8 (wpAny_tupleItemsOf M Q (a8 (wpAny_tupleItemsOf J G (a8 ?_))));refine wpAny_forIn_list _ (λrest r q=>r.1=none/\q=s/\∃o p f e,rest=List.zip f e/\ItemsAre (Z8 prog w) o f/\ItemsAre (Z8 prog w) p e/\decide (nB o<nB p)=decide (nB x<nB y)/\f.length+l.size=e.length+xs.size) _ ?_ ?_ _ _ ⟨rfl,rfl,x,y,xs.toList,l.toList,rfl,N,O,rfl,by simp;omega⟩
 ·rintro⟨u,v⟩ rest r q ⟨hr,rfl,o,p,f,e,hz,i,g,d,c⟩
  cases i with
  |nil=>simp at hz
  |@cons B u' x2 I X D=>
   cases g with
   |nil=>simp at hz
   |@cons k v' Z C U L=>
    simp only[dH,mC,Prod.mk.injEq]at hz;obtain⟨⟨rfl,rfl⟩,rfl⟩:=hz;refine a8 ((Z8 prog w).eqBool (a:=B) (b:=k) X U ?_);obtain rfl:=Z6 X;obtain rfl:=Z6 U
    by_cases F:B=k
    ·subst F;rw[decide_eq_true rfl];simp only[eC,aH,if_false];refine ac ⟨rfl,rfl,x2,Z,I,C,rfl,D,L,?_,by simp at c;omega⟩
     rw[←d];simp[nB]
    ·rw[decide_eq_false F];simp only[Bool.not_false,if_true];refine a8 (df (a8 (PyProof.Rows.lt_bool ?_)));have hf:decide (b2i B<b2i k)=decide (nB x<nB y):=by
      rw[←d];cases B<;>cases k<;>first|exact absurd rfl F|(rw[decide_eq_decide];show _↔_::_<_::_;rw[iP];simp[b2i])
     rw[hf];exact a8 (ac (ac (ac h)))
 ·rintro⟨r1,r2⟩ q ⟨hr,rfl,o,p,f,e,hz,i,g,d,c⟩
  simp only at hr;subst hr;refine ac ?_;have j:decide (xs.size<l.size)=decide (nB x<nB y):=by
   rw[←d];cases i with
   |nil=>
    cases g with
    |nil=>simp at c;simp[nB];omega
    |cons _ _=>simp at c;simp[nB];omega
   |cons _ _=>
    cases g with
    |nil=>simp at c;simp[nB];omega
    |cons _ _=>simp at hz
  show P (.done (.ret (.bool (decide (xs.size<l.size))))) q;rw[j];exact h
def Ls {x y:List Bool}{a b:Addr}{Q:Bool->Shared->Prop}(d:A.units<cLine)(c:IsTupleKey (Z8 prog w) s.heap x a)(hy:IsTupleKey (Z8 prog w) s.heap y b)(h:Q (decide (nB x<nB y)) s):wpAny 08 A (oneLt' false (.ref a) (.ref b)) Q E s:=
 kat_one _ _ (wpAny_richCompare_same_room (op:=.Lt) c.typeIs hy.typeIs iQ (aN iQ c.typeIs PySem.F.entry_tuple_lt (Ld c hy ⟨_,rfl,(λe=>nomatch e),h⟩) (PySem.F.args_tuple_lt_2 _ _)) d)
def Xt (prog:Program)(w:World)(h:Heap)(v:Value)(x:List Bool):Prop:=∃a o b r n,v=.ref a/\h.get? a=some o/\o.cls=.type "tuple"/\o.data=.seq (#[Value.ref b]++r) n/\IsTupleKey (Z8 prog w) h x b
def Xt.keep {h h':Heap}{v:Value}{x:List Bool}(k:∀b o,h.get? b=some o->(o.cls=.type "tuple")->h'.get? b=some o):Xt prog w h v x->Xt prog w h' v x:=λh=>by
 obtain⟨a,o,b,r,n,f,e,d,l,i,it,m,g,c,j⟩:=h;exact⟨a,o,b,r,n,f,k _ _ e d,d,l,i,it,m,k _ _ g c,c,j⟩
theorem Qh {h:Heap}:∀(vs:List Value) (xs:List (List Bool)),vs.length=xs.length->(∀(i:Nat) (v:Value) (x:List Bool),vs[i]?=some v->xs[i]?=some x->Xt prog w h v x)->∃fs:List Value,KatTups h vs fs/\fs.length=vs.length/\∀f∈fs,∃b o,f=Value.ref b/\h.get? b=some o/\o.cls=.type "tuple"
 |[],_,_,_=>⟨[],trivial,rfl,λf c=>by cases c⟩
 |v::vs,[],d,_=>by cases d
 |v::vs,x::xs,d,H=>by
  obtain⟨fs,k,l,q⟩:=Qh vs xs (by simpa using d) λi v x j e=>H (i+1) v x (by simpa using j) (by simpa using e)
  obtain⟨a,o,b,r,n,rfl,g,u,C,y,it,m,p,B,D⟩:=H 0 v x rfl rfl;refine⟨.ref b::fs,⟨⟨a,o,_,n,rfl,g,u,C,by rw[Array.getElem?_append_left (by simp)];rfl⟩,k⟩,by simp[l],λf c=>?_⟩
  rcases au.mp c with rfl|c
  ·exact⟨b,y,rfl,p,B⟩
  ·exact q f c
def HB {vs:List Value}{xs:List (List Bool)}(g:A.units<cLine)(X:vs.length=xs.length)(H:∀(i:Nat) (v:Value) (x:List Bool),vs[i]?=some v->xs[i]?=some x->Xt prog w s.heap v x)(hn:xs.Nodup){i j:Nat}(hi:i<vs.length)(l:j<vs.length)(c:i≠j){C:Bool->Shared->Prop}(N:C (decide (nB (xs.getD i [])<nB (xs.getD j []))) s):
  kas_ask prog w A (tuples' false) vs i j C s:=by
 unfold kas_ask;have u:∀k,k<vs.length->vs[k]?=some (vs.getD k Value.none):=λk h=>by simp[h]
 have q:∀k,k<vs.length->xs[k]?=some (xs.getD k []):=λk h=>by
  have:k<xs.length:=by omega
  simp[this]
 obtain⟨a,o,b,r,n,J,F,Q,O,B⟩:=H i _ _ (u i hi) (q i hi);obtain⟨P,U,p,D,S,G,M,Z,L,y⟩:=H j _ _ (u j l) (q j l);rw[J,G];refine kat_lt F O M L ?_;have I:((#[Value.ref b]++r).toList.zip (#[Value.ref p]++D).toList)=(Value.ref b,Value.ref p)::r.toList.zip D.toList:=by simp
 rw[I];refine kat_cons (wpAny_eqBool_tuple g B y ?_);have d:xs.getD i []≠xs.getD j []:=λz=>by
  have f:i<xs.length:=by omega
  have e:j<xs.length:=by omega
  exact c ((dm hn).mp (by simpa[f,e]using z))
 rw[decide_eq_false d];exact kat_no (Ls g B y N)
def Qi {a:Addr}{vs:List Value}{xs:List (List Bool)}{n:Nat}{P:PySem.Fin->Shared->Prop}(U:A.units<cLine)(I:s.heap.get? a=some (seqObj "list" vs.toArray n))(N:vs.length=xs.length)(H:∀(i:Nat) (v:Value) (x:List Bool),vs[i]?=some v->xs[i]?=some x->Xt prog w s.heap v x)(hn:xs.Nodup)(u:vs.length<64)
  (h:∀p:Array Nat,Pm vs.length p->So (O:=strKind.toKeyOrd) (λi=>nB (xs.getD i [])) p vs.length->P (.done (.ret .none)) {s with heap:=sortedHeap s.heap a vs (p.toList.map λi=>vs.getD i Value.none).toArray}):
  wpAny 08 A (Builtin.«list.sort» ⟨[.ref a],[]⟩) P E s:=by
 rw[list_sort_plain];refine a8 (listItems_at I rfl (a8 (listUpdate_at I rfl ?_)));obtain⟨e1,l⟩:∃e1,(s.heap.update a (cj λ_=>#[])).get? a=some _:=⟨_,get?_update_seq I λ_=>#[]⟩;refine a8 (seqEpoch_at l rfl (a8 (wpAny_newTuple (a8 (wpAny_newList (bp ?_))))));have d:(((s.heap.update a (cj λ_=>#[])).push (seqObj "tuple" vs.toArray 0)).push (seqObj "list" #[] 0)).get? a=some _:=aa _ (aa _ l);have keep:∀b o,s.heap.get? b=some o->o.cls=.type "tuple"->(((s.heap.update a (cj λ_=>#[])).push (seqObj "tuple" vs.toArray 0)).push (seqObj "list" #[] 0)).get? b=some o:=λb o e c=>by
  have hb:b≠a:=λz=>by subst z;rw[I]at e;cases e;have Z:=c;injection Z with c2;exact absurd c2 01
  exact aa _ (aa _ ((fK _ _ _ _ hb).trans e))
 dsimp only;have hsz:vs.toArray.size=vs.length:=by simp
 by_cases q:vs.toArray.size<2
 ·rw[if_pos q,if_pos q];refine a8 (ac ?_);refine a8 (ac ?_);dsimp only;refine a8 (seqEpoch_at d rfl (a8 (listUpdate_at d rfl ?_ (hsz2:=by rw[Array.size_map];show (pairsOf vs).size<=_;rw[pairsOf_size,c7];omega))))
  simp only[bne_self_eq_false,aH,if_false];have hp:=h (aV vs.length).toArray ⟨by simp,by simp⟩ λi j r L=>by omega
  have e:((arrOf (SortSt.mk' general' (vs.toArray.zip vs.toArray) #[] 7 none)).map (·.2))=(((aV vs.length).toArray).toList.map λi=>vs.getD i Value.none).toArray:=by
   show (vs.toArray.zip vs.toArray).map (·.2)=_;have:vs.length=0\/vs.length=1:=by omega
   clear hp d keep l I h H N hsz q u
   rcases this with z|z
   ·rw[bc.mp z];simp
   ·obtain⟨v,z⟩:=iF.mp z;rw[z];simp
  rw[e];exact ac hp
 ·rw[if_neg q,if_neg q];have y:2<=vs.length:=by omega
  obtain⟨fs,kt,fl,X⟩:=Qh vs xs N λi v x f B=>(H i v x f B).keep keep;refine a8 (kat_kind (T:=.type "tuple") kt 00 (λv hv=>?_) 01 ?_)
  ·obtain⟨b,o,rfl,g1,g2⟩:=X v hv;have z:Looks 08 _ (typeOf (.ref b)) o.cls:=(Looks.ld g1).andThen .now;rw[g2]at z;exact z
  refine a8 (cI (kat_run rfl (vs:=vs) (Q:=λg k=>k={s with heap:=((s.heap.update a (cj λ_=>#[])).push (seqObj "tuple" vs.toArray 0)).push (seqObj "list" #[] 0)}/\failedOf g=none/\∃p:Array Nat,Pm vs.length p/\So (O:=strKind.toKeyOrd) (λi=>nB (xs.getD i [])) p vs.length/\(arrOf g).map (·.2)=(p.toList.map λi=>vs.getD i Value.none).toArray)
   (G:=λp k=>k={s with heap:=((s.heap.update a (cj λ_=>#[])).push _).push _}/\Pm vs.length p/\So (O:=strKind.toKeyOrd) (λi=>nB (xs.getD i [])) p vs.length) y u (λp g k z1 z2 z3 M=>⟨M.1,z3,p,M.2.1,M.2.2,kat_snds rfl z2⟩) ?_) ?_ λ_ _ z=>z)
  ·refine Gd.wp (J:=λk=>k={s with heap:=((s.heap.update a (cj λ_=>#[])).push _).push _}) (n:=vs.length) (λi j C k hi L r js hc=>?_) (λp k f js=>⟨js,f.1,f.2⟩) _ _ (Wq (λi j hi L e=>?_) y) rfl
   ·subst js;exact HB U N (λi v x f B=>(H i v x f B).keep keep) hn hi L r (hc _ rfl)
   ·have F:i<xs.length:=by omega
    have D:j<xs.length:=by omega
    exact(dm (i:=i) (j:=j) (h₀:=F) (h₁:=D) hn).mp (by simpa[F,D]using Qg e)
  ·rintro⟨⟨⟩,g⟩ k ⟨rfl,hf,p,f,B,S⟩
   refine a8 (seqEpoch_at d rfl (a8 (listUpdate_at d rfl ?_ (hsz2:=by rw[S,aJ,ag,bF,f.sz,c7];omega))))
   rw[hf];simp only[bne_self_eq_false,aH,if_false];rw[S];exact ac (h p f B)
def Yh {l:Addr}{vs:List Value}{xs:List (List Bool)}{Q:Value->Shared->Prop}(k:A.units+2<cLine)(c:s.heap.IsList l vs.toArray)(j:vs.length=xs.length)(H:∀(i:Nat) (v:Value) (x:List Bool),vs[i]?=some v->xs[i]?=some x->Xt prog w s.heap v x)(hn:xs.Nodup)(f:vs.length<64)
  (h:∀p:Array Nat,Pm vs.length p->So (O:=strKind.toKeyOrd) (λi=>nB (xs.getD i [])) p vs.length->Q (.ref (s.1.1.size+1)) {s with heap:=sortedAll s.heap vs (p.toList.map λi=>vs.getD i Value.none).toArray}):
  wpAny 08 A (call (.builtin "sorted") [.ref l]) Q E s:=by
 refine call_function_entry kind_sorted plain_sorted entry_sorted (args_sorted1 _) ?_;refine a8 (ac (a8 (collect_list c (a8 (wpAny_newList ?_)))));have z:((s.heap.push (seqObj "list" #[] 0)).update s.1.1.size (cj (·++vs.toArray))).objs.size=s.1.1.size+1:=by rw[Heap.size_update,size_push']
 have a:(((s.heap.push _).update _ _).push (seqObj "list" vs.toArray 0)).get? _=some _:=z▸ai _ rfl;rw[z];have kp:∀b o,s.heap.get? b=some o->o.cls=.type "tuple"->(((s.heap.push (seqObj "list" #[] 0)).update _ (cj (·++vs.toArray))).push (seqObj "list" vs.toArray 0)).get? b=some o:=λb o e _=>
  aa _ ((fK _ _ _ _ (aD (av e))).trans (aa _ e))
 refine a8 (bp (aN slot_list_sort ⟨_,a,rfl⟩ entry_list_sort (Qi (by show A.units+1+1<_;omega) a j (λi v x d g=>(H i v x d g).keep kp) hn f λp d g=>⟨_,rfl,ac ⟨_,rfl,h p d g⟩⟩) (args_list_sort _)))
end
end PV
namespace PV
open PySem PySem.Spec PyProof.Rows L2 PySem.W
def kW:T->List Bool
 |.tup (.tup bs::_)=>(Z9 bs).getD []
 |_=>[]
def sW:T->Bool
 |.tup (.tup bs::_)=>(Z9 bs).isSome
 |_=>false
def rW (a b:T):Bool:= !decide (nB (kW b)<nB (kW a))
def wE (ts:List T):List T:=ts.mergeSort rW
def uy:T->R T
 |.lst ts=>if ts.all sW=true/\(ts.map kW).Nodup/\ts.length<64 then .ok (.lst (wE ts))else .bad
 |_=>.bad
def wa (a b:T):rW a b=true↔nB (kW a)<=nB (kW b):=by
 unfold rW;rw[lQ,decide_eq_false_iff_not,List.not_lt]
def ZY (ts:List T):(wE ts).Perm ts:=l5 _ _
def Kx (ts:List T):(wE ts).Pairwise λa b=>rW a b=true:=List.pairwise_mergeSort (λa b c e d=>by
 rw[wa]at*;exact List.le_trans e d) (λa b=>by
 rw[eI,wa,wa];exact List.le_total _ _) ts
def Qj {l ts:List T}(hp:l.Perm ts)(hn:(ts.map kW).Nodup)(o:l.Pairwise λa b=>rW a b=true):l=wE ts:=by
 refine List.Perm.eq_of_pairwise (λa b q p g f=>?_) o (Kx ts) (hp.trans (ZY ts).symm);rw[wa]at g f;have e:=Qg (List.le_antisymm g f);have c:=hp.mem_iff.mp q;have d:=(ZY ts).mem_iff.mp p;obtain⟨i,hi,rfl⟩:=cF.mp c;obtain⟨j,k,rfl⟩:=cF.mp d;have:=(dm (h₀:=by simpa using hi) (h₁:=by simpa using k) hn).mp (by simpa using e)
 subst this;rfl
def D4 {ts:List T}(hn:(ts.map kW).Nodup){q:Array Nat}(a:Pm ts.length q)(l:So (O:=strKind.toKeyOrd) (λi=>nB ((ts.map kW).getD i [])) q ts.length):(q.toList.map λi=>ts.getD i T.non)=wE ts:=by
 refine Qj ?_ hn ?_
 ·have e:(aV ts.length).map (λi=>ts.getD i T.non)=ts:=by
   refine List.ext_getElem (by simp) λi a l=>?_
   simp at a⊢;simp[a]
  exact(a.pm.map _).trans (by rw[e])
 ·rw[List.pairwise_map,dZ];intro i j hi f d;rw[bF,a.sz]at hi f;have r:=l i j d f;have u:=a.lt hi;have v:=a.lt f;have o:∀k (c:k<q.toList.length),q.toList[k]=q.getD k 0:=λk c=>by
   have g:=by simpa using c
   simp[lm,g]
  have p:∀k,k<ts.length->(ts.map kW).getD k []=kW (ts.getD k T.non):=λk c=>by simp[c]
  rw[o,o,wa];have w:decide (nB (kW (ts.getD (q.getD i 0) T.non))<nB (kW (ts.getD (q.getD j 0) T.non)))=true:=by
   rw[←p _ u,←p _ v];exact r
  exact List.le_of_lt (of_decide_eq_true w)
theorem wb {P:Program}{w:World}:∀{k:List Bool} {a:List Value},Vals (k.map V.bl) a->ItemsAre (Z8 P w) k a
 |[],_,r=>by rw[bO]at r;cases r;exact .nil
 |b::k,_,r=>by
  rw[ao]at r;cases r with
  |cons h t=>
   obtain rfl:=(show _=Value.bool b from h);exact .cons (beq_self_eq_true b) (wb t)
section
variable {X:Cx}{Y:Fx}{pins:List (Addr×Obj)}{σ:Sg}{H:Hp}{s:Shared}
def Ia (I:L2.Inv X pins σ H s){v:V}{u:Value}{t:T}(r:Rep H v t)(D:L2.RelV v u)(h:sW t=true):Xt X.prog X.w s.heap u (kW t):=by
 unfold sW at h;split at h
 ·rename_i bs rest;obtain⟨k,p⟩:=hX.mp h;have J:kW (.tup (.tup bs::rest))=k:=by show (Z9 bs).getD []=k;rw[p];rfl
  rw[J];cases r with
  |@tup l S _ e j=>
   obtain rfl:u=Value.ref l:=D;obtain⟨_,B,i,⟨o,M,x,n,G⟩,_⟩:=I.hok l _ e;cases j with
   |cons L j=>
    cases L with
    |@tup c q _ f g=>
     obtain⟨_,d,a,⟨O,F,Q,C,P⟩,_⟩:=I.hok c _ f;rw[Wu g p]at a;cases i with
     |@cons _ u1 _ N y i=>
      obtain rfl:=(show _=Value.ref c from y);exact⟨l,o,c,N.toArray,n,rfl,M,x,G.trans (by simp),O,d.toArray,C,F,Q,P,by simpa using wb a⟩
 ·cases h
def Yi (U:X.A.units+64<cLine):Zc X (.builtin "sorted") (λvs H Q=>∃l xs ts,vs=[.ref l]/\H l=some (.lst xs)/\zr H xs ts/\ts.all sW=true/\(ts.map kW).Nodup/\ts.length<64/\∀r y,H r=none->(∀B:Hp,zr B xs ts->zr B y (wE ts))->Q (.ref r) (kj H r (.lst y))):=by
 intro pins s σ H vs us Q I k h;obtain⟨l,xs,ts,rfl,N,r,hp,hn,w,q⟩:=h;obtain⟨u,rfl,L⟩:=Zk k;obtain rfl:u=Value.ref l:=L;obtain⟨c,k,pl,a,hz⟩:=zH I (.inl N) r;have p:=r.length;have j:s.1.1.size<=s.1.1.size+1:=cD _;refine Yh 00 pl (by rw[ag,a]) (λi v x G f=>?_) hn (by rw[←a];exact w) λg o D=>?_
 ·rw[aw]at f;cases e:ts[i]? with
  |none=>rw[e]at f;cases f
  |some t=>
   rw[e]at f;obtain rfl:kW t=x:=aF f;obtain⟨v',M,F⟩:=r.get e;obtain⟨Z,C,S⟩:=k.get M;rw[G]at C;cases C;exact Ia I F S (aR.mp hp t (bR e))
 ·rw[←a]at o D;obtain⟨n,O⟩:=sortedAll_at _ c (g.toList.map λi=>c.getD i _).toArray;have d:∀i∈g.toList,i<ts.length:=λi hi=>bu.mp (o.pm.mem_iff.mp hi);have J:∀B,zr B xs ts->zr B (g.toList.map λi=>xs.getD i _) _:=λB P=>by
   have:=uq P _ d;rw[D4 hn o D]at this;exact this
  refine⟨.ref _,kj H _ (.lst (g.toList.map λi=>xs.getD i _)),I.laid (λb u e=>sortedAll_old e) j ?_,rfl,q _ _ (I.hok.fresh j) J⟩;exact⟨by rw[ag,bF,o.sz];omega,(g.toList.map λi=>c.getD i _),n,ur k _ (λi hi=>by rw[p];exact d i hi),O⟩
end
def BX:En->R (List T):=λ_=>.bad
def tF (e:WE):T:=.tup [.tup (e.1.map T.bl),.lst e.2]
def Ky {o B H:Hp}{n:Nat}{kvs:List (List mV×Addr×V)}{d:List WE}{j:List Addr}(h:Jn o B H n kvs d j):∀(i:Nat) k b v,kvs[i]?=some (k,b,v)->∃a c l xs,d[i]?=some (a,c)/\k=kI a/\v=.ref l/\l∈j/\Kb o B H a b/\H l=some (.lst xs)/\zr B xs c:=by
 induction h with
 |nil=>intro i k b v e;simp at e
 |@cons y G l xs c kvs d j D e b r I no t x=>
  intro i k b v p;cases i with
  |zero=>cases p;exact⟨y,c,l,xs,rfl,rfl,rfl,ae,D,e,r⟩
  |succ i=>
   obtain⟨a,g,l0,f,u,F,w,C,q⟩:=x i k b v p;exact⟨a,g,l0,f,u,F,w,a9 _ C,q⟩
def xr {c B H:Hp}{n:Nat}{kvs:List (List mV×Addr×V)}{a:List WE}{d:List Addr}(h:Jn c B H n kvs a d):kvs.length=a.length:=by
 induction h with
 |nil=>rfl
 |cons g e b r i no t f=>rw[aA,aA,f]
theorem Ud {H:Hp}:∀k:List Bool,zr H (k.map V.bl) (k.map T.bl)
 |[]=>.nil
 |b::k=>.cons (.bl b) (Ud k)
def xt {B H e I:Hp}{d:Addr}{o:Obj}{n:Nat}{kvs:List (List mV×Addr×V)}{U:List WE}{O:List Addr}(M:zi I (zy B H e))(D:H d=none)(bd:I d=none)(hd:e d=some (.dT kvs))(L:Jn H I e n kvs U O)(hn:∀l∈O,H l=none):
  rI (zy B H (kj e d (.frz o (.dT kvs)))) (kj e d (.frz o (.dT kvs))) (AF d o) (U.map tF):=by
 intro r j a g;have up:∀b u,b≠d->zy B H e b=some u->zy B H (kj e d (.frz o (.dT kvs))) b=some u:=λb u hb h=>by
  cases q:H b with
  |none=>rw[zJ q]at h⊢;rw[zg hb];exact h
  |some w=>rw[zI q]at h⊢;exact h
 have f:j d=some (.frz o (.dT kvs)):=g _ _ (a _ _ (by rw[zJ D,zf]))
 have Q:=xr L;refine⟨λi hi=>⟨kvs,f,by rw[Q];simpa using hi⟩,λi t x H3 P hz=>?_,λi hi=>⟨kvs,f,by rw[Q];simpa using hi⟩⟩
 obtain⟨J,k,v,b,S,N,e2,e3,e4,Z,e6⟩:=hz;rw[f]at N;cases N;subst e4 e6;obtain⟨y,ws,l,xs,a1,a2,a3,a4,F,C,a7⟩:=Ky L i k b v e2;subst a2 a3;rw[aw,a1]at P;cases P;have X:zi j (kj j S (.tup [.ref b,.ref l])):=zi.new Z _;have ge:zi r (zy r j (kj j S (.tup [.ref b,.ref l]))):=zy.ge g X;have G:b≠d:=λz=>by have:=F.1;rw[z,hd]at this;cases this
 have ld:l≠d:=λz=>by rw[z,hd]at C;cases C
 have p:zy B H e b=some (.tup (y.map V.bl)):=by
  rcases F.2 with z|z
  ·rw[zJ z];exact F.1
  ·exact M _ _ z
 have rb:Rep r (.ref b) (.tup (y.map T.bl)):=.tup (a _ _ (up _ _ G p)) (Ud y);have rl:Rep r (.ref l) (.lst ws):=.lst (a _ _ (up _ _ ld (by rw[zJ (hn l a4)];exact C))) ((a7.mono λc u h=>up c u (λz=>by rw[z,bd]at h;cases h) (M _ _ h)).mono a)
 refine⟨X,.tup (by rw[zJ Z,zf]) (.cons (rb.mono ge) (.cons (rl.mono ge) .nil))⟩
section
variable {X:Cx}{Y:Fx}{elt:Expr}{ifs:List Expr}{scope:Scope}{N':List Str}{k:Nat}{js:List Nat}{tG:TG}{g:T->En->R En}{ft:En->R Bool}{fe:En->R T}
def E8 {c iter:Expr}:Wh X Y c iter BX:=.mk λρ a s d H R I ⟨B,J,q⟩=>q.elim
def xu {i kt:Nat}{x:Str}{w M cp pt pos:Pos}{j:List Expr}(C:Jk X Y (.Tuple j kt pt) (.Call (.Attribute (.Name x w) "items" M) [] [] cp) elt ifs scope N' k js BX tG g ft fe)(hv:PE X (.Name x w) (Za i))(O:attributeBase (.Name x w) "items" X.env (eval (.Name x w) X.env)=eval (.Name x w) X.env:=by rfl)(P:(M.endLine==cp.line)=true:=by rfl):
  PE X (.ListComp elt [⟨.Tuple j kt pt,.Call (.Attribute (.Name x w) "items" M) [] [] cp,ifs,0⟩] scope pos) (λa H Q=>∃d kvs,a[i]?=some (some (V.ref d))/\H d=some (.dT kvs)/\∀o,∃G ρ ts vs,SI Y G ρ a (kj H d (.frz o (.dT kvs)))/\rI G (kj H d (.frz o (.dT kvs))) (AF d o) ts/\ts.length<=mR/\zq g ft fe ts (Jz k js ρ)=.ok vs/\
   ∀D c xs B,kj H d (.frz o (.dT kvs)) D=none->zi (kj H d (.frz o (.dT kvs))) c->c D=some (.lst xs)->zr B xs vs->zi B (zy G (kj H d (.frz o (.dT kvs))) c)->B D=none->Q (.ref D) c):=by
 intro l s a H Q I ⟨d,kvs,e1,e2,h⟩;refine jM (ZU rfl) (F:=λD c=>Q (.ref D) c) (te:=λa H Q=>∃f ρ',f.cl=Y.cl/\(f.E=λ_ _ _=>False)/\tS f rC fe ρ' a H Q) (tt:=λa H Q=>∃f ρ',f.cl=Y.cl/\tS f rE ft ρ' a H Q) C.sc C.cp C.cm (xq hv O P) C.gt
  (λcl u S H3 fp l v s a H Q I ⟨f,ρ',L,q⟩=>C.tt f L cl u S H3 fp _ ρ' _ s a H Q I q) (λcl u S H3 fp l xe hp v s a H Q I ⟨f,ρ',L,eE,q⟩=>C.el f L cl u S H3 fp _ xe (eE▸hp) ρ' _ s a H Q I q) I ?_ ?_ C.hs
 ·refine⟨d,kvs,e1,e2,λo D Z=>?_⟩;obtain⟨G,ρ,ts,vs,J,r,P,ev,q⟩:=h o;exact jN C.gk C.gn J r P ev Z λc xs B a1 a2 a3 a4 a5 _=>q D c xs B Z a1 a2 a3 a4 a5
 ·intro D Cc c s' I' q' hC h0 hL p y U;obtain⟨m,hm⟩:=U;refine⟨m,hm,λh' N=>⟨.ref D,c,?_,rfl,q'⟩⟩;exact I'.turned (λb o O e=>N.extBut b o O e) hC (aT hL).symm (.inr h0) p y
def tm (gw:List T->R (List WE))(a:List T):R (List WE):=if a.length=2 then quiet (gw a)else .bad
def rg (g:T->En->R En)(ft:En->R Bool)(fe:En->R T)(k:Nat)(js:List Nat)(ρ:En)(a:List WE):R (List T):=if a.length<=mR then quiet (zq g ft fe (a.map tF) (Jz k js ρ))else .bad
def Xu (i:Nat)(gw:List T->R (List WE))(d:En->R (List T))(g:T->En->R En)(ft:En->R Bool)(fe:En->R T)(k:Nat)(js:List Nat):En->RS:=λρ=>(d ρ).s λe=>match tm gw e with
 |.ok a=>(match rg g ft fe k js (ρ.set i .un) a with
  |.ok vs=>(match uy (.lst vs)with
   |.ok (.lst c)=>.rf c
   |_=>.bad)
  |_=>.bad)
 |_=>.bad
def xv {cl:Nat->Value}{kF kr i kt:Nat}{x f:Str}{p1 p2 p3 p4 p5 p6 p7 L ap cp pt pc:Pos}{l y:List Expr}{a:Expr}{gw:List T->R (List WE)}{ga:En->R (List T)}(O:QQ f nh kF (rX gw) ⟨X.prog,X.w,X.K,X.mg,X.base,cl⟩)(hr:jH kr X.A)(hN:X.N.Nodup)(hi:X.N[i]?=some x)(hx:L2.Loc X.env.scope x)
  (ha:UB X Y (a::y) ga) (C:Jk X Y (.Tuple l kt pt) (.Call (.Attribute (.Name x L) "items" ap) [] [] cp) elt ifs scope N' k js BX tG g ft fe) (hv:PE X (.Name x L) (Za i)) (ms:X.mg "sorted"=none) (gs:Gl X "sorted":=by rfl) (hF:kF<=kr:=by omega) (gf:Gl X f:=by rfl) (hd:(f==("__debug__":Str))=false:=by decide)
  (hsw:swapsWith (.Call (.Name f p2) (a::y) [] p3) (some (.Name x p1)) p4.line X.env=pure false:=by rfl) (hf:X.fn x=true\/X.env.scope.names.lookup x=some .local:=by first|exact .inl rfl|exact .inr rfl|assumption)
  (hs:starEach (a::y) X.env=(false,eval a X.env)::starEach y X.env:=by exact zz rfl) (hz:((backTo p3 (starEach y X.env)).any λx=>x.fst)=false:=by exact zY rfl) (hb:attributeBase (.Name x L) "items" X.env (eval (.Name x L) X.env)=eval (.Name x L) X.env:=by rfl) (hl:(ap.endLine==cp.line)=true:=by rfl):
  WS X Y [.Assign [.Name x p1] (.Call (.Name f p2) (a::y) [] p3) p4,.Return (some (.Call (.Name "sorted" p5) [.ListComp elt [⟨.Tuple l kt pt,.Call (.Attribute (.Name x L) "items" ap) [] [] cp,ifs,0⟩] scope pc] [] p6)) p7] (Xu i gw ga g ft fe k js):=.mk λρ=>by
 obtain⟨⟨_,pf,fw,fdw,CW,FW⟩⟩:=O;have W:=(zX (JP hN hi hx (pos:=p4) (j9 (pos:=p3) (p:=p2) FW (hr.mono hF) gf CW.m CW.F.kp CW.b .nil (uh (E:=λ_ _ _=>False)) (ha ρ) hd hs hz) hsw hf)
  (ZN (Jh (pos:=p7) (ZH (p:=p5) (pos:=p6) (Yi hr.units) gs ms PyProof.Rows.Boot.«sorted» (zh (xu (pos:=pc) C hv hb hl) zt (ng rfl)) 01 01 (ng rfl) rfl))))
 intro P s σ H D Iv ⟨B,I,q⟩;have Q:i<σ.length:=by rw[Iv.len];exact(aP.mp hi).1
 refine W P s σ H D Iv ?_;refine jY I q λus vs H1 _ s1 r1 I1 e=>?_;have e:PoS Y _ (match tm gw us with
  |.ok y=>(match rg g ft fe k js (ρ.set i .un) y with
   |.ok vs=>(match uy (.lst vs)with
    |.ok (.lst ws)=>.rf ws
    |_=>.bad)
   |_=>.bad)
  |_=>.bad) D:=e
 unfold tm at e;split at e
 case h_2=>exact e.elim
 rename_i we v;split at v
 case isFalse=>cases v
 rename_i h2;cases S:gw us with
 |bad=>rw[S]at v;cases v
 |ex c=>rw[S]at v;cases v
 |ok we'=>
  rw[S]at v;cases v;unfold rg at e;split at e
  case h_2=>exact e.elim
  rename_i ts j;split at j
  case isFalse=>cases j
  rename_i h3;cases Z:zq g ft fe (we.map tF) (Jz k js (ρ.set i .un))with
  |bad=>rw[Z]at j;cases j
  |ex c=>rw[Z]at j;cases j
  |ok ts'=>
   rw[Z]at j;cases j;unfold uy at e;dsimp only at e
   by_cases M:ts.all sW=true/\(ts.map kW).Nodup/\ts.length<64
   case neg=>rw[if_neg M]at e;exact e.elim
   rw[if_pos M]at e;have e:PoS Y _ (.rf (wE ts)) D:=e;rw[br];refine⟨_,us,h2,I1.sB,r1,?_⟩;rw[S];intro d kvs ls H' B' n z1 z2 z3 z4 z5 z6 z7 z8 z9;refine⟨d,kvs,aI Q,z6,λo=>?_⟩;have sF:zi H1 (kj H' d (.frz o (.dT kvs))):=λb u h=>by
    rw[zg (λz=>by rw[z,z4]at h;cases h)];exact z1 _ _ h
   have J:=(I1.grow sF).forget i (some (.ref d));refine⟨_,ρ.set i .un,we.map tF,ts,J,xt z3 z4 z5 z6 z7 z9,by rw[ag];exact h3,Z,λDd H2 xs B2 a1 U a3 a4 a5 a6=>?_⟩
   have lB:=a5.trans (zy.le J.sB U);refine⟨Dd,xs,ts,rfl,a3,a4.mono lB,M.1,M.2.1,M.2.2,λr ys G ry=>?_⟩;have sN:zi H2 (kj H2 r (.lst ys)):=zi.new G _;refine e r ys _ B2 (J.sH.trans (U.trans sN)) ((J.sH.trans U).free G) zf (ry B2 a4) (lB.free G) ((a5.trans λb u h=>?_).trans (UE J.sH J.old (U.trans sN) J.sB));cases q:kj H' d (.frz o (.dT kvs)) b with
   |none=>rw[zJ q]at h⊢;exact sN _ _ h
   |some w=>rw[zI q]at h⊢;exact h
end
section
variable {prog:Program}{w:World}{A:Around}{E:Value->Shared->Prop}{s:Shared}{it d:Addr}{i ep:Nat}{es:Array DictEntry}{od:Obj}{Q:Option Value->Shared->Prop}
def Kz (c:s.heap.IsValIter it d i es.size ep)(e:s.heap.get? d=some od)(f:od.data=.dict es ep)(hi:i<es.size)
  (l:∀h',h'.IsValIter it d (i+1) es.size ep->b8 it s.heap h'->Q (some es[i].val) {s with heap:=h'}):wpAny 08 A (pyNext (.ref it)) Q E s:=by
 obtain⟨o,j,p,hd⟩:=id c;have a:=c.typeIs;unfold pyNext;refine a8 (ci (aX (name:=aE "__next__") a bY (aN bY a f9 ?_ (f6 _))));refine a8 (ac (a8 (a8 ?_)))
 first|refine a8 (wpAny_typeNameOfWhole_valiter a (ac ?_))|refine a8 (wpAny_typeNameOf_valiter a (ac ?_))
 refine a8 (dQ j hd ?_);have k:bq "dict_valueiterator"=false:=by decide
 simp only[k,aH,if_false];show wpAny _ _ (if (Value.ref d==Value.none)=true then _ else _) _ _ s
 rw[if_neg (show ¬((Value.ref d==Value.none)=true) from az)];refine a8 (ac (a8 (bP e f ?_)));rw[if_neg (by simp)]
 refine a8 (ac (a8 (cu e f ?_)));rw[if_neg (by simp)]
 refine ac ?_;simp only[show ¬((i:Int)<0) from by omega,if_false,a_,bZ hi]
 refine a8 ?_
 first|refine a8 (wpAny_typeNameOfWhole_valiter a (ac ?_))|refine a8 (wpAny_typeNameOf_valiter a (ac ?_))
 refine a8 (wpAny_isOneOf_valiter a ?_);show wpAny _ _ (setField (.ref it) 1 (rawInt ((i:Int)+1))>>=_) _ _ s;refine a8 (dw j hd (by simp) ?_)
 have g:(s.heap.update it (eB (·.setIfInBounds 1 (rawInt ((i:Int)+1))))).IsValIter it d (i+1) es.size ep:=
  ⟨_,cz _ j (ff (cR hd _)),(hJ ..).trans p,by rw[cR hd];simp[rawInt]⟩
 refine a8 (bp ?_);refine a8 (wpAny_isOneOf_valiter (s:={s with heap:=s.heap.update it (eB (·.setIfInBounds 1 (rawInt ((i:Int)+1))))}) g.typeIs ?_);refine a8 (wpAny_isOneOf_valiter (s:={s with heap:=s.heap.update it (eB (·.setIfInBounds 1 (rawInt ((i:Int)+1))))}) g.typeIs ?_);show wpAny _ _ (pure es[i].val) _ _ _;exact ac (ac ⟨_,rfl,ac (l _ g (bH ..))⟩)
def xw (p:A.handled=none)(e:s.heap.IsValIter it d i es.size ep)(f:s.heap.get? d=some od)(g:od.data=.dict es ep)(q:es.size<=i)(l:∀h',eL it s.heap h'->Q none {s with heap:=h'}):wpAny 08 A (pyNext (.ref it)) Q E s:=by
 obtain⟨o,k,r,hd⟩:=id e;have c:=e.typeIs;unfold pyNext;refine a8 (ci (aX (name:=aE "__next__") c bY (aN bY c f9 ?_ (f6 _))));refine a8 (ac (a8 (a8 ?_)))
 first|refine a8 (wpAny_typeNameOfWhole_valiter c (ac ?_))|refine a8 (wpAny_typeNameOf_valiter c (ac ?_))
 refine a8 (dQ k hd ?_);have j:bq "dict_valueiterator"=false:=by decide
 simp only[j,aH,if_false];show wpAny _ _ (if (Value.ref d==Value.none)=true then _ else _) _ _ s
 rw[if_neg (show ¬((Value.ref d==Value.none)=true) from az)];refine a8 (ac (a8 (bP f g ?_)));rw[if_neg (by simp)]
 refine a8 (ac (a8 (cu f g ?_)));rw[if_neg (by simp)]
 refine ac ?_;simp only[show ¬((i:Int)<0) from by omega,if_false,a_,bW q]
 refine a8 ?_
 first|refine a8 (wpAny_typeNameOfWhole_valiter c (ac ?_))|refine a8 (wpAny_typeNameOf_valiter c (ac ?_))
 show wpAny _ _ (setField (.ref it) 0 .none>>=_) _ _ s;refine a8 (dw k hd (by simp) ?_)
 show wpAny _ _ (newExc (.type "StopIteration") []>>=_) _ _ _;refine a8 ?_;simp only[newExc,newTuple];refine a8 (aO ?_ (by size_fits))
 refine a8 (m:=firstArgMember _ _) (c9 (a:=Value.none) (by first|rfl|(simp only[firstArgMember];rfl)) ?_)
 refine aO ?_ (by size_fits)
 simp only[raiseNew];refine a8 (wpAny_handled ?_);rw[show A.in1.handled=none from p];refine a8 (ac (wpAny_throw ?_));refine a8 (cC (T:="StopIteration") (b:=true) ⟨_,ai _ rfl,rfl⟩ isSubtype_stop ?_);exact ac (l _ (((bH ..).extBut.push _).push _))
def Qk {v:Addr}{Q:Value->Shared->Prop}(c:s.heap.IsValuesView v d)(e:s.heap.get? d=some od)(hd:od.data=.dict es ep)
  (g:Q (.ref s.1.1.size) {s with heap:=s.heap.push {cls:=.type "dict_valueiterator",data:=.fields #[.ref d,.int 0 0,.int es.size 0,.int ep 0]} }):wpAny 08 A (pyIter (.ref v)) Q E s:=by
 obtain⟨l,j,k,f⟩:=id c;refine wpAny_pyIter_slot c.typeIs iq (aN iq c.typeIs F.entry_dict_values_iter ?_ (F.args_dict_values_iter_1 _));unfold Builtin.«dict_values.__iter__»;refine a8 (ac (a8 ?_));unfold f_;refine a8 (bh j f (x:=.ref d) rfl (ac (a8 ?_)));unfold fk;refine a8 (bP e hd (a8 (cu e hd ?_)));have a:bq "dict_valueiterator"=false:=by decide
 simp only[a,aH,if_false];refine aO (ac ⟨_,rfl,"dict_valueiterator",_,⟨_,ai _ rfl,rfl⟩,bY.lookup,?_⟩);simpa[rawInt]using g
def Ql (q:A.handled=none)(I:Addr)(k:d≠I)(f:od.data=.dict es ep):Walks prog w A I [I,d] [I] es.size (λi v=>∃h:i<es.size,v=es[i].val) (λi h=>h.IsValIter I d i es.size ep/\h.get? d=some od) where
 sub:=λb a=>by simp at a;simp[a]
 frame:=λ_ _ _ st p=>⟨st.1.at λo e=>p I (by simp) o e,p d (by simp) _ st.2⟩
 item:=λi s Q E hi st g=>Kz st.1 st.2 f hi λh' c j=>g _ h' s.toks ⟨hi,rfl⟩ ⟨c,j.extBut _ _ k st.2⟩ λb o a e=>j.extBut b o (λh=>a (by simp[h])) e
 done:=λs Q E st g=>xw q st.1 st.2 f (aq _) λh' l=>g h' s.toks λb o a e=>l b o (λh=>a (by simp[h])) e
 self:=λ_ _ _ _ st g=>wpAny_pyIter_valiter st.1 g
def xx {r:Addr}(c:od.data=.dict es ep):KdlSrc prog w "dict_values" r d es.size (λi v=>∃h:i<es.size,v=es[i].val) (λh=>h.IsValuesView r d/\h.get? d=some od) where
 type:=λ_ a=>a.1.typeIs
 there:=λ_ a=>⟨let ⟨_,ho,_⟩:=a.1;av ho,av a.2⟩
 keep:=λ_ _ a f=>⟨let ⟨o,ho,x⟩:=a.1;⟨o,f r (.inl rfl) o ho,x⟩,f d (.inr rfl) _ a.2⟩
 notList:=by decide
 notTuple:=by decide
 hint:=λ_ _ _ _ a e=>kdl_hint_values a.1.typeIs e
 iter:=λ_ _ g a=>⟨_,_,(λ_ _ e=>Qk a.1 a.2 c e),Ql g _ (aD (av a.2)) c,⟨⟨_,ai _ rfl,rfl,rfl⟩,aa _ a.2⟩⟩
end
theorem Qm:∀(xs:List V) (a:List Value),xs.length=a.length->(∀(i:Nat) x u,xs[i]?=some x->a[i]?=some u->RelV x u)->Vals xs a
 |[],[],_,_=>.nil
 |[],_::_,h,_=>by cases h
 |_::_,[],h,_=>by cases h
 |x::xs,u::a,d,h=>.cons (h 0 x u rfl rfl) (Qm xs a (by simpa using d) λi x u e c=>h (i+1) x u (by simpa using e) (by simpa using c))
def Qn {f B H Z:Hp}{n:Nat}{kvs:List (List mV×Addr×V)}{a:List WE}{c:List Addr}(h:Jn f B H n kvs a c)(d:zi B Z):(∀l xs,l∈c->H l=some (.lst xs)->Z l=some (.lst xs))->zr Z (kvs.map (·.2.2)) (a.map λe=>T.lst e.2):=by
 induction h with
 |nil=>exact λ_=>.nil
 |cons j e b r k no t i=>exact λhz=>.cons (.lst (hz _ _ ae e) (r.mono d)) (i λl xs g=>hz l xs (a9 _ g))
section
variable {X:Cx}{Y:Fx}
def KA:pT X "dict.values" (λx xs H Q=>∃a kvs,x=.ref a/\xs=[]/\H a=some (.dT kvs)/\∀r,H r=none->Q (.ref r) (kj H r (.ext λh=>h.IsValuesView r a))):=by
 intro i s G H x xs v0 D Q I v k h;obtain⟨a,kvs,rfl,rfl,w,q⟩:=h;obtain rfl:v0=Value.ref a:=v;cases k;obtain⟨z,u,B,l,o,y,ep,g,d,C,J⟩:=uw I.hok w;have f:s.TypeIs (.ref a) "dict":=⟨o,g,d.1⟩;refine aN F.slot_dict_values f F.entry_dict_values ?_ (F.args_dict_values_1 _);unfold Builtin.«dict.values»;refine a8 ?_;unfold k_;refine a8 (wpAny_notOrdered_dict f ?_);show wpAny _ _ (pure a) _ _ s;refine ac ?_;show wpAny _ _ (cA a>>=_) _ _ s;unfold cA;rw[if_neg (by rw[u];exact az)]
 refine a8 (ac (a8 (aO (ac ⟨_,rfl,?_⟩))));have c:s.1.1.size<=s.1.1.size:=aq _;refine⟨.ref _,_,I.laid (t':=s.toks) (λb o e=>aa _ e) c ?_,rfl,q _ (I.hok.fresh c)⟩;exact⟨⟨_,ai _ rfl,rfl,rfl⟩,⟨_,ai _ rfl⟩,λg d ⟨o,p,j⟩ e=>⟨o,e _ p,j⟩⟩
def Yj (N:X.A.handled=none):Zc X (.type "list") (λvs H Q=>∃r k a kvs,vs=[.ref r]/\H r=some (.ext k)/\(∀h:Heap,k h->h.IsValuesView r a)/\H a=some (.dT kvs)/\∀l,H l=none->Q (.ref l) (kj H l (.lst (kvs.map (·.2.2))))):=by
 intro C s σ H vs us Q I M h;obtain⟨r,k,a,kvs,rfl,hr,p,ha,q⟩:=h;obtain⟨u,rfl,U⟩:=Zk M;obtain rfl:u=Value.ref r:=U;obtain⟨O,_,_⟩:=(show zQ _ X.w H _ r _ from I.hok r _ hr);obtain⟨z,hs,xs,d,o,v,ep,S,g2,G,B,g5⟩:=uw I.hok ha;have D:v.size=kvs.length:=by rw[←bF,B,ag,db d]
 refine kdl_call (xx G) N ⟨p _ O,S⟩ (by rw[D];exact z) λh' tk f P kp J c=>?_
 have j:s.1.1.size<=s.1.1.size:=aq _;refine⟨.ref _,kj H _ (.lst (kvs.map (·.2.2))),I.laid (t':=tk) (λb o e=>kp b o e) j ⟨by rw[ag];exact z,f.toList,P,Qm _ _ (by have:=c.1;simp;omega) λi x u y L=>?_,by simpa using J⟩,rfl,q _ (I.hok.fresh j)⟩
 obtain⟨hi,rfl⟩:=c.2 i u (by rw[←cS];exact L)
 have g:i<kvs.length:=by rw[←D];exact hi
 rw[aw,ah g]at y;cases y;obtain⟨u,Z,f2,f3⟩:=jO d i kvs[i] (ah g);have F:v.toList[i]?=some (entryOfKey (tupleKind (Z3 X.prog X.w)) (kvs[i].1,kvs[i].2.1,u)):=by rw[B,aw,Z];rfl
 rw[cS,bZ hi]at F;rw[aF F];exact f3
end
def Jn.base {d a B H:Hp}{n:Nat}{kvs:List (List mV×Addr×V)}{c:List WE}{f:List Addr}(h:Jn d B H n kvs c f)(s:zi a d):Jn a B H n kvs c f:=by
 induction h with
 |nil=>exact .nil
 |cons g e b r i no t j=>exact .cons ⟨g.1,g.2.imp (λz=>s.free z) id⟩ e b r i no j
def BH (B H:Hp)(r:R (List WE))(Q:VK):Prop:=match r with
 |.ok f=>∀a kvs e c d n,zi H c->zi B d->zi d (zy B H c)->H a=none->d a=none->c a=some (.lst (kvs.map (·.2.2)))->Jn H d c n kvs f e->a∉e->(∀l∈e,H l=none)->Q (.ref a) c
 |_=>False
def rK (g:List T->R (List WE)):Sp:=λvs H Q _=>∃B ts,ts.length=2/\zi B H/\zr B vs ts/\BH B H (g ts) Q
def DT (d:List T->R T)(gw:List T->R (List WE)):List T->R (List WE):=λts=>match ts with
 |[c,a]=>(d [a]).bind λ_=>gw [c,a]
 |_=>.bad
def BA {Z:Zz}{x:Str}{st:Stmt}{k kn kw:Nat}{e a C I:Str}{X:List T->R T}{gw:List T->R (List WE)}{q1 q2 q3 q4 q5 q6 q7 q8 q9 u j L D:Pos}(F:FE Z.K Z.mg x st [e,a])(N0:QQ C nh kn (spP Z.cl 1 X) Z)(W0:QQ I nh kw (rX gw) Z)(hlm:Z.mg "list"=none)(S:Sc [e,a] [e,a] st)
  (hst:Zf st=[.Expr (.Call (.Name C q1) [.Name a q2] [] q3) q4,
   .Return (some (.Call (.Name "list" q5) [.Call (.Attribute (.Call (.Name I q6) [.Name e q7,.Name a q8] [] q9) "values" u) [] [] j] [] L)) D])
  (hkd:(zj st).names.lookup e=some .local) (hru:(zj st).names.lookup a=some .local) (hnn:(zj st).names.lookup C=some .globalImplicit) (hwn:(zj st).names.lookup I=some .globalImplicit) (hgl:(zj st).names.lookup ("list":Str)=some .globalImplicit) (z1:(u.endLine==j.line)=true) (hn:kn<=k:=by omega) (hw:kw<=k:=by omega)
  (d1:(e==("__debug__":Str))=false:=by decide) (d2:(e==("__classdict__":Str))=false:=by decide) (d3:(a==("__debug__":Str))=false:=by decide) (d4:(a==("__classdict__":Str))=false:=by decide) (d5:(C==("__debug__":Str))=false:=by decide) (d6:(I==("__debug__":Str))=false:=by decide):QQ x nh (k+1) (rK (DT X gw)) Z:=by
 obtain⟨ft,fdt,F⟩:=F;obtain⟨⟨_,pa,fa,fda,CN,FN⟩⟩:=N0;obtain⟨⟨_,pw,fw,fdw,CW,FW⟩⟩:=W0;refine⟨_,_,ft,fdt,F,F.F.ok S (λvs H Q E ⟨B,ts,J,_,r,_⟩=>by rw[r.length,J];rfl) λcdv A outer s H vs Q E hr ⟨B,ts,J,U,r,q⟩=>?_⟩
 rw[hst];have gN:Gl (Js nh Z.P Z.w Z.K Z.mg Z.base [e,a] x (zj st) ft cdv A outer s H E).nox C:=hnn;have gW:Gl (Js nh Z.P Z.w Z.K Z.mg Z.base [e,a] x (zj st) ft cdv A outer s H E).nox I:=hwn;have gl:Gl (Js nh Z.P Z.w Z.K Z.mg Z.base [e,a] x (zj st) ft cdv A outer s H E).nox "list":=hgl;have v0:∀{p},PE (Js nh Z.P Z.w Z.K Z.mg Z.base [e,a] x (zj st) ft cdv A outer s H E).nox (.Name e p) (Za 0):=ZS rfl (.inl hkd) d1 d2;have v1:∀{p},PE (Js nh Z.P Z.w Z.K Z.mg Z.base [e,a] x (zj st) ft cdv A outer s H E).nox (.Name a p) (Za 1):=ZS rfl (.inl hru) d3 d4;refine⟨_,zX (jz (pos:=q4) (j9 (pos:=q3) (p:=q1) FN (hr.mono hn) gN CN.m CN.F.kp CN.b .nil (uh (E:=λ_ _ _=>False)) (zh (v1 (p:=q2)) zt (ng rfl)) d5 (zz rfl) (zY rfl)) rfl)
  (ZN (Jh (pos:=D) (ZT (p:=q5) (pos:=L) (Yj hr.hd) gl hlm PyProof.Rows.Boot.«list» (zh (X7 (cpos:=j) (apos:=u) eM eD i6 KA
   (j9 (pos:=q9) (p:=q6) FW (hr.mono hw) gW CW.m CW.F.kp CW.b .nil (uh (E:=λ_ _ _=>False)) (zh (v0 (p:=q7)) (zh (v1 (p:=q8)) zt (ng rfl)) (zz rfl)) d6 (zz rfl) (zY rfl)) rfl z1) zt (ng rfl)) 01 01 (ng rfl) rfl))),?_⟩
 cases r with
 |nil=>cases J
 |@cons va tk vs1 ts1 r1 rr=>
  cases rr with
  |nil=>cases J
  |@cons vb tr vs2 ts2 r2 rr=>
   cases rr with
   |cons _ _=>exact absurd J (by simp)
   |nil=>
    have q:BH B H ((X [tr]).bind λ_=>gw [tk,tr]) Q:=q;cases O:X [tr]with
    |bad=>rw[O]at q;exact q.elim
    |ex c=>rw[O]at q;exact q.elim
    |ok t=>
     rw[O]at q;have q:BH B H (gw [tk,tr]) Q:=q;refine⟨vb,rfl,B,[tr],rfl,U,.cons r2 .nil,?_⟩;rw[O];intro v Hn i rv;have gB:=zy.ge U i;refine⟨va,rfl,vb,rfl,zy B H Hn,[tk,tr],rfl,zy.le U i,.cons (r1.mono gB) (.cons (r2.mono gB) .nil),?_⟩;cases ew:gw [tk,tr]with
     |bad=>rw[ew]at q;exact q.elim
     |ex c=>rw[ew]at q;exact q.elim
     |ok es=>
      rw[ew]at q;intro d kvs ls y B' n y1 y2 y3 y4 y5 G y7 y8 y9;refine⟨.inr (.inr (.inl ⟨rfl,.inr ⟨kvs,G⟩⟩)),d,kvs,rfl,rfl,G,λr N=>?_⟩;have rd:d≠r:=λz=>by rw[z,N]at G;cases G
      have sR:zi y (kj y r (.ext λh=>h.IsValuesView r d)):=zi.new N _;refine⟨r,_,d,kvs,rfl,zf,λh z=>z,by rw[zg rd];exact G,λl M=>?_⟩
      have sL:=zi.new M (HO.lst (kvs.map (·.2.2)));have s2:=y1.trans (sR.trans sL);have l0:y l=none:=sR.free M;have bl:∀b o,y b=some o->kj (kj y r (.ext λh=>h.IsValuesView r d)) l (HO.lst (kvs.map (·.2.2))) b=some o:=λb o h=>sL _ _ (sR _ _ h);have hG:zi B' (zy B H (kj (kj y r (.ext λh=>h.IsValuesView r d)) l (HO.lst (kvs.map (·.2.2))))):=λb o h=>by
       have g:=y3 _ _ h;cases p:Hn b with
       |none=>rw[zJ p]at g;rw[zJ (i.free p)];exact bl _ _ g
       |some w=>
        rw[zI p]at g;cases p2:H b with
        |none=>rw[zJ p2]at g⊢;exact s2 _ _ g
        |some w2=>rw[zI p2]at g⊢;exact g
      refine q l kvs ls _ B' n (i.trans s2) (gB.trans y2) hG (i.free (y1.free l0)) ((y3.trans (zy.le (zy.le U i) y1)).free l0) zf ((y7.base i).mono (aq _) (λm hm=>?_) λb xs h=>bl _ _ h) (λz=>?_) λm hm=>i.free (y9 m hm)
      ·obtain⟨xc,f⟩:=y7.islst hm;rw[f];exact bl _ _ f
      ·obtain⟨xc,f⟩:=y7.islst z;rw[l0]at f;cases f
def C0 (r:R (List WE)):R T:=match r with
 |.ok a=>.ok (.lst (a.map λe=>T.lst e.2))
 |_=>.bad
def IZ {Z:Zz}{x:Str}{k:Nat}{g:List T->R (List WE)}(O:QQ x nh k (rK g) Z):QQ x nh k (spP Z.cl 2 (λy=>C0 (g y))) Z:=by
 obtain⟨⟨st,u,f,J,w,p⟩⟩:=O;refine⟨st,u,f,J,w,p.imp λvs H Q E ⟨B,ts,G,j,r,q⟩=>⟨B,ts,G,j,r,?_⟩⟩;dsimp only at q;cases e:g ts with
 |bad=>rw[e]at q;exact q.elim
 |ex c=>rw[e]at q;exact q.elim
 |ok M=>
  rw[e]at q;intro a kvs S v X n I N L o P D F U C;exact q (.ref a) v I (.lst (by rw[zJ o];exact D) (Qn F L λl xs d i=>by rw[zJ (C l d)];exact i))
end PV
namespace L2
open PySem PySem.Spec PyProof.Rows
noncomputable def rm (i:Expr):Prop:=∀a iv,subscripted i false a iv=operate [a,iv] (getItem a iv)
def KC {prog:Program}{w:World}{A:Around}{E:Value->Shared->Prop}{s:Shared}{env:Env}{c a:Expr}{pos:Pos}{T id:String}{Q:Value->Shared->Prop}
  (q:typeLookup (.type T) "__getitem__"=pure (some (.builtin id))) (p:rm a)
  (h:wpAny 08 A (eval c env) (λo g=>wpAny 08 A (eval a env) (λi d=>d.TypeIs o T/\wpAny 08 A (getItem o i) Q E d) E g) E s):
  wpAny 08 A (eval (.Subscript c a pos) env) Q E s:=by
 refine Subscript_ (cI h (λo g h₁=>cI h₁ (λi d e=>?_) λ_ _ x=>x) λ_ _ x=>x);obtain⟨l,e⟩:=e;unfold subscriptTail;refine a8 ?_;rw[getitemInPython_of_ne l.not_modules];refine a8 (cb l q ?_);have j:wpAny 08 A (subscripted a false o i) (λr f=>wpAny 08 A (letTemporaryGo c o r>>=λ_=>pure r) Q E f) E d:=by
  rw[p o i];exact wpAny_operating (cI e (λr f k=>a8 (wpAny_letTemporaryGo (ac k))) λ_ _ x=>x)
 first
  |exact ac (a8 j)
  |exact a8 (ac (a8 j))
  |exact a8 j
end L2
namespace PV
open PySem PySem.Spec PyProof.Rows L2 PySem.W
def Vh (kvs:List (List mV×Addr×V))(k:List mV)(b:Addr)(v:V):List (List mV×Addr×V):=if (Ws kvs k).isSome=true then kvs.map (λp=>if p.1=k then (p.1,p.2.1,v)else p)else kvs++[(k,b,v)]
def xy (kvs:List (List mV×Addr×V))(k:List mV)(b:Addr)(v:V):(Vh kvs k b v).length<=kvs.length+1:=by
 unfold Vh;split
 ·rw[ag];exact cD _
 ·rw[aB];exact aq _
def HR {H:Hp}{kvs:List (List mV×Addr×V)}{xs:List (List mV×Addr×Value)}(r:KT H kvs xs)(k:List mV){b:Addr}{y:V}{u:Value}(f:H b=some (.tup (k.map kV)))(a:RelV y u):KT H (Vh kvs k b y) (storedH xs k b u):=by
 have q:=(r.val k).isSome_eq;rw[lR]at q;unfold Vh storedH;rw[q];split
 ·rename_i d
  clear q d
  induction r with
  |nil=>exact .nil
  |@cons p j i c h t g=>
   rw[ao,ao];refine .cons ?_ g;unfold putAt
   by_cases e:p.1=k
   ·rw[if_pos e,if_pos (h.1.symm.trans e)];exact⟨h.1,h.2.1,a,h.2.2.2⟩
   ·rw[if_neg e,if_neg λz=>e (h.1.trans z)];exact h
 ·exact Paired.snoc r ⟨rfl,f,a,rfl⟩
section
variable {X:Cx}{o i e:Expr}{td ti te:TE}{pos:Pos}
def BZ (H:Hp)(x y:V)(a:Addr)(b:Addr)(kvs:List (List mV×Addr×V))(k:List mV):Prop:=x=.ref a/\y=.ref b/\H a=some (.dT kvs)/\H b=some (.tup (k.map kV))
def Wv:R2:=λx y H Q=>∃a b kvs k v,BZ H x y a b kvs k/\Ws kvs k=some v/\Q v H
def Ey:R2:=λx y H Q=>∃a b kvs k,BZ H y x a b kvs k/\Q (.bl (!(Ws kvs k).isSome)) H
def xz:t9:=λx y v H Q=>∃a b kvs k,BZ H x y a b kvs k/\kvs.length<sizeLine/\Q (kj H a (.dT (Vh kvs k b v)))
def wc (B:X.A.units+1<cLine)(P:PE X o td)(hi:PE X i ti)(L:rm i):PE X (.Subscript o i pos) (nQ Wv td ti):=λc s l H Q I h=>
 KC PySem.F.slot_dict_getitem.lookup L (mN (P c s l H _ I h) λu G ⟨x,w,J,M,D⟩=>mN (hi c G l w _ J D) λj Z ⟨y,C,g,O,a,b,kvs,k,v,⟨ex,r,S,N⟩,U,q⟩=>by
  subst ex r;cases M;cases O;obtain⟨z,_,xs,f,dd⟩:=uw g.hok S;have d:=f.val k;rw[U]at d;refine⟨dd.typeIs,?_⟩;cases hp:atKey xs k with
  |none=>rw[hp]at d;exact(show False from d).elim
  |some p=>rw[hp]at d;exact wpAny_getItem_heap (tupleKind_room_in1 B) (uv g.hok N) dd hp ⟨v,C,g.tok _,d,q⟩)
def KD (v:X.A.units+1<cLine)(hi:PE X i ti)(L:PE X o td):PC X .NotIn i o (nQ Ey ti td):=λc s l H Q I h=>
 mN (hi c s l H _ I h) λu C ⟨x,r,D,F,B⟩=>mN (L c C l r _ D B) λj N ⟨y,w,f,J,a,b,kvs,k,⟨ex,p,M,G⟩,q⟩=>by
  subst ex p;cases F;cases J;obtain⟨z,hd,xs,d,dd⟩:=uw f.hok M;have g:=(d.val k).isSome_eq;rw[lR]at g;refine wpAny_notIn_heap (tupleKind_room_in1 v) (uv f.hok G) hd dd ⟨.bl _,w,f.tok _,?_,q⟩;rw[g];rfl
def Qo (G:X.A.units+1<cLine):sv X xz:=λp s Z H x y v ov iv u Q I N O J ⟨a,b,kvs,k,⟨ex,C,g,r⟩,P,q⟩=>by
 subst ex C;cases N;cases O;obtain⟨z,hd,xs,d,dd⟩:=uw I.hok g;have hz:xs.length<=sizeLine:=by rw[←db d];exact z
 refine wpAny_setItem_heap (hsz:=hz) (tupleKind_room_in1 G) (uv I.hok r) dd λh' f M=>⟨_,?_,q⟩;obtain⟨w,D,ep,j,F,L,S,_,B⟩:=f;refine Qe I (by rw[g];exact True.intro) M ⟨w,j⟩ ⟨aC (xy ..) P,hd,_,(HR d k r J).keeps λc U l=>?_,w,D,ep,j,F,L,S,B⟩
 rw[zg (ZL l g λz=>nomatch z)];exact l
end
end PV
namespace PV
open PySem PySem.Spec PyProof.Rows L2 PySem.W PySem.Calls
section
variable {prog:Program}{w:World}{A:Around}{E:Value->Shared->Prop}{s:Shared}
def xA {p q f:Bool}{Q:Bool->Shared->Prop}(c:A.units<cLine)(h:Q (decide (b2i p<b2i q)) s):wpAny 08 A (oneLt' f (.bool p) (.bool q)) Q E s:=by
 cases f with
 |false=>exact kat_one _ _ (lt_bool h)
 |true=>
  rw[oneLt'_eq];simp only[if_true];refine a8 (wpAny_cRoomFor c (a8 (wpAny_callSpecialIfBound?_slot (T:="bool") rfl iW (aN (T:="bool") iW rfl PySem.F.entry_int_lt ?_ (PySem.F.args_int_lt_2 _ _)))));refine c9 (a:=_) 09 ⟨_,rfl,be ?_⟩
  exact h
def KF {b:Bool}{Q:Bool->Shared->Prop}(o:A.units<cLine){x:List Bool}{xs:List Value}(l:ItemsAre (Z8 prog w) x xs):∀{y:List Bool} {c:List Value} {i:Nat},ItemsAre (Z8 prog w) y c->Q (decide (nB x<nB y)) s->KatLex prog w A b (decide (xs.length<c.length)) Q (xs.zip c) i s:=by
 induction l with
 |nil=>
  intro y c i hy h;have e:decide (([]:List Value).length<c.length)=decide (nB []<nB y):=by
   cases hy with
   |nil=>rfl
   |cons _ _=>simp[nB]
  exact kat_nil (by rw[e];exact h)
 |@cons d u x xs k l q=>
  intro y c i hy h;cases hy with
  |nil=>exact kat_nil (by simpa[nB]using h)
  |@cons f v y c j hy=>
   rw[dH];refine kat_cons ((Z8 prog w).eqBool (a:=d) (b:=f) k j ?_);obtain rfl:=Z6 k;obtain rfl:=Z6 j
   by_cases g:d=f
   ·subst g;rw[decide_eq_true rfl];refine kat_yes ?_;have e:decide ((Value.bool d::xs).length<(Value.bool d::c).length)=decide (xs.length<c.length):=decide_eq_decide.mpr Nat.succ_lt_succ_iff;rw[e];refine q hy ?_;have:decide (nB (d::x)<nB (d::y))=decide (nB x<nB y):=by simp[nB]
    rw[this]at h;exact h
   ·rw[decide_eq_false g];refine kat_no (xA o ?_);have p:decide (b2i d<b2i f)=decide (nB (d::x)<nB (f::y)):=by
     cases d<;>cases f<;>first|exact absurd rfl g|(rw[decide_eq_decide];show _↔_::_<_::_;rw[iP];simp[b2i])
    rw[p];exact h
def KG (prog:Program)(w:World)(h:Heap)(v:Value)(x:List Bool):Prop:=∃b,v=.ref b/\IsTupleKey (Z8 prog w) h x b
def KG.keep {h h':Heap}{v:Value}{x:List Bool}(k:∀b o,h.get? b=some o->(o.cls=.type "tuple")->h'.get? b=some o):KG prog w h v x->KG prog w h' v x
 |⟨b,e,d,it,m,f,a,c⟩=>⟨b,e,d,it,m,k _ _ f a,a,c⟩
theorem Qp {h:Heap}:∀(vs:List Value) (xs:List (List Bool)),vs.length=xs.length->(∀x∈xs,x≠[])->(∀(i:Nat) (v:Value) (x:List Bool),vs[i]?=some v->xs[i]?=some x->KG prog w h v x)->∃fs:List Value,KatTups h vs fs/\fs.length=vs.length/\∀f∈fs,∃b,f=Value.bool b
 |[],_,_,_,_=>⟨[],trivial,rfl,λf a=>by cases a⟩
 |v::vs,[],e,_,_=>by cases e
 |v::vs,x::xs,e,hn,H=>by
  obtain⟨fs,k,l,q⟩:=Qp vs xs (by simpa using e) (λx p=>hn x (a9 _ p)) λi v x c o=>H (i+1) v x (by simpa using c) (by simpa using o)
  obtain⟨b,rfl,C,it,m,y,F,D,g⟩:=H 0 v x rfl rfl;generalize d:it.toList=its at g;cases g with
  |nil=>exact absurd rfl (hn _ ae)
  |@cons j u G B c r=>
   obtain rfl:=Z6 c;refine⟨.bool j::fs,⟨⟨b,C,it,m,rfl,y,F,D,by rw[←cS,d];rfl⟩,k⟩,by simp[l],λf a=>?_⟩
   rcases au.mp a with rfl|a
   ·exact⟨j,rfl⟩
   ·exact q f a
def Ll {vs:List Value}{xs:List (List Bool)}(f:A.units<cLine)(L:vs.length=xs.length)(H:∀(i:Nat) (v:Value) (x:List Bool),vs[i]?=some v->xs[i]?=some x->KG prog w s.heap v x){i j:Nat}(hi:i<vs.length)(a:j<vs.length){C:Bool->Shared->Prop}(B:C (decide (nB (xs.getD i [])<nB (xs.getD j []))) s):
  kas_ask prog w A (tuples' true) vs i j C s:=by
 unfold kas_ask;have d:∀k,k<vs.length->vs[k]?=some (vs.getD k Value.none):=λk h=>by simp[h]
 have c:∀k,k<vs.length->xs[k]?=some (xs.getD k []):=λk h=>by
  have:k<xs.length:=by omega
  simp[this]
 obtain⟨b,q,o,it,m,e,G,D,u⟩:=H i _ _ (d i hi) (c i hi);obtain⟨F,p,J,g,I,y,M,r,l⟩:=H j _ _ (d j a) (c j a);rw[q,p];refine kat_lt e D y r ?_;have:=KF (s:=s) (A:=A) (b:=true) (Q:=C) (i:=0) f u l B;simpa using this
end
section
variable {prog:Program}{w:World}{A:Around}{E:Value->Shared->Prop}{s:Shared}
def Qq {a:Addr}{vs:List Value}{xs:List (List Bool)}{n:Nat}{P:PySem.Fin->Shared->Prop}(X:A.units<cLine)(F:s.heap.get? a=some (seqObj "list" vs.toArray n))(S:vs.length=xs.length)(H:∀(i:Nat) (v:Value) (x:List Bool),vs[i]?=some v->xs[i]?=some x->KG prog w s.heap v x)(hn:xs.Nodup)(M:2<=xs.length->∀x∈xs,x≠[])(r:vs.length<64)
  (h:∀p:Array Nat,Pm vs.length p->So (O:=strKind.toKeyOrd) (λi=>nB (xs.getD i [])) p vs.length->P (.done (.ret .none)) {s with heap:=sortedHeap s.heap a vs (p.toList.map λi=>vs.getD i Value.none).toArray}):
  wpAny 08 A (Builtin.«list.sort» ⟨[.ref a],[]⟩) P E s:=by
 rw[list_sort_plain];refine a8 (listItems_at F rfl (a8 (listUpdate_at F rfl ?_)));obtain⟨e1,l⟩:∃e1,(s.heap.update a (cj λ_=>#[])).get? a=some _:=⟨_,get?_update_seq F λ_=>#[]⟩;refine a8 (seqEpoch_at l rfl (a8 (wpAny_newTuple (a8 (wpAny_newList (bp ?_))))));have d:(((s.heap.update a (cj λ_=>#[])).push (seqObj "tuple" vs.toArray 0)).push (seqObj "list" #[] 0)).get? a=some _:=aa _ (aa _ l);have keep:∀b o,s.heap.get? b=some o->o.cls=.type "tuple"->(((s.heap.update a (cj λ_=>#[])).push (seqObj "tuple" vs.toArray 0)).push (seqObj "list" #[] 0)).get? b=some o:=λb o e c=>by
  have hb:b≠a:=λz=>by subst z;rw[F]at e;cases e;have c':=c;injection c' with c2;exact absurd c2 01
  exact aa _ (aa _ ((fK _ _ _ _ hb).trans e))
 dsimp only;have hsz:vs.toArray.size=vs.length:=by simp
 by_cases q:vs.toArray.size<2
 ·rw[if_pos q,if_pos q];refine a8 (ac ?_);refine a8 (ac ?_);dsimp only;refine a8 (seqEpoch_at d rfl (a8 (listUpdate_at d rfl ?_ (hsz2:=by rw[Array.size_map];show (pairsOf vs).size<=_;rw[pairsOf_size,c7];omega))))
  simp only[bne_self_eq_false,aH,if_false];have hp:=h (aV vs.length).toArray ⟨by simp,by simp⟩ λi j I L=>by omega
  have e:((arrOf (SortSt.mk' general' (vs.toArray.zip vs.toArray) #[] 7 none)).map (·.2))=(((aV vs.length).toArray).toList.map λi=>vs.getD i Value.none).toArray:=by
   show (vs.toArray.zip vs.toArray).map (·.2)=_;have:vs.length=0\/vs.length=1:=by omega
   clear hp d keep l F h H S hsz q r
   rcases this with z|z
   ·rw[bc.mp z];simp
   ·obtain⟨v,z⟩:=iF.mp z;rw[z];simp
  rw[e];exact ac hp
 ·rw[if_neg q,if_neg q];have u:2<=vs.length:=by omega
  obtain⟨fs,kt,fl,Z⟩:=Qp vs xs S (M 00) λi v x f y=>(H i v x f y).keep keep
  refine a8 (kat_kind (T:=.type "bool") kt 00 (λv hv=>?_) 01 ?_)
  ·obtain⟨b,rfl⟩:=Z v hv;exact .now
  refine a8 (cI (kat_run rfl (vs:=vs) (Q:=λg k=>k={s with heap:=((s.heap.update a (cj λ_=>#[])).push (seqObj "tuple" vs.toArray 0)).push (seqObj "list" #[] 0)}/\failedOf g=none/\∃p:Array Nat,Pm vs.length p/\So (O:=strKind.toKeyOrd) (λi=>nB (xs.getD i [])) p vs.length/\(arrOf g).map (·.2)=(p.toList.map λi=>vs.getD i Value.none).toArray)
   (G:=λp k=>k={s with heap:=((s.heap.update a (cj λ_=>#[])).push _).push _}/\Pm vs.length p/\So (O:=strKind.toKeyOrd) (λi=>nB (xs.getD i [])) p vs.length) u r (λp g k z1 z2 z3 N=>⟨N.1,z3,p,N.2.1,N.2.2,kat_snds rfl z2⟩) ?_) ?_ λ_ _ z=>z)
  ·refine Gd.wp (J:=λk=>k={s with heap:=((s.heap.update a (cj λ_=>#[])).push _).push _}) (n:=vs.length) (λi j C k hi L I js hc=>?_) (λp k f js=>⟨js,f.1,f.2⟩) _ _ (Wq (λi j hi L e=>?_) u) rfl
   ·subst js;exact Ll X S (λi v x f y=>(H i v x f y).keep keep) hi L (hc _ rfl)
   ·have D:i<xs.length:=by omega
    have B:j<xs.length:=by omega
    exact(dm (i:=i) (j:=j) (h₀:=D) (h₁:=B) hn).mp (by simpa[D,B]using Qg e)
  ·rintro⟨⟨⟩,g⟩ k ⟨rfl,hf,p,f,y,U⟩
   refine a8 (seqEpoch_at d rfl (a8 (listUpdate_at d rfl ?_ (hsz2:=by rw[U,aJ,ag,bF,f.sz,c7];omega))))
   rw[hf];simp only[bne_self_eq_false,aH,if_false];rw[U];exact ac (h p f y)
end
section
variable {prog:Program}{w:World}{A:Around}{E:Value->Shared->Prop}{s:Shared}{it d:Addr}{i ep:Nat}{es:Array DictEntry}{od:Obj}{Q:Option Value->Shared->Prop}
def KH (c:s.heap.IsKeyIter it d i es.size ep)(e:s.heap.get? d=some od)(f:od.data=.dict es ep)(hi:i<es.size)
  (l:∀h',h'.IsKeyIter it d (i+1) es.size ep->b8 it s.heap h'->Q (some es[i].key) {s with heap:=h'}):wpAny 08 A (pyNext (.ref it)) Q E s:=by
 obtain⟨o,g,p,hd⟩:=id c;have a:=c.typeIs;unfold pyNext;refine a8 (ci (aX (name:=aE "__next__") a ce (aN ce a fD ?_ (fu _))));refine a8 (ac (a8 (a8 ?_)))
 first|refine a8 (wpAny_typeNameOfWhole_keyiter a (ac ?_))|refine a8 (wpAny_typeNameOf_keyiter a (ac ?_))
 refine a8 (dQ g hd ?_);have j:bq "dict_keyiterator"=false:=by decide
 simp only[j,aH,if_false];show wpAny _ _ (if (Value.ref d==Value.none)=true then _ else _) _ _ s
 rw[if_neg (show ¬((Value.ref d==Value.none)=true) from az)];refine a8 (ac (a8 (bP e f ?_)));rw[if_neg (by simp)]
 refine a8 (ac (a8 (cu e f ?_)));rw[if_neg (by simp)]
 refine ac ?_;simp only[show ¬((i:Int)<0) from by omega,if_false,a_,bZ hi]
 refine a8 ?_
 first|refine a8 (wpAny_typeNameOfWhole_keyiter a (ac ?_))|refine a8 (wpAny_typeNameOf_keyiter a (ac ?_))
 refine a8 (wpAny_isOneOf_keyiter a ?_);show wpAny _ _ (setField (.ref it) 1 (rawInt ((i:Int)+1))>>=_) _ _ s;refine a8 (dw g hd (by simp) ?_)
 have k:(s.heap.update it (eB (·.setIfInBounds 1 (rawInt ((i:Int)+1))))).IsKeyIter it d (i+1) es.size ep:=
  ⟨_,cz _ g (ff (cR hd _)),(hJ ..).trans p,by rw[cR hd];simp[rawInt]⟩
 refine a8 (bp ?_);refine a8 (wpAny_isOneOf_keyiter (s:={s with heap:=s.heap.update it (eB (·.setIfInBounds 1 (rawInt ((i:Int)+1))))}) k.typeIs ?_);show wpAny _ _ (pure es[i].key) _ _ _;exact ac (ac ⟨_,rfl,ac (l _ k (bH ..))⟩)
def xB (p:A.handled=none)(e:s.heap.IsKeyIter it d i es.size ep)(f:s.heap.get? d=some od)(g:od.data=.dict es ep)(q:es.size<=i)(l:∀h',eL it s.heap h'->Q none {s with heap:=h'}):wpAny 08 A (pyNext (.ref it)) Q E s:=by
 obtain⟨o,k,r,hd⟩:=id e;have c:=e.typeIs;unfold pyNext;refine a8 (ci (aX (name:=aE "__next__") c ce (aN ce c fD ?_ (fu _))));refine a8 (ac (a8 (a8 ?_)))
 first|refine a8 (wpAny_typeNameOfWhole_keyiter c (ac ?_))|refine a8 (wpAny_typeNameOf_keyiter c (ac ?_))
 refine a8 (dQ k hd ?_);have j:bq "dict_keyiterator"=false:=by decide
 simp only[j,aH,if_false];show wpAny _ _ (if (Value.ref d==Value.none)=true then _ else _) _ _ s
 rw[if_neg (show ¬((Value.ref d==Value.none)=true) from az)];refine a8 (ac (a8 (bP f g ?_)));rw[if_neg (by simp)]
 refine a8 (ac (a8 (cu f g ?_)));rw[if_neg (by simp)]
 refine ac ?_;simp only[show ¬((i:Int)<0) from by omega,if_false,a_,bW q]
 refine a8 ?_
 first|refine a8 (wpAny_typeNameOfWhole_keyiter c (ac ?_))|refine a8 (wpAny_typeNameOf_keyiter c (ac ?_))
 show wpAny _ _ (setField (.ref it) 0 .none>>=_) _ _ s;refine a8 (dw k hd (by simp) ?_)
 show wpAny _ _ (newExc (.type "StopIteration") []>>=_) _ _ _;refine a8 ?_;simp only[newExc,newTuple];refine a8 (aO ?_ (by size_fits))
 refine a8 (m:=firstArgMember _ _) (c9 (a:=Value.none) (by first|rfl|(simp only[firstArgMember];rfl)) ?_)
 refine aO ?_ (by size_fits)
 simp only[raiseNew];refine a8 (wpAny_handled ?_);rw[show A.in1.handled=none from p];refine a8 (ac (wpAny_throw ?_));refine a8 (cC (T:="StopIteration") (b:=true) ⟨_,ai _ rfl,rfl⟩ isSubtype_stop ?_);exact ac (l _ (((bH ..).extBut.push _).push _))
def Qr {Q:Value->Shared->Prop}(a:s.TypeIs (.ref d) "dict")(e:(d==sysModules)=false)(c:s.heap.get? d=some od)(hd:od.data=.dict es ep)
  (f:Q (.ref s.1.1.size) {s with heap:=s.heap.push {cls:=.type "dict_keyiterator",data:=.fields #[.ref d,.int 0 0,.int es.size 0,.int ep 0]} }):wpAny 08 A (pyIter (.ref d)) Q E s:=by
 refine wpAny_pyIter_slot a md (aN md a F.entry_dict_iter ?_ (F.args_dict_iter_1 _));unfold Builtin.«dict.__iter__»;refine a8 ?_;unfold Builtin.Dict.dictSlotNone;refine a8 (wpAny_notOrdered_dict a ?_);refine ac ?_;show wpAny _ _ (cA d>>=_) _ _ s;unfold cA;rw[if_neg (by rw[e];exact az)]
 refine a8 (ac (a8 (bP c hd (a8 (cu c hd (a8 ?_))))));refine aO (ac ⟨_,rfl,"dict_keyiterator",_,⟨_,ai _ rfl,rfl⟩,ce.lookup,?_⟩);simpa[rawInt]using f
def Qs (q:A.handled=none)(I:Addr)(k:d≠I)(f:od.data=.dict es ep):Walks prog w A I [I,d] [I] es.size (λi v=>∃h:i<es.size,v=es[i].key) (λi h=>h.IsKeyIter I d i es.size ep/\h.get? d=some od) where
 sub:=λb a=>by simp at a;simp[a]
 frame:=λ_ _ _ st p=>⟨st.1.at λo e=>p I (by simp) o e,p d (by simp) _ st.2⟩
 item:=λi s Q E hi st g=>KH st.1 st.2 f hi λh' c j=>g _ h' s.toks ⟨hi,rfl⟩ ⟨c,j.extBut _ _ k st.2⟩ λb o a e=>j.extBut b o (λh=>a (by simp[h])) e
 done:=λs Q E st g=>xB q st.1 st.2 f (aq _) λh' l=>g h' s.toks λb o a e=>l b o (λh=>a (by simp[h])) e
 self:=λ_ _ _ _ st g=>wpAny_pyIter_keyiter st.1 g
def xC (a:od.data=.dict es ep)(c:od.cls=.type "dict")(g:(d==sysModules)=false):KdlSrc prog w "dict" d d es.size (λi v=>∃h:i<es.size,v=es[i].key) (λh=>h.get? d=some od) where
 type:=λ_ h=>⟨_,h,c⟩
 there:=λ_ h=>⟨av h,av h⟩
 keep:=λ_ _ h f=>f d (.inl rfl) _ h
 notList:=by decide
 notTuple:=by decide
 hint:=λ_ _ _ _ h e=>kdl_hint_dict ⟨_,h,c⟩ e
 iter:=λ_ _ j h=>⟨_,_,(λ_ _ e=>Qr ⟨_,h,c⟩ g h a e),Qs j _ (aD (av h)) a,⟨⟨_,ai _ rfl,rfl,rfl⟩,aa _ h⟩⟩
def uz {R:List Value->Shared->Prop}(C:A.handled=none)(x:s.heap.get? d=some od)(p:od.data=.dict es ep)(G:od.cls=.type "dict")(B:(d==sysModules)=false)(hz:es.size<=sizeLine)
  (h:∀(h':Heap) (tk:Nat),(∀b o,s.heap.get? b=some o->h'.get? b=some o)->s.1.1.size<=h'.objs.size->R (es.toList.map (·.key)) {s with heap:=h',toks:=tk}):wpAny 08 A (collect (.ref d)) R E s:=by
 unfold collect;refine a8 (wpAny_runValue (bJ entry_proto_collect' ?_));refine a8 (m:=newList []) (aO (ac ⟨cg PySem.F.plain_list_iadd _,bJ entry_list_iadd' ?_⟩));have g:=av x;show wpAny _ A.in1 (fM _ (.ref d) _) _ _ _;refine cI (kdl_extend (R:=λq j=>q=.ok (.ret (.ref s.1.1.size))/\wpAny 08 A (do
   let o ←load s.1.1.size
   match o.data with
   |.seq xs _=>pure xs.toList
   |_=>unsupported "internal:collect") R E j) (s:={s with heap:=s.heap.push {cls:=.type "list",data:=.seq #[]} }) (xC p G B) C (aa _ x) s.1.1.size (cM g) (cM g) _ 0 (ai _ rfl) (λh' tk acc I kp u a=>⟨rfl,a8 (wpAny_load u ?_)⟩) hz) (λk j z=>?_) λe j z=>by cases z.1
 ·have e:acc.toList=es.toList.map (·.key):=by
   refine cX λi=>?_;rw[aw]
   by_cases hi:i<acc.size
   ·obtain⟨D,y⟩:=a.2 i acc[i] (bZ hi);simp[hi,D,y]
   ·have:=a.1;rw[aS (by simpa using hi),aS (by simp;omega)];rfl
  show wpAny _ _ (pure acc.toList) _ _ _;rw[e];exact ac (h h' tk (λb o v=>kp b o (aD (av v)) (aa _ v)) (eO (av u)))
 ·cases k with
  |done f=>
   obtain⟨r,l⟩:=z;cases r;exact l
  |again c=>
   refine⟨z.1,eQ z.2 λq j ⟨r,l⟩=>?_⟩;subst r;exact l
def Ue {xs:List (List Bool)}{Q:Value->Shared->Prop}(M:A.units+2<cLine)(B:A.handled=none)(I:s.heap.get? d=some od)(k:od.data=.dict es ep)(J:od.cls=.type "dict")(y:(d==sysModules)=false)(hz:es.size<64)(u:es.size=xs.length)
  (H:∀(i:Nat) (v:Value) (x:List Bool),(es.toList.map (·.key))[i]?=some v->xs[i]?=some x->KG prog w s.heap v x) (hn:xs.Nodup) (j:2<=xs.length->∀x∈xs,x≠[])
  (h:∀(p:Array Nat) (h':Heap) (tk:Nat) (D:Addr) (n:Nat),Pm xs.length p->So (O:=strKind.toKeyOrd) (λi=>nB (xs.getD i [])) p xs.length->(∀b o,s.heap.get? b=some o->h'.get? b=some o)->s.1.1.size<=D->h'.get? D=some (seqObj "list" (p.toList.map λi=>(es.toList.map (·.key)).getD i Value.none).toArray n)->Q (.ref D) {s with heap:=h',toks:=tk}):
  wpAny 08 A (call (.builtin "sorted") [.ref d]) Q E s:=by
 have F:(64:Nat)<=sizeLine:=by decide
 refine call_function_entry kind_sorted plain_sorted entry_sorted (args_sorted1 _) ?_;refine a8 (ac (a8 (uz B I k J y 00 λl tk r C=>a8 (wpAny_newList ?_ (by simp;omega)))))
 have a:(l.push (seqObj "list" (es.toList.map (·.key)).toArray 0)).get? l.objs.size=some _:=ai _ rfl;refine a8 (bp (aN slot_list_sort ⟨_,a,rfl⟩ entry_list_sort (Qq (xs:=xs) (by show A.units+1+1<_;omega) a (by simp[u]) (λi v x f g=>(H i v x f g).keep λb o e _=>aa _ (r b o e)) hn j (by simpa using hz) λp f g=>⟨_,rfl,ac ⟨_,rfl,?_⟩⟩) (args_list_sort _)))
 obtain⟨n,G⟩:=sortedHeap_at a;have e:(es.toList.map (·.key)).length=xs.length:=by simp[u]
 rw[e]at f g;refine h p _ tk _ n f g (λb o L=>?_) C G;have q:=r b o L;have c:=av q;exact(sortedHeap_old (aD c) (by rw[size_push'];exact c8 c)).trans (aa _ q)
end
end PV
namespace PV
open PySem PySem.Spec PyProof.Rows L2 PySem.W
noncomputable abbrev BE:=List Bool×List T×T
def nw (k:List Bool)(a:List BE):Option BE:=a.find? λe=>decide (e.1=k)
noncomputable def pR:T:=.tup [.int 0,.int 1]
def uA (k:List Bool)(a:List BE):T:=((nw k a).map (·.2.2)).getD pR
noncomputable def Vi:T->Bool
 |.tup [.int _,.int _]=>true
 |_=>false
def wX (k:List Bool)(w:T)(t:T)(a:List BE):List BE:=if (nw k a).isSome=true then a.map (λe=>if e.1=k then (e.1,e.2.1++[w],t)else e)else a++[(k,[w],t)]
def ot (gw:T->R T)(gs:T->T->R T):List T->List BE->R (List BE)
 |[],a=>.ok a
 |w::c,a=>(gw w).bind λt=>match t with
  |.tup ts=>(match Z9 ts with
   |some k=>(gs (uA k a) w).bind λt'=>if Vi t'=true then ot gw gs c (wX k w t' a)else .bad
   |none=>.bad)
  |_=>.bad
def ya {k:List Bool}{a:List BE}{e:BE}(h:nw k a=some e):e∈a/\e.1=k:=⟨g7 h,by simpa using List.find?_some h⟩
def Uf {a:List BE}(nd:(a.map (·.1)).Nodup):∀{e:BE},e∈a->nw e.1 a=some e:=by
 induction a with
 |nil=>intro e h;cases h
 |cons f a c=>
  intro e h;rw[ao,cn]at nd;unfold nw;rw[bA];rcases au.mp h with rfl|h
  ·simp
  ·have:¬f.1=e.1:=λz=>nd.1 (by rw[z];exact ay.mpr ⟨e,h,rfl⟩)
   simp only[this,decide_false];exact c nd.2 h
def yb {k:List Bool}{a:List BE}(h:nw k a=none):k∉a.map (·.1):=λz=>by
 obtain⟨e,c,rfl⟩:=ay.mp z;have:=List.find?_eq_none.mp h e c;simp at this
theorem jw (f:List Bool->Addr)(g:List Bool->V)(k:List Bool):∀a:List BE,Ws (a.map λe=>(kI e.1,f e.1,g e.1)) (kI k)=(nw k a).map λe=>g e.1
 |[]=>rfl
 |e::a=>by
  rw[ao];unfold nw;rw[bA]
  by_cases h:e.1=k
  ·rw[JB (by show kI e.1=kI k;rw[h])]
   simp[h]
  ·rw[JC (λz=>h (y0 z))];simp only[h,decide_false];exact jw f g k a
def FrV (H:Hp)(v:V)(t:T):Prop:=∃p a c,v=.ref p/\t=.tup [.int a,.int c]/\H p=some (.tup [.int a,.int c])
def FrV.rep {H:Hp}{v:V}{t:T}:FrV H v t->Rep H v t
 |⟨p,a,c,e,d,f⟩=>by subst e d;exact .tup f (.cons (.int a) (.cons (.int c) .nil))
def FrV.of {H:Hp}{v:V}{t:T}(r:Rep H v t)(h:Vi t=true):FrV H v t:=by
 unfold Vi at h;split at h
 ·rename_i a c;cases r with
  |@tup l i _ e d=>
   cases d with
   |cons f d=>
    cases f;cases d with
    |cons g d=>
     cases g;cases d;exact⟨l,a,c,rfl,rfl,e⟩
 ·cases h
structure Bk (H0 Bc H:Hp) (n:Nat) (d ds l0:Addr) (es:List BE) (af lf:List Bool->Addr) (sf:List Bool->V):Prop where
 nd:(es.map (·.1)).Nodup
 hd:H d=some (.dT (es.map λe=>(kI e.1,af e.1,.ref (lf e.1))))
 hs:H ds=some (.dT (es.map λe=>(kI e.1,af e.1,sf e.1)))
 hf:H l0=some (.lst (es.map λe=>.ref (af e.1)))
 en:∀e∈es,H (af e.1)=some (.tup (e.1.map V.bl))/\(∃xs,H (lf e.1)=some (.lst xs)/\zr Bc xs e.2.1)/\e.2.1.length<=n/\FrV H (sf e.1) e.2.2/\lf e.1≠l0/\H0 (lf e.1)=none/\Bc (lf e.1)=none
 inj:∀e∈es,∀e'∈es,lf e.1=lf e'.1->e.1=e'.1
 ne:d≠ds
section
variable {H0 Bc H H':Hp}{n:Nat}{d ds l0:Addr}{es:List BE}{af lf:List Bool->Addr}{sf:List Bool->V}
def Bk.same (b:Bk H0 Bc H n d ds l0 es af lf sf)(s:zi H H'):Bk H0 Bc H' n d ds l0 es af lf sf where
 nd:=b.nd
 hd:=s _ _ b.hd
 hs:=s _ _ b.hs
 hf:=s _ _ b.hf
 en:=λe l=>by
  obtain⟨j,⟨xs,a,c⟩,k,⟨p,x,y,i,f,o⟩,g⟩:=b.en e l;exact⟨s _ _ j,⟨xs,s _ _ a,c⟩,k,⟨p,x,y,i,f,s _ _ o⟩,g⟩
 inj:=b.inj
 ne:=b.ne
def Bk.ndl (b:Bk H0 Bc H n d ds l0 es af lf sf){e:BE}(c:e∈es):lf e.1≠d/\lf e.1≠ds:=by
 obtain⟨_,⟨xs,a,_⟩,_⟩:=b.en e c;exact⟨ZL a b.hd (λz=>nomatch z),ZL a b.hs (λz=>nomatch z)⟩
def Bk.old (b:Bk H0 Bc H n d ds l0 es af lf sf){k:List Bool}{e:BE}(G:nw k es=some e){u v:V}{w t:T}(ru:Rep Bc u w)(S:FrV H v t){xs:List V}(P:H (lf k)=some (.lst xs)){bb:Addr}:
  Bk H0 Bc (kj (kj H (lf k) (.lst (xs++[u]))) ds (.dT (Vh (es.map λe=>(kI e.1,af e.1,sf e.1)) (kI k) bb v))) (n+1) d ds l0 (wX k w t es) af lf (λj=>if j=k then v else sf j):=by
 obtain⟨J,rfl⟩:=ya G;obtain⟨U,Z⟩:=b.ndl J;obtain⟨_,⟨xs',D,h3⟩,_,_,O,_⟩:=b.en e J;rw[P]at D;cases D;have up:∀c o,c≠lf e.1->c≠ds->H c=some o->kj (kj H (lf e.1) (.lst (xs++[u]))) ds (.dT (Vh (es.map λe=>(kI e.1,af e.1,sf e.1)) (kI e.1) bb v)) c=some o:=λc o X D h=>by rw[zg D,zg X];exact h
 have q:wX e.1 w t es=es.map λf=>if f.1=e.1 then (f.1,f.2.1++[w],t)else f:=by unfold wX;rw[G];rfl
 have a:∀f:BE,(if f.1=e.1 then (f.1,f.2.1++[w],t)else f).1=f.1:=λf=>by split<;>rfl
 have l:∀c F,H c=some (.tup F)->c≠lf e.1/\c≠ds:=λc F h=>⟨ZL h P (λz=>nomatch z),ZL h b.hs (λz=>nomatch z)⟩;refine⟨?_,?_,?_,?_,?_,?_,b.ne⟩
 ·rw[q,aK,show ((λe:BE=>e.1) ∘λf:BE=>if f.1=e.1 then (f.1,f.2.1++[w],t)else f)=λf=>f.1 from funext a];exact b.nd
 ·refine(up _ _ (aT U) b.ne b.hd).trans ?_;rw[q,aK];refine congrArg some (congrArg HO.dT (b5 λf _=>?_));show _=(kI (_:BE).1,af (_:BE).1,V.ref (lf (_:BE).1));rw[a]
 ·rw[zf];refine congrArg some (congrArg HO.dT ?_);unfold Vh;rw[jw,G,q,aK,aK];show (if true=true then _ else _)=_
  rw[if_pos rfl];refine b5 λf _=>?_;show (if kI f.1=kI e.1 then (kI f.1,af f.1,v)else (kI f.1,af f.1,sf f.1))=(kI (_:BE).1,af (_:BE).1,if (_:BE).1=e.1 then v else sf (_:BE).1)
  rw[a]
  by_cases h:f.1=e.1
  ·rw[if_pos h,if_pos (by rw[h])]
  ·rw[if_neg h,if_neg λz=>h (y0 z)]
 ·refine(up _ _ (aT O) (ZL b.hf b.hs λz=>nomatch z) b.hf).trans ?_;rw[q,aK];refine congrArg some (congrArg HO.lst (b5 λf _=>?_));show _=V.ref (af (_:BE).1);rw[a]
 ·intro g C;rw[q]at C;obtain⟨f,r,rfl⟩:=ay.mp C;obtain⟨L,⟨F,g2,Q⟩,g4,⟨p,x,y,M,I,i⟩,g6⟩:=b.en f r;rw[a];refine⟨up _ _ (l _ _ L).1 (l _ _ L).2 L,?_,?_,?_,g6⟩
  ·by_cases h:f.1=e.1
   ·rw[if_pos h];refine⟨xs++[u],by rw[h,zg Z,zf],?_⟩
    have:f=e:=by
     have:=Uf b.nd r;rw[h,G]at this;exact(aF this).symm
    rw[this];exact h3.append (.cons ru .nil)
   ·rw[if_neg h];exact⟨F,up _ _ (λz=>h (b.inj f r e J z)) (b.ndl r).2 g2,Q⟩
  ·split
   ·rw[aB];exact me g4
   ·omega
  ·by_cases h:f.1=e.1
   ·rw[if_pos h,if_pos h];obtain⟨p,x,y,M,I,i⟩:=S;exact⟨p,x,y,M,I,up _ _ (l _ _ i).1 (l _ _ i).2 i⟩
   ·rw[if_neg h,if_neg h];exact⟨p,x,y,M,I,up _ _ (l _ _ i).1 (l _ _ i).2 i⟩
 ·intro g C g' B z;rw[q]at C B;obtain⟨f,r,rfl⟩:=ay.mp C;obtain⟨f',N,rfl⟩:=ay.mp B;rw[a,a]at*;exact b.inj f r f' N z
def Bk.new (b:Bk H0 Bc H n d ds l0 es af lf sf){k:List Bool}(X:nw k es=none){bb p1 p2:Addr}(G:H' d=some (.dT ((es.map λe=>(kI e.1,af e.1,V.ref (lf e.1)))++[(kI k,bb,.ref p1)])))(J:H' ds=some (.dT ((es.map λe=>(kI e.1,af e.1,sf e.1))++[(kI k,bb,.ref p2)])))(Z:H' l0=some (.lst ((es.map λe=>V.ref (af e.1))++[.ref bb])))
  (M:H' bb=some (.tup (k.map V.bl))) (D:H' p1=some (.lst [])) (S:H' p2=some (.tup [.int 0,.int 1])) (up:∀c o,H c=some o->c≠d->c≠ds->c≠l0->H' c=some o) (r:H p1=none) (I:H0 p1=none) (L:Bc p1=none):
  Bk H0 Bc H' n d ds l0 (es++[(k,[],pR)]) (λj=>if j=k then bb else af j) (λj=>if j=k then p1 else lf j) (λj=>if j=k then .ref p2 else sf j):=by
 have v:=yb X;have a:∀e∈es,¬e.1=k:=λe h z=>v (ay.mpr ⟨e,h,z⟩);have u:∀c i,H c=some (.tup i)->H' c=some (.tup i):=λc i h=>up _ _ h (ZL h b.hd (λz=>nomatch z)) (ZL h b.hs (λz=>nomatch z)) (ZL h b.hf (λz=>nomatch z));have pl:p1≠l0:=λz=>by have:=b.hf;rw[←z,r]at this;cases this
 have pn:∀e∈es,lf e.1≠p1:=λe h z=>by
  obtain⟨_,⟨xs,f,_⟩,_⟩:=b.en e h;rw[z,r]at f;cases f
 refine⟨?_,?_,?_,?_,?_,?_,b.ne⟩
 ·rw[bm,hV];exact⟨b.nd,by simp,λx q y hy z=>v (by rw[ao,bO,ax]at hy;rw[z,hy]at q;exact q)⟩
 ·rw[G,bm];refine congrArg some (congrArg HO.dT (congr (congrArg _ (b5 λe h=>?_)) (by simp)))
  rw[if_neg (a e h),if_neg (a e h)]
 ·rw[J,bm];refine congrArg some (congrArg HO.dT (congr (congrArg _ (b5 λe h=>?_)) (by simp)))
  rw[if_neg (a e h),if_neg (a e h)]
 ·rw[Z,bm];refine congrArg some (congrArg HO.lst (congr (congrArg _ (b5 λe h=>?_)) (by simp)))
  rw[if_neg (a e h)]
 ·intro e h;rcases bI.mp h with h|h
  ·obtain⟨F,⟨xs,f,P⟩,U,⟨p,x,y,Q,B,N⟩,l,O⟩:=b.en e h;obtain⟨w,C⟩:=b.ndl h;rw[if_neg (a e h),if_neg (a e h),if_neg (a e h)];exact⟨u _ _ F,⟨xs,up _ _ f w C l,P⟩,U,⟨p,x,y,Q,B,u _ _ N⟩,l,O⟩
  ·rw[ax.mp h,if_pos rfl,if_pos rfl,if_pos rfl];exact⟨M,⟨[],D,.nil⟩,aU _,⟨p2,0,1,rfl,rfl,S⟩,pl,I,L⟩
 ·intro e h g h' z;rcases bI.mp h with h|h<;>rcases bI.mp h' with h'|h'
  ·rw[if_neg (a e h),if_neg (a g h')]at z;exact b.inj e h g h' z
  ·rw[ax.mp h',if_neg (a e h),if_pos rfl]at z;exact absurd z (pn e h)
  ·rw[ax.mp h,if_neg (a g h'),if_pos rfl]at z;exact absurd z.symm (pn g h')
  ·rw[ax.mp h,ax.mp h']
end
def Ww {k:List Bool}{a:List BE}(h:nw k a=none):nw k (a++[(k,[],pR)])=some (k,[],pR):=by
 unfold nw at h⊢;rw[List.find?_append,h];simp
def Qt {k:List Bool}{a:List BE}{w t:T}(h:nw k a=none):wX k w t (a++[(k,[],pR)])=wX k w t a:=by
 have d:∀e∈a,¬e.1=k:=λe c z=>yb h (ay.mpr ⟨e,c,z⟩);unfold wX;rw[Ww h,h];show (if true=true then _ else _)=(if false=true then _ else _)
 rw[if_pos rfl,if_neg 01,bm]
 refine congr (congrArg _ ((b5 λe c=>if_neg (d e c)).trans (List.map_id' _))) (by simp)
def Qu {k:List Bool}{a:List BE}(h:nw k a=none):uA k (a++[(k,[],pR)])=uA k a:=by
 unfold uA;rw[Ww h,h];rfl
end PV
namespace PV
open PySem PySem.Spec PyProof.Rows L2 PySem.W PySem.Calls
section
variable {X:Cx}
def Yk (hu:X.A.units+64<cLine)(hh:X.A.handled=none):Zc X (.builtin "sorted") (λvs H Q=>∃(d:Addr) (a:List BE) (af:List Bool->Addr) (G:List Bool->V) (ts:List T),vs=[.ref d]/\H d=some (.dT (a.map λe=>(kI e.1,af e.1,G e.1)))/\(a.map (·.1)).Nodup/\(∀e∈a,H (af e.1)=some (.tup (e.1.map V.bl)))/\a.length<64/\(2<=a.length->∀e∈a,e.1≠[])/\ts.map kW=a.map (·.1)/\∀r,H r=none->Q (.ref r) (kj H r (.lst ((wE ts).map λt=>.ref (af (kW t)))))):=by
 intro pins s σ H vs us Q I B h;obtain⟨d,a,af,G,ts,rfl,hd,nd,hk,L,C,f,q⟩:=h;obtain⟨u,rfl,ru⟩:=Zk B;obtain rfl:u=Value.ref d:=ru;obtain⟨z,hm,xs,g,o,y,ep,g1,g2,g3,P,g5⟩:=uw I.hok hd;have hl:y.size=a.length:=by rw[←bF,P,ag,←db g,ag]
 have kv:∀(i:Nat) (e:BE),a[i]?=some e->(y.toList.map (·.key))[i]?=some (.ref (af e.1)):=λi e J=>by
  obtain⟨v,F,_,_⟩:=jO g i (kI e.1,af e.1,G e.1) (by rw[aw,J];rfl)
  rw[aw,P,aw,F];rfl
 refine Ue (xs:=a.map (·.1)) 00 hh g1 g3 g2.1 hm 00 (by rw[hl,ag]) (λi v x U k=>?_) nd (λh2 x hx=>?_) λp h' tk D n p1 p2 kp S N=>?_
 ·rw[aw]at k;cases e:a[i]? with
  |none=>rw[e]at k;cases k
  |some O=>
   rw[e]at k;cases k;rw[kv i O e]at U;cases U;obtain⟨_,M,B,⟨o2,F,f2,n2,f3⟩,_⟩:=I.hok _ _ (hk O (bR e));exact⟨_,rfl,o2,M.toArray,n2,F,f2,f3,by simpa using wb B⟩
 ·obtain⟨e,J,rfl⟩:=ay.mp hx;exact C (by simpa using h2) e J
 ·have tl:ts.length=a.length:=by have:=congrArg eJ f;simpa using this
  rw[ag,←tl]at p1 p2;rw[←f]at p2;have pw:=D4 (f▸nd) p1 p2;have c:∀i∈p.toList,i<ts.length:=λi hi=>bu.mp (p1.pm.mem_iff.mp hi);refine⟨.ref D,kj H D (.lst ((wE ts).map λt=>.ref (af (kW t)))),I.laid (t':=tk) kp S ⟨?_,p.toList.map λi=>(y.toList.map (·.key)).getD i Value.none,n,?_,by simpa using N⟩,rfl,q D (I.hok.fresh S)⟩
  ·rw[ag,(ZY ts).length_eq,tl];exact eO (aL L 01)
  ·rw[←pw,aK]
   clear pw p2 p1 N
   revert c;generalize p.toList=Z;intro c
   induction Z with
   |nil=>exact .nil
   |cons i Z ih=>
    have hi:=c i ae;have w:i<a.length:=by omega
    refine .cons ?_ (ih λj hj=>c j (a9 _ hj));have e1:=kv i a[i] (ah w);have e2:kW (ts.getD i T.non)=a[i].1:=by
     have:=congrArg (λl=>l[i]?) f;simp only[aw,ah hi,ah w,Option.map_some]at this;rw[bv,ah hi];exact aF this
    show RelV (.ref (af (kW (ts.getD i T.non)))) ((y.toList.map (·.key)).getD i Value.none);rw[e2,bv,e1];rfl
end
end PV
namespace PV
open PySem PySem.Spec PyProof.Rows L2 PySem.W
section
variable {X:Cx}{tg iter elt:Expr}{scope:Scope}{N':List Str}{k:Nat}{js:List Nat}{pos:Pos}{wi:TI}{g:TG}{te:TE}
def yc (S:rR X scope)(u:G5 X scope N' k js)(N:X.calm=true)(hi:PI X tg iter wi)(O:qx X scope N' λf=>PG f tg g)(M:Xg X scope N' (λ_ _ _=>False) λf=>PE f elt te)(G:∀x,foldedSetIterable iter X.env x=pure x:=by intro _;rfl):
  PE X (.ListComp elt [⟨tg,iter,[],0⟩] scope pos) (λl H Q=>wi l H λJ p=>∀D,p D=none->∃W,(∃m,W 0 m [] (Jy k js l) (kj p D (.lst [])))/\wI J D g (λ_ H Q=>Q true H) te (λ_ d=>Q (.ref D) d) W):=by
 intro q s l H Q I h;refine jM (ZU rfl) (F:=λD d=>Q (.ref D) d) S u N hi O (λ_ _ _ _ _ _=>qv) M I h ?_ G;intro D U d P w C B v y a c i;obtain⟨m,r⟩:=i;refine⟨m,r,λh' j=>⟨.ref D,d,?_,rfl,C⟩⟩;exact w.turned (λb o L e=>j.extBut b o L e) B (aT y).symm (.inr v) a c
end
section
variable {K:aj}{H1:Hp}{d ds D l:Addr}{es:List BE}{af lf:List Bool->Addr}{sf:List Bool->V}{σ0:Sg}
def xD (nd:(es.map (·.1)).Nodup)(u:es.length<1000)(hd:H1 d=some (.dT (es.map λe=>(kI e.1,af e.1,.ref (lf e.1)))))(O:H1 l=some (.lst (es.map λe=>.ref (af e.1))))(N:∀e∈es,H1 (af e.1)=some (.tup (e.1.map V.bl)))(y:H1 D=none)(M:σ0[1]?=some (some (V.ref d)))(J:σ0.length=2){F:Hp->Prop}
  (q:∀k,zi H1 k->k D=some (.lst (es.map λe=>.ref (lf e.1)))->F k):
  ∃W,(∃m,W 0 m [] σ0 (kj H1 D (.lst [])))/\wI (oX K l) D (Zh 0) (λ_ H Q=>Q true H) (nQ Wv (Za 1) (Za 0)) (λ_ k=>F k) W:=by
 refine⟨λi m r v H=>m=es.length-i/\i<=es.length/\r=(es.take i).map (λe=>V.ref (lf e.1))/\v[1]?=some (some (V.ref d))/\v.length=2/\zi H1 H/\H D=some (.lst r),⟨es.length,by simp,aU _,by simp,M,J,zi.new y _,zf⟩,?_⟩
 rintro i m r v H ⟨rfl,hi,rfl,G,L,p,a⟩
 refine⟨a,?_⟩;have f:=p _ _ O
 by_cases c:i<es.length
 ·have I:es[i]?=some es[i]:=ah c;have C:(es.map λe=>V.ref (af e.1))[i]?=some (.ref (af es[i].1)):=by rw[aw,I];rfl
  refine .inr ⟨⟨_,_,SqL.of f,C⟩,λx P hy=>?_⟩;obtain⟨rfl,hy⟩:=hy;have hy:=hy _ (SqL.of f);rw[C]at hy;cases hy;have B:=bR I;refine⟨.ref d,by rw[ak 01];exact G,.ref (af es[i].1),aI 00,d,af es[i].1,_,kI es[i].1,.ref (lf es[i].1),⟨rfl,rfl,p _ _ hd,by rw[Ye];exact p _ _ (N _ B)⟩,by rw[jw (g:=λj=>.ref (lf j)),Uf nd B];rfl,a,?_,es.length-(i+1),by omega,rfl,c,?_,by rw[ak 01];exact G,by rw[aZ];exact L,λb o w=>?_,zf⟩
  ·rw[ag,du];exact b9 (mD _ _) (aL (dX c u) 01)
  ·rw[←i7 c,bm];rfl
  ·rw[zg (λz=>by rw[z,y]at w;cases w)];exact p _ _ w
 ·have e:i=es.length:=by omega
  subst e;rw[io]at a;exact .inl ⟨⟨_,SqL.of f,by rw[ag];exact aq _⟩,q H p a⟩
def YB (e:BE):T:=.tup [.tup (e.1.map T.bl),.int (e.2.1.length:Int),e.2.2]
theorem Qv:∀k:List Bool,Z9 (k.map T.bl)=some k
 |[]=>rfl
 |b::k=>by
  show (Z9 (k.map T.bl)).map (λl=>b::l)=_;rw[Qv k];rfl
def Xv (e:BE):kW (YB e)=e.1:=by
 show (Z9 (e.1.map T.bl)).getD []=_;rw[Qv];rfl
def KI (es:List BE):(es.map YB).map kW=es.map (·.1):=by
 rw[aK];exact b5 λe _=>Xv e
abbrev ro (K:aj):List V->Hp->VK->Prop:=λxs H Q=>∃p ys,xs=[.ref p]/\(SqL K H p ys\/SqT K H p ys)/\Q (.int ys.length) H
def xE {Bc H0:Hp}{n:Nat}{l0:Addr}(b:Bk H0 Bc H1 n d ds l0 es af lf sf)(sBc:zi Bc H1)(h64:es.length<1000)(hl:H1 l=some (.lst ((wE (es.map YB)).map λt=>.ref (af (kW t)))))(U:H1 D=none)(X:σ0[1]?=some (some (V.ref d)))(h2:σ0[2]?=some (some (V.ref ds)))(h3:σ0.length=3){F:Hp->Prop}
  (q:∀G k,zi H1 G->G D=some (.lst k)->zr G k (wE (es.map YB))->F G):
  ∃W,(∃m,W 0 m [] σ0 (kj H1 D (.lst [])))/\wI (oX K l) D (Zh 0) (λ_ H Q=>Q true H) (k7 (Zp (Za 0) (Zp (rj (ro K) (Zp (nQ Wv (Za 1) (Za 0)) WQ)) (Zp (nQ Wv (Za 2) (Za 0)) WQ)))) (λ_ G=>F G) W:=by
 have y:(wE (es.map YB)).length=es.length:=by rw[(ZY _).length_eq,ag]
 generalize hrs:wE (es.map YB)=rs at*;have hm:∀t∈rs,∃e∈es,t=YB e:=λt ht=>by
  rw[←hrs]at ht;obtain⟨e,Z,z⟩:=ay.mp ((ZY _).mem_iff.mp ht);exact⟨e,Z,z.symm⟩
 refine⟨λi m k S H=>m=es.length-i/\i<=es.length/\k.length=i/\S[1]?=some (some (V.ref d))/\S[2]?=some (some (V.ref ds))/\S.length=3/\zi H1 H/\H D=some (.lst k)/\∃I,zi H1 I/\zi I H/\I D=none/\zr I k (rs.take i),⟨es.length,by simp,aU _,rfl,X,h2,h3,zi.new U _,zf,H1,zi.refl _,zi.new U _,U,by simpa using zr.nil⟩,?_⟩
 rintro i m k S H ⟨rfl,hi,P,c1,c2,c3,v,u,I,sb1,C,sb3,rp⟩
 refine⟨u,?_⟩;have B:=v _ _ hl
 by_cases N:i<es.length
 ·have w:i<rs.length:=by omega
  have Z:rs[i]?=some rs[i]:=ah w;obtain⟨e,M,ee⟩:=hm _ (bR Z);have hx:(rs.map λt=>V.ref (af (kW t)))[i]?=some (.ref (af e.1)):=by rw[aw,Z,ee];show some (V.ref (af (kW (YB e))))=_;rw[Xv]
  refine .inr ⟨⟨_,_,SqL.of B,hx⟩,λx J hy=>?_⟩;obtain⟨rfl,hy⟩:=hy;have hy:=hy _ (SqL.of B);rw[hx]at hy;cases hy;obtain⟨g1,⟨xs,g2,g3⟩,_,fv,_⟩:=b.en e M;have fv':=fv;obtain⟨p,a,c,e1,e2,e3⟩:=fv';have ab:=Uf b.nd M;have s0:(S.set 0 (some (V.ref (af e.1))))[0]?=some (some (V.ref (af e.1))):=aI 00
  have kk:J (af e.1)=some (.tup ((kI e.1).map kV)):=by rw[Ye];exact v _ _ g1
  refine⟨.ref (af e.1),s0,.ref d,by rw[ak 01];exact c1,.ref (af e.1),s0,d,af e.1,_,kI e.1,.ref (lf e.1),⟨rfl,rfl,v _ _ b.hd,kk⟩,by rw[jw (g:=λj=>.ref (lf j)),ab];rfl,lf e.1,xs,rfl,.inl (SqL.of (v _ _ g2)),.ref ds,by rw[ak 01];exact c2,.ref (af e.1),s0,ds,af e.1,_,kI e.1,sf e.1,⟨rfl,rfl,v _ _ b.hs,kk⟩,by rw[jw (g:=sf),ab];rfl,show 3<=sizeLine by decide,λr hr=>?_⟩
  have rD:r≠D:=λz=>by rw[z,u]at hr;cases hr
  have nD:∀c o,c≠D->J c=some o->kj (kj J r (.tup [.ref (af e.1),.int xs.length,sf e.1])) D (.lst (k++[.ref r])) c=some o:=λc o f h=>by rw[zg f,zg (λz=>by rw[z,hr]at h;cases h)];exact h
  have O:∀c o,H1 c=some o->c≠D:=λc o h z=>by rw[z,U]at h;cases h
  refine⟨by rw[zg (aT rD)];exact u,?_,es.length-(i+1),by omega,rfl,N,by rw[aB,P];rfl,by rw[ak 01];exact c1,by rw[ak 01];exact c2,by rw[aZ];exact c3,λc o f=>nD c o (O c o f) (v _ _ f),zf,λc=>if c=D then none else kj J r (.tup [.ref (af e.1),.int xs.length,sf e.1]) c,λc o f=>?_,λc o f=>?_,if_pos rfl,?_⟩
  ·rw[P];exact aL (dX N h64) 01
  ·dsimp only;rw[if_neg (O c o f),zg (λz=>by rw[z]at f;have:=v _ _ f;rw[hr]at this;cases this)];exact v _ _ f
  ·dsimp only at f;split at f
   ·cases f
   ·rename_i hne;rw[zg hne];exact f
  ·have L:∀c o,I c=some o->(if c=D then none else kj J r (HO.tup [.ref (af e.1),.int xs.length,sf e.1]) c)=some o:=λc o f=>by
    rw[if_neg (λz=>by rw[z,sb3]at f;cases f),zg (λz=>by have:=C _ _ f;rw[z,hr]at this;cases this)];exact C _ _ f
   rw[←i7 w];refine(rp.mono L).append (.cons ?_ .nil);rw[ee];have X:∀c o,H1 c=some o->(if c=D then none else kj J r (HO.tup [.ref (af e.1),.int xs.length,sf e.1]) c)=some o:=λc o f=>L c o (sb1 _ _ f)
   refine .tup (by rw[if_neg rD,zf]) (.cons (.tup (X _ _ g1) (Ud _)) (.cons ?_ (.cons (fv.rep.mono X) .nil)))
   rw[g3.length];exact .int _
 ·have e:i=es.length:=by omega
  subst e;rw[←y,io]at rp;exact .inl ⟨⟨_,SqL.of B,by rw[ag,y];exact aq _⟩,q H k v u (rp.mono C)⟩
end
def Vj (ρ:En):Prop:=∀(j:Nat) (a:Sl),ρ[j]?=some a->a=.un\/∃t,a=.vl t
def SI.mkP {Y:Fx}{B:Hp}{ρ ρ':En}{d σ':Sg}{H a:Hp}(I:SI Y B ρ d H)(hp:Vj ρ')(f:ρ'.length=σ'.length)(g:∀(j:Nat) (t:T),ρ'[j]?=some (.vl t)->∃v,σ'[j]?=some (some v)/\Rep B v t)(sH:zi Y.H0 a)(sB:zi B a):SI Y B ρ' σ' a where
 s0:=I.s0
 sH:=sH
 sB:=sB
 old:=I.old
 len:=f
 vl:=g
 ow:=λi ts h=>by rcases hp i _ h with z|⟨t,z⟩<;>cases z
 xc:=λi c h=>by rcases hp i _ h with z|⟨t,z⟩<;>cases z
 st:=StI.no λi s e h=>by
  rcases hp i _ h with rfl|⟨t,rfl⟩<;>cases e
def tE (Y:Fx)(f:En->R T):TE:=λa H Q=>∃ρ,tS Y rC f ρ a H Q
def Qw {X:Cx}{Y:Fx}{e:Expr}{f:En->R T}(h:Snd X Y e f):PE X e (tE Y f):=λa s c H Q I ⟨ρ,q⟩=>h.go ρ a s c H Q I q
def LK {H:Hp}{a:Addr}{o:HO}(h:H a=some o):kj H a o=H:=by
 funext b
 by_cases z:b=a
 ·rw[z,zf,h]
 ·rw[zg z]
structure Ix (ib is jf iw iy n:Nat):Prop where
 b:ib<n
 s:is<n
 f:jf<n
 w:iw<n
 y:iy<n
 bs:ib≠is
 bf:ib≠jf
 bw:ib≠iw
 ny:ib≠iy
 sf:is≠jf
 sw:is≠iw
 sy:is≠iy
 fw:jf≠iw
 fy:jf≠iy
 wy:iw≠iy
def EC (K:aj)(e c d a:Nat):TS:=
 Gp (XW (k7 (Zp (AE WQ) (Zp (k7 (Zp (tC (.int 0)) (Zp (tC (.int 1)) WQ))) WQ))) (X4 K 2 (jV (tL (Za e) (Za a) xz) (jV (tL (Za c) (Za a) xz) G1))))
  (XV (Db K "list" U3 (Za d) (Zp (Za a) WQ)))
def KJ (K:aj)(f d e a:Nat)(c:Sp)(E:XK)(ts:TE):TS:=
 Gp (XV (Db K "list" U3 (nQ Wv (Za f) (Za a)) (Zp (Za e) WQ)))
  (XW (GA c [] E (Zp (nQ Wv (Za d) (Za a)) (Zp ts WQ))) (tL (Za d) (Za a) xz))
section
variable {Y:Fx}{K:aj}{Bc H Hc:Hp}{ρ:En}{σc σ:Sg}{n:Nat}{d ds l0 b:Addr}{es:List BE}{af lf:List Bool->Addr}{sf:List Bool->V}{ib is jf iw iy:Nat}{k:List Bool}{x0:V}{w t t':T}{gp:List T->R T}{fs:En->R T}{E:XK}{cl:Nat->Value}{D:Vb}
structure Nw (Y:Fx) (Bc:Hp) (a:Addr):Prop where
 b:Bc a=none
 h:Y.H0 a=none
def Zo {B H:Hp}{a:Addr}{o:HO}(s:zi B H)(h:B a=none):zi B (kj H a o):=λc u e=>by
 rw[zg (λz=>by rw[z,h]at e;cases e)];exact s _ _ e
def xF (I:SI Y Bc ρ σc Hc)(hp:Vj (ρ.set iw (.vl w)))(hl:ρ.length=σ.length)(hv:∀(j:Nat) (u:T),(ρ.set iw (.vl w))[j]?=some (.vl u)->∃v,σ[j]?=some (some v)/\Rep Bc v u)(n2:Nw Y Bc ds)
  (bk:Bk Y.H0 Bc H n d ds l0 es af lf sf) (hn:n<1000) (Z:es.length<=1000) {e:BE} (B:nw k es=some e) (sB:zi Bc H) (sH:zi Y.H0 H) (hb:H b=some (.tup (k.map V.bl))) (rx:Rep Bc x0 w)
  (gb:σ[ib]?=some (some (V.ref d))) (gs:σ[is]?=some (some (V.ref ds))) (gw:σ[iw]?=some (some x0)) (gy:σ[iy]?=some (some (V.ref b)))
  (S:fs (ρ.set iw (.vl w))=.ok t) (h2:gp [uA k es,t]=.ok t') (h3:Vi t'=true)
  (q:∀O P,Bk Y.H0 Bc O (n+1) d ds l0 (wX k w t' es) af lf P->zi Bc O->zi Y.H0 O->D.nx σ O):
  KJ K ib is iw iy (spP cl 2 gp) E (tE Y fs) D σ H:=by
 have N:=ya B;obtain⟨N,hk⟩:=N;obtain⟨_,⟨xs,r,rxs⟩,X,fv,nl0,nH,nB⟩:=bk.en e N;obtain⟨nd1,G⟩:=bk.ndl N;rw[hk]at r fv nl0 nH nB nd1 G;have kb:H b=some (.tup ((kI k).map kV)):=by rw[Ye];exact hb
 have bl:b≠lf k:=ZL hb r (λz=>nomatch z);have bd:b≠ds:=ZL hb bk.hs (λz=>nomatch z);refine⟨.ref d,gb,.ref b,gy,d,b,_,kI k,.ref (lf k),⟨rfl,rfl,bk.hd,kb⟩,by rw[jw (g:=λj=>.ref (lf j)),B];show some (V.ref (lf e.1))=_;rw[hk],.inl ⟨rfl,xs,SqL.of r⟩,x0,gw,lf k,xs,x0,rfl,rfl,r,?_,?_⟩
 ·rw[rxs.length];exact b9 X (aL hn 01)
 have l:zi Bc (kj H (lf k) (.lst (xs++[x0]))):=Zo sB nB;have F:zi Y.H0 (kj H (lf k) (.lst (xs++[x0]))):=Zo sH nH;have i:kj H (lf k) (.lst (xs++[x0])) ds=_:=(zg (aT G)).trans bk.hs;have L:kj H (lf k) (.lst (xs++[x0])) b=_:=(zg bl).trans kb;refine⟨.ref ds,gs,.ref b,gy,ds,b,_,kI k,sf k,⟨rfl,rfl,i,L⟩,by rw[jw (g:=sf),B];show some (sf e.1)=_;rw[hk],ρ.set iw (.vl w),Bc,SI.mkP I hp (by rw[aZ];exact hl) hv F l,?_⟩
 rw[S];intro vs Hs U rs;have J:∀c o,c≠lf k->H c=some o->kj H (lf k) (.lst (xs++[x0])) c=some o:=λc o S h=>(zg S).trans h;have fo:FrV Hs (sf k) (uA k es):=by
  obtain⟨p,a,c,e1,Q,M⟩:=fv;refine⟨p,a,c,e1,?_,U _ _ (J _ _ (ZL M r (λz=>nomatch z)) M)⟩;unfold uA;rw[B];exact Q
 refine⟨Hs,[uA k es,t],rfl,zi.refl _,.cons fo.rep (.cons (rs.mono (zy.le l U)) .nil),?_⟩;rw[h2];intro v5 H5 s5 r5;have f5:=FrV.of (r5.mono (zy.le (zi.refl _) s5)) h3;have f:=U.trans s5;have y:=f _ _ i;refine⟨.ref ds,gs,.ref b,gy,ds,b,_,kI k,⟨rfl,rfl,y,f _ _ L⟩,?_,?_⟩
 ·rw[ag];exact b9 Z 01
 have C:H5 (lf k)=some (.lst (xs++[x0])):=f _ _ zf;have sm:zi H (kj H5 (lf k) (.lst xs)):=λc o hc=>by
  by_cases z:c=lf k
  ·rw[z]at hc⊢;rw[zf,←r];exact hc
  ·rw[zg z];exact f _ _ (J _ _ z hc)
 have fr:FrV (kj H5 (lf k) (.lst xs)) v5 t':=by
  obtain⟨p,a,c,e1,Q,M⟩:=f5;exact⟨p,a,c,e1,Q,(zg (ZL M C (λz=>nomatch z))).trans M⟩
 have x:=(bk.same sm).old (k:=k) B (bb:=b) rx fr zf;rw[XQ,LK C]at x;exact q _ _ x (Zo (l.trans f) n2.b) (Zo (F.trans f) n2.h)
def yd {kvs:List (List mV×Addr×V)}{k:List mV}{b:Addr}{v:V}(h:Ws kvs k=none):Vh kvs k b v=kvs++[(k,b,v)]:=by
 unfold Vh;rw[h];exact if_neg 01
def xG (n1:Nw Y Bc d)(n2:Nw Y Bc ds)(n3:Nw Y Bc l0)(bk:Bk Y.H0 Bc H n d ds l0 es af lf sf)(hes:es.length<1000)(U:nw k es=none)(sB:zi Bc H)(sH:zi Y.H0 H)(v:H b=some (.tup (k.map V.bl)))
  (gb:σ[ib]?=some (some (V.ref d))) (gs:σ[is]?=some (some (V.ref ds))) (gf:σ[jf]?=some (some (V.ref l0))) (P:σ[iy]?=some (some (V.ref b)))
  (q:∀C M I J,Bk Y.H0 Bc C n d ds l0 (es++[(k,[],pR)]) M I J->zi Bc C->zi Y.H0 C->C b=some (.tup (k.map V.bl))->D.nx σ C):EC K ib is jf iy D σ H:=by
 have kb:H b=some (.tup ((kI k).map kV)):=by rw[Ye];exact v
 have O:(1000:Nat)<=sizeLine:=by decide
 refine⟨aU _,λp1 a=>?_⟩;have s1:zi H (kj H p1 (.lst [])):=zi.new a _;refine⟨show 2<=sizeLine by decide,λp2 i=>?_⟩
 have s2:=s1.trans (zi.new i (.tup [.int 0,.int 1]));refine⟨show 2<=sizeLine by decide,λG r=>?_⟩
 have f:=s2.trans (zi.new r (.tup [.ref p1,.ref p2]));have a1:=zi.new r (HO.tup [.ref p1,.ref p2]) _ _ (zi.new i (HO.tup [.int 0,.int 1]) p1 _ (zf (H:=H) (o:=HO.lst [])));have a2:=zi.new r (HO.tup [.ref p1,.ref p2]) p2 _ (zf (o:=HO.tup [.int 0,.int 1]));have a3:kj (kj (kj H p1 (.lst [])) p2 (.tup [.int 0,.int 1])) G (.tup [.ref p1,.ref p2]) G=_:=zf;generalize kj (kj (kj H p1 (.lst [])) p2 (.tup [.int 0,.int 1])) G (.tup [.ref p1,.ref p2])=H3 at*;have Q:=f _ _ bk.hd;have S:=f _ _ bk.hs;have L:=f _ _ bk.hf;have B:=f _ _ kb;have N:b≠d:=ZL v bk.hd (λz=>nomatch z);have b2:b≠ds:=ZL v bk.hs (λz=>nomatch z);have b3:b≠l0:=ZL v bk.hf (λz=>nomatch z);have v1:Ws (es.map λe=>(kI e.1,af e.1,V.ref (lf e.1))) (kI k)=none:=by rw[jw (g:=λj=>.ref (lf j)),U];rfl
 have v2:Ws (es.map λe=>(kI e.1,af e.1,sf e.1)) (kI k)=none:=by rw[jw (g:=sf),U];rfl
 have l1:l0≠d:=ZL bk.hf bk.hd (λz=>nomatch z);have Z:l0≠ds:=ZL bk.hf bk.hs (λz=>nomatch z);refine⟨G,[.ref p1,.ref p2],rfl,SqT.of a3,rfl,.ref p1,[.ref p2],rfl,.ref d,gb,.ref b,P,d,b,_,kI k,⟨rfl,rfl,Q,B⟩,by rw[ag];omega,.ref p2,[],rfl,.ref ds,gs,.ref b,P,ds,b,_,kI k,⟨rfl,rfl,(zg (aT bk.ne)).trans S,(zg N).trans B⟩,by rw[ag];omega,rfl,?_⟩
 rw[yd v1,yd v2];have F:kj (kj H3 d (.dT ((es.map λe=>(kI e.1,af e.1,V.ref (lf e.1)))++[(kI k,b,.ref p1)]))) ds (.dT ((es.map λe=>(kI e.1,af e.1,sf e.1))++[(kI k,b,.ref p2)])) l0=_:=(zg Z).trans ((zg l1).trans L);refine⟨.ref l0,gf,.inl ⟨rfl,_,SqL.of F⟩,.ref b,P,l0,_,.ref b,rfl,rfl,F,by rw[ag];omega,?_⟩
 have up:∀c o,H3 c=some o->c≠d->c≠ds->c≠l0->kj (kj (kj H3 d (.dT ((es.map λe=>(kI e.1,af e.1,V.ref (lf e.1)))++[(kI k,b,.ref p1)]))) ds (.dT ((es.map λe=>(kI e.1,af e.1,sf e.1))++[(kI k,b,.ref p2)]))) l0 (.lst ((es.map λe=>V.ref (af e.1))++[.ref b])) c=some o:=λc o h x y z=>by rw[zg z,zg y,zg x];exact h
 have u:∀(p:Addr),H p=none->∀c o,H c=some o->p≠c:=λp hp c o X z=>by rw[z,X]at hp;cases hp
 have l:H p2=none:=by
  cases e:H p2 with
  |none=>rfl
  |some o=>have:=s1 _ _ e;rw[i]at this;cases this
 refine q _ _ _ _ (bk.new U (bb:=b) (p1:=p1) (p2:=p2) (by rw[zg (aT l1),zg bk.ne,zf]) (by rw[zg (aT Z),zf]) zf (up _ _ (f _ _ v) N b2 b3) (up _ _ a1 (u p1 a _ _ bk.hd) (u p1 a _ _ bk.hs) (u p1 a _ _ bk.hf)) (up _ _ a2 (u p2 l _ _ bk.hd) (u p2 l _ _ bk.hs) (u p2 l _ _ bk.hf)) (λc o X=>up c o (f _ _ X)) a (sH.free a) (sB.free a)) ?_ ?_ (up _ _ (f _ _ v) N b2 b3)
 ·exact Zo (Zo (Zo (sB.trans f) n1.b) n2.b) n3.b
 ·exact Zo (Zo (Zo (sH.trans f) n1.h) n2.h) n3.h
end
def ye (K:aj)(d e g i a:Nat)(c:Sp)(E:XK)(f ts:TE):TS:=
 Gp (XW f (Zh a)) (Gp (gZ (tB (nQ Ey (Za a) (Za d))) (EC K d e g a) yR) (KJ K d e i a c E ts))
section
variable {Y:Fx}{K:aj}{Bc H Hc:Hp}{ρ:En}{σc σ:Sg}{n:Nat}{d ds l0 b:Addr}{es esF:List BE}{af lf:List Bool->Addr}{sf:List Bool->V}{ib is jf iw iy:Nat}{k:List Bool}{x0:V}{w t t':T}{ts' ws:List T}{gp:List T->R T}{fw fs:En->R T}{E:XK}{cl:Nat->Value}{D:Vb}
def Qx (x:Ix ib is jf iw iy σ.length)(I:SI Y Bc ρ σc Hc)(hp:Vj (ρ.set iw (.vl w)))(hl:ρ.length=σ.length)(hry:ρ[iy]?=some .un)(hv:∀(j:Nat) (u:T),(ρ.set iw (.vl w))[j]?=some (.vl u)->∃v,σ[j]?=some (some v)/\Rep Bc v u)(n1:Nw Y Bc d)(n2:Nw Y Bc ds)(n3:Nw Y Bc l0)
  (bk:Bk Y.H0 Bc H n d ds l0 es af lf sf) (hn:n<999) (P:es.length<=n) (J:zi Bc H) (sH:zi Y.H0 H) (rx:Rep Bc x0 w)
  (gb:σ[ib]?=some (some (V.ref d))) (gs:σ[is]?=some (some (V.ref ds))) (gf:σ[jf]?=some (some (V.ref l0))) (gw:σ[iw]?=some (some x0))
  (h0:fw (ρ.set iw (.vl w))=.ok (.tup ts')) (hk:Z9 ts'=some k) (h1:fs (ρ.set iw (.vl w))=.ok t) (h2:gp [uA k es,t]=.ok t') (h3:Vi t'=true)
  (q:∀v f o l c,Bk Y.H0 Bc f (n+1) d ds l0 (wX k w t' es) o l c->zi Bc f->zi Y.H0 f->D.nx (σ.set iy (some v)) f):
  ye K ib is jf iw iy (spP cl 2 gp) E (tE Y fw) (tE Y fs) D σ H:=by
 refine⟨ρ.set iw (.vl w),Bc,SI.mkP I hp (by rw[aZ];exact hl) hv sH J,?_⟩
 rw[h0];intro v M F r1;cases r1 with
 |@tup b vs' _ hb rb=>
  have N:=Wu rb hk;have p:M b=some (.tup (k.map V.bl)):=by rw[←N];exact zy.le J F _ _ hb
  have C:=bk.same F;have kb:M b=some (.tup ((kI k).map kV)):=by rw[Ye];exact p
  have gy:(σ.set iy (some (V.ref b)))[iy]?=some (some (V.ref b)):=aI x.y;have B:(σ.set iy (some (V.ref b)))[ib]?=some (some (V.ref d)):=by rw[ak (aT x.ny)];exact gb
  have G:(σ.set iy (some (V.ref b)))[is]?=some (some (V.ref ds)):=by rw[ak (aT x.sy)];exact gs
  have U:(σ.set iy (some (V.ref b)))[jf]?=some (some (V.ref l0)):=by rw[ak (aT x.fy)];exact gf
  have S:(σ.set iy (some (V.ref b)))[iw]?=some (some x0):=by rw[ak (aT x.wy)];exact gw
  have O:∀(j:Nat) (u:T),(ρ.set iw (.vl w))[j]?=some (.vl u)->∃v,(σ.set iy (some (V.ref b)))[j]?=some (some v)/\Rep Bc v u:=λj u h=>by
   have hj:iy≠j:=λz=>by rw[←z,ak x.wy,hry]at h;cases h
   rw[ak hj];exact hv j u h
  have i:∀H3 a af lf sf e,Bk Y.H0 Bc H3 n d ds l0 a af lf sf->a.length<=n+1->nw k a=some e->zi Bc H3->zi Y.H0 H3->H3 b=some (.tup (k.map V.bl))->wX k w t' a=wX k w t' es->uA k a=uA k es->KJ K ib is iw iy (spP cl 2 gp) E (tE Y fs) D (σ.set iy (some (V.ref b))) H3:=λH3 a af lf sf e L hl3 r sB3 sH3 hb3 hi ho=>
   xF I hp (by rw[aZ];exact hl) O n2 L 00 00 r sB3 sH3 hb3 rx B G S gy h1 (by rw[ho];exact h2) h3 λf c X Q Z=>q _ f _ _ _ (hi▸X) Q Z
  refine⟨.ref b,gy,.ref d,B,d,b,_,kI k,⟨rfl,rfl,C.hd,kb⟩,_,rfl,?_⟩;rw[jw (g:=λj=>.ref (lf j))];cases r:nw k es with
  |some e=>exact i M es af lf sf e C 00 r (J.trans F) (sH.trans F) p rfl rfl
  |none=>
   refine xG n1 n2 n3 C 00 r (J.trans F) (sH.trans F) p B G U gy λf o l c X Q Z z4=>?_
   exact i f _ o l c _ X (by rw[aB];exact me P) (Ww r) Q Z z4 (Qt r) (Qu r)
def xH (k:List Bool)(w t:T)(es:List BE):(wX k w t es).length<=es.length+1:=by
 unfold wX;split
 ·rw[ag];exact cD _
 ·rw[aB];exact aq _
def oN (fw:En->R T)(ρ:En)(iw:Nat)(w:T):R T:=fw (ρ.set iw (.vl w))
def oA (fs:En->R T)(gp:List T->R T)(ρ:En)(iw:Nat)(o w:T):R T:=(fs (ρ.set iw (.vl w))).bind λt=>gp [o,t]
def Qy {a:Addr}{xs:List V}(x:Ix ib is jf iw iy σc.length)(I:SI Y Bc ρ σc Hc)(hp:Vj ρ)(S:ρ[iy]?=some .un)(hrw:ρ[iw]?=some .un)(n1:Nw Y Bc d)(n2:Nw Y Bc ds)(n3:Nw Y Bc l0)
  (bk:Bk Y.H0 Bc Hc 0 d ds l0 [] af lf sf) (gb:σc[ib]?=some (some (V.ref d))) (gs:σc[is]?=some (some (V.ref ds))) (gf:σc[jf]?=some (some (V.ref l0)))
  (ha:Bc a=some (.lst xs)) (rx:zr Bc xs ws) (hws:ws.length<900) (f:ot (oN fw ρ iw) (oA fs gp ρ iw) ws []=.ok esF)
  (q:∀σ' l F r B,Bk Y.H0 Bc l ws.length d ds l0 esF F r B->esF.length<=ws.length->zi Bc l->zi Y.H0 l->σ'.length=σc.length->(∀j,j≠iw->j≠iy->σ'[j]?=σc[j]?)->D.nx σ' l):
  ∃W:Nat->Nat->L2.St->Hp->Prop,(∃m,W 0 m σc Hc)/\∀i m σ H,W i m σ H->((oX K a).stop i H/\D.nx σ H)\/((oX K a).go i H/\∃N:L2.St->Hp->Prop,(∀σ' l,N σ' l->∃m',m'<m/\W (i+1) m' σ' l)/\∀x l,(oX K a).yld i H x l->Zh iw x σ l λo L=>ye K ib is jf iw iy (spP cl 2 gp) E (tE Y fw) (tE Y fs) {D with nx:=N,ct:=N,bk:=D.nx} o L):=by
 refine⟨λi m σ H=>m=ws.length-i/\i<=ws.length/\σ.length=σc.length/\(∀j,j≠iw->j≠iy->σ[j]?=σc[j]?)/\zi Bc H/\zi Y.H0 H/\∃es af lf sf,Bk Y.H0 Bc H i d ds l0 es af lf sf/\es.length<=i/\ot (oN fw ρ iw) (oA fs gp ρ iw) (ws.drop i) es=.ok esF,⟨ws.length,by simp,aU _,rfl,λ_ _ _=>rfl,I.sB,I.sH,[],af,lf,sf,bk,aq _,f⟩,?_⟩
 rintro i m σ H ⟨rfl,hi,g,p,sB,sH,es,af,lf,sf,bk,O,f⟩
 have J:=sB _ _ ha
 by_cases G:i<ws.length
 ·obtain⟨x0,U,Q⟩:=rx.get (ah G);rw[cy G]at f;unfold ot at f;cases Z:oN fw ρ iw ws[i]with
  |bad=>rw[Z]at f;cases f
  |ex c=>rw[Z]at f;cases f
  |ok t0=>
  rw[Z]at f;cases t0 with
  |tup ts'=>
   have f:(match Z9 ts' with|some k=>(oA fs gp ρ iw (uA k es) ws[i]).bind λt'=>if Vi t'=true then ot (oN fw ρ iw) (oA fs gp ρ iw) (ws.drop (i+1)) (wX k ws[i] t' es)else .bad|none=>.bad)=.ok esF:=f
   cases ek:Z9 ts' with
   |none=>rw[ek]at f;cases f
   |some k=>
   rw[ek]at f;have f:(oA fs gp ρ iw (uA k es) ws[i]).bind (λt'=>if Vi t'=true then ot (oN fw ρ iw) (oA fs gp ρ iw) (ws.drop (i+1)) (wX k ws[i] t' es)else .bad)=.ok esF:=f
   unfold oA at f;cases e1:fs (ρ.set iw (.vl ws[i]))with
   |bad=>rw[e1]at f;cases f
   |ex c=>rw[e1]at f;cases f
   |ok t=>
   rw[e1]at f;have f:(gp [uA k es,t]).bind (λt'=>if Vi t'=true then ot (oN fw ρ iw) (oA fs gp ρ iw) (ws.drop (i+1)) (wX k ws[i] t' es)else .bad)=.ok esF:=f
   cases X:gp [uA k es,t]with
   |bad=>rw[X]at f;cases f
   |ex c=>rw[X]at f;cases f
   |ok t'=>
   rw[X]at f;have f:(if Vi t'=true then ot (oN fw ρ iw) (oA fs gp ρ iw) (ws.drop (i+1)) (wX k ws[i] t' es)else .bad)=.ok esF:=f
   split at f
   case isFalse=>cases f
   rename_i e3;refine .inr ⟨⟨xs,x0,SqL.of J,U⟩,λo L=>(o.length=σc.length/\(∀j,j≠iw->j≠iy->o[j]?=σc[j]?)/\zi Bc L/\zi Y.H0 L/\∃es af lf sf,Bk Y.H0 Bc L (i+1) d ds l0 es af lf sf/\es.length<=i+1/\ot (oN fw ρ iw) (oA fs gp ρ iw) (ws.drop (i+1)) es=.ok esF),λo L z=>⟨ws.length-(i+1),by omega,rfl,G,z⟩,λy l hy=>?_⟩
   obtain⟨rfl,hy⟩:=hy;have hy:=hy _ (SqL.of J);rw[U]at hy;cases hy;have gn:∀(j:Nat) (v:Option V),j≠iw->j≠iy->σc[j]?=some v->(σ.set iw (some x0))[j]?=some v:=λj v M h2 h=>by rw[ak (aT M),p j M h2];exact h
   have P:iw<σ.length:=by rw[g];exact x.w
   refine Qx (w:=ws[i]) (by rw[aZ,g];exact x) I ?_ (by rw[aZ,g];exact I.len) S ?_ n1 n2 n3 bk 00 O sB sH Q (gn _ _ x.bw x.ny gb) (gn _ _ x.sw x.sy gs) (gn _ _ x.fw x.fy gf) (aI P) Z ek e1 X e3 λv H3 F r B z1 z2 z3=>?_
   ·intro j sl h
    by_cases C:iw=j
    ·subst C;rw[aI (by rw[I.len];exact x.w)]at h
     cases h;exact .inr ⟨_,rfl⟩
    ·rw[ak C]at h;exact hp j sl h
   ·intro j u h
    by_cases C:iw=j
    ·subst C;rw[aI (by rw[I.len];exact x.w)]at h
     cases h;exact⟨x0,aI P,Q⟩
    ·rw[ak C]at h;have hjy:j≠iy:=λz=>by rw[z,S]at h;cases h
     rw[ak C,p j (aT C) hjy];exact I.vl j u h
   ·refine⟨by rw[aZ,aZ];exact g,λj M h2=>?_,z2,z3,_,F,r,B,z1,?_,f⟩
    ·rw[ak (aT h2),ak (aT M)];exact p j M h2
    ·have:=xH k ws[i] t' es;omega
  |_=>cases f
 ·have e:i=ws.length:=by omega
  subst e;rw[dS]at f;cases f;exact .inl ⟨⟨xs,SqL.of J,by rw[rx.length];exact aq _⟩,q σ H af lf sf bk O sB sH g p⟩
end
abbrev Yl (K:aj)(tl:TE):TI:=λσ H R=>tl σ H λx H1=>∃a,x=.ref a/\(((∃xs,SqL K H1 a xs)/\R (oX K a) H1)\/((∃xs,SqT K H1 a xs)/\R (tj K a) H1))
abbrev yf (wi:TI)(k:Nat)(js:List Nat)(g:TG)(te:TE):TE:=λσ H Q=>wi σ H λJ H1=>∀D,H1 D=none->∃W,(∃m,W 0 m [] (Jy k js σ) (kj H1 D (.lst [])))/\wI J D g (λ_ H Q=>Q true H) te (λ_ H'=>Q (.ref D) H') W
abbrev Xw:List V->Hp->VK->Prop:=λvs H Q=>∃(d:Addr) (es:List BE) (af:List Bool->Addr) (gf:List Bool->V) (ts:List T),vs=[.ref d]/\H d=some (.dT (es.map λe=>(kI e.1,af e.1,gf e.1)))/\(es.map (·.1)).Nodup/\(∀e∈es,H (af e.1)=some (.tup (e.1.map V.bl)))/\es.length<64/\(2<=es.length->∀e∈es,e.1≠[])/\ts.map kW=es.map (·.1)/\∀r,H r=none->Q (.ref r) (kj H r (.lst ((wE ts).map λt=>.ref (af (kW t)))))
abbrev A6 (K:aj):TE:=k7 (Zp (Za 0) (Zp (rj (ro K) (Zp (nQ Wv (Za 1) (Za 0)) WQ)) (Zp (nQ Wv (Za 2) (Za 0)) WQ)))
abbrev As:TE:=nQ Wv (Za 1) (Za 0)
def yg (f a c d e:Nat)(ρ:En):En:=((((ρ.set f .un).set a .un).set c .un).set d .un).set e .un
noncomputable def AV:Sl->Bool
 |.un=>true
 |.vl _=>true
 |_=>false
def uB (a:List BE):Bool:=decide (a.length<64)&&(decide (a.length<2)||a.all λe=> !e.1.isEmpty)
def oq (a c:T)(r:RS):RS:=match nq a c with
 |.ok true=>.rt (.bl false)
 |.ok false=>r
 |_=>.bad
def Qz (i g d c f:Nat)(l r fs:En->R T)(q:List T->R T)(ft fp:En->R T):En->RS:=λa=>
 if a.all AV=true then (match l (yg i g d c f a)with
  |.ok (.lst k)=>if k.length<900 then (match ot (oN r (yg i g d c f a) c) (oA fs q (yg i g d c f a) c) k []with
   |.ok j=>if uB j=true then (match ft (yg i g d c f a),fp (yg i g d c f a)with
    |.ok o,.ok p=>oq o (.lst (wE (j.map YB))) (oq p (.lst (j.map λe=>.lst e.2.1)) (.nx (yg i g d c f a)))
    |_,_=>.bad)else .bad
   |_=>.bad)else .bad
  |_=>.bad)else .bad
def KK {ρ:En}(h:ρ.all AV=true):Vj ρ:=λj a e=>by
 have:=aR.mp h a (bR e);cases a<;>first|exact .inl rfl|exact .inr ⟨_,rfl⟩|cases this
def wd {ρ:En}(h:Vj ρ)(i:Nat):Vj (ρ.set i .un):=λj a e=>by
 by_cases z:i=j
 ·subst z;rw[lS]at e;simp only[if_true]at e;split at e
  ·exact .inl (aF e).symm
  ·cases e
 ·rw[ak z]at e;exact h j a e
def KL {f a c d e:Nat}{ρ:En}(h:Vj ρ):Vj (yg f a c d e ρ):=wd (wd (wd (wd (wd h _) _) _) _) _
def QA {i j:Nat}{ρ:En}{a:Sl}(h:(ρ.set i .un)[j]?=some a)(c:a≠.un):i≠j/\ρ[j]?=some a:=by
 by_cases z:i=j
 ·subst z;rw[lS]at h;simp only[if_true]at h;split at h
  ·exact absurd (aF h).symm c
  ·cases h
 ·rw[ak z]at h;exact⟨z,h⟩
def Ip {f e a c d j:Nat}{ρ:En}{t:T}(h:(yg f e a c d ρ)[j]?=some (.vl t)):f≠j/\e≠j/\a≠j/\c≠j/\d≠j/\ρ[j]?=some (.vl t):=by
 obtain⟨o,h⟩:=QA h (λz=>nomatch z);obtain⟨l,h⟩:=QA h (λz=>nomatch z);obtain⟨k,h⟩:=QA h (λz=>nomatch z);obtain⟨g,h⟩:=QA h (λz=>nomatch z);obtain⟨i,h⟩:=QA h (λz=>nomatch z);exact⟨i,g,k,l,o,h⟩
def KM {f a c d e:Nat}{ρ:En}:(yg f a c d e ρ).length=ρ.length:=by simp[yg]
noncomputable def BG (f a c d e n:Nat):Bool:=decide (f<n)&&decide (a<n)&&decide (c<n)&&decide (d<n)&&decide (e<n)&&decide (f≠a)&&decide (f≠c)&&decide (f≠d)&&decide (f≠e)&&decide (a≠c)&&decide (a≠d)&&decide (a≠e)&&decide (c≠d)&&decide (c≠e)&&decide (d≠e)
def Fj {v u p q r n:Nat}(h:BG v u p q r n=true):Ix v u p q r n:=by
 unfold BG at h;simp only[am,decide_eq_true_eq]at h;obtain⟨⟨⟨⟨⟨⟨⟨⟨⟨⟨⟨⟨⟨⟨a,b⟩,c⟩,d⟩,e⟩,f⟩,g⟩,h⟩,i⟩,j⟩,k⟩,l⟩,m⟩,n⟩,o⟩:=h;exact⟨a,b,c,d,e,f,g,h,i,j,k,l,m,n,o⟩
section
variable {X:Cx}{Y:Fx}{ib is jf iw iy:Nat}{fi fw fs ft fp:En->R T}{gp:List T->R T}{E:XK}{cl:Nat->Value}{rest:List Stmt}{fr:En->RS}{S1 S2 S3 S4:Stmt}
def HY (hx:BG ib is jf iw iy X.N.length=true)
  (r1:PS X S1 (XW (k7 (Zp ux (Zp ux (Zp (AE WQ) WQ)))) (X4 X.K 3 (jV (Zh ib) (jV (Zh is) (jV (Zh jf) G1))))))
  (r2:PS X S2 (C6 (Yl X.K (tE Y fi)) (Zh iw) (ye X.K ib is jf iw iy (spP cl 2 gp) E (tE Y fw) (tE Y fs))))
  (r3:PS X S3 (gZ (yU (nQ (wC nq) (tE Y ft) (yf (Yl X.K (rj Xw (Zp (Za ib) WQ))) 1 [ib,is] (Zh 0) (A6 X.K)))) (Gq (tC (.bl false))) yR))
  (r4:PS X S4 (gZ (yU (nQ (wC nq) (tE Y fp) (yf (Yl X.K (Za jf)) 1 [ib] (Zh 0) As))) (Gq (tC (.bl false))) yR))
  (hrest:WS X Y rest fr):WS X Y (S1::S2::S3::S4::rest) (zp (Qz ib is jf iw iy fi fw fs gp ft fp) fr):=.mk λρ=>by
 have W:=zX r1 (zX r2 (zX r3 (zX r4 (hrest (yg ib is jf iw iy ρ)))));intro pins s L H D Iv ⟨B,I,q⟩;refine W pins s L H D Iv ?_;have x:Ix ib is jf iw iy L.length:=Iv.len▸Fj hx;unfold zp Qz at q
 by_cases hp:ρ.all AV=true
 case neg=>rw[if_neg hp]at q;exact q.elim
 rw[if_pos hp]at q;generalize u:yg ib is jf iw iy ρ=ρ0 at q⊢;have U:Vj ρ0:=u▸KL (KK hp);have vI:ρ0.length=L.length:=by rw[←u,KM];exact I.len
 have vl0:∀(j:Nat) (t:T),ρ0[j]?=some (.vl t)->ib≠j/\is≠j/\jf≠j/\iw≠j/\iy≠j/\ρ[j]?=some (.vl t):=λj t h=>Ip (by rw[u];exact h)
 have ry:ρ0[iy]?=some .un:=by rw[←u];exact aI (by simpa using (I.len▸x.y:iy<ρ.length))
 have rw':ρ0[iw]?=some .un:=by rw[←u];unfold yg;rw[ak (aT x.wy)];exact aI (by simpa using (I.len▸x.w:iw<ρ.length))
 cases e1:fi ρ0 with
 |bad=>rw[e1]at q;exact q.elim
 |ex c=>rw[e1]at q;exact q.elim
 |ok t0=>
 rw[e1]at q;cases t0 with
 |lst ws=>
  dsimp only at q
  by_cases hw:ws.length<900
  case neg=>rw[if_neg hw]at q;exact q.elim
  rw[if_pos hw]at q;cases e2:ot (oN fw ρ0 iw) (oA fs gp ρ0 iw) ws []with
  |bad=>rw[e2]at q;exact q.elim
  |ex c=>rw[e2]at q;exact q.elim
  |ok i=>
  rw[e2]at q;dsimp only at q
  by_cases hk:uB i=true
  case neg=>rw[if_neg hk]at q;exact q.elim
  rw[if_pos hk]at q;cases e3:ft ρ0 with
  |bad=>rw[e3]at q;exact q.elim
  |ex c=>rw[e3]at q;exact q.elim
  |ok t1=>
  cases e4:fp ρ0 with
  |bad=>rw[e3,e4]at q;exact q.elim
  |ex c=>rw[e3,e4]at q;exact q.elim
  |ok t2=>
  rw[e3,e4]at q;dsimp only at q;unfold uB at hk;rw[am,eI,decide_eq_true_eq,decide_eq_true_eq]at hk;have hne:2<=i.length->∀e∈i,e.1≠[]:=λh2 e S z=>by
   rcases hk.2 with h|h
   ·omega
   ·have:=aR.mp h e S;rw[z]at this;cases this
  intro d hd ds M;refine⟨aU _,λl0 hl0=>⟨show 3<=sizeLine by decide,λp hp3=>?_⟩⟩
  refine⟨p,[.ref d,.ref ds,.ref l0],rfl,SqT.of zf,rfl,.ref d,_,rfl,.ref ds,_,rfl,.ref l0,_,rfl,rfl,?_⟩;have z1:=zi.new hd (HO.dT []);have z2:=zi.new M (HO.dT []);have z3:=zi.new hl0 (HO.lst []);have z4:=zi.new hp3 (HO.tup [.ref d,.ref ds,.ref l0]);have s1:=((z1.trans z2).trans z3).trans z4;have a1:=z4 _ _ (z3 _ _ (z2 _ _ (zf (H:=H) (a:=d) (o:=HO.dT []))));have a2:=z4 _ _ (z3 _ _ (zf (H:=kj H d (HO.dT [])) (a:=ds) (o:=HO.dT [])));have a3:=z4 _ _ (zf (H:=kj (kj H d (HO.dT [])) ds (HO.dT [])) (a:=l0) (o:=HO.lst []));have nds:d≠ds:=λz=>by rw[←z,zf]at M;cases M
  have dsH:H ds=none:=z1.free M;have l0H:H l0=none:=(z1.trans z2).free hl0;generalize kj (kj (kj (kj H d (HO.dT [])) ds (HO.dT [])) l0 (HO.lst [])) p (HO.tup [.ref d,.ref ds,.ref l0])=H1 at s1 a1 a2 a3⊢;have Q:(((L.set ib (some (V.ref d))).set is (some (V.ref ds))).set jf (some (V.ref l0))).length=L.length:=by simp
  have gb:(((L.set ib (some (V.ref d))).set is (some (V.ref ds))).set jf (some (V.ref l0)))[ib]?=some (some (V.ref d)):=by rw[ak (aT x.bf),ak (aT x.bs)];exact aI x.b
  have gs:(((L.set ib (some (V.ref d))).set is (some (V.ref ds))).set jf (some (V.ref l0)))[is]?=some (some (V.ref ds)):=by rw[ak (aT x.sf)];exact aI (by simpa using x.s)
  have gf:(((L.set ib (some (V.ref d))).set is (some (V.ref ds))).set jf (some (V.ref l0)))[jf]?=some (some (V.ref l0)):=aI (by simpa using x.f)
  have go:∀j,ib≠j->is≠j->jf≠j->(((L.set ib (some (V.ref d))).set is (some (V.ref ds))).set jf (some (V.ref l0)))[j]?=L[j]?:=λj h1 h2 h3=>by rw[ak h3,ak h2,ak h1]
  generalize ((L.set ib (some (V.ref d))).set is (some (V.ref ds))).set jf (some (V.ref l0))=σ1 at Q gb gs gf go⊢;have I1:SI Y B ρ0 σ1 H1:=SI.mkP I U (by rw[Q];exact vI) (λj t h=>by
   obtain⟨h1,h2,h3,_,_,h6⟩:=vl0 j t h;rw[go j h1 h2 h3];exact I.vl j t h6) (I.sH.trans s1) (I.sB.trans s1)
  refine⟨ρ0,B,I1,?_⟩;rw[e1];intro v Hc sc rv;cases rv with
  |@lst a xs _ hxl rxs=>
  have I2:=I1.grow sc;have gB:∀c o,H1 c=some o->B c=none->zy B H1 Hc c=none:=λc o h hb=>by rw[zI h];exact hb
  refine⟨a,rfl,.inl ⟨⟨xs,SqL.of (I2.sB _ _ hxl)⟩,?_⟩⟩;have bS:zi B (zy B H1 Hc):=zy.ge I1.sB sc;generalize zy B H1 Hc=Bc at*;refine Qy (cl:=cl) (af:=λ_=>0) (lf:=λ_=>0) (sf:=λ_=>.non) (d:=d) (ds:=ds) (l0:=l0) (by rw[Q];exact x) I2 U ry rw' ⟨gB _ _ a1 (I.sB.free hd),I.sH.free hd⟩ ⟨gB _ _ a2 (I.sB.free dsH),I.sH.free dsH⟩ ⟨gB _ _ a3 (I.sB.free l0H),I.sH.free l0H⟩ ⟨by simp,sc _ _ a1,sc _ _ a2,sc _ _ a3,by simp,by simp,nds⟩ gb gs gf hxl rxs hw e2 λσ' H' af lf sf bk hl' g C hlen O=>?_
  have Z:σ'[ib]?=_:=(O ib x.bw x.ny).trans gb;have gs':σ'[is]?=_:=(O is x.sw x.sy).trans gs;have gf':σ'[jf]?=_:=(O jf x.fw x.fy).trans gf;have mk:∀P,zi Y.H0 P->zi Bc P->SI Y Bc ρ0 σ' P:=λP h1 h2=>SI.mkP I2 U (by rw[hlen,Q];exact vI) (λj t h=>by
   obtain⟨_,_,_,h4,h5,_⟩:=vl0 j t h;rw[O j (aT h4) (aT h5)];exact I2.vl j t h) h1 h2
  refine⟨ρ0,Bc,mk H' C g,?_⟩;rw[e3];intro v1 H3 s3 r3;refine⟨.ref d,Z,d,i,af,(λk=>.ref (lf k)),i.map YB,rfl,s3 _ _ bk.hd,bk.nd,λe S=>s3 _ _ (bk.en e S).1,hk.1,hne,KI i,λr hr=>?_⟩;have s4:=s3.trans (zi.new hr (HO.lst ((wE (i.map YB)).map λt=>.ref (af (kW t)))));refine⟨r,rfl,.inl ⟨⟨_,SqL.of zf⟩,λD2 hD2=>?_⟩⟩;refine xE (bk.same s4) (g.trans s4) 00 zf hD2 (by unfold Jy;simp[Z]) (by unfold Jy;simp[gs']) (by unfold Jy;simp) λH5 ys s5 hD5 r5=>?_
  have G:=s4.trans s5;have rT:Rep H5 v1 t1:=(r3.mono (zy.le g s3)).mono ((zi.new hr _).trans s5);cases e5:nq t1 (.lst (wE (i.map YB)))with
  |bad=>unfold oq at q;rw[e5]at q;exact q.elim
  |ex c=>unfold oq at q;rw[e5]at q;exact q.elim
  |ok bb=>
  refine⟨t1,_,bb,rT,.lst hD5 r5,e5,bb,rfl,?_⟩;cases bb with
  |true=>
   unfold oq at q;rw[e5]at q;exact q _ _ (C.trans G) (.bl false)
  |false=>
  have q:PoS Y B (match oq t2 (.lst (i.map λe=>.lst e.2.1)) (.nx ρ0)with|.nx ρ'=>fr ρ'|r=>r) D:=by
   unfold oq at q;rw[e5]at q;exact q
  refine⟨ρ0,Bc,mk H5 (C.trans G) (g.trans G),?_⟩;rw[e4];intro v2 H7 s7 r7;have s47:=G.trans s7;have J:=bk.same s47;refine⟨.ref l0,gf',l0,rfl,.inl ⟨⟨_,SqL.of J.hf⟩,λD3 hD3=>?_⟩⟩;refine xD (af:=af) (lf:=lf) J.nd 00 J.hd J.hf (λe S=>(J.en e S).1) hD3 (by unfold Jy;simp[Z]) (by unfold Jy;simp) λH8 s8 hD8=>?_
  have F:=s47.trans s8;have rL:zr H8 (i.map λe=>V.ref (lf e.1)) (i.map λe=>T.lst e.2.1):=by
   have all:∀l:List BE,(∀e∈l,e∈i)->zr H8 (l.map λe=>V.ref (lf e.1)) (l.map λe=>T.lst e.2.1):=λl=>by
    induction l with
    |nil=>exact λ_=>.nil
    |cons e l ih=>
     intro h;obtain⟨_,⟨xs,g2,g3⟩,_⟩:=bk.en e (h e ae);exact .cons (.lst (F _ _ g2) (g3.mono (g.trans F))) (ih λe S=>h e (a9 _ S))
   exact all i λe S=>S
  have rU:Rep H8 v2 t2:=(r7.mono (zy.le (g.trans G) s7)).mono s8;cases e6:nq t2 (.lst (i.map λe=>.lst e.2.1))with
  |bad=>unfold oq at q;rw[e6]at q;exact q.elim
  |ex c=>unfold oq at q;rw[e6]at q;exact q.elim
  |ok cc=>
  refine⟨t2,_,cc,rU,.lst hD8 rL,e6,cc,rfl,?_⟩;unfold oq at q;rw[e6]at q;cases cc with
  |true=>exact q _ _ (C.trans F) (.bl false)
  |false=>exact⟨Bc,mk H8 (C.trans F) (g.trans F),PoS.up bS q⟩
 |_=>exact q.elim
end
def u1 {k:Nat}{A:Around}(hr:jH k A):A.units+1<cLine:=by have:=hr.units;omega
section
variable {X:Cx}{Y:Fx}{ib is jf iw iy:Nat}{b s f wo wy pl:Str}{fi fw fs ft fp:En->R T}{gp:List T->R T}{cl:Nat->Value}
 {p1 p2 p3 p4 p5 p6 p7 p8 p9 p10 p11 p12 p13 p14 p15 p16 p17 p18 p19 p20 p21 p22 p23 p24 p25 p26 p27 p28 p29 p30 p31 p32 p33 p34 p35 p36 p37 p38 p39 p40 p41 p42 p43 p44 p45 p46 p47 p48 p49 p50 p51:Pos} {k1 k2 k3 k4 k5 c1 c2 kP kr:Nat} {EI EW ES ET EP:Expr}
def Lr (g:X.calm=true)(a:X.N.Nodup)(d:X.N[ib]?=some b)(k:X.N[is]?=some s)(e:X.N[jf]?=some f)(j:Loc X.env.scope b)(c:Loc X.env.scope s)(lf:Loc X.env.scope f)(fn:∀x,X.fn x=true)
  (i:swappedStores [.Tuple [.Name b p1,.Name s p2,.Name f p3] k1 p4] (.Tuple [.Dict [] [] p5,.Dict [] [] p6,.List [] p7] k2 p8) X.env=pure none) (hz:swapsWithSole [.Tuple [.Name b p1,.Name s p2,.Name f p3] k1 p4] (.Tuple [.Dict [] [] p5,.Dict [] [] p6,.List [] p7] k2 p8) p9.line X.env=pure false):
  PS X (.Assign [.Tuple [.Name b p1,.Name s p2,.Name f p3] k1 p4] (.Tuple [.Dict [] [] p5,.Dict [] [] p6,.List [] p7] k2 p8) p9) (XW (k7 (Zp ux (Zp ux (Zp (AE WQ) WQ)))) (X4 X.K 3 (jV (Zh ib) (jV (Zh is) (jV (Zh jf) G1))))):=
 YK (wP (zh Wt (zh Wt (zh (WX zt) zt)))) (WU g (Zb (Z4 a d j (.inl (fn _))) (Zb (Z4 a k c (.inl (fn _))) (Zb (Z4 a e lf (.inl (fn _))) JO)))) hz i
def F0 (e:PassesOwn 07 X.A X.env X.xe)(l:X.calm=true)(k:X.N.Nodup)(hr:jH kr X.A)(fn:∀x,X.fn x=true)(g:∀{p},PE X (.Name b p) (Za ib))(vs:∀{p},PE X (.Name s p) (Za is))(r:∀{p},PE X (.Name f p) (Za jf))(P:∀{p},PE X (.Name wo p) (Za iw))(a:∀{p},PE X (.Name wy p) (Za iy))
  (u:X.N[iw]?=some wo) (hy:X.N[iy]?=some wy) (C:Loc X.env.scope wo) (G:Loc X.env.scope wy) (hi:Snd X Y EI fi) (S:Snd X Y EW fw) (Q:Snd X Y ES fs) (O:QQ pl nh kP (spP cl 2 gp) ⟨X.prog,X.w,X.K,X.mg,X.base,cl⟩) (D:Gl X pl) (hd:(pl==("__debug__":Str))=false) (I:kP<=kr)
  (y:∀x,foldedSetIterable EI X.env x=pure x) (v:swapsWith EW (some (.Name wy p11)) p12.line X.env=pure false)
  (j:starEach (.Subscript (.Name s p46) (.Name wy p47) p48::[ES]) X.env=(false,eval (.Subscript (.Name s p46) (.Name wy p47) p48) X.env)::starEach [ES] X.env) (L:starEach [ES] X.env=(false,eval ES X.env)::starEach [] X.env) (U:(backTo p49 (starEach [ES] X.env)).any (·.1)=false)
  (o:swapsWithSole [.Subscript (.Name s p42) (.Name wy p43) p44] (.Call (.Name pl p45) [.Subscript (.Name s p46) (.Name wy p47) p48,ES] [] p49) p50.line X.env=pure false) (q:swappedStores [.Subscript (.Name s p42) (.Name wy p43) p44] (.Call (.Name pl p45) [.Subscript (.Name s p46) (.Name wy p47) p48,ES] [] p49) X.env=pure none)
  (J:swapsWithSole [.Tuple [.Subscript (.Name b p16) (.Name wy p17) p18,.Subscript (.Name s p19) (.Name wy p20) p21] k3 p22] (.Tuple [.List [] p23,.Tuple [.Constant (.int 0) c1 p24,.Constant (.int 1) c2 p25] k4 p26] k5 p27) p28.line X.env=pure false) (Z:swappedStores [.Tuple [.Subscript (.Name b p16) (.Name wy p17) p18,.Subscript (.Name s p19) (.Name wy p20) p21] k3 p22] (.Tuple [.List [] p23,.Tuple [.Constant (.int 0) c1 p24,.Constant (.int 1) c2 p25] k4 p26] k5 p27) X.env=pure none)
  (M:(p30.endLine==p32.line)=true) (i:(p38.endLine==p40.line)=true):
  PS X (.For (.Name wo p10) EI [.Assign [.Name wy p11] EW p12,.If (.Compare (.Name wy p13) [.NotIn] [.Name b p14] p15) [.Assign [.Tuple [.Subscript (.Name b p16) (.Name wy p17) p18,.Subscript (.Name s p19) (.Name wy p20) p21] k3 p22] (.Tuple [.List [] p23,.Tuple [.Constant (.int 0) c1 p24,.Constant (.int 1) c2 p25] k4 p26] k5 p27) p28,.Expr (.Call (.Attribute (.Name f p29) "append" p30) [.Name wy p31] [] p32) p33] [] p34,
   .Expr (.Call (.Attribute (.Subscript (.Name b p35) (.Name wy p36) p37) "append" p38) [.Name wo p39] [] p40) p41,.Assign [.Subscript (.Name s p42) (.Name wy p43) p44] (.Call (.Name pl p45) [.Subscript (.Name s p46) (.Name wy p47) p48,ES] [] p49) p50] [] p51)
   (C6 (Yl X.K (tE Y fi)) (Zh iw) (ye X.K ib is jf iw iy (spP cl 2 gp) (λ_ _ _=>False) (tE Y fw) (tE Y fs))):=by
 obtain⟨⟨_,ps,fa,fd,d,B⟩⟩:=O;have c:X.A.units+1<cLine:=by have:=hr.units;omega
 exact YO e l (UG (Qw hi)) (Z4 k u C (.inl (fn _)))
  (zX (JP k hy G (Qw S) v (.inl (fn _)))
   (zX (Vr (Gh (KD c a g) rfl)
     (zX (YK (wP (zh (WX zt) (zh (wP (zh YH (zh YH zt))) zt))) (WU l (Zb (YJ g a (Qo c)) (Zb (YJ vs a (Qo c)) JO))) J Z)
      (ZN (jz (U2 cG dh di ja r (zh a zt) rfl rfl M rfl rfl) rfl))) Wa)
    (zX (jz (U2 cG dh di ja (wc c g a (λ_ _=>rfl)) (zh P zt) rfl rfl i rfl rfl) rfl)
     (ZN (YK (j9 B (hr.mono I) D d.m d.F.kp d.b .nil (uh (E:=λ_ _ _=>False)) (zh (wc c vs a (λ_ _=>rfl)) (zh (Qw Q) zt L) j) hd j U) (YJ vs a (Qo c)) o q))))) y
def KN (a:X.A.units+1<cLine)(v0:∀{p},PE X (.Name wy p) (Za 0))(v1:∀{p},PE X (.Name b p) (Za 1))(v2:∀{p},PE X (.Name s p) (Za 2))(c:Gl X "len")(d:X.mg "len"=none):
  PE X (.Tuple [.Name wy p1,.Call (.Name "len" p2) [.Subscript (.Name b p3) (.Name wy p4) p5] [] p6,.Subscript (.Name s p7) (.Name wy p8) p9] k1 p10) (A6 X.K):=
 wP (zh v0 (zh (ZH Ji c d PyProof.Rows.Boot.«len» (zh (wc a v1 v0 (λ_ _=>rfl)) zt)) (zh (wc a v2 v0 (λ_ _=>rfl)) zt)))
def KO (a:X.A.units+1<cLine)(v0:∀{p},PE X (.Name wy p) (Za 0))(v1:∀{p},PE X (.Name b p) (Za 1)):PE X (.Subscript (.Name b p3) (.Name wy p4) p5) As:=wc a v1 v0 (λ_ _=>rfl)
def Lw {e:Expr}{c:Scope}{N:List Str}{a:Scope}(r:X.calm=true)(hr:jH kr X.A)(k:∀{p},PE X (.Name b p) (Za ib))(j:Snd X Y ET ft)(l:X.N=N)(i:X.env.scope=a)(d:(G6 c a&&Xi N [wy,b,s] c a 1 [ib,is])=true)(u:qx X c [wy,b,s] λg=>PG g (.Name wy p1) (Zh 0))(q:Xg X c [wy,b,s] (λ_ _ _=>False) λg=>PE g e (A6 X.K))(gs:Gl X "sorted")(o:X.mg "sorted"=none):
  PS X (.If (.Compare ET [.NotEq] [.ListComp e [⟨.Name wy p1,.Call (.Name "sorted" p2) [.Name b p3] [] p4,[],0⟩] c p5] p6) [.Return (some (.Constant (.bool false) k1 p7)) p8] [] p9)
   (gZ (yU (nQ (wC nq) (tE Y ft) (yf (Yl X.K (rj Xw (Zp (Za ib) WQ))) 1 [ib,is] (Zh 0) (A6 X.K)))) (Gq (tC (.bl false))) yR):=by
 rw[am]at d;exact Vr (U0 (UC hr.units) (Qw j) (yc (qC a i d.1) (Wl N a l i d.2) r (UG (ZH (Yk hr.units hr.hd) gs o PyProof.Rows.Boot.«sorted» (zh k zt))) u q) (W9 _ 01 01)) (ZN (Jh XS)) Wa
def He {e:Expr}{c:Scope}{N:List Str}{a:Scope}(q:X.calm=true)(hr:jH kr X.A)(o:∀{p},PE X (.Name f p) (Za jf))(k:Snd X Y EP fp)(j:X.N=N)(i:X.env.scope=a)(d:(G6 c a&&Xi N [wy,b] c a 1 [ib])=true)(r:qx X c [wy,b] λg=>PG g (.Name wy p1) (Zh 0))(l:Xg X c [wy,b] (λ_ _ _=>False) λg=>PE g e As):
  PS X (.If (.Compare EP [.NotEq] [.ListComp e [⟨.Name wy p1,.Name f p2,[],0⟩] c p5] p6) [.Return (some (.Constant (.bool false) k1 p7)) p8] [] p9)
   (gZ (yU (nQ (wC nq) (tE Y fp) (yf (Yl X.K (Za jf)) 1 [ib] (Zh 0) As))) (Gq (tC (.bl false))) yR):=by
 rw[am]at d;exact Vr (U0 (UC hr.units) (Qw k) (yc (qC a i d.1) (Wl N a j i d.2) q (UG o) r l) (W9 _ 01 01)) (ZN (Jh XS)) Wa
end
end PV
namespace G
open PySem PySem.Spec PyProof.Rows L2 PV
def sM:En->RS:=
  zp (mT (zu oB (vB 1) (mM Zw (vB 0))) (zw (zd i4 04 (vE 1))) (mS))
  (zp (mT (zu mL (vB 0) (j7 (ze))) (zw (cE (.int 0))) (mS))
  (zw (zd zA (zd Z5 (zd i4 04 (zd jr (vE 1) (mM Zw (vB 0)))) (cE (.int 31))) (vE 1))))
def tz:List T->R T:=λts=>zn (sM  (mO 2 ts))
def DW (a:List T->R T):En->RS:=
  zp (zG 3 (zd jr (zd Z5 (zd zA (zb 2 a (za 04 05)) (zd Z5 (cE (.int 6151)) (zd zA (vE 1) 02))) (cE (.int 40692))) (cE (.int 2147483399))))
  (zw (zd jr (zd jr (zd zA (zd Z5 (vE 3) (vE 3)) (zd We (vE 3) (cE (.int 31)))) (cE (.int 2147483629))) (vE 2)))
def nu:List T->R T:=λts=>zn (DW (tz) (mO 4 ts))
def tV (a:List T->R T):En->RS:=
  zp (zG 2 (cE (.str "abcdefghijklmnopqrstuvwxyz")))
  (zp (mT (zu nZ (zb 3 a (za 04 (za (vE 1) (za (cE (.int 6)) (ze))))) (cE (.int 0))) (zw (zd i4 (j7 (za (cE (.str "a")) (za (cE (.str "b")) (za (cE (.str "ab")) (za (cE (.str "cab")) (ze)))))) (zb 3 a (za 04 (za (zd zA (vE 1) 02) (za (cE (.int 4)) (ze))))))) (mS))
  (zw (mM (Ec "") (zE (ZI (zd zA 02 (zb 3 a (za 04 (za (zd zA (vE 1) 02) (za (cE (.int 3)) (ze))))))) (zB 0) (Z2) (zd i4 (vE 3) (zb 3 a (za (vE 1) (za (zd zA (zd zA (vE 2) (cE (.int 2))) 04) (za (cE (.int 26)) (ze)))))) 1 [0,1,2]))))
def G8:List T->R T:=λts=>zn (tV (nu) (mO 3 ts))
def Al (a:List T->R T)(c:List T->R T):En->RS:=
  zp (mT (zu nZ (zb 3 a (za 04 (za (vE 1) (za (cE (.int 3)) (ze))))) (cE (.int 0))) (zp (zG 2 (zd Jj (zb 3 a (za 04 (za (zd zA (vE 1) 02) (za (cE (.int 7)) (ze))))) (cE (.int 3))))
  (zp (mT (zu mL (zb 3 a (za 04 (za (zd zA (vE 1) (cE (.int 3))) (za (cE (.int 8)) (ze))))) (cE (.int 0))) (zG 2 (zd i4 (j7 (za (VC (cE (.int 20))) (za (cE (.int 17)) (za (cE (.int 20)) (ze))))) (zb 3 a (za 04 (za (zd zA (vE 1) (cE (.int 4))) (za (cE (.int 3)) (ze))))))) (mS))
  (zw (Zq (za (cE (.str "whole")) (za (vE 2) (za (zd qk (cE (.int 20)) (zd zA (vE 2) (zb 3 a (za 04 (za (zd zA (vE 1) (cE (.int 2))) (za (cE (.int 4)) (ze))))))) (ze)))))))) (mS))
  (zp (Yz 3 (ze))
  (zp (j5 (ZI (zd zA 02 (zb 3 a (za 04 (za (zd zA (vE 1) 02) (za (cE (.int 4)) (ze))))))) (zB 4) (zp (zG 5 (zb 2 c (za 04 (za (zd zA (zd zA (vE 1) (cE (.int 5))) (zd Z5 (cE (.int 5)) (vE 4))) (ze)))))
  (mT (zu VD (vB 5) (vB 3)) (VL 3 (vE 5)) (mS))))
  (zw (Zq (za (cE (.str "pick")) (za (mM Y2 (zE (VP (vE 3)) (zS 0 1) (Z2) (Zq (za (vE 1) (za (zd zA 02 (zb 3 a (za (vE 2) (za (zd zA (zd zA (vE 3) (cE (.int 30))) 04) (za (cE (.int 20)) (ze)))))) (ze)))) 2 [0,1])) (ze)))))))
def sK:List T->R T:=λts=>zn (Al (nu) (G8) (mO 6 ts))
def AQ (a:List T->R T)(c:List T->R T)(d:List T->R T):En->RS:=
  zp (zG 3 (zb 3 a (za 04 (za (vE 1) (za (cE (.int 5)) (ze))))))
  (zp (mT (nU (zu mL (vB 2) 02) (zu oB (vB 3) (cE (.int 2)))) (zw (zb 2 c (za 04 (za (zd zA (vE 1) 02) (ze))))) (mS))
  (zp (mT (zu oB (vB 3) (cE (.int 4))) (zp (zG 4 (zE (ZI (zd zA 02 (zb 3 a (za 04 (za (zd zA (vE 1) 02) (za (cE (.int 3)) (ze))))))) (zB 0) (Z2) (zb 3 d (za (vE 1) (za (zd zA (zd zA (zd Z5 (cE (.int 3)) (vE 2)) (cE (.int 40))) (zd Z5 (cE (.int 50)) 04)) (za (zd Jj (vE 3) 02) (ze))))) 1 [0,1,2]))
  (zw (Zq (za (cE (.str "row")) (za (mM Y2 (vE 4)) (ze)))))) (mS))
  (zp (zG 5 (zb 3 a (za 04 (za (zd zA (vE 1) 02) (za (cE (.int 3)) (ze))))))
  (zw (Zq (za (cE (.str "many")) (za (zb 3 d (za 04 (za (zd zA (zd Z5 (cE (.int 3)) (vE 1)) (cE (.int 40))) (za (zd Jj (vE 2) 02) (ze))))) (za (vE 5) (za (zd qk (cE (.int 3)) (zd zA (vE 5) (zb 3 a (za 04 (za (zd zA (vE 1) (cE (.int 2))) (za (cE (.int 3)) (ze))))))) (ze))))))))))
def o4:Nat->Nat->List T->R T
 |0,_=>λ_=>.bad
 |n+1,_=>λts=>zn (AQ (nu) (sK) (o4 n 0) (mO 6 ts))
abbrev o8 (n:Nat):List T->R T:=o4 n 0
def AX:En->RS:=
  zp (zG 1 (j7 (za (Zq (ze)) (ze))))
  (zp (j5 (Zj 04) (zB 2) (zp (Yz 3 (ze))
  (zp (j5 (Zj (vE 1)) (zB 4) (Vd 3 (zE (Zj (vE 2)) (zB 0) (Z2) (zd zA (vE 1) (Zq (za 04 (ze)))) 1 [4])))
  (Bh 1 3))))
  (zw (vE 1)))
def nv:List T->R T:=λts=>zn (AX  (mO 5 ts))
def nK (c:List T->R T)(a:List T->R T):En->RS:=
  zp (mT (zu mL 03 (cE (.str "whole"))) (zw (Av (Jv (zd i4 04 02) (zd zA 000 02)))) (mS))
  (zp (mT (zu mL 03 (cE (.str "pick"))) (zw (zE (Zj (zd i4 04 02)) (zS 0 1) (Z2) 04 2 [])) (mS))
  (zp (mT (zu mL 03 (cE (.str "row"))) (zw (zb 1 a (za (zE (Zj (zd i4 04 02)) (zB 0) (Z2) (zb 1 c (za 04 (ze))) 1 []) (ze)))) (mS))
  (zp (Yz 1 (ze))
  (zp (j5 (Jv 000 (zd zA (zd i4 04 (cE (.int 3))) 02)) (zB 2) (Vd 1 (zb 1 a (za (zd Z5 (j7 (za (zb 1 c (za (zd i4 04 02) (ze))) (ze))) (vE 2)) (ze)))))
  (zw (vE 1))))))
def pZ:Nat->Nat->List T->R T
 |0,_=>λ_=>.bad
 |n+1,_=>λts=>zn (nK (pZ n 0) (nv) (mO 3 ts))
abbrev nW (n:Nat):List T->R T:=pZ n 0
def ox (c:List T->R T)(a:List T->R T):En->RS:=
  zp (mT (zu nA 03 (Zq (za (cE (.str "whole")) (za (cE (.str "pick")) (ze))))) (zw (mM Zw (zb 1 c (za 04 (ze))))) (mS))
  (zp (zG 1 (nC (zu mL 03 (cE (.str "row"))) (zE (Zj (zd i4 04 02)) (zB 0) (Z2) (zb 1 a (za 04 (ze))) 1 []) (j7 (ze))))
  (zp (zG 2 02)
  (zp (j5 (Zj (vE 1)) (zB 3) (zG 2 (zd Z5 (vE 2) (vE 3))))
  (zp (mT (zu mL 03 (cE (.str "many"))) (zp (zG 4 (zb 1 a (za (zd i4 04 02) (ze))))
  (zp (zG 2 (zd zA (mM qE (ZV mL 000 (cE (.int 0)))) (zd Z5 (vE 4) (mM qE (nG mX mX 000 02 (zd i4 04 (cE (.int 3))))))))
  (zp (zG 2 (zd zA (vE 2) (zd Z5 (zd Z5 (vE 4) (vE 4)) (mM qE (nG mX mX 000 (cE (.int 2)) (zd i4 04 (cE (.int 3))))))))
  (zG 2 (zd zA (vE 2) (zd Z5 (zd Z5 (zd Z5 (vE 4) (vE 4)) (vE 4)) (mM qE (ZV mL (zd i4 04 (cE (.int 3))) (cE (.int 3)))))))))) (mS))
  (zw (vE 2))))))
def AL:Nat->Nat->List T->R T
 |0,_=>λ_=>.bad
 |n+1,_=>λts=>zn (ox (nW 8) (AL n 0) (mO 5 ts))
abbrev sE (n:Nat):List T->R T:=AL n 0
def A8 (c:List T->R T)(a:List T->R T):En->RS:=
  zp (zG 3 (zb 3 c (za 04 (za (vE 1) (za (cE (.int 3)) (ze))))))
  (zp (j5 (ZI (cE (.int 3))) (zB 4) (zp (mT (zu mX (zb 1 a (za (vE 3) (ze))) (vB 2)) (zw (vE 3)) (mS))
  (zG 3 (zb 3 c (za 04 (za (zd zA (zd zA (vE 1) (cE (.int 500))) (zd Z5 (cE (.int 700)) (vE 4))) (za (cE (.int 2)) (ze))))))))
  (zw (nC (zu mX (zb 1 a (za (vE 3) (ze))) (vB 2)) (vE 3) (Zq (za (cE (.str "whole")) (za (VC 02) (za (cE (.int 2)) (ze))))))))
def rN:List T->R T:=λts=>zn (A8 (o8 8) (sE 8) (mO 5 ts))
def Ac (a:List T->R T)(c:List T->R T):En->RS:=
  zp (zG 3 (zb 3 a (za 04 (za (vE 1) (za (cE (.int 9)) (ze))))))
  (zp (mT (GW (zu nZ (vB 2) 02) (zu nZ (vB 3) (cE (.int 5)))) (zp (zG 4 (zb 3 c (za 04 (za (zd zA (zd Z5 (cE (.int 2)) (vE 1)) (cE (.int 11))) (za (zd Jj (vE 2) 02) (ze))))))
  (zp (mT (zu mL (vB 3) (cE (.int 6))) (zw (Zq (za (cE (.str "no")) (za (vE 4) (ze))))) (mS))
  (zw (Zq (za (zd i4 (j7 (za (cE (.str "all")) (za (cE (.str "some")) (ze)))) (zd Jj (vE 3) (cE (.int 7)))) (za (vE 4) (za (zb 3 c (za 04 (za (zd zA (zd Z5 (cE (.int 2)) (vE 1)) (cE (.int 24))) (za (zd Jj (vE 2) 02) (ze))))) (ze)))))))) (mS))
  (zp (zG 5 (zd Jj (zb 3 a (za 04 (za (zd zA (vE 1) 02) (za (cE (.int 9)) (ze))))) (cE (.int 4))))
  (zp (mT (zu oB (zd jr (vE 3) (cE (.int 6))) (cE (.int 2))) (zw (Zq (za (cE (.str "sum")) (za (vE 5) (za (zd Jj (zd zA (vE 5) (zb 3 a (za 04 (za (zd zA (vE 1) (cE (.int 2))) (za (cE (.int 5)) (ze)))))) 02) (ze)))))) (mS))
  (zp (mT (zu mL (zd jr (vE 3) (cE (.int 6))) (cE (.int 2))) (zw (Zq (za (cE (.str "size")) (za (zb 3 a (za 04 (za (zd zA (vE 1) 02) (za (cE (.int 3)) (ze))))) (za (zb 3 a (za 04 (za (zd zA (vE 1) (cE (.int 2))) (za (cE (.int 4)) (ze))))) (ze)))))) (mS))
  (zp (mT (zu mL (zd jr (vE 3) (cE (.int 6))) (cE (.int 3))) (zw (Zq (za (cE (.str "word")) (za (zd i4 (j7 (za (cE (.str "a")) (za (cE (.str "b")) (za (cE (.str "ab")) (za (cE (.str "zz")) (ze)))))) (zb 3 a (za 04 (za (zd zA (vE 1) 02) (za (cE (.int 4)) (ze)))))) (ze))))) (mS))
  (zw (nC (zu mL (zd jr (vE 3) (cE (.int 6))) (cE (.int 4))) (Zq (za (cE (.str "rising")) (ze))) (Zq (za (cE (.str "unlike")) (ze))))))))))
def ph:Nat->Nat->List T->R T
 |0,_=>λ_=>.bad
 |n+1,_=>λts=>zn (Ac (nu) (ph n 0) (mO 6 ts))
abbrev AU (n:Nat):List T->R T:=ph n 0
def A2 (a:List T->R T):En->RS:=
  zp (mT (WR (jA (mM (wT "tuple") (vB 0)))) (zw (j7 (za 04 (ze)))) (mS))
  (zp (zG 1 (j7 (ze)))
  (zp (j5 (Zj 04) (zB 2) (zG 1 (zd zA (vE 1) (zb 1 a (za (vE 2) (ze))))))
  (zw (vE 1))))
def r9:Nat->Nat->List T->R T
 |0,_=>λ_=>.bad
 |n+1,_=>λts=>zn (A2 (r9 n 0) (mO 3 ts))
abbrev sJ (n:Nat):List T->R T:=r9 n 0
def AB (a:List T->R T)(c:List T->R T):En->RS:=
  zp (zG 2 (zE (Zj (zb 1 a 05)) (zB 0) (jA (mM (wT "int") (vB 0))) 04 1 []))
  (zp (zG 3 (nC (jA (mM (wT "tuple") (vB 1))) (vE 1) (Zq 05)))
  (zp (mT (zu mL 03 (cE (.str "sum"))) (zp (zG 4 (cE (.int 0)))
  (zp (j5 (Zj (vE 2)) (zB 5) (zG 4 (zd zA (vE 4) (vE 5))))
  (zw (ZW (ZV mX (zd i4 04 02) (vB 4)) (ZV mX (vB 4) 000))))) (mS))
  (zp (mT (zu mL 03 (cE (.str "size"))) (zw (ZW (ZV pW (mM Zw (vB 3)) (zd i4 04 02)) (ZV mX (mM Zw (vB 3)) 000))) (mS))
  (zp (mT (zu mL 03 (cE (.str "word"))) (zw (ZV nq (zE (Zj (zb 1 a 05)) (zB 0) (zu mL (vB 0) (zd i4 (vE 1) 02)) 04 1 [0]) (j7 (ze)))) (mS))
  (zp (mT (zu mL 03 (cE (.str "rising"))) (zw (ZV mL (vB 2) (mM xa (vB 2)))) (mS))
  (zp (mT (zu mL 03 (cE (.str "unlike"))) (zw (ZV mL (zE (ZI (mM Zw (vB 3))) (zB 0) (zu nA (zd i4 (vE 1) 04) (oD (vE 1) (oE) (Ju 04))) 04 1 [3]) (j7 (ze)))) (mS))
  (zp (mT (zu mL 03 (cE (.str "no"))) (zw (Vc (zb 2 c (za (zd i4 04 02) 05)))) (mS))
  (zp (zG 6 (zE (Zj (oD 04 (Ju 02) (oE))) (zB 0) (Z2) (zb 2 c (za 04 05)) 1 [1]))
  (zw (nC (zu mL 03 (cE (.str "all"))) (ZW (zd i4 (vE 6) (cE (.int 0))) (zd i4 (vE 6) 02)) (rh (zd i4 (vE 6) (cE (.int 0))) (zd i4 (vE 6) 02))))))))))))
def nR:Nat->Nat->List T->R T
 |0,_=>λ_=>.bad
 |n+1,_=>λts=>zn (AB (sJ 8) (nR n 0) (mO 7 ts))
abbrev pS (n:Nat):List T->R T:=nR n 0
def tN:En->RS:=
  zp (Ve 2 3 (za (zd zA (zd nY 03 (zd i4 (vE 1) 02)) (zd nY (zd i4 (vE 1) (cE (.int 0))) (zd i4 04 02))) (za (zd nY (zd i4 04 02) (zd i4 (vE 1) 02)) (ze))))
  (zp (Ve 4 5 (za (vE 2) (za (vE 3) (ze))))
  (zp (Zr (zu nq (vB 5) (cE (.int 0))) (Ve 4 5 (za (vE 5) (za (zd jr (vE 4) (vE 5)) (ze)))) (2^9000))
  (zw (Zq (za (zd Xo (vE 2) (vE 4)) (za (zd Xo (vE 3) (vE 4)) (ze)))))))
def o6:List T->R T:=λts=>zn (tN  (mO 6 ts))
def D5:En->RS:=
  zw (ZW (mM (wT "int") (vB 0)) (Vc (mM (wT "bool") (vB 0))))
def om:List T->R T:=λts=>zn (D5  (mO 1 ts))
def sx (a:List T->R T):En->RS:=
  zw (ZW (zb 1 a (za 04 (ze))) (ZW (zb 1 a 05) (sO mX mX mX (vB 2) (vB 0) (vB 1) (vB 3))))
def tM:List T->R T:=λts=>zn (sx (om) (mO 4 ts))
def Eo:En->RS:=
  zw (ZW (mM (wT "tuple") (vB 0)) (nG mX mX (vB 1) (mM Zw (vB 0)) (vB 2)))
def n6:List T->R T:=λts=>zn (Eo  (mO 3 ts))
def EB:En->RS:=
  zp (mT (nU (WR (jA (mM (wT "str") (vB 0)))) (WR (D2 mX mX 02 (mM Zw (vB 0)) (cE (.int 3))))) (zw (cE (.bl false))) (mS))
  (zw (mM Xb (zE (Zj 04) (zB 0) (Z2) (nG mX mX (cE (.str "a")) (vB 0) (cE (.str "z"))) 1 [])))
def pp:List T->R T:=λts=>zn (EB  (mO 1 ts))
def Bn (d:List T->R T)(c:List T->R T)(a:List T->R T):En->RS:=
  zw (ZW (zb 3 c (za 04 (za (cE (.int 2)) (za (cE (.int 2)) (ze))))) (ZW (zb 1 a (za 03 (ze))) (ZW (zb 1 d (za (zd i4 04 02) (ze))) (nG mX mX 02 (zd i4 04 02) (cE (.int 20))))))
def rQ:List T->R T:=λts=>zn (Bn (om) (n6) (pp) (mO 1 ts))
def Bl (c:List T->R T)(a:List T->R T):En->RS:=
  zp (mT (nU (WR (jA (zb 3 c (za 04 (za 02 (za (cE (.int 4)) (ze))))))) (WR (jA (mM Xb (zE (Zj 04) (zB 0) (Z2) (zb 1 a (za 04 (ze))) 1 []))))) (zw (cE (.bl false))) (mS))
  (zp (zG 1 (zE (Zj 04) (zB 0) (Z2) 03 1 []))
  (zw (ZV mL (mM VR (vB 1)) (mM Zw (vB 1)))))
def sZ:List T->R T:=λts=>zn (Bl (n6) (rQ) (mO 2 ts))
def Ak (a:List T->R T)(e:List T->R T)(c:List T->R T)(d:List T->R T):En->RS:=
  zp (mT (nU (zu mL (vB 1) (cE (.int 0))) (nU (WR (jA (mM (wT "tuple") (vB 0)))) (zu mL (mM Zw (vB 0)) (cE (.int 0))))) (zw (cE (.bl false))) (mS))
  (zp (mT (zu mL 03 (cE (.str "whole"))) (zw (ZW (ZV mL (mM Zw (vB 0)) (cE (.int 3))) (zb 4 a (za (zd i4 04 02) (za 000 (za (VC (cE (.int 20))) (za (cE (.int 20)) (ze)))))))) (mS))
  (zp (mT (zu mL 03 (cE (.str "pick"))) (zw (ZW (ZV mL (mM Zw (vB 0)) (cE (.int 2))) (zb 1 c (za (zd i4 04 02) (ze))))) (mS))
  (zp (mT (zu mL 03 (cE (.str "row"))) (zw (ZW (ZV mL (mM Zw (vB 0)) (cE (.int 2))) (zb 2 d (za (zd i4 04 02) (za (zd Jj (vE 1) 02) (ze)))))) (mS))
  (zp (mT (zu mL 03 (cE (.str "many"))) (zw (ZW (ZV mL (mM Zw (vB 0)) (cE (.int 4))) (ZW (zb 4 a (za 000 (za (zd i4 04 (cE (.int 3))) (za (cE (.int 0)) (za (cE (.int 3)) (ze)))))) (zb 2 e (za (zd i4 04 02) (za (zd Jj (vE 1) 02) (ze))))))) (mS))
  (zw (cE (.bl false)))))))
def Ba (c:List T->R T)(a:List T->R T):En->RS:=
  zw (ZW (zb 3 c (za 04 (za 02 (za (cE (.int 3)) (ze))))) (mM Xb (zE (Zj 04) (zB 0) (Z2) (zb 2 a (za 04 05)) 1 [1])))
def nS:Nat->Nat->List T->R T
 |0,_=>λ_=>.bad
 |n+1,0=>λts=>zn (Ak (tM) (nS n 0) (sZ) (nS n 1) (mO 2 ts))
 |n+1,_=>λts=>zn (Ba (n6) (nS n 0) (mO 2 ts))
abbrev Ck (n:Nat):List T->R T:=nS n 0
abbrev Cr (n:Nat):List T->R T:=nS n 1
def A5 (a:List T->R T):En->RS:=
  zw (zb 2 a (za 04 (za (cE (.int 3)) (ze))))
def t7:List T->R T:=λts=>zn (A5 (Ck 20) (mO 1 ts))
def A4 (a:List T->R T):En->RS:=
  mT (WR (jA (zb 1 a (za 04 (ze))))) (G7) (mS)
def Az:List T->R T:=λts=>zn (A4 (t7) (mO 1 ts))
def Au:En->RS:=
  zw (zE (Zj (zd i4 04 02)) (zB 0) (Z2) 03 1 [])
def oQ:List T->R T:=λts=>zn (Au  (mO 1 ts))
def oK (e:List T->R T)(c:List T->R T)(d:List T->R T)(a:List T->R T):En->RS:=
  zp (mT (zu mL 03 (cE (.str "whole"))) (zw (ZW (zb 1 e 05) (nG mX mX (zd i4 04 02) (vB 1) 000))) (mS))
  (zp (mT (zu mL 03 (cE (.str "pick"))) (zw (ZV nA (vB 1) (zb 1 d (za 04 (ze))))) (mS))
  (zp (mT (zu mL 03 (cE (.str "row"))) (zw (ZW (zb 3 c (za (vE 1) (za (mM Zw (zd i4 04 02)) (za (mM Zw (zd i4 04 02)) (ze))))) (zb 2 a (za (zd i4 04 02) 05)))) (mS))
  (zw (ZW (zb 3 c (za (vE 1) (za 000 (za (zd i4 04 (cE (.int 3))) (ze))))) (zb 2 a (za (zd Z5 (j7 (za (zd i4 04 02) (ze))) (mM Zw (vB 1))) 05))))))
def Be (a:List T->R T):En->RS:=
  zw (mM Xb (zE (Xk 04 (vE 1)) (zS 0 1) (Z2) (zb 2 a (za 04 05)) 2 []))
def oG:Nat->Nat->List T->R T
 |0,_=>λ_=>.bad
 |n+1,0=>λts=>zn (oK (om) (n6) (oQ) (oG n 1) (mO 2 ts))
 |n+1,_=>λts=>zn (Be (oG n 0) (mO 2 ts))
abbrev EA (n:Nat):List T->R T:=oG n 0
abbrev CU (n:Nat):List T->R T:=oG n 1
def Ae (c:List T->R T)(a:List T->R T):En->RS:=
  zp (wH (zb 1 c (za 04 (ze))))
  (zw (zb 2 a (za 04 05)))
def Cy:List T->R T:=λts=>zn (Ae (Az) (EA 20) (mO 2 ts))
def tX (a:List T->R T):En->RS:=
  mT (WR (jA (zb 2 a (za 04 05)))) (G7) (mS)
def Aq:List T->R T:=λts=>zn (tX (Cy) (mO 2 ts))
def tP (a:List T->R T)(c:List T->R T):En->RS:=
  zp (mT (zu mL 03 (cE (.str "whole"))) (zw (zd zA (zd Jj 000 (zd i4 04 02)) 02)) (mS))
  (zp (mT (zu mL 03 (cE (.str "pick"))) (zw (mM Zw (zd i4 04 02))) (mS))
  (zp (mT (zu mL 03 (cE (.str "row"))) (zw (zb 1 a (za (zd i4 04 02) (ze)))) (mS))
  (zw (zb 2 c (za 04 (za (zd zA (zd i4 04 (cE (.int 3))) 02) (ze)))))))
def tK (a:List T->R T):En->RS:=
  zp (zG 1 02)
  (zp (j5 (Zj 04) (zB 2) (zG 1 (zd Z5 (vE 1) (zb 1 a (za (vE 2) (ze))))))
  (zw (vE 1)))
def rY (a:List T->R T):En->RS:=
  zw (mM VU (zE (Jv 000 (vE 1)) (zB 0) (Z2) (zb 1 a (za (zd Z5 (j7 (za (zd i4 (vE 1) 02) (ze))) 04) (ze))) 1 [0]))
def oj:Nat->Nat->List T->R T
 |0,_=>λ_=>.bad
 |n+1,0=>λts=>zn (tP (oj n 1) (oj n 2) (mO 1 ts))
 |n+1,1=>λts=>zn (tK (oj n 0) (mO 3 ts))
 |n+1,_=>λts=>zn (rY (oj n 1) (mO 2 ts))
abbrev pD (n:Nat):List T->R T:=oj n 0
abbrev IK (n:Nat):List T->R T:=oj n 1
abbrev ri (n:Nat):List T->R T:=oj n 2
def tO:En->RS:=
  zp (Zr (zu nq (vB 1) (cE (.int 0))) (zp (zG 2 (zd jr 04 (vE 1)))
  (zp (zG 0 (vE 1))
  (zG 1 (vE 2)))) (2^9000))
  (zw 04)
def AY:List T->R T:=λts=>zn (tO  (mO 3 ts))
def Ab (a:List T->R T):En->RS:=
  zp (zG 2 (zb 2 a (za (mM A3 (vB 0)) 05)))
  (zw (Zq (za (zd Xo 04 (vE 2)) (za (zd Xo (vE 1) (vE 2)) (ze)))))
def sX:List T->R T:=λts=>zn (Ab (AY) (mO 3 ts))
def DJ (a:List T->R T):En->RS:=
  xh 1 (zd i4 04 02) a
def Ag:List T->R T:=λts=>zn (DJ (sX) (mO 3 ts))
def Aa (a:List T->R T):En->RS:=
  zw (zb 2 a (za (zd nY 03 (zd i4 (vE 1) (cE (.int 0)))) (za (zd nY (zd i4 04 02) (zd i4 (vE 1) 02)) (ze))))
def pN:List T->R T:=λts=>zn (Aa (sX) (mO 2 ts))
def pK (d:List T->R T)(e:List T->R T)(c:List T->R T)(a:List T->R T):En->RS:=
  zp (mT (zu mL 03 (cE (.str "whole"))) (zw (Zq (za 02 (za (zb 1 d (za 04 (ze))) (ze))))) (mS))
  (zp (mT (zu mL 03 (cE (.str "pick"))) (zw (zb 2 c (za 04 05))) (mS))
  (zp (mT (zu mL 03 (cE (.str "row"))) (zw (zb 2 a (za (zd i4 04 02) 05))) (mS))
  (zp (zG 2 (Zq (za 02 (za (zd zA (zd Jj (zd i4 04 (cE (.int 3))) 000) 02) (ze)))))
  (zw (zb 2 e (za (vE 2) (za (zb 2 a (za (zd Z5 (j7 (za (zd i4 04 02) (ze))) (mM Zw (vB 1))) 05)) (ze))))))))
def Bf (a:List T->R T)(c:List T->R T):En->RS:=
  zp (zG 2 (Zq (za 02 (za 02 (ze)))))
  (zp (j5 (Xk 04 (vE 1)) (zS 3 4) (zG 2 (zb 2 a (za (vE 2) (za (zb 2 c (za (vE 3) (za (vE 4) (ze)))) (ze))))))
  (zw (vE 2)))
def oF:Nat->Nat->List T->R T
 |0,_=>λ_=>.bad
 |n+1,0=>λts=>zn (pK (pD 20) (pN) (Ag) (oF n 1) (mO 3 ts))
 |n+1,_=>λts=>zn (Bf (pN) (oF n 0) (mO 5 ts))
abbrev re (n:Nat):List T->R T:=oF n 0
abbrev BS (n:Nat):List T->R T:=oF n 1
def AZ (a:List T->R T)(c:List T->R T):En->RS:=
  zp (wH (zb 2 a (za 04 05)))
  (zw (zb 2 c (za 04 05)))
def pO:List T->R T:=λts=>zn (AZ (Aq) (re 20) (mO 2 ts))
def By (a:List T->R T):En->RS:=
  zw (ZW (zb 1 a (za 04 (ze))) (nG mX mX (VC (cE (.int 50))) (vB 0) (cE (.int 50))))
def tZ:List T->R T:=λts=>zn (By (om) (mO 1 ts))
def AO (d:List T->R T)(c:List T->R T)(a:List T->R T):En->RS:=
  zp (mT (nU (zu mL (vB 1) (cE (.int 0))) (nU (WR (jA (mM (wT "tuple") (vB 0)))) (zu mL (mM Zw (vB 0)) (cE (.int 0))))) (zw (cE (.bl false))) (mS))
  (zp (mT (nU (zu mL 03 (cE (.str "sum"))) (zu mL 03 (cE (.str "size")))) (zw (ZW (ZV mL (mM Zw (vB 0)) (cE (.int 3))) (ZW (zb 1 a (za (zd i4 04 02) (ze))) (zb 1 a (za 000 (ze)))))) (mS))
  (zp (mT (zu mL 03 (cE (.str "word"))) (zw (ZW (ZV mL (mM Zw (vB 0)) (cE (.int 2))) (zb 1 d (za (zd i4 04 02) (ze))))) (mS))
  (zp (mT (nU (zu mL 03 (cE (.str "rising"))) (zu mL 03 (cE (.str "unlike")))) (zw (ZV mL (mM Zw (vB 0)) 02)) (mS))
  (zp (mT (zu mL 03 (cE (.str "no"))) (zw (ZW (ZV mL (mM Zw (vB 0)) (cE (.int 2))) (zb 2 c (za (zd i4 04 02) (za (zd Jj (vE 1) 02) (ze)))))) (mS))
  (zp (mT (nU (zu mL 03 (cE (.str "all"))) (zu mL 03 (cE (.str "some")))) (zw (ZW (ZV mL (mM Zw (vB 0)) (cE (.int 3))) (ZW (zb 2 c (za (zd i4 04 02) (za (zd Jj (vE 1) 02) (ze)))) (zb 2 c (za 000 (za (zd Jj (vE 1) 02) (ze))))))) (mS))
  (zw (cE (.bl false))))))))
def rS:Nat->Nat->List T->R T
 |0,_=>λ_=>.bad
 |n+1,_=>λts=>zn (AO (pp) (rS n 0) (tZ) (mO 2 ts))
abbrev D9 (n:Nat):List T->R T:=rS n 0
def Ep (a:List T->R T):En->RS:=
  zw (zb 2 a (za 04 (za (cE (.int 3)) (ze))))
def Cw:List T->R T:=λts=>zn (Ep (D9 8) (mO 1 ts))
def Bj (a:List T->R T):En->RS:=
  mT (WR (jA (zb 1 a (za 04 (ze))))) (G7) (mS)
def tT:List T->R T:=λts=>zn (Bj (Cw) (mO 1 ts))
def Ad (a:List T->R T):En->RS:=
  zp (mT (WR (jA (mM (Em "list" "tuple") 04))) (G7) (mS))
  (j5 (Zj 04) (zB 1) (wH (zb 1 a 05)))
def pH:List T->R T:=λts=>zn (Ad (tT) (mO 2 ts))
def AN (d:List T->R T)(c:List T->R T)(a:List T->R T):En->RS:=
  zp (mT (zu mL 03 (cE (.str "whole"))) (zw (zd zA (zd i4 04 02) (vE 1))) (mS))
  (zp (mT (zu mL 03 (cE (.str "pick"))) (zw (zd i4 (zb 1 d (za 04 (ze))) (vE 1))) (mS))
  (zp (mT (zu mL 03 (cE (.str "row"))) (zw (zb 2 a (za (zd i4 04 02) 05))) (mS))
  (zw (zb 2 c (za 04 05)))))
def tf (c:List T->R T)(a:List T->R T):En->RS:=
  zp (zG 2 000)
  (zp (Zr (zu mX (zb 2 c (za 04 (za (zd zA (vE 2) 02) (ze)))) (vB 1)) (zG 2 (zd zA (vE 2) 02)) (8))
  (zw (zb 2 a (za (zd Z5 (j7 (za (zd i4 04 02) (ze))) (vE 2)) (za (zd Jj (vE 1) (zb 2 c (za 04 (za (vE 2) (ze))))) (ze))))))
def rZ (a:List T->R T)(c:List T->R T):En->RS:=
  zp (Yz 2 (ze))
  (zp (zG 3 (vE 1))
  (zp (j5 (Cz 04) (zB 4) (zp (zG 5 (zb 1 a (za (vE 4) (ze))))
  (zp (VL 2 (zb 2 c (za (vE 4) (za (zd jr (vE 3) (vE 5)) (ze)))))
  (zG 3 (zd We (vE 3) (vE 5))))))
  (zw (mM x9 (vE 2)))))
def oz:Nat->Nat->List T->R T
 |0,_=>λ_=>.bad
 |n+1,0=>λts=>zn (AN (oQ) (oz n 1) (oz n 2) (mO 2 ts))
 |n+1,1=>λts=>zn (tf (ri 20) (oz n 2) (mO 3 ts))
 |n+1,_=>λts=>zn (rZ (pD 20) (oz n 0) (mO 6 ts))
abbrev sQ (n:Nat):List T->R T:=oz n 0
abbrev B5 (n:Nat):List T->R T:=oz n 1
abbrev DP (n:Nat):List T->R T:=oz n 2
def Ar (c:List T->R T)(a:List T->R T)(d:List T->R T):En->RS:=
  zp (wH (zb 1 c (za 04 (ze))))
  (zp (zG 1 (zb 1 a (za 04 (ze))))
  (zp (mT (zu nZ (vB 1) (cE (.int 500))) (G7) (mS))
  (sP (ZI (vE 1)) (zB 0) (Z2) (zb 2 d (za (vE 1) (za 04 (ze)))) 1 [0])))
def rc:List T->R T:=λts=>zn (Ar (Az) (pD 20) (sQ 20) (mO 2 ts))
def Am (a:List T->R T):En->RS:=
  zp (mT (WR (jA (mM (wT "tuple") (vB 0)))) (zw (j7 (za 04 (ze)))) (mS))
  (zp (Yz 1 (ze))
  (zp (j5 (Zj 04) (zB 2) (Vd 1 (zb 1 a (za (vE 2) (ze)))))
  (zw (vE 1))))
def sY:Nat->Nat->List T->R T
 |0,_=>λ_=>.bad
 |n+1,_=>λts=>zn (Am (sY n 0) (mO 3 ts))
abbrev pV (n:Nat):List T->R T:=sY n 0
def BW (a:List T->R T)(c:List T->R T):En->RS:=
  zw (zE (Zj (zb 1 c (za 04 (ze)))) (zB 0) (jA (zb 1 a (za 04 (ze)))) 04 1 [])
def Ah:List T->R T:=λts=>zn (BW (om) (pV 8) (mO 1 ts))
def se:En->RS:=
  zw (nC (jA (mM (wT "tuple") (vB 0))) 04 (Zq (za 04 (ze))))
def AT:List T->R T:=λts=>zn (se  (mO 1 ts))
def Co:En->RS:=
  zw (mM Xb (zE (Xk 04 (oD 04 (Ju 02) (oE))) (zS 0 1) (Z2) (ZV mX (vB 0) (vB 1)) 2 []))
def Bv:List T->R T:=λts=>zn (Co  (mO 1 ts))
def CH:En->RS:=
  zw (Vc (mM BR (zE (UT 04) (zS 0 1) (Z2) (ZV nA (vB 1) (oD (vE 2) (oE) (Ju 04))) 2 [0])))
def Dq:List T->R T:=λts=>zn (CH  (mO 1 ts))
def Bb (c:List T->R T)(f:List T->R T)(a:List T->R T)(d:List T->R T)(e:List T->R T):En->RS:=
  zp (mT (zu mL 03 (cE (.str "sum"))) (zw (nG mX mX (zd i4 04 02) (mM VU (zb 1 a 05)) 000)) (mS))
  (zp (mT (zu mL 03 (cE (.str "size"))) (zw (nG mX mX (zd i4 04 02) (mM Zw (zb 1 c 05)) 000)) (mS))
  (zp (mT (zu mL 03 (cE (.str "word"))) (zw (ZV nA (zd i4 04 02) (zb 1 f 05))) (mS))
  (zp (mT (zu mL 03 (cE (.str "rising"))) (zw (zb 1 d (za (zb 1 a 05) (ze)))) (mS))
  (zw (zb 1 e (za (zb 1 c 05) (ze)))))))
def rM:List T->R T:=λts=>zn (Bb (AT) (pV 8) (Ah) (Bv) (Dq) (mO 2 ts))
def AW (a:List T->R T)(c:List T->R T):En->RS:=
  zp (mT (zu mL 03 (cE (.str "no"))) (zw (Vc (zb 2 a (za (zd i4 04 02) 05)))) (mS))
  (zp (mT (zu mL 03 (cE (.str "all"))) (zw (ZW (zb 2 a (za (zd i4 04 02) 05)) (zb 2 a (za 000 05)))) (mS))
  (zp (mT (zu mL 03 (cE (.str "some"))) (zw (rh (zb 2 a (za (zd i4 04 02) 05)) (zb 2 a (za 000 05)))) (mS))
  (zw (zb 2 c (za 04 05)))))
def oU:Nat->Nat->List T->R T
 |0,_=>λ_=>.bad
 |n+1,_=>λts=>zn (AW (oU n 0) (rM) (mO 2 ts))
abbrev sk (n:Nat):List T->R T:=oU n 0
def CT (a:List T->R T):En->RS:=
  zw (mM Y2 (zE (Zj 04) (zB 0) (Z2) (zb 2 a (za 04 05)) 1 [1]))
def Ay:List T->R T:=λts=>zn (CT (sk 8) (mO 2 ts))
def zO:List T->R (List WE):=Ed (rc) (Ay)
def A7 (a:List T->R T):En->RS:=
  zw (zb 2 a (za (zd zA (zd nY 03 (zd i4 (vE 1) 02)) (zd nY (zd i4 (vE 1) (cE (.int 0))) (zd i4 04 02))) (za (zd nY (zd i4 04 02) (zd i4 (vE 1) 02)) (ze))))
def An:List T->R T:=λts=>zn (A7 (sX) (mO 2 ts))
def Bg (a:List T->R T):En->RS:=
  zp (zG 1 (Zq (za (cE (.int 0)) (za 02 (ze)))))
  (zp (j5 (Zj 04) (zB 2) (zG 1 (zb 2 a (za (vE 1) (za (vE 2) (ze))))))
  (zw (vE 1)))
def Cp:List T->R T:=λts=>zn (Bg (An) (mO 3 ts))
def Dc (a:List T->R T)(c:List T->R T):En->RS:=
  zw (zb 1 a (za (zE (Zj (vE 1)) (zB 0) (Z2) (zb 2 c (za (vE 1) (za 04 (ze)))) 1 [0]) (ze)))
def Ax:List T->R T:=λts=>zn (Dc (Cp) (re 20) (mO 2 ts))
def Ao (c:List T->R T)(d:List T->R T)(a:List T->R (List WE)):En->RS:=
  zp (wH (zb 1 d 05))
  (Xu 2 a (za 04 05) (zS 0 1) (Z2) (Zq (za 04 (za (mM Zw (vB 1)) (za (zb 2 c (za (vE 2) 05)) (ze))))) 2 [0])
def rJ:List T->R T:=λts=>zn (Ao (Ax) (pH) (zO) (mO 3 ts))
def jP:List T->R T:=λa=>C0 (DT (pH) (zO) a)
def AD (a:List T->R T):En->RS:=
  zw (zE (Zj (vE 1)) (zB 0) (Z2) (mM Zw (zE (Zj (vE 1)) (zB 0) (jA (zb 2 a (za (vE 1) (za 04 (ze))))) 04 1 [0])) 1 [0])
def A1:List T->R T:=λts=>zn (AD (sk 8) (mO 2 ts))
def AJ (c:List T->R T)(d:List T->R T)(a:List T->R T):En->RS:=
  zp (wH (zb 1 d 05))
  (zp (zG 2 (zb 2 a (za (zb 1 c (za 04 (ze))) 05)))
  (zp (zG 3 (Er (vB 2) (cE (.int 0))))
  (sP (VP (vE 2)) (zS 0 1) (zu mL (vB 1) (vB 2)) 04 2 [3])))
def AS:List T->R T:=λts=>zn (AJ (rc) (pH) (A1) (mO 4 ts))
def tY (j:List T->R T)(c:List T->R T)(i:List T->R T)(l:List T->R T)(k:List T->R T)(f:List T->R T)(e:List T->R T)(d:List T->R T)(a:List T->R T)(g:List T->R T):En->RS:=
  zp (zG 1 (zb 3 i (za 04 (za (cE (.int 0)) (za (cE (.int 60)) (ze))))))
  (zp (zG 2 (zE (ZI (zb 3 j (za 04 (za 02 (za (cE (.int 5)) (ze)))))) (zB 0) (Z2) (zb 3 k (za (vE 1) (za (zd zA (cE (.int 3000)) (zd Z5 (cE (.int 200)) 04)) (za (cE (.int 2)) (ze))))) 1 [0]))
  (zp (Qz 3 4 5 6 7 (zb 1 c 05) (mM Y2 (zE (Zj (vE 2)) (zB 0) (Z2) (zb 2 f (za 04 05)) 1 [6])) (zb 2 l (za (vE 1) (za (vE 6) (ze)))) e (zb 2 d (za (vE 1) (za (vE 2) (ze)))) (zb 2 a (za (vE 1) (za (mM Y2 (vE 2)) (ze)))))
  (zp (zG 8 (Zq (za (cE (.int 0)) (za 02 (ze)))))
  (zp (j5 (Zj (zb 2 d (za (vE 1) (za (mM Y2 (vE 2)) (ze))))) (Kr 7 9 10) (zp (zG 8 (zb 2 e (za (vE 8) (za (vE 10) (ze)))))
  (mT (nU (zu nq (zE (Zj (vE 7)) (zB 0) (WR (jA (mM (wT "bool") (vB 0)))) 02 1 []) (j7 (ze))) (zu oB (vB 9) 02)) (zw (cE (.bl false))) (mS))))
  (zp (zG 11 (zE (Zj (vE 2)) (zB 0) (Z2) (mM Zw (zE (Zj (zb 1 c 05)) (zB 0) (jA (zb 2 f (za (vE 1) (za 04 (ze))))) 02 1 [0])) 1 [1]))
  (zp (mT (zu nq (zb 2 g (za (vE 1) (za (vE 2) (ze)))) (zE (ZI (mM Zw (vB 2))) (zB 0) (zu mL (zd i4 (vE 1) 04) (mM Ua (vB 1))) 04 1 [11])) (zw (cE (.bl false))) (mS))
  (zw (ZW (ZV mL (vB 8) (Zq (za 02 (za 02 (ze))))) (ZV mL (mM VU (zE (Zj (zb 2 d (za (vE 1) (za (vE 2) (ze))))) (zB 0) (Z2) (zd i4 04 02) 1 [])) (mM Zw (zb 1 c 05)))))))))))
def pk:List T->R T:=λts=>zn (tY (nu) (nW 8) (rN) (pO) (AU 8) (pS 8) (o6) (rJ) (jP) (AS) (mO 12 ts))
end G
namespace G
open PySem L2 PV
noncomputable abbrev mU (ns:List Int):T:=.fz (ns.map T.int)
def KP (ns:List Int)(k:Int)(p:0<=k):∃c,tz [mU ns,.int k]=.ok (.int c):=by
 have j:tz [mU ns,.int k]=zn (if decide (k<((ns.map T.int).length))=true then (nt (ns.map T.int) k).s (λt=>.rt t)else
   match (mL (mU ns) (.lst [])).s (λb=>if b=true then RS.rt (.int 0)else .nx [.vl (mU ns),.vl (.int k)])with
   |.nx ρ'=>zw (zd zA (zd Z5 (zd i4 04 (zd jr (vE 1) (mM Zw (vB 0)))) (cE (.int 31))) (vE 1)) ρ'
   |r=>r):=by
  show zn (match (if decide _=true then (nt _ k).s (λt=>RS.rt t)else .nx _)with
   |.nx ρ'=>_
   |r=>r)=_
  cases decide (k<((ns.map _).length:Int))with
  |true=>
   unfold nt;cases nJ _ k<;>rfl
  |false=>rfl
 rw[j,ag]
 by_cases g:k<(ns.length)
 ·obtain⟨v,f⟩:∃v,ns[k.toNat]?=some v:=⟨ns[k.toNat]'(by omega),ah 00⟩
  have d:nJ (ns.map T.int) k=some (.int v):=by
   have:k=((k.toNat):Int):=by omega
   rw[this];exact j2 (by rw[aw,f];rfl)
  rw[decide_eq_true g];exact⟨v,by unfold nt;rw[d];rfl⟩
 ·rw[decide_eq_false g];cases ns with
  |nil=>exact⟨0,rfl⟩
  |cons x xs=>
   have l:=mE k (show (((x::xs).length):Int)≠0 by simp only[aA];omega)
   have o:=lu k (show (0)<(((x::xs).length):Int) by simp only[aA];omega)
   obtain⟨v,f⟩:∃v,(x::xs)[(k%(((x::xs).length):Int)).toNat]?=some v:=⟨_,ah 00⟩
   have d:nJ ((x::xs).map T.int) (k%(((x::xs).length):Int))=some (.int v):=by
    have e:k%(((x::xs).length):Int)=(((k%(((x::xs).length):Int)).toNat:Nat):Int):=by omega
    rw[e];exact j2 (by rw[aw,f];rfl)
   have i:uY v 31:=.inr ⟨by decide,by decide⟩
   have hp:(0:Int)<(((x::xs).map T.int).length):=by simp only[ag,aA];omega
   refine⟨v*31+k,?_⟩;show zn (((((if 0<(((x::xs).map _).length:Int)then R.ok _ else .bad).bind λy=>i4 _ y).bind λa=>Z5 a _).bind λa=>zA a _).s λt=>.rt t)=_
   rw[if_pos hp];show zn ((((nt _ _).bind λa=>Z5 a _).bind λa=>zA a _).s λt=>.rt t)=_;rw[ag];unfold nt;rw[d];show zn ((((if uY v 31 then R.ok _ else .bad)).bind λa=>zA a _).s λt=>.rt t)=_
   rw[if_pos i];rfl
def zN (ns:List Int)(k m:Int)(i:0<=k)(f:0<m):∃p,nu [mU ns,.int k,.int m]=.ok (.int p)/\0<=p/\p<m:=by
 obtain⟨c,j⟩:=KP ns k i;have a:uY (c+6151*(k+1)) 40692:=.inr ⟨by decide,by decide⟩
 generalize hd:(c+6151*(k+1))*40692%2147483399=d;have e:uY d d:=.inl ⟨by omega,by omega⟩
 refine⟨(d*d+d/31)%2147483629%m,?_,mE _ 00,lu _ f⟩
 have g:nu [mU ns,.int k,.int m]=zn (match ((((((tz _).bind λx=>(Z5 (.int 6151) (.int _)).bind λy=>zA x y).bind λx=>Z5 x _).bind λx=>jr x _)).s λt=>RS.nx _)with
   |.nx ρ'=>zw _ ρ'
   |r=>r):=rfl
 rw[g,j];show zn (match ((((if uY _ _ then R.ok _ else .bad)).bind λx=>jr x _).s λt=>RS.nx _)with
   |.nx ρ'=>_
   |r=>r)=_
 rw[if_pos a];show zn (zw _ _)=_;rw[hd];show zn (((((if uY d d then R.ok _ else .bad).bind λx=>zA x _).bind λx=>jr x _).bind λx=>jr x _).s λt=>RS.rt t)=_
 rw[if_pos e];show zn ((if 0<m then R.ok _ else .bad).s λt=>RS.rt t)=_
 rw[if_pos f];rfl
def QB {ft:En->R Bool}{fe:En->R T}:∀(ts:List T) (ρ:En) (x:Sl),zq (zB 0) ft fe ts (ρ.set 0 x)=zq (zB 0) ft fe ts ρ
 |[],_,_=>rfl
 |t::ts,ρ,x=>by
  unfold zq zB;rw[List.set_set]
theorem Ze {ft:En->R Bool}{fe:En->R T}{p:T->Bool}{h:T->T}:∀(ts:List T) (ρ:En),(∀t∈ts,ft (ρ.set 0 (.vl t))=.ok (p t)/\(p t=true->fe (ρ.set 0 (.vl t))=.ok (h t)))->zq (zB 0) ft fe ts ρ=.ok ((ts.filter p).map h)
 |[],_,_=>rfl
 |t::ts,ρ,H=>by
  obtain⟨d,a⟩:=H t ae;have f:=Ze ts ρ λu c=>H u (a9 _ c);have e:zq (zB 0) ft fe (t::ts) ρ=(ft _).bind λk=>if k=true then (fe _).bind λv=>(zq _ ft fe ts _).bind λvs=>.ok _ else zq _ ft fe ts _:=rfl
  rw[e,d,QB,f];show (if p t=true then _ else _)=_
  cases hp:p t with
  |true=>rw[a hp,List.filter_cons_of_pos hp];rfl
  |false=>rw[if_neg az,List.filter_cons_of_neg (by rw[hp];exact az)]
def QC {fe:En->R T}{h:T->T}(ts:List T)(ρ:En)(H:∀t∈ts,fe (ρ.set 0 (.vl t))=.ok (h t)):zq (zB 0) Z2 fe ts ρ=.ok (ts.map h):=by
 have:=Ze (ft:=Z2) ts ρ λt a=>⟨rfl,λ_=>H t a⟩;rw[this,List.filter_eq_self.mpr (λ_ _=>rfl)]
def zV {fe:En->R T}{h:T->T}{k:Nat}{js:List Nat}{ρ:En}(ts:List T)(a:ts.length<=mR)(H:∀t∈ts,fe ((Jz k js ρ).set 0 (.vl t))=.ok (h t)):zo (zB 0) Z2 fe k js ρ ts=.ok (ts.map h):=by
 unfold zo;rw[if_pos a,QC ts _ H];rfl
theorem JD (p:T->Bool):∀ts:List T,ue (ts.map λt=>T.bl (p t))=some (ts.all p)
 |[]=>rfl
 |t::ts=>by
  show (match ue (ts.map λt=>T.bl _)with|some j=>some _|none=>none)=_
  rw[JD p ts];rfl
noncomputable def B8:T->Bool
 |.int _=>true
 |_=>false
def Wx (t:T):om [t]=.ok (.bl (B8 t)):=by cases t<;>rfl
noncomputable def xI (a b:Nat):T->Bool
 |.tup xs=>decide (a<=xs.length)&&decide (xs.length<=b)
 |_=>false
def ZM (t:T)(a b:Nat):n6 [t,.int a,.int b]=.ok (.bl (xI a b t)):=by
 cases t with
 |tup xs=>
  show zn ((if decide _=true then R.ok _ else .ok _).s λt=>.rt t)=_
  have d:decide ((a:Int)<=(xs.length))=decide (a<=xs.length):=by simp
  have c:decide ((xs.length:Int)<=(b))=decide (xs.length<=b):=by simp
  rw[d,c];show _=R.ok (T.bl (decide _&&decide _));cases decide (a<=xs.length)<;>rfl
 |_=>rfl
noncomputable def Jo (lo hi:Int):T->T->Bool
 |.int i,.int j=>decide (lo<=i)&&decide (i<=j)&&decide (j<=hi)
 |_,_=>false
def QD (t u:T)(lo hi:Int):tM [t,u,.int lo,.int hi]=.ok (.bl (Jo lo hi t u)):=by
 cases t with
 |int i=>
  cases u with
  |int j=>
   show zn ((if decide _=true then (if decide _=true then R.ok _ else .ok _)else .ok _).s λt=>.rt t)=_
   show _=R.ok (T.bl (decide _&&decide _&&decide _));cases decide (lo<=i)<;>cases decide (i<=j)<;>rfl
  |_=>rfl
 |_=>cases u<;>rfl
noncomputable def ZE (c:Nat):Bool:=decide (97<=c)&&decide (c<=122)
def Zs:T->Bool
 |.str x=>decide (1<=x.length)&&decide (x.length<=3)&&x.cps.toList.all ZE
 |_=>false
def Xx (a b:Nat):decide ([a]<[b])=decide (a<b):=by
 by_cases h:a<b
 ·rw[decide_eq_true h];exact decide_eq_true (List.Lex.rel h)
 ·rw[decide_eq_false h];refine decide_eq_false λz=>?_;cases z with
  |rel h'=>exact h h'
  |cons h'=>cases h'
def KQ (c:Nat)(ρ:En):nG mX mX (cE (.str "a")) (vB 0) (cE (.str "z")) ((Sl.vl (.str ⟨#[c]⟩))::ρ)=.ok (.bl (ZE c)):=by
 have e:mX (.str "a") (.str ⟨#[c]⟩)=.ok (decide (97<=c)):=by
  show R.ok (!decide ([c]<[97]))=_;rw[Xx]
  by_cases h:c<97
  ·rw[decide_eq_true h,decide_eq_false 00];rfl
  ·rw[decide_eq_false h,decide_eq_true 00];rfl
 have d:mX (.str ⟨#[c]⟩) (.str "z")=.ok (decide (c<=122)):=by
  show R.ok (!decide ([122]<[c]))=_;rw[Xx]
  by_cases h:122<c
  ·rw[decide_eq_true h,decide_eq_false 00];rfl
  ·rw[decide_eq_false h,decide_eq_true 00];rfl
 show (mX (.str "a") (.str _)).bind (λk=>if k=true then (mX (.str _) (.str "z")).bind λa=>R.ok (T.bl a)else R.ok _)=_
 rw[e,d];unfold ZE;cases decide (97<=c)<;>rfl
def KR:T->Prop
 |.str x=>x.length<=mR
 |_=>True
def QE (t:T)(a:KR t):pp [t]=.ok (.bl (Zs t)):=by
 cases t with
 |str x=>
  have d:=a;have o:Zw (.str x)=.ok _:=if_pos d;have g:zo (zB 0) Z2 (nG mX mX (cE (.str "a")) (vB 0) (cE (.str "z"))) 1 [] [.vl (.str x)] (JW x)=.ok (x.cps.toList.map λc=>T.bl (ZE c)):=by
   have j:(JW x).length<=mR:=by unfold JW;rw[ag];exact d
   have:=zV (h:=λt=>match t with|.str y=>T.bl (ZE (y.cps.toList.headD 0))|t=>t) (k:=1) (js:=[]) (ρ:=[.vl (.str x)]) _ j λt a=>by
    obtain⟨c,_,rfl⟩:=ay.mp a;exact KQ c []
   rw[this];unfold JW;rw[aK];rfl
  have e:ue (x.cps.toList.map λc=>T.bl (ZE c))=some (x.cps.toList.all ZE):=by
   have:=JD (λt=>match t with|.str y=>ZE (y.cps.toList.headD 0)|_=>true) (JW x)
   unfold JW at this;rw[aK,lL]at this;exact this
  have i:pp [.str x]=zn (match ((((Zw (.str x)).bind λy=>(mX _ y).bind λk=>if k=true then mX y _ else .ok _).bind λb=>.ok _).s λk=>if k=true then RS.rt _ else .nx _)with
    |.nx ρ'=>zw _ ρ'
    |r=>r):=rfl
  rw[i,o];have l:decide ((1:Int)<=(x.length))=decide (1<=x.length):=by
   by_cases h:1<=x.length
   ·rw[decide_eq_true h];exact decide_eq_true 00
   ·rw[decide_eq_false h];exact decide_eq_false 00
  have f:decide ((x.length:Int)<=(3))=decide (x.length<=3):=by
   by_cases h:x.length<=3
   ·rw[decide_eq_true h];exact decide_eq_true 00
   ·rw[decide_eq_false h];exact decide_eq_false 00
  show zn (match ((((if decide _=true then R.ok _ else .ok _)).bind λb=>.ok _).s λk=>if k=true then RS.rt _ else .nx _)with
    |.nx ρ'=>_
    |r=>r)=_
  rw[l,f];show _=R.ok (T.bl (decide _&&decide _&&x.cps.toList.all _));cases decide (1<=x.length)with
  |false=>rfl
  |true=>
   cases decide (x.length<=3)with
   |false=>rfl
   |true=>
    show zn ((((zo _ _ _ 1 [] [.vl _] _).bind λvs=>.ok _).bind Xb).s λt=>.rt t)=_;rw[g];show zn ((match ue (x.cps.toList.map λc=>T.bl _)with|some k=>R.ok _|none=>.bad).s λt=>.rt t)=_
    rw[e];rfl
 |_=>rfl
def i3 {c d:Type}(a:c)(f:c->R d):(R.ok a).bind f=f a:=rfl
def ZZ {c:Type}(a:c)(f:c->RS):(R.ok a).s f=f a:=rfl
def Jp (r:R T):zn (r.s λt=>.rt t)=r:=by cases r<;>rfl
def Zg (f:En->R T)(ρ:En):zw f ρ=(f (frz ρ)).s λt=>.rt t:=rfl
def zL {g:List T->R T}{f:En->R T}{ρ:En}:zb 1 g (za f ze) ρ=(f ρ).bind λx=>g [x]:=by
 unfold zb za ze;cases f ρ<;>rfl
def zC {g:List T->R T}{f d:En->R T}{ρ:En}:zb 2 g (za f (za d ze)) ρ=(f ρ).bind λx=>(d ρ).bind λy=>g [x,y]:=by
 unfold zb za ze;cases f ρ with
 |ok a=>cases d ρ<;>rfl
 |ex c=>rfl
 |bad=>rfl
def Zi {g:List T->R T}{f e d:En->R T}{ρ:En}:zb 3 g (za f (za e (za d ze))) ρ=(f ρ).bind λx=>(e ρ).bind λy=>(d ρ).bind λz=>g [x,y,z]:=by
 unfold zb za ze;cases f ρ with
 |ok a=>
  cases e ρ with
  |ok b=>cases d ρ<;>rfl
  |ex c=>rfl
  |bad=>rfl
 |ex c=>rfl
 |bad=>rfl
def HX {g:List T->R T}{f e d i:En->R T}{ρ:En}:zb 4 g (za f (za e (za d (za i ze)))) ρ=(f ρ).bind λx=>(e ρ).bind λy=>(d ρ).bind λz=>(i ρ).bind λw=>g [x,y,z,w]:=by
 unfold zb za ze;cases f ρ with
 |ok a=>
  cases e ρ with
  |ok b=>
   cases d ρ with
   |ok c=>cases i ρ<;>rfl
   |ex c=>rfl
   |bad=>rfl
  |ex c=>rfl
  |bad=>rfl
 |ex c=>rfl
 |bad=>rfl
def tR (r k:R T):R T:=r.bind λx=>match x with
 |.bl true=>k
 |.bl false=>.ok (.bl false)
 |_=>.bad
def jQ (f g:En->R T)(ρ:En):ZW f g ρ=tR (f ρ) (g ρ):=rfl
def Zy (a:Bool)(k:R T):tR (.ok (.bl a)) k=if a=true then k else .ok (.bl false):=by cases a<;>rfl
def v0 {t:T}{ρ:En}:vE 0 (.vl t::ρ)=.ok t:=rfl
def v1 {t:T}{a:Sl}{ρ:En}:vE 1 (a::.vl t::ρ)=.ok t:=rfl
def w0 {t:T}{ρ:En}:vB 0 (.vl t::ρ)=.ok t:=rfl
def w1 {t:T}{a:Sl}{ρ:En}:vB 1 (a::.vl t::ρ)=.ok t:=rfl
def zU {t:T}{ρ:En}:cE t ρ=.ok t:=rfl
def zk {g:T->T->R T}{f a:En->R T}{ρ:En}:zd g f a ρ=(f ρ).bind λx=>(a ρ).bind λy=>g x y:=rfl
def je {t:T}{ρ:En}:frz (.vl t::ρ)=.vl t::frz ρ:=rfl
def Wy {ρ:En}:frz (.un::ρ)=.un::frz ρ:=rfl
def jC:frz []=[]:=rfl
def QF {g a:T->T->R Bool}{c d e:En->R T}{ρ:En}:nG g a c d e ρ=(c ρ).bind λx=>(d ρ).bind λy=>(g x y).bind λk=>if k=true then (e ρ).bind λz=>(a y z).bind λf=>.ok (.bl f)else .ok (.bl false):=rfl
def ZA {g:T->R T}{f:En->R T}{ρ:En}:mM g f ρ=(f ρ).bind g:=rfl
def wK {i j:Int}:mX (.int i) (.int j)=.ok (decide (i<=j)):=rfl
def Zm {g:T->T->R Bool}{f a:En->R T}{ρ:En}:ZV g f a ρ=(f ρ).bind λx=>(a ρ).bind λy=>(g x y).bind λb=>.ok (.bl b):=rfl
def wL {xs:List T}:Zw (.tup xs)=.ok (.int xs.length):=rfl
def Ej {xs:List T}:Zw (.lst xs)=.ok (.int xs.length):=rfl
mutual
noncomputable def sOk:T->Prop
 |.str x=>x.length<=mR
 |.tup xs=>yh xs
 |.lst xs=>yh xs
 |.fz xs=>yh xs
 |_=>True
noncomputable def yh:List T->Prop
 |[]=>True
 |t::ts=>sOk t/\yh ts
end
theorem jR:∀{ts:List T} {t:T},yh ts->t∈ts->sOk t
 |u::ts,t,h,a=>by
  have h':=by simpa only[yh]using h
  rcases au.mp a with rfl|a
  ·exact h'.1
  ·exact jR h'.2 a
theorem sOk.str {t:T}(h:sOk t):KR t:=by
 cases t with
 |str x=>
  have h':=by simpa only[sOk]using h
  exact h'
 |_=>trivial
def Wz {xs:List T}(h:sOk (.tup xs)):yh xs:=by simpa only[sOk]using h
def zZ:T->Bool
 |.tup [w,.int i]=>Zs w&&decide (1<=i)&&decide (i<=20)
 |_=>false
def QG (t:T)(a:sOk t):rQ [t]=.ok (.bl (zZ t)):=by
 have e:rQ [t]=zn (Bn _ _ _ [.vl t]):=rfl;rw[e,Bn];simp only[Zg,Jp,je,jC,jQ,Zi,zL,v0,zU,i3,zk,QF];rw[show n6 [t,.int 2,.int 2]=.ok _ from ZM t 2 2,Zy];cases t with
 |tup xs=>
  match xs,a with
  |[],_=>rfl
  |[_],_=>rfl
  |_::_::_::_,_=>simp[xI,zZ]
  |[w,n],a=>
   have c:sOk w:=jR (Wz a) (by simp)
   show (if true=true then tR (pp [w]) (tR (om [n]) ((mX _ n).bind λk=>if k=true then (mX n _).bind λd=>R.ok _ else .ok _))else _)=_
   rw[QE w c.str,Wx,Zy,Zy];cases n with
   |int i=>
    show (if Zs w=true then (if true=true then (if decide _=true then R.ok _ else .ok _)else _)else _)=R.ok (T.bl (Zs w&&decide _&&decide _))
    cases Zs w<;>cases decide (1<=i)<;>rfl
   |_=>
    cases Zs w<;>rfl
 |_=>rfl
def Z0 (f g:En->RS)(ρ:En):zp f g ρ=match f ρ with|.nx ρ'=>g ρ'|r=>r:=rfl
def j8 (g:En->R Bool)(c a:En->RS)(ρ:En):mT g c a ρ=(g ρ).s λk=>if k=true then c ρ else a ρ:=rfl
def Ym (f g:En->R Bool)(ρ:En):nU f g ρ=(f ρ).bind λx=>if x=true then .ok true else g ρ:=rfl
def uC (f:En->R Bool)(ρ:En):WR f ρ=(f ρ).bind λx=>.ok (!x):=rfl
def Jq (f:En->R T)(ρ:En):jA f ρ=(f ρ).bind Bx:=rfl
def QH (k:Bool):Bx (.bl k)=.ok k:=rfl
def wf (i:Nat)(f:En->R T)(ρ:En):zG i f ρ=(f ρ).s λt=>.nx (ρ.set i (.vl t)):=rfl
def zM {g:T->T->R Bool}{f a:En->R T}{ρ:En}:zu g f a ρ=(f ρ).bind λx=>(a ρ).bind λy=>g x y:=rfl
def zF {a:En->R (List T)}{g:T->En->R En}{ft:En->R Bool}{fe:En->R T}{k:Nat}{js:List Nat}{ρ:En}:zE a g ft fe k js ρ=(a ρ).bind λts=>(zo g ft fe k js ρ ts).bind λvs=>.ok (.lst vs):=rfl
def ZF {f:En->R T}{ρ:En}:Zj f ρ=(f ρ).bind Jl:=rfl
noncomputable def j6:T->Str
 |.tup (.str w::_)=>w
 |_=>⟨#[]⟩
def yi:T->Bool
 |.tup a=>decide (1<=a.length)&&decide (a.length<=4)&&a.all zZ&&decide ((dd [] (a.map j6)).length=a.length)
 |_=>false
def uD {c:T}(h:zZ c=true):∃w n,c=.tup [.str w,n]:=by
 unfold zZ at h;split at h
 ·rename_i w i;cases w with
  |str x=>exact⟨x,_,rfl⟩
  |_=>cases h
 ·cases h
theorem wY:∀{a:List T},a.all zZ=true->YA (a.map λc=>T.str (j6 c))=some (a.map j6)
 |[],_=>rfl
 |c::a,h=>by
  rw[dg,am]at h;have d:=wY h.2;show (match YA (a.map λc=>T.str _)with|some e=>some _|none=>none)=_
  rw[d];rfl
def Yn (t:T)(l:sOk t):sZ [t]=.ok (.bl (yi t)):=by
 have e:sZ [t]=zn (Bl _ _ [.vl t,.un]):=rfl;rw[e,Bl];simp only[Z0,j8,Ym,uC,Jq,Zi,v0,zU,i3];rw[show n6 [t,.int 1,.int 4]=.ok _ from ZM t 1 4];cases t with
 |tup a=>
  have u:xI 1 4 (.tup a)=(decide _&&decide _):=rfl;rw[u];show _=R.ok (T.bl (decide _&&decide _&&a.all _&&decide _));cases f:(decide (1<=a.length)&&decide (a.length<=4))with
  |false=>rfl
  |true=>
   rw[am,decide_eq_true_eq,decide_eq_true_eq]at f;have j:a.length<=mR:=aC f.2 01
   have p:zo _ _ (zb 1 rQ (za 04 ze)) 1 [] [.vl (.tup a),.un] a=.ok (a.map λc=>T.bl _):=
    zV a j λc g=>by
     exact QG c (jR (Wz l) g)
   simp only[eC,aH,if_false,ZA,zF,ZF,v0,i3,Jl,p];have o:Xb (.lst (a.map λc=>T.bl (zZ c)))=.ok (.bl (a.all zZ)):=by
    show (match ue (a.map λc=>T.bl _)with|some k=>R.ok _|none=>.bad)=_
    rw[JD]
   rw[o];simp only[i3,QH,ZZ];cases d:a.all _ with
   |false=>rfl
   |true=>
    have r:zo _ _ 03 1 [] [.vl (.tup a),.un] a=.ok (a.map λc=>T.str (j6 c)):=
     zV a j λc g=>by
      obtain⟨w,n,rfl⟩:=uD (aR.mp d c g);rfl
    simp only[eC,aH,if_false,mS,wf,zF,ZF,v0,i3,Jl,r,ZZ,Zg];show zn (((VR (.lst (a.map λc=>T.str _))).bind λx=>(Zw (.lst (a.map λc=>T.str _))).bind λy=>(mL x y).bind λb=>R.ok _).s λt=>.rt t)=_;have q:VR (.lst (a.map λc=>T.str (j6 c)))=.ok (.int (dd [] (a.map j6)).length):=by
     show (match YA (a.map λc=>T.str _)with|some v=>if (a.map λc=>T.str _).length+1<4096 then R.ok _ else .bad|none=>.bad)=_
     rw[wY d];exact if_pos (by rw[ag];omega)
    rw[q,Ej,ag];show R.ok _=_;congr 2
    by_cases i:(dd [] (a.map j6)).length=a.length
    ·rw[i];simp
    ·rw[decide_eq_false i];simp only[l8,beq_eq_false_iff_ne];omega
 |_=>rfl
noncomputable def isS (w:Str):T->Bool
 |.str s=>s==w
 |_=>false
def Fh (h:T)(w:Str):mL h (.str w)=.ok (isS w h):=by cases h<;>rfl
def oh (i j:Int):mL (.int i) (.int j)=.ok (i==j):=rfl
def pC {h:T}{r:List T}:i4 (.tup (h::r)) (.int 0)=.ok h:=by
 show nt _ 0=_;unfold nt;rw[show nJ _ 0=some h from j2 rfl]
def pG {h a:T}{r:List T}:i4 (.tup (h::a::r)) (.int 1)=.ok a:=by
 show nt _ 1=_;unfold nt;rw[show nJ _ 1=some a from j2 rfl]
def CJ {h a b:T}{r:List T}:i4 (.tup (h::a::b::r)) (.int 2)=.ok b:=by
 show nt _ 2=_;unfold nt;rw[show nJ _ 2=some b from j2 rfl]
def D7 {h a b c:T}{r:List T}:i4 (.tup (h::a::b::c::r)) (.int 3)=.ok c:=by
 show nt _ 3=_;unfold nt;rw[show nJ _ 3=some c from j2 rfl]
noncomputable def wg (k:T->Bool):T->Bool
 |.tup a=>decide (1<=a.length)&&decide (a.length<=3)&&a.all k
 |_=>false
def uE:List T->Bool
 |[a,b]=>Jo (-20) 20 a b
 |_=>false
def QI:List T->Bool
 |[c]=>yi c
 |_=>false
def rk (k:T->Bool):List T->Bool
 |[c]=>wg k c
 |_=>false
def QJ (k:T->Bool):List T->Bool
 |[c,a,b]=>Jo 0 3 a b&&k c
 |_=>false
def Yo (k:T->Bool):T->Bool
 |.tup (h::r)=>if isS "whole" h=true then uE r else if isS "pick" h=true then QI r else if isS "row" h=true then rk k r else if isS "many" h=true then QJ k r else false
 |_=>false
def nV:Nat->T->Bool
 |0,_=>false
 |d+1,t=>Yo (nV d) t
def QK {a:Type}(xs:List a)(n:Nat):((xs.length:Int)==(n:Int))=decide (xs.length=n):=by
 by_cases h:xs.length=n
 ·rw[h];simp
 ·rw[decide_eq_false h,beq_eq_false_iff_ne];omega
def Xy {f:En->R T}{ρ:En}:VC f ρ=(f ρ).bind λx=>match x with|.int i=>.ok (.int (-i))|_=>.bad:=rfl
def Zt {i j:Int}:Jj (.int i) (.int j)=.ok (.int (i-j)):=rfl
set_option maxHeartbeats 1000000 in
def KS {n:Nat}{d:Nat}{k:T->Bool}(q:∀t,sOk t->nS n 0 [t,.int d]=.ok (.bl (k t)))(o:∀t,sOk t->nS n 1 [t,.int d]=.ok (.bl (wg k t)))(t:T)(l:sOk t):
  nS (n+1) 0 [t,.int ((d+1:Nat):Int)]=.ok (.bl (Yo k t)):=by
 have e:nS (n+1) 0 [t,.int ((d+1:Nat))]=zn (Ak tM _ sZ _ [.vl t,.vl (.int _)]):=rfl;have w:(((d+1:Nat):Int)==0)=false:=by rw[beq_eq_false_iff_ne];omega
 have g:((d+1:Nat))-1=(d:Int):=by omega
 rw[e,Ak];simp only[Z0,j8,Ym,uC,Jq,zM,w0,w1,zU,i3,oh,w,aH,if_false,ZA];cases t with
 |tup xs=>
  cases xs with
  |nil=>rfl
  |cons h r=>
   have x:=Wz l;have f:∀u∈r,sOk u:=λu p=>jR x (a9 _ p);have y:(((h::r).length:Int)==0)=false:=by rw[beq_eq_false_iff_ne];simp only[aA];omega
   have v:wT "tuple" (.tup (h::r))=.ok (.bl true):=rfl;simp only[v,i3,QH,eC,aH,if_false,wL,oh,y,ZZ,mS,zk,v0,v1,zU,pC,Fh,Zg,je,jC,jQ,Zm,ZA,w0,HX,zL,zC,Xy,Zt,g];show _=R.ok (T.bl (if isS "whole" h=true then uE r else if isS "pick" h=true then QI r else if isS "row" h=true then rk k r else if isS "many" h=true then QJ k r else false))
   have B:(((h::r).length:Int)==3)=decide _:=QK (h::r) 3;have i:(((h::r).length:Int)==2)=decide _:=QK (h::r) 2;have j:(((h::r).length:Int)==4)=decide _:=QK _ 4;simp only[i,B,j,Zy];cases isS _ h with
   |true=>
    match r,f with
    |[],_=>rfl
    |[_],_=>rfl
    |_::_::_::_,_=>simp[uE,ZZ,zn]
    |[a,b],_=>
     simp only[pG,CJ,i3,QD];rfl
   |false=>
    simp only[aH,if_false,v0,v1,w0,i3,pC,ZZ,je,jC,wL,oh,i,j,Zy,Zt,g];cases isS _ h with
    |true=>
     match r,f with
     |[],_=>rfl
     |_::_::_,_=>simp[QI,ZZ,zn]
     |[c],f=>
      simp only[pG,i3,Yn c (f c (by simp))]
      rfl
    |false=>
     simp only[aH,if_false,v0,v1,w0,i3,pC,ZZ,je,jC,wL,oh,i,j,Zy,Zt,g];cases isS _ h with
     |true=>
      match r,f with
      |[],_=>rfl
      |_::_::_,_=>simp[rk,ZZ,zn]
      |[c],f=>
       simp only[pG,i3,o c (f c (by simp))]
       rfl
     |false=>
      simp only[aH,if_false,v0,v1,w0,i3,pC,ZZ,je,jC,wL,oh,i,j,Zy,Zt,g];cases isS _ h with
      |true=>
       match r,f with
       |[],_=>rfl
       |[_],_=>rfl
       |[_,_],_=>rfl
       |_::_::_::_::_,_=>simp[QJ,ZZ,zn]
       |[c,a,b],f=>
        simp only[pG,CJ,D7,i3,QD,q c (f c (by simp)),Zy]
        show zn (match (if Jo 0 3 a b=true then R.ok _ else .ok _).s (λt=>RS.rt t)with|.nx _=>RS.rt _|r=>r)=R.ok (T.bl (Jo 0 3 a b&&k c))
        cases Jo 0 3 a b<;>rfl
      |false=>rfl
 |_=>rfl
def Ho {n:Nat}{d:Nat}{k:T->Bool}(o:∀t,sOk t->nS n 0 [t,.int d]=.ok (.bl (k t)))(t:T)(g:sOk t):nS (n+1) 1 [t,.int d]=.ok (.bl (wg k t)):=by
 have e:nS (n+1) 1 [t,.int d]=zn (Ba n6 (nS n 0) [.vl t,.vl (.int d)]):=rfl;rw[e,Ba];simp only[Zg,Jp,je,jC,jQ,Zi,v0,zU,i3];rw[show n6 [t,.int 1,.int 3]=.ok (.bl (xI 1 3 t)) from ZM t 1 3,Zy];cases t with
 |tup a=>
  show (if (decide (1<=a.length)&&decide (a.length<=3))=true then _ else _)=R.ok (T.bl (decide (1<=a.length)&&decide (a.length<=3)&&a.all k))
  cases f:(decide (1<=a.length)&&decide (a.length<=3))with
  |false=>rfl
  |true=>
   rw[am,decide_eq_true_eq,decide_eq_true_eq]at f;have i:a.length<=mR:=aC f.2 01
   have j:zo (zB 0) Z2 (zb 2 (nS n 0) (za 04 (za (vE 1) ze))) 1 [1] [.vl (.tup a),.vl (.int d)] a=.ok (a.map λc=>T.bl (k c)):=
    zV (h:=λc=>T.bl (k c)) a i λc l=>by
     show zb 2 (nS n 0) (za 04 (za (vE 1) ze)) [.vl c,.vl (.int d)]=_;rw[zC,v0,v1,i3,i3];exact o c (jR (Wz g) l)
   simp only[if_true,ZA,zF,ZF,v0,i3,Jl,j];show (match ue (a.map λc=>T.bl (k c))with|some k=>R.ok (T.bl k)|none=>.bad)=_
   rw[JD];rfl
 |_=>rfl
theorem Ug:∀(d n:Nat),2*d+1<=n->∀t,sOk t->nS n 0 [t,.int d]=.ok (.bl (nV d t))
 |0,n+1,_,t,_=>rfl
 |d+1,n+2,h,t,c=>KS (n:=n+1) (λu a=>Ug d (n+1) 00 u a) (λu a=>Ho (λv e=>Ug d n 00 v e) u a) t c
def Yp (t:T)(a:sOk t):t7 [t]=.ok (.bl (nV 3 t)):=by
 have e:t7 [t]=zn (A5 (Ck 20) [.vl t]):=rfl;rw[e,A5];simp only[Zg,Jp,je,jC,zC,v0,zU,i3];exact Ug 3 20 00 t a
noncomputable def rO (lo hi:Int):T->Bool
 |.int i=>decide (lo<=i)&&decide (i<=hi)
 |_=>false
def EM (xs:List T):mL (.lst xs) (.lst [])=.ok xs.isEmpty:=by cases xs<;>rfl
theorem uF:∀(a acc:List Str),(dd acc a).length<=acc.length+a.length
 |[],acc=>aq _
 |w::a,acc=>by
  unfold dd;have:=uF a (if w∈acc then acc else acc++[w])
  by_cases h:w∈acc
  ·rw[if_pos h]at this⊢;simp only[aA];omega
  ·rw[if_neg h]at this⊢;rw[aB,aM]at this;simp only[aA];omega
theorem WA:∀(a acc:List Str),((dd acc a).length=acc.length+a.length)↔∀(k:Nat) (w:Str),a[k]?=some w->w∉acc++a.take k
 |[],acc=>by simp[dd]
 |w::a,acc=>by
  unfold dd
  by_cases h:w∈acc
  ·rw[if_pos h];have:=uF a acc;constructor
   ·intro e;simp only[aA]at e;omega
   ·intro H;exact absurd (fA _ h) (H 0 w rfl)
  ·rw[if_neg h];have c:=WA a (acc++[w]);rw[aB,aM]at c;rw[show acc.length+(w::a).length=acc.length+1+a.length by simp only[aA];omega,c]
   constructor
   ·intro H k v e;cases k with
    |zero=>simp at e;subst e;simpa using h
    |succ k=>
     have:=H k v (by simpa using e)
     simpa[bN]using this
   ·intro H k v e;have:=H (k+1) v (by simpa using e)
    simpa[bN]using this
def Dg (i j:Int):oB (.int i) (.int j)=.ok (decide (i<j)):=rfl
def v2 {t:T}{a b:Sl}{ρ:En}:vE 2 (a::b::.vl t::ρ)=.ok t:=rfl
def v3 {t:T}{a b c:Sl}{ρ:En}:vE 3 (a::b::c::.vl t::ρ)=.ok t:=rfl
def w2 {t:T}{a b:Sl}{ρ:En}:vB 2 (a::b::.vl t::ρ)=.ok t:=rfl
def w3 {t:T}{a b c:Sl}{ρ:En}:vB 3 (a::b::c::.vl t::ρ)=.ok t:=rfl
def w5 {t:T}{a b c d e:Sl}{ρ:En}:vB 5 (a::b::c::d::e::.vl t::ρ)=.ok t:=rfl
def v4 {t:T}{a b c d:Sl}{ρ:En}:vE 4 (a::b::c::d::.vl t::ρ)=.ok t:=rfl
def KU (f g:En->R Bool)(ρ:En):GW f g ρ=(f ρ).bind λx=>if x=true then g ρ else .ok false:=rfl
theorem yj (w:Str):∀a:List Str,wD (λy=>mQ 30 y (.str w)) (a.map T.str)=some (decide (w∈a))
 |[]=>rfl
 |x::a=>by
  have d:=yj w a;show (match wD (λy=>mQ 30 y _) _ with|none=>none|some c=>some _)=_
  rw[d]
  by_cases h:x=w
  ·subst h;simp
  ·have h':¬w=x:=λz=>h z.symm;simp[h,h']
def Ea (i j:Int):nZ (.int i) (.int j)=.ok (decide (i>j)):=rfl
def Z1 (i j:Int):zA (.int i) (.int j)=.ok (.int (i+j)):=rfl
def Lp (p:Int)(a:0<=p)(c:p<26):i4 (.str "abcdefghijklmnopqrstuvwxyz") (.int p)=.ok (.str ⟨#[97+p.toNat]⟩):=by
 obtain⟨n,rfl⟩:=cH a;have h:n<26:=by omega
 iterate 26 (refine(Nat.lt_or_eq_of_le (Nat.le_of_lt_succ h)).elim (λh=>?_) (λe=>e▸rfl))
 exact absurd h (iM _)
abbrev sr:En->R T:=zd i4 (vE 3) (zb 3 nu (za (vE 1) (za (zd zA (zd zA (vE 2) (cE (.int 2))) 04) (za (cE (.int 26)) (ze)))))
def Lz (ns:List Int)(k:Int)(d:0<=k)(j:Nat):∃c:Nat,(97<=c/\c<=122)/\sr [.vl (.int (j:Int)),.vl (mU ns),.vl (.int k),.vl (.str "abcdefghijklmnopqrstuvwxyz")]=.ok (.str ⟨#[c]⟩):=by
 obtain⟨p,e,a,p1⟩:=zN ns (k+2+j) 26 00 00
 refine⟨97+p.toNat,⟨by omega,by omega⟩,?_⟩
 simp only[sr,zk,v3,i3,Zi,v1,v2,v0,zU,Z1,e];exact Lp p a p1
def Yq (ns:List Int)(k:Int)(l:0<=k):∃w:Str,G8 [mU ns,.int k]=.ok (.str w)/\Zs (.str w)=true:=by
 have e:G8 [mU ns,.int k]=zn (tV _ [.vl _,.vl _,.un]):=rfl;obtain⟨p,B,C,p1⟩:=zN ns k 6 l 00
 have d:∀t,([Sl.vl (mU ns),Sl.vl (.int k),.un]).set 2 _=[Sl.vl _,Sl.vl _,.vl t]:=λ_=>rfl;rw[e,tV];simp only[Z0,j8,wf,zU,ZZ,d,zM,Zi,v0,v1,i3,B,Ea];cases hp:decide (p>0)with
 |true=>
  obtain⟨q,f,x,v⟩:=zN ns (k+1) 4 00 00
  simp only[if_true,Zg,je,jC,zk,Zi,v0,v1,zU,i3,Z1,f];have i:q=0\/q=1\/q=2\/q=3:=by omega
  rcases i with rfl|rfl|rfl|rfl
  ·exact⟨"a",rfl,by decide⟩
  ·exact⟨"b",rfl,by decide⟩
  ·exact⟨"ab",rfl,by decide⟩
  ·exact⟨"cab",rfl,by decide⟩
 |false=>
  obtain⟨q,f,x,v⟩:=zN ns (k+1) 3 00 00
  simp only[aH,if_false,mS,Zg,Jp,je,jC,ZA,zF];obtain⟨g,o⟩:=mh.mp (Lz ns k l);have r:ZI (zd zA 02 (zb 3 nu (za 04 (za (zd zA (vE 1) 02) (za (cE (.int 3)) (ze)))))) [Sl.vl (mU ns),Sl.vl (.int k),.vl (.str "abcdefghijklmnopqrstuvwxyz")]=.ok (rng 0 (1+q).toNat):=by
   unfold ZI;simp only[zk,Zi,v0,v1,zU,i3,Z1,f];rw[if_pos ⟨by omega,by omega⟩]
  have y:∀n,n<=3->zo _ _ _ 1 [0,1,2] [Sl.vl _,Sl.vl _,.vl _] _=.ok ((rng 0 n).map λt=>match t with|.int j=>.str ⟨#[g j.toNat]⟩|t=>t):=λn hn=>
   zV _ (by unfold rng;rw[ag,ba];exact aC hn 01) λt u=>by
    obtain⟨j,_,rfl⟩:=ay.mp u;rw[iG];exact(o j).2
  rw[r,i3,y _ 00,i3]
  have c:∀j,ZE _=true:=λj=>by
   obtain⟨a,b⟩:=(o j).1;unfold ZE;rw[decide_eq_true a,decide_eq_true b];rfl
  have i:q=0\/q=1\/q=2:=by omega
  rcases i with rfl|rfl|rfl
  ·refine⟨⟨#[g 0]⟩,rfl,?_⟩;show (ZE _&&true)=true;rw[c 0];rfl
  ·refine⟨⟨#[g 0,g 1]⟩,rfl,?_⟩;show (ZE _&&(ZE _&&true))=true;rw[c 0,c 1];rfl
  ·refine⟨⟨#[g 0,g 1,g 2]⟩,rfl,?_⟩;show (ZE _&&(ZE _&&(ZE _&&true)))=true;rw[c 0,c 1,c 2];rfl
def Ha (j:Int):Z5 (.int 5) (.int j)=.ok (.int (5*j)):=by
 show (if uY 5 j then R.ok _ else .bad)=_
 rw[if_pos (.inl ⟨by decide,by decide⟩)]
def YC {f g:En->R T}{ρ:En}{x y:T}(a:f ρ=.ok x)(c:g ρ=.ok y):Zq (za f (za g ze)) ρ=.ok (.tup [x,y]):=by
 unfold Zq za ze;rw[a,c];rfl
def G9 {f g h:En->R T}{ρ:En}{x y z:T}(a:f ρ=.ok x)(c:g ρ=.ok y)(d:h ρ=.ok z):Zq (za f (za g (za h ze))) ρ=.ok (.tup [x,y,z]):=by
 unfold Zq za ze;rw[a,c,d];rfl
def Dk {f g h i:En->R T}{ρ:En}{x y z w:T}(a:f ρ=.ok x)(c:g ρ=.ok y)(d:h ρ=.ok z)(hi:i ρ=.ok w):Zq (za f (za g (za h (za i ze)))) ρ=.ok (.tup [x,y,z,w]):=by
 unfold Zq za ze;rw[a,c,d,hi];rfl
noncomputable def Dst (a:List Str):Prop:=∀(k:Nat) (w:Str),a[k]?=some w->w∉a.take k
def Dst.add {c:List Str}(h:Dst c){w:Str}(f:w∉c):Dst (c++[w]):=λk x a=>by
 by_cases e:k<c.length
 ·rw[b6 e]at a;rw[List.take_append_of_le_length 00]
  exact h k x a
 ·rw[aW 00]at a
  have d:k=c.length:=by
   rcases Nat.lt_or_ge (k-c.length) 1 with z|z
   ·omega
   ·rw[aS (by simpa using z)]at a;cases a
  subst d;rw[Nat.sub_self]at a;cases a;rw[List.take_left']
  ·exact f
  ·rfl
abbrev uG:En->RS:=zp (zG 5 (zb 2 G8 (za 04 (za (zd zA (zd zA (vE 1) (cE (.int 5))) (zd Z5 (cE (.int 5)) (vE 4))) (ze)))))
  (mT (zu VD (vB 5) (vB 3)) (VL 3 (vE 5)) (mS))
theorem wj (ns:List Int)(k:Int)(M:0<=k):∀(js:List Nat) (d:List Str) (p l:Sl),js.length+d.length<=4->Dst d->(∀w∈d,Zs (.str w)=true)->
  ∃f o u,ZJ (zB 4) uG (js.map λ(j:Nat)=>T.int (0+(j:Int))) [.vl (mU ns),.vl (.int k),.un,.ow (d.map T.str),p,l]=.nx [.vl (mU ns),.vl (.int k),.un,.ow (f.map T.str),o,u]/\f.length<=4/\Dst f/\(∀w∈f,Zs (.str w)=true)/\(0<js.length+d.length->0<f.length)
 |[],d,p,l,L,hd,v=>⟨d,p,l,rfl,by simpa using L,hd,v,λh=>by simpa using h⟩
 |j::js,d,p,l,L,hd,v=>by
  obtain⟨w,Q,G⟩:=Yq ns (k+5+5*(0+(j:Int))) 00
  have P:js.length+d.length+1<=4:=by simpa[aA,Nat.add_right_comm]using L
  have e:ZJ (zB 4) uG ((j::js).map λ(j:Nat)=>T.int (0+(j:Int))) [.vl (mU ns),.vl (.int k),.un,.ow (d.map T.str),p,l]=match uG [.vl (mU ns),.vl (.int k),.un,.ow (d.map T.str),.vl (.int (0+(j:Int))),l]with
   |.nx g=>ZJ (zB 4) uG (js.map λ(j:Nat)=>T.int (0+(j:Int))) g
   |.ct g=>ZJ (zB 4) uG (js.map λ(j:Nat)=>T.int (0+(j:Int))) g
   |.bk g=>.nx g
   |r=>r:=rfl
  have U:uG [.vl (mU ns),.vl (.int k),.un,.ow (d.map T.str),.vl (.int (0+(j:Int))),l]=.nx [.vl (mU ns),.vl (.int k),.un,.ow ((if w∈d then d else d++[w]).map T.str),.vl (.int (0+(j:Int))),.vl (.str w)]:=by
   have I:∀(a b c:Sl) (ts:List T) (ρ:En),vB 3 (a::b::c::.ow ts::ρ)=.ok _:=λ_ _ _ _ _=>rfl;have q:∀t,([.vl _,.vl (.int k),.un,.ow (d.map T.str),.vl (.int (0+(j:Int))),l]:En).set 5 (.vl t)=[.vl (mU ns),.vl (.int k),.un,.ow (d.map T.str),.vl _,.vl t]:=λ_=>rfl;have O:VD (.str w) (.lst (d.map T.str))=.ok (!decide (w∈d)):=by
    show ((match wD (λy=>mQ 30 y (.str w)) (d.map _)with|some b=>R.ok b|none=>.bad)).bind (λb=>R.ok _)=_
    rw[yj];rfl
   simp only[uG,Z0,wf,zC,v0,v1,v4,zk,zU,i3,Z1,Ha,Q,ZZ,q,j8,zM,w5,I,O]
   by_cases i:w∈d
   ·rw[decide_eq_true i,if_pos i];rfl
   ·rw[decide_eq_false i,if_neg i];have S:(d.map T.str).length<mR:=by rw[ag];exact b9 (show d.length<=4 by omega) 01
    show (if (d.map _).length<mR then RS.nx _ else .bad)=_
    rw[if_pos S,bm];rfl
  rw[e,U]
  by_cases i:w∈d
  ·rw[if_pos i];obtain⟨f,o,u,F,B,C,D,J⟩:=wj ns k M js d _ _ 00 hd v
   exact⟨f,o,u,F,B,C,D,λ_=>J (by have:=List.length_pos_of_mem i;omega)⟩
  ·rw[if_neg i];obtain⟨f,o,u,F,B,C,D,J⟩:=wj ns k M js _ _ _ (by simp only[aB,aA,cK];omega) (hd.add i) (λx N=>by
    rcases bI.mp N with z|z
    ·exact v x z
    ·rw[ax.mp z];exact G)
   exact⟨f,o,u,F,B,C,D,λ_=>J (by simp only[aB,aA,cK];omega)⟩
abbrev Bs:En->R T:=Zq (za (vE 1) (za (zd zA 02 (zb 3 nu (za (vE 2) (za (zd zA (zd zA (vE 3) (cE (.int 30))) 04) (za (cE (.int 20)) (ze)))))) (ze)))
theorem yk (ns:List Int)(k:Int)(q:0<=k):∀(a:List Str) (i:Nat) (f d:Sl),(∀w∈a,Zs (.str w)=true)->∃c:List T,zq (zS 0 1) Z2 Bs (((a.map T.str).zipIdx i).map λp=>T.tup [.int (p.2:Nat),p.1]) [f,d,.vl (mU ns),.vl (.int k)]=.ok c/\c.all zZ=true/\c.map j6=a
 |[],i,f,d,_=>⟨[],rfl,rfl,rfl⟩
 |w::a,i,f,d,g=>by
  obtain⟨p,e,C,p1⟩:=zN ns (k+30+i) 20 00 00
  obtain⟨c,j,l,u⟩:=yk ns k q a _ _ _ λx o=>g x (a9 _ o);have B:Bs [.vl (.int (i)),.vl (.str w),.vl (mU ns),.vl (.int k)]=.ok (.tup [.str w,.int (1+p)]):=by
   have y:zb 3 nu (za (vE 2) (za (zd zA (zd zA (vE 3) (cE (.int 30))) 04) (za (cE (.int 20)) (ze)))) [.vl (.int (i)),.vl (.str w),.vl (mU ns),.vl (.int k)]=.ok (.int p):=by
    simp only[Zi,v2,v3,v0,zk,zU,i3,Z1,e]
   have r:zd zA 02 (zb 3 nu (za (vE 2) (za (zd zA (zd zA (vE 3) (cE (.int 30))) 04) (za (cE (.int 20)) (ze))))) [.vl (.int (i)),.vl (.str w),.vl (mU ns),.vl (.int k)]=.ok (.int (1+p)):=by
    rw[zk,y];rfl
   exact YC v1 r
  refine⟨.tup [.str w,.int (1+p)]::c,?_,?_,?_⟩
  ·show ((Bs [.vl _,.vl _,.vl _,.vl _]).bind λv=>(zq _ _ _ (((a.map _).zipIdx _).map λp=>T.tup _) [.vl _,.vl _,.vl _,.vl _]).bind λvs=>R.ok _)=_;rw[B,j];rfl
  ·rw[dg,l,Bool.and_true];show (Zs _&&decide _&&decide _)=true;rw[g w ae,decide_eq_true 00,decide_eq_true 00];rfl
  ·rw[ao,u];rfl
def Xz (i j:Int):qk (.int i) (.int j)=.ok (.int (if j<i then j else i)):=rfl
def KW (ns:List Int)(k:Int)(u:0<=k):∃t,sK [mU ns,.int k]=.ok t/\∀d,nV (d+1) t=true:=by
 have e:sK [mU ns,.int k]=zn (Al nu G8 [.vl (mU ns),.vl (.int k),.un,.un,.un,.un]):=rfl;obtain⟨p,Z,p0,p1⟩:=zN ns k 3 u 00
 rw[e,Al,Z0];simp only[j8,zM,Zi,v0,v1,zU,i3,Z,Ea,ZZ];cases hp:decide (p>0)with
 |true=>
  obtain⟨q,y,P,O⟩:=zN ns (k+1) 7 00 00
  obtain⟨q3,e3,_,_⟩:=zN ns (k+3) 8 00 00
  obtain⟨v,D,a4,b4⟩:=zN ns (k+4) 3 00 00
  obtain⟨G,L,a2,b2⟩:=zN ns (k+2) 4 00 00
  have c:∀t x,([.vl (mU ns),.vl (.int k),x,.un,.un,.un]:En).set 2 (.vl t)=[.vl (mU ns),.vl (.int k),.vl t,.un,.un,.un]:=λ_ _=>rfl;have f:∀a:Int, -20<=a->a<=20->∃t,zn (zw (Zq (za (cE (.str "whole")) (za (vE 2) (za (zd qk (cE (.int 20)) (zd zA (vE 2) (zb 3 nu (za 04 (za (zd zA (vE 1) (cE (.int 2))) (za (cE (.int 4)) (ze))))))) (ze))))) [.vl (mU ns),.vl (.int k),.vl (.int a),.un,.un,.un])=.ok t/\∀d,nV (d+1) t=true:=by
   intro a B hl2;refine⟨.tup [.str "whole",.int a,.int (if a+G<20 then a+G else 20)],?_,λd=>?_⟩
   ·rw[Zg,Jp];refine G9 rfl rfl ?_;simp only[je,Wy,jC,zk,v2,v0,v1,Zi,zU,i3,Z1,L,Xz]
   ·show (decide (-20<=a)&&decide (a<=_)&&decide (_<=(20:Int)))=true;rw[decide_eq_true B,decide_eq_true (by split<;>omega),decide_eq_true (by split<;>omega)];rfl
  simp only[if_true,Z0,wf,j8,zk,Zi,v0,v1,zU,i3,Z1,y,Zt,ZZ,c,zM,e3,oh];cases hq:(q3==0)with
  |true=>
   have h3:v=0\/v=1\/v=2:=by omega
   rcases h3 with rfl|rfl|rfl
   ·obtain⟨t,r,s⟩:=f (-20) 00 00
    refine⟨t,?_,s⟩;rw[←r];simp only[if_true,D,i3];have l:∀ρ,(j7 (za (VC (cE (.int 20))) (za (cE (.int 17)) (za (cE (.int 20)) (ze)))) ρ)=.ok (.lst _):=λ_=>rfl;simp only[l,i3];have j:i4 (.lst [.int (-20),.int 17,.int 20]) (.int 0)=.ok (.int (-20)):=rfl;simp only[j,ZZ,c,Zg];generalize Zq _ _=z;cases z<;>rfl
   ·obtain⟨t,r,s⟩:=f (17) 00 00
    refine⟨t,?_,s⟩;rw[←r];simp only[if_true,D,i3];have l:∀ρ,(j7 (za (VC (cE (.int 20))) (za (cE (.int 17)) (za (cE (.int 20)) (ze)))) ρ)=.ok (.lst _):=λ_=>rfl;simp only[l,i3];have j:i4 (.lst [.int (-20),.int 17,.int 20]) (.int 1)=.ok (.int (17)):=rfl;simp only[j,ZZ,c,Zg];generalize Zq _ _=z;cases z<;>rfl
   ·obtain⟨t,r,s⟩:=f (20) 00 00
    refine⟨t,?_,s⟩;rw[←r];simp only[if_true,D,i3];have l:∀ρ,(j7 (za (VC (cE (.int 20))) (za (cE (.int 17)) (za (cE (.int 20)) (ze)))) ρ)=.ok (.lst _):=λ_=>rfl;simp only[l,i3];have j:i4 (.lst [.int (-20),.int 17,.int 20]) (.int 2)=.ok (.int (20)):=rfl;simp only[j,ZZ,c,Zg];generalize Zq _ _=z;cases z<;>rfl
  |false=>
   obtain⟨t,r,s⟩:=f (q-3) 00 00
   refine⟨t,?_,s⟩;rw[←r];simp only[aH,if_false,mS,Zg];generalize Zq _ _=z;cases z<;>rfl
 |false=>
  obtain⟨q,y,P,O⟩:=zN ns (k+1) 4 00 00
  simp only[aH,if_false,mS,Z0];have J:ZI (zd zA 02 (zb 3 nu (za 04 (za (zd zA (vE 1) 02) (za (cE (.int 4)) (ze)))))) [.vl (mU ns),.vl (.int k),.un,.ow [],.un,.un]=.ok (rng 0 (1+q).toNat):=by
   unfold ZI;simp only[zk,Zi,v0,v1,zU,i3,Z1,y];rw[if_pos ⟨by omega,by omega⟩]
  have el:Yz 3 ze [.vl (mU ns),.vl (.int k),.un,.un,.un,.un]=.nx [.vl (mU ns),.vl (.int k),.un,.ow [],.un,.un]:=rfl;rw[el];have hn:(aV (1+q).toNat).length=(1+q).toNat:=ba;obtain⟨g,o,C,r1,M,S,r4,r5⟩:=wj ns k u _ [] .un .un (by rw[hn,cK];omega) (λk w h=>by cases h) (λw h=>by cases h)
  have N:j5 (ZI (zd zA 02 (zb 3 nu (za 04 (za (zd zA (vE 1) 02) (za (cE (.int 4)) (ze))))))) (zB 4) uG [.vl (mU ns),.vl (.int k),.un,.ow [],.un,.un]=.nx [.vl (mU ns),.vl (.int k),.un,.ow (g.map T.str),o,C]:=by
   unfold j5;rw[J,ZZ];exact r1
  obtain⟨i,Q,s2,I⟩:=yk ns k u g 0 .un .un r4;have F:i.length=g.length:=by rw[←I,ag]
  refine⟨.tup [.str "pick",.tup i],?_,λd=>?_⟩
  ·dsimp only;rw[N];dsimp only;rw[Zg,Jp];refine YC rfl ?_;rw[ZA,zF];have U:VP (vE 3) (frz [.vl (mU ns),.vl (.int k),.un,.ow (g.map T.str),o,C])=.ok _:=rfl;rw[U,i3];unfold zo;rw[if_pos (by unfold jt;rw[ag,lx,ag];exact aC M 01)]
   have X:zq _ _ _ (jt _) (Jz 2 [0,1] (frz [.vl _,.vl _,.un,.ow (g.map T.str),o,C]))=.ok i:=Q;rw[X];rfl
  ·show (decide _&&decide _&&i.all _&&decide _)=true;have hd:(dd [] (i.map j6)).length=i.length:=by
    rw[I,F];have:=(WA g []).mpr (λk w h=>by simpa using S k w h)
    simpa using this
   rw[decide_eq_true 00,decide_eq_true 00,s2,decide_eq_true hd];rfl
def Yr (c:Int)(j:Int)(a:uY c j):Z5 (.int c) (.int j)=.ok (.int (c*j)):=by
 show (if uY c j then R.ok _ else .bad)=_
 rw[if_pos a]
def Eb (j:Int):Z5 (.int 3) (.int j)=.ok (.int (3*j)):=Yr _ _ (.inl ⟨by decide,by decide⟩)
def Hi (j:Int):Z5 (.int 50) (.int j)=.ok (.int (50*j)):=Yr _ _ (.inl ⟨by decide,by decide⟩)
abbrev Bm (c:List T->R T):En->R T:=zb 3 c (za (vE 1) (za (zd zA (zd zA (zd Z5 (cE (.int 3)) (vE 2)) (cE (.int 40))) (zd Z5 (cE (.int 50)) 04)) (za (zd Jj (vE 3) 02) (ze))))
theorem Uh (ns:List Int):∀(d n:Nat),d<=n->1<=d->∀k:Int,0<=k->∃t,o4 n 0 [mU ns,.int k,.int (d:Int)]=.ok t/\nV d t=true
 |d+1,n+1,hn,_,k,S=>by
  have e:o4 (n+1) 0 [mU ns,.int k,.int ((d+1:Nat))]=zn (AQ nu sK (o4 n 0) [.vl (mU ns),.vl (.int k),.vl _,.un,.un,.un]):=rfl;obtain⟨p,e0,p0,p1⟩:=zN ns k 5 S 00
  obtain⟨l,el,hl⟩:=KW ns (k+1) 00
  have v:([.vl (mU ns),.vl (.int k),.vl (.int ((d+1:Nat))),.un,.un,.un]:En).set 3 (.vl (.int p))=[.vl (mU ns),.vl (.int k),.vl _,.vl (.int p),.un,.un]:=rfl;rw[e,AQ];simp only[Z0,wf,j8,Ym,zM,Zi,zC,v0,v1,v2,zU,i3,e0,ZZ,v,w2,w3,oh,Dg,Z1,Zg,je,Wy,jC,zk,el];have D:((((d+1:Nat):Int)==1))=decide (d=0):=by
   by_cases h:d=0
   ·subst h;rfl
   ·rw[decide_eq_false h,beq_eq_false_iff_ne];omega
  rw[D]
  by_cases f:d=0\/p<2
  ·refine⟨l,?_,hl d⟩;rcases f with h|h
   ·rw[decide_eq_true h];rfl
   ·rw[decide_eq_true h];cases decide (d=0)<;>rfl
  ·have B:¬d=0:=λz=>f (.inl z);have y:¬p<2:=λz=>f (.inr z);have i:((d+1:Nat))-1=(d:Int):=by omega
   rw[decide_eq_false B,decide_eq_false y];simp only[aH,if_false,ZZ,mS,w3,v0,v1,v2,i3,Dg,zU];cases hp:decide (p<4)with
   |true=>
    obtain⟨q,F,X,U⟩:=zN ns (k+1) 3 00 00
    have Q:∀j:Nat,∃t,Bm (o4 n 0) [.vl (.int (0+(j:Int))),.vl (mU ns),.vl (.int k),.vl (.int ((d+1:Nat)))]=.ok t/\nV d t=true:=λj=>by
     obtain⟨t,r,s⟩:=Uh ns d n 00 00 (3*k+40+50*(0+(j:Int))) 00
     refine⟨t,?_,s⟩;simp only[Bm,Zi,v0,v1,v2,v3,zk,zU,i3,Eb,Hi,Z1,Zt,i,r]
    obtain⟨g,M⟩:=mh.mp Q;have N:ZI (zd zA 02 (zb 3 nu (za 04 (za (zd zA (vE 1) 02) (za (cE (.int 3)) (ze)))))) [.vl (mU ns),.vl (.int k),.vl (.int ((d+1:Nat))),.vl (.int p),.un,.un]=.ok (rng 0 (1+q).toNat):=by
     unfold ZI;simp only[zk,Zi,v0,v1,zU,i3,Z1,F];rw[if_pos ⟨by omega,by omega⟩]
    have I:zo (zB 0) Z2 (Bm (o4 n 0)) 1 [0,1,2] [.vl (mU ns),.vl (.int k),.vl _,.vl (.int p),.un,.un] _=.ok ((rng 0 (1+q).toNat).map λt=>match t with|.int j=>g j.toNat|t=>t):=
     zV _ (by unfold rng;rw[ag,ba];exact aC (show (1+q).toNat<=3 by omega) 01) λt x=>by
      obtain⟨j,_,rfl⟩:=ay.mp x;show Bm (o4 n 0) [.vl _,.vl (mU ns),.vl (.int k),.vl _]=.ok (g _);rw[(M j).1,iG,a_]
    generalize o:((rng 0 (1+q).toNat).map λt=>match t with|.int j=>g j.toNat|t=>t)=cs at I
    have L:cs.length=(1+q).toNat:=by rw[←o];unfold rng;rw[ag,ag,ba]
    have w:∀t∈cs,nV d t=true:=λt x=>by
     rw[←o]at x;obtain⟨u,P,rfl⟩:=ay.mp x;obtain⟨j,_,rfl⟩:=ay.mp P;exact(M _).2
    refine⟨.tup [.str "row",.tup cs],?_,?_⟩
    ·have G:([.vl (mU ns),.vl (.int k),.vl (.int ((d+1:Nat))),.vl (.int p),.un,.un]:En).set 4 (.vl (.lst cs))=[.vl (mU ns),.vl (.int k),.vl _,.vl (.int p),.vl (.lst cs),.un]:=rfl;simp only[if_true,zF,N,i3,I,ZZ,G,je,Wy,jC];rfl
    ·show (decide _&&decide _&&cs.all _)=true;rw[decide_eq_true 00,decide_eq_true 00,aR.mpr w];rfl
   |false=>
    obtain⟨q,F,X,U⟩:=zN ns (k+1) 3 00 00
    obtain⟨J,O,_,_⟩:=zN ns (k+2) 3 00 00
    obtain⟨t,r,s⟩:=Uh ns d n 00 00 (3*k+40) 00
    refine⟨.tup [.str "many",t,.int q,.int (if q+J<3 then q+J else 3)],?_,?_⟩
    ·have C:([.vl (mU ns),.vl (.int k),.vl (.int ((d+1:Nat))),.vl (.int p),.un,.un]:En).set 5 (.vl (.int q))=[.vl _,.vl _,.vl _,.vl _,.un,.vl _]:=rfl;simp only[aH,if_false,v0,v1,zk,zU,i3,Z1,F,ZZ,C,je,Wy,jC,Jp];refine Dk rfl ?_ rfl ?_
     ·simp only[Zi,v0,v1,v2,zk,zU,i3,Eb,Z1,Zt,i,r]
     ·have Z:∀{t:T} {a b c d e:Sl} {ρ:En},vE 5 (a::b::c::d::e::.vl t::ρ)=.ok t:=rfl;simp only[Zi,v0,v1,Z,zk,zU,i3,Z1,O,Xz]
    ·show (Jo 0 3 _ _&&nV d t)=true;rw[s,Bool.and_true];show (decide _&&decide _&&decide _)=true;rw[decide_eq_true 00,decide_eq_true (by split<;>omega),decide_eq_true (by split<;>omega)];rfl
mutual
noncomputable def pI:T->Nat
 |.tup xs=>Vk xs+1
 |.lst xs=>Vk xs+1
 |_=>1
noncomputable def Vk:List T->Nat
 |[]=>0
 |t::ts=>max (pI t) (Vk ts)
end
mutual
noncomputable def pJ:T->Nat
 |.tup xs=>Vl xs+1
 |.lst xs=>Vl xs+1
 |_=>1
noncomputable def Vl:List T->Nat
 |[]=>0
 |t::ts=>pJ t+Vl ts
end
def Jr {w:Str}{t:T}(h:isS w t=true):t=.str w:=by
 cases t with
 |str s=>
  have:=h;rw[eq_of_beq this]
 |_=>cases h
def KY {lo hi:Int}{t:T}(h:rO lo hi t=true):∃i,t=.int i:=by
 cases t with
 |int i=>exact⟨i,rfl⟩
 |_=>cases h
def JE {lo hi:Int}{a b:T}(h:Jo lo hi a b=true):∃i j,a=.int i/\b=.int j:=by
 cases a with
 |int i=>
  cases b with
  |int j=>exact⟨i,j,rfl,rfl⟩
  |_=>cases h
 |_=>cases h
structure Bq (D S:Nat) (t:T):Prop where
 so:sOk t
 dp:pI t<=D
 sz:pJ t<=S
def Ys {c:T}(h:zZ c=true):Bq 2 3 c:=by
 unfold zZ at h;split at h
 ·rename_i w i;have a:=by
   rw[am,am]at h;exact h.1.1
  cases w with
  |str x=>
   have d:(decide _&&decide _&&x.cps.toList.all _)=true:=a;rw[am,am,decide_eq_true_eq,decide_eq_true_eq]at d;refine⟨?_,?_,?_⟩
   ·simp only[sOk,yh,and_true];exact aC d.1.2 01
   ·simp[pI,Vk]
   ·simp[pJ,Vl]
  |_=>cases a
 ·cases h
theorem B7 {D S:Nat}:∀{e:List T},(∀c∈e,Bq D S c)->yh e/\Vk e<=D/\Vl e<=S*e.length
 |[],_=>⟨by simp only[yh],aU _,aU _⟩
 |c::e,h=>by
  obtain⟨a,b,d⟩:=B7 λx f=>h x (a9 _ f);obtain⟨x,y,z⟩:=h c ae;refine⟨?_,?_,?_⟩
  ·exact⟨x,a⟩
  ·simp only[Vk];omega
  ·simp only[Vl,aA,Nat.mul_add,Nat.mul_one];omega
theorem WB:∀(d:Nat) (t:T),nV d t=true->Bq (2*d+2) (15*4^d) t
 |0,_,h=>by cases h
 |d+1,t,h=>by
  have g:1<=4^d:=Nat.pow_pos 00
  have h:Yo _ t=true:=h;unfold Yo at h;split at h
  ·rename_i hd r;split at h
   ·rename_i e;rw[Jr e];unfold uE at h;split at h
    ·obtain⟨i,j,rfl,rfl⟩:=JE h;refine⟨by simp only[sOk,yh,and_true];decide,by simp only[pI,Vk];omega,by simp only[pJ,Vl];omega⟩
    ·cases h
   ·split at h
    ·rename_i e;rw[Jr e];unfold QI at h;split at h
     ·unfold yi at h;split at h
      ·rw[am,am,am,decide_eq_true_eq,decide_eq_true_eq]at h;obtain⟨a,b,z⟩:=B7 λc f=>Ys (aR.mp h.1.2 c f);refine⟨by simp only[sOk,yh,and_true];exact⟨by decide,a⟩,by simp only[pI,Vk];omega,by simp only[pJ,Vl];omega⟩
      ·cases h
     ·cases h
    ·split at h
     ·rename_i e;rw[Jr e];unfold rk at h;split at h
      ·unfold wg at h;split at h
       ·rename_i k;rw[am,am,decide_eq_true_eq,decide_eq_true_eq]at h;obtain⟨a,b,z⟩:=B7 λc f=>WB d c (aR.mp h.2 c f);have:15*4^d*k.length<=15*4^d*3:=Nat.mul_le_mul_left _ h.1.2;refine⟨by simp only[sOk,yh,and_true];exact⟨by decide,a⟩,by simp only[pI,Vk];omega,by simp only[pJ,Vl];omega⟩
       ·cases h
      ·cases h
     ·split at h
      ·rename_i e;rw[Jr e];unfold QJ at h;split at h
       ·rename_i c a b;rw[am]at h;obtain⟨i,j,rfl,rfl⟩:=JE h.1;obtain⟨x,y,z⟩:=WB d c h.2;refine⟨by simp only[sOk,yh,and_true];exact⟨by decide,x⟩,by simp only[pI,Vk];omega,by simp only[pJ,Vl];omega⟩
       ·cases h
      ·cases h
  ·cases h
def Hk {xs a:List T}(h:xs.length+a.length<=mR):zA (.tup xs) (.tup a)=.ok (.tup (xs++a)):=if_pos h
def wZ (ρ:En):mS ρ=.nx ρ:=rfl
inductive Kd where
 |whole (lo hi:Int)
 |pick (cs:List (Str×Int))
 |row (ks:List Kd)
 |many (k:Kd) (lo hi:Nat)
noncomputable def wk (c:Str×Int):T:=.tup [.str c.1,.int c.2]
mutual
noncomputable def Kd.t:Kd->T
 |.whole lo hi=>.tup [.str "whole",.int lo,.int hi]
 |.pick c=>.tup [.str "pick",.tup (c.map wk)]
 |.row a=>.tup [.str "row",.tup (Kd.ts a)]
 |.many k lo hi=>.tup [.str "many",k.t,.int (lo:Int),.int (hi:Int)]
noncomputable def Kd.ts:List Kd->List T
 |[]=>[]
 |k::a=>k.t::Kd.ts a
end
theorem Kd.ts_map:∀a:List Kd,Kd.ts a=a.map Kd.t
 |[]=>by simp only[Kd.ts,bO]
 |k::a=>by simp only[Kd.ts,ao,Kd.ts_map a]
def Kd.Ok:Nat->Kd->Prop
 |0,_=>False
 |_+1,.whole lo hi=> -20<=lo/\lo<=hi/\hi<=20
 |_+1,.pick a=>1<=a.length/\a.length<=4/\(∀c∈a,Zs (.str c.1)=true/\1<=c.2/\c.2<=20)/\Dst (a.map (·.1))
 |d+1,.row e=>1<=e.length/\e.length<=3/\∀k∈e,Kd.Ok d k
 |d+1,.many k lo hi=>lo<=hi/\hi<=3/\Kd.Ok d k
def QL {c:T}(h:zZ c=true):∃p:Str×Int,c=wk p/\Zs (.str p.1)=true/\1<=p.2/\p.2<=20:=by
 unfold zZ at h;split at h
 ·rename_i w i;rw[am,am,decide_eq_true_eq,decide_eq_true_eq]at h;cases w with
  |str x=>exact⟨(x,i),rfl,h.1.1,h.1.2,h.2⟩
  |_=>cases h.1.1
 ·cases h
theorem Ui {d:Type}{P:T->Prop}{Q:d->Prop}{f:d->T}(H:∀t,P t->∃a,t=f a/\Q a):∀(ts:List T),(∀t∈ts,P t)->∃c:List d,ts=c.map f/\∀a∈c,Q a
 |[],_=>⟨[],rfl,λ_ h=>nomatch h⟩
 |t::ts,h=>by
  obtain⟨a,rfl,i⟩:=H t (h t ae);obtain⟨c,rfl,has⟩:=Ui H ts λu g=>h u (a9 _ g);exact⟨a::c,rfl,λb e=>by
   rcases au.mp e with rfl|e
   ·exact i
   ·exact has b e⟩
theorem Uj:∀(d:Nat) (t:T),nV d t=true->∃k:Kd,t=k.t/\k.Ok d
 |0,_,h=>by cases h
 |d+1,t,h=>by
  have h:Yo _ t=true:=h;unfold Yo at h;split at h
  ·rename_i hd r;split at h
   ·rename_i e;rw[Jr e];unfold uE at h;split at h
    ·obtain⟨i,j,rfl,rfl⟩:=JE h;have h:(decide _&&decide _&&decide _)=true:=h;rw[am,am,decide_eq_true_eq,decide_eq_true_eq,decide_eq_true_eq]at h;exact⟨.whole i j,by simp only[Kd.t],h.1.1,h.1.2,h.2⟩
    ·cases h
   ·split at h
    ·rename_i e;rw[Jr e];unfold QI at h;split at h
     ·unfold yi at h;split at h
      ·rename_i p;rw[am,am,am,decide_eq_true_eq,decide_eq_true_eq,decide_eq_true_eq]at h;obtain⟨⟨⟨f,g⟩,D⟩,x⟩:=h;obtain⟨o,rfl,has⟩:=Ui (λt l=>QL l) p λc q=>aR.mp D c q;rw[ag]at f g;refine⟨.pick o,by simp only[Kd.t],f,g,has,?_⟩
       have F:(o.map wk).map j6=o.map (·.1):=by rw[aK];rfl
       rw[F]at x;have:=(WA _ []).mp (by rw[x,ag];simp)
       exact λk w B y=>this k w B (by simpa using y)
      ·cases h
     ·cases h
    ·split at h
     ·rename_i e;rw[Jr e];unfold rk at h;split at h
      ·unfold wg at h;split at h
       ·rename_i p;rw[am,am,decide_eq_true_eq,decide_eq_true_eq]at h;obtain⟨G,rfl,u⟩:=Ui (λt l=>Uj d t l) p λc q=>aR.mp h.2 c q;rw[ag]at h;exact⟨.row G,by simp only[Kd.t,Kd.ts_map],h.1.1,h.1.2,u⟩
       ·cases h
      ·cases h
     ·split at h
      ·rename_i e;rw[Jr e];unfold QJ at h;split at h
       ·rename_i c a b;rw[am]at h;obtain⟨f,g⟩:=h;obtain⟨i,j,rfl,rfl⟩:=JE f;obtain⟨k,rfl,C⟩:=Uj d c g;have f:(decide _&&decide _&&decide _)=true:=f;rw[am,am,decide_eq_true_eq,decide_eq_true_eq,decide_eq_true_eq]at f;obtain⟨⟨v,I⟩,J⟩:=f;obtain⟨m,rfl⟩:=cH v;obtain⟨n,rfl⟩:=cH (dW v I);exact⟨.many k m n,by simp only[Kd.t],by omega,by omega,C⟩
       ·cases h
      ·cases h
  ·cases h
noncomputable def zW (c:List (List T)):List (List T)->List (List T)
 |[]=>c
 |d::r=>zW (c.flatMap λa=>d.map λx=>a++[x]) r
abbrev Yt (ls:List (List T)):List T:=(zW [[]] ls).map T.tup
mutual
noncomputable def Kd.all:Kd->List T
 |.whole lo hi=>(aV (hi+1-lo).toNat).map λ(i:Nat)=>T.int (lo+(i:Int))
 |.pick d=>d.map λc=>T.str c.1
 |.row a=>Yt (Kd.alls a)
 |.many k lo hi=>(aV (hi+1-lo)).flatMap λi=>Yt (ar (lo+i) k.all)
noncomputable def Kd.alls:List Kd->List (List T)
 |[]=>[]
 |k::a=>k.all::Kd.alls a
end
theorem Kd.alls_map:∀a:List Kd,Kd.alls a=a.map Kd.all
 |[]=>by simp only[Kd.alls,bO]
 |k::a=>by simp only[Kd.alls,ao,Kd.alls_map a]
noncomputable def nj:List Nat->Nat
 |[]=>1
 |n::r=>n*nj r
theorem wl:∀{ns:List Nat},(∀n∈ns,1<=n)->1<=nj ns
 |[],_=>aq _
 |n::ns,h=>c_ (h n ae) (wl λm a=>h m (a9 _ a))
theorem JF {d g:Type}(f:d->List g)(n:Nat):∀c:List d,(∀a∈c,(f a).length=n)->(c.flatMap f).length=c.length*n
 |[],_=>by simp
 |a::c,h=>by
  rw[bC,aB,h a ae,JF f n c λb e=>h b (a9 _ e),aA,fE,cx,lJ]
theorem wm:∀(d:List (List T)) (c:List (List T)),(zW c d).length=c.length*nj (d.map (·.length))
 |[],c=>by simp[zW,nj]
 |l::d,c=>by
  rw[zW,wm d,JF _ _ _ λa _=>ag ..,ao,nj,dL]
abbrev A9:En->RS:=Vd 3 (zE (Zj (vE 2)) (zB 0) (Z2) (zd zA (vE 1) (Zq (za 04 (ze)))) 1 [4])
theorem yl {L M:T}{l:List T}(g:l.length<=mR):∀(d:List (List T)) (acc:List T) (x:Sl),(∀a∈d,a.length<=1000)->acc.length+d.length*l.length<=mR->
  ∃y,ZJ (zB 4) A9 (d.map T.tup) [.vl L,.vl M,.vl (.lst l),.ow acc,x]=.nx [.vl L,.vl M,.vl (.lst l),.ow (acc++(d.flatMap λa=>l.map λx=>a++[x]).map T.tup),y]
 |[],acc,x,_,_=>⟨x,by simp[ZJ]⟩
 |a::d,acc,x,i,f=>by
  have k:=i a ae;have j:mR=16777216:=rfl;rw[aA,fE]at f;have p:zo _ _ (zd zA (vE 1) (Zq (za 04 (ze)))) 1 [4] [.vl L,.vl M,.vl (.lst l),.ow acc,.vl (.tup a)] l=.ok (l.map λx=>T.tup _):=
   zV l g λx u=>by
    exact Hk (by rw[aM];omega)
  have o:A9 [.vl L,.vl M,.vl (.lst l),.ow acc,.vl (.tup a)]=.nx [.vl L,.vl M,.vl (.lst l),.ow (acc++l.map λx=>T.tup (a++[x])),.vl (.tup a)]:=by
   show (((zo _ _ _ _ _ _ l).bind _).s _)=_;rw[p,i3];show (if _ then _ else _)=_
   rw[if_pos (by rw[ag];omega)]
   rfl
  obtain⟨y,q⟩:=yl g d (acc++l.map λx=>T.tup _) _ (λb f=>i b (a9 _ f)) (by rw[aB,ag];omega)
  refine⟨y,?_⟩;have e:ZJ (zB 4) _ ((a::d).map T.tup) [.vl L,.vl M,.vl (.lst l),.ow acc,x]=match A9 [.vl L,.vl M,.vl _,.ow acc,.vl _]with
   |.nx c=>ZJ _ _ _ c
   |.ct c=>ZJ _ _ _ c
   |.bk c=>.nx c
   |r=>r:=rfl
  rw[e,o];dsimp only;rw[q,bC,bm,aK,bN];rfl
abbrev xJ:En->RS:=(zp (Yz 3 (ze))
  (zp (j5 (Zj (vE 1)) (zB 4) A9)
  (Bh 1 3)))
theorem uH {L:T}(m:Nat):∀(g:List (List T)) (c:List (List T)) (k:Nat) (x y z:Sl),(∀a∈c,a.length<=k)->k+g.length<=1000->(∀l∈g,1<=l.length)->c.length*nj (g.map (·.length))<=mR->1<=c.length->
  ∃o q B,ZJ (zB 2) xJ (g.map T.lst) [.vl L,.vl (.lst (c.map T.tup)),x,y,z]=.nx [.vl L,.vl (.lst ((zW c g).map T.tup)),o,q,B]
 |[],c,k,x,y,z,_,_,_,_,_=>⟨x,y,z,by simp[ZJ,zW]⟩
 |l::g,c,k,x,y,z,J,v,f,j,I=>by
  have F:=wl λn hn=>by
   obtain⟨D,i,rfl⟩:=ay.mp hn;exact f D (a9 _ i)
  rw[ao,nj,←dL]at j;have C:=aC (dz _ F) j;have p:=aC (Nat.le_mul_of_pos_left _ I) C;rw[aA]at v;obtain⟨w,O⟩:=yl p _ [] z (λa G=>aC (J a G) 00) (by rw[cK];omega)
  have M:xJ [.vl L,.vl (.lst (c.map T.tup)),.vl (.lst l),y,z]=.nx [.vl L,.vl (.lst ((c.flatMap λa=>l.map λx=>a++[x]).map T.tup)),.vl (.lst l),.vl (.lst ((c.flatMap λa=>l.map λx=>a++[x]).map T.tup)),w]:=by
   have P:Yz 3 (ze) [.vl L,.vl (.lst (c.map T.tup)),.vl (.lst l),y,z]=.nx [.vl L,.vl _,.vl _,.ow [],z]:=rfl;have S:j5 (Zj (vE 1)) _ _ [.vl L,.vl (.lst _),.vl _,.ow [],z]=.nx [.vl L,.vl _,.vl _,.ow ((c.flatMap λa=>l.map λx=>a++[x]).map _),w]:=O;unfold xJ;rw[Z0,P];dsimp only;rw[Z0,S];rfl
  obtain⟨o,q,B,Q⟩:=uH m g (c.flatMap λa=>l.map λx=>a++[x]) (k+1) _ (.vl (.lst ((c.flatMap λa=>l.map λx=>a++[x]).map _))) w (λa G=>by
   obtain⟨b,j,N⟩:=dA.mp G;obtain⟨u,_,rfl⟩:=ay.mp N;have:=J b j;rw[aB,aM];omega) 00 (λD i=>f D (a9 _ i)) (by
    rw[JF _ _ _ λa _=>ag ..];exact j) (by
    rw[JF _ _ _ λa _=>ag ..];exact c_ I (f l ae))
  refine⟨o,q,B,?_⟩;have e:ZJ (zB 2) _ ((l::g).map T.lst) [.vl L,.vl (.lst (c.map T.tup)),x,y,z]=match xJ [.vl L,.vl _,.vl _,y,z]with
   |.nx d=>ZJ _ _ _ d
   |.ct d=>ZJ _ _ _ d
   |.bk d=>.nx d
   |r=>r:=rfl
  rw[e,M];exact Q
def QM (c:List (List T))(p:c.length<=1000)(d:∀l∈c,1<=l.length)(g:nj (c.map (·.length))<=mR):nv [.lst (c.map T.lst)]=.ok (.lst (Yt c)):=by
 obtain⟨o,q,r,f⟩:=uH 0 c [[]] 0 .un .un .un (λa j=>by rw[ax.mp j];exact aq _) 00 d (by rw[aM,cx];exact g) (aq _)
 have e:nv [.lst (c.map T.lst)]=zn (AX [.vl _,.un,.un,.un,.un]):=rfl;have k:zG 1 (j7 (za (Zq (ze)) (ze))) [.vl (.lst (c.map T.lst)),.un,.un,.un,.un]=.nx [.vl _,.vl _,.un,.un,.un]:=rfl;have i:j5 (Zj 04) _ _ [.vl (.lst _),.vl (.lst [.tup []]),.un,.un,.un]=.nx _:=f;rw[e,AX,Z0,k];dsimp only;rw[Z0,i];rfl
theorem jg (n:Nat):∀m:Nat,nj (ar m n)=n^m
 |0=>rfl
 |m+1=>by rw[c6,nj,jg n m,iH,dD]
def JG (a:List (List T)):(Yt a).length=nj (a.map (·.length)):=by
 rw[ag,wm,aM,cx]
noncomputable def pw (n lo hi:Nat):Nat:=((aV (hi+1-lo)).map λi=>n^(lo+i)).sum
def jo (k:Kd)(lo hi:Nat):(Kd.many k lo hi).all.length=pw k.all.length lo hi:=by
 rw[Kd.all,List.length_flatMap,pw];congr 1
 refine b5 λi _=>?_;rw[JG,bj,jg]
def J7 (a:List Kd):(Kd.row a).all.length=nj (a.map λk=>k.all.length):=by
 rw[Kd.all,JG,Kd.alls_map,aK];rfl
def jh (lo hi:Int):(Kd.whole lo hi).all.length=(hi+1-lo).toNat:=by
 rw[Kd.all,ag,ba]
def WC (a:List (Str×Int)):(Kd.pick a).all.length=a.length:=by
 rw[Kd.all,ag]
def KZ {lo hi:Nat}(h:lo<=hi)(a:hi<=3):(lo=0/\hi=0)\/(lo=0/\hi=1)\/(lo=0/\hi=2)\/(lo=0/\hi=3)\/(lo=1/\hi=1)\/(lo=1/\hi=2)\/(lo=1/\hi=3)\/(lo=2/\hi=2)\/(lo=2/\hi=3)\/(lo=3/\hi=3):=(by decide:∀hi lo:Fin 4,lo.1<=hi.1->(lo.1=0/\hi.1=0)\/(lo.1=0/\hi.1=1)\/(lo.1=0/\hi.1=2)\/(lo.1=0/\hi.1=3)\/(lo.1=1/\hi.1=1)\/(lo.1=1/\hi.1=2)\/(lo.1=1/\hi.1=3)\/(lo.1=2/\hi.1=2)\/(lo.1=2/\hi.1=3)\/(lo.1=3/\hi.1=3)) ⟨hi,lT a⟩ ⟨lo,lT (aC h a)⟩ h
noncomputable def iv (b:Bool):Nat:=if b then 1 else 0
def gc (n:Nat){lo hi:Nat}(h:lo<=hi)(a:hi<=3):pw n lo hi=iv (lo==0)+n*iv (decide (lo<=1)&&decide (1<=hi))+n*n*iv (decide (lo<=2)&&decide (2<=hi))+n*n*n*iv (hi==3):=by
 rcases KZ h a with ⟨rfl,rfl⟩|⟨rfl,rfl⟩|⟨rfl,rfl⟩|⟨rfl,rfl⟩|⟨rfl,rfl⟩|⟨rfl,rfl⟩|⟨rfl,rfl⟩|⟨rfl,rfl⟩|⟨rfl,rfl⟩|⟨rfl,rfl⟩<;>
  simp[pw,iL,iv,iH]
 all_goals omega
def Lu {n:Nat}(hn:1<=n){lo hi:Nat}(h:lo<=hi)(a:hi<=3):1<=pw n lo hi:=by
 have c:=c_ hn hn;have d:=c_ c hn;rw[gc n h a];rcases KZ h a with ⟨rfl,rfl⟩|⟨rfl,rfl⟩|⟨rfl,rfl⟩|⟨rfl,rfl⟩|⟨rfl,rfl⟩|⟨rfl,rfl⟩|⟨rfl,rfl⟩|⟨rfl,rfl⟩|⟨rfl,rfl⟩|⟨rfl,rfl⟩<;>
  simp[iv]<;>omega
def IV {n N:Nat}(hn:n<=N){lo hi:Nat}(h:lo<=hi)(a:hi<=3):pw n lo hi<=1+N+N*N+N*N*N:=by
 have c:=bx hn hn;have d:=bx c hn;rw[gc n h a];rcases KZ h a with ⟨rfl,rfl⟩|⟨rfl,rfl⟩|⟨rfl,rfl⟩|⟨rfl,rfl⟩|⟨rfl,rfl⟩|⟨rfl,rfl⟩|⟨rfl,rfl⟩|⟨rfl,rfl⟩|⟨rfl,rfl⟩|⟨rfl,rfl⟩<;>
  simp[iv]<;>omega
theorem XA {N:Nat}(a:1<=N):∀(ns:List Nat),(∀n∈ns,n<=N)->nj ns<=N^ns.length
 |[],_=>aq _
 |n::ns,h=>by
  rw[nj,dD];exact bx (XA a ns λm c=>h m (a9 _ c)) (h n ae)
theorem ZP:∀(d:Nat) (k:Kd),k.Ok d->1<=k.all.length
 |0,_,h=>h.elim
 |d+1,.whole lo hi,h=>by
  obtain⟨_,c,_⟩:=h;rw[jh];omega
 |d+1,.pick e,h=>by
  rw[WC];exact h.1
 |d+1,.row f,h=>by
  rw[J7];refine wl λn hn=>?_;obtain⟨k,a,rfl⟩:=ay.mp hn;exact ZP d k (h.2.2 k a)
 |d+1,.many k lo hi,h=>by
  rw[jo];exact Lu (ZP d k h.2.2) h.1 h.2.1
noncomputable def mx:Nat->Nat
 |0=>0
 |1=>41
 |d+1=>1+mx d+mx d*mx d+mx d*mx d*mx d
def XB (d:Nat):41<=mx (d+1):=by
 induction d with
 |zero=>exact aq _
 |succ d a=>
  show 41<=1+mx _+mx _*mx _+mx _*mx _*mx _;omega
def QN (d:Nat)(n:Nat)(h:n<=41):n<=mx (d+1):=aC h (XB d)
def gh {N m:Nat}(a:1<=N)(h:m<=3):N^m<=1+N+N*N+N*N*N:=by
 have:m=0\/m=1\/m=2\/m=3:=by omega
 rcases this with rfl|rfl|rfl|rfl<;>simp[iH]<;>omega
theorem jx:∀(d:Nat) (k:Kd),k.Ok d->k.all.length<=mx d
 |0,_,h=>h.elim
 |d+1,.whole lo hi,h=>by
  obtain⟨e,c,a⟩:=h;rw[jh];exact QN d _ 00
 |d+1,.pick i,h=>by
  rw[WC];exact QN d _ (aC h.2.1 00)
 |1,.row f,h=>by
  obtain⟨e,c,a⟩:=h
  match f,e,a with
  |k::_,_,a=>exact(a k ae).elim
 |d+2,.row f,h=>by
  obtain⟨e,c,a⟩:=h;rw[J7];have hp:=aC (by omega:1<=41) (XB d)
  have:=XA hp (f.map λk=>k.all.length) λn hn=>by
   obtain⟨k,g,rfl⟩:=ay.mp hn;exact jx _ k (a k g)
  rw[ag]at this;exact aC this (gh hp c)
 |1,.many k lo hi,h=>h.2.2.elim
 |d+2,.many k lo hi,h=>by
  rw[jo];exact IV (jx _ k h.2.2) h.1 h.2.1
def zc {f g:En->RS}{ρ ρ':En}(h:f ρ=.nx ρ'):zp f g ρ=g ρ':=by rw[Z0,h]
def n9 {x w:Str}{r:List T}{ρ:En}:zu mL 03 (cE (.str w)) (.vl (.tup (.str x::r))::ρ)=.ok (x==w):=by
 rw[zM,zk,v0,i3,zU,i3,pC,zU,i3];rfl
def jU {a b:T}{r:List T}{ρ:En}:zd i4 04 02 (.vl (.tup (a::b::r))::ρ)=.ok b:=by
 rw[zk,v0,i3,zU,i3,pG]
def uI {a b c:T}{r:List T}{ρ:En}:zd i4 04 (cE (.int 2)) (.vl (.tup (a::b::c::r))::ρ)=.ok c:=by
 rw[zk,v0,i3,zU,i3,CJ]
def Ga {a b c d:T}{r:List T}{ρ:En}:zd i4 04 (cE (.int 3)) (.vl (.tup (a::b::c::d::r))::ρ)=.ok d:=by
 rw[zk,v0,i3,zU,i3,D7]
def QO {f:En->R T}{ρ:En}{i:Int}(h:f ρ=.ok (.int i)):zd zA f 02 ρ=.ok (.int (i+1)):=by
 rw[zk,h,i3,zU,i3,Z1]
def Uk {f g:En->R T}{ρ:En}{i j:Int}(a:f ρ=.ok (.int i))(c:g ρ=.ok (.int j))(h: -1000000<i/\i<1000000/\ -1000000<j/\j<1000000):Jv f g ρ=.ok (rng i (j-i).toNat):=by
 unfold Jv;rw[a,c];exact if_pos h
theorem QP:∀(a:List (Str×Int)) (x y:Sl),zq (zS 0 1) Z2 04 (a.map wk) [x,y]=.ok (a.map λc=>T.str c.1)
 |[],_,_=>rfl
 |c::a,x,y=>by
  have e:zq (zS 0 1) Z2 04 ((c::a).map wk) [x,y]=(zq _ _ _ _ [.vl _,.vl _]).bind λvs=>.ok _:=rfl;rw[e,QP a];rfl
def uJ {x:T}{m:Nat}(h:m<=3):Z5 (.lst [x]) (.int (m:Int))=.ok (.lst (ar m [x]).flatten):=by
 unfold Z5;dsimp only;have c:0<=(m:Int)/\(m:Int)<1000000/\[x].length*(m:Int).toNat<=mR:=by
  have a:3<=mR:=by decide
  refine⟨by omega,by omega,?_⟩
  rw[aM,cx];exact aC h a
 rw[if_pos c,a_]
theorem jp {a:Type}(x:a):∀m:Nat,(ar m [x]).flatten=ar m x
 |0=>rfl
 |m+1=>by rw[c6,g_,jp x m];rfl
abbrev Ul (ca cr:List T->R T):En->RS:=Vd 1 (zb 1 cr (za (zd Z5 (j7 (za (zb 1 ca (za (zd i4 04 02) (ze))) (ze))) (vE 2)) (ze)))
def tq {f:En->R T}{ρ:En}{x:T}(a:f ρ=.ok x):j7 (za f ze) ρ=.ok (.lst [x]):=by
 unfold j7 za ze;rw[a];rfl
theorem uK {ca:List T->R T}{k:Kd}{t:T}{lo:Nat}{d:List T}(q:ca [t]=.ok (.lst d))(g:1<=d.length){a b c:T}:∀(js:List Nat) (acc:List T) (x:Sl),(∀j∈js,lo+j<=3)->acc.length+(js.map λj=>d.length^(lo+j)).sum<=mR->
  ∃y,ZJ (zB 2) (Ul ca nv) (js.map λ(j:Nat)=>T.int ((lo:Int)+(j:Int))) [.vl (.tup [a,t,b,c]),.ow acc,x]=.nx [.vl (.tup [a,t,b,c]),.ow (acc++js.flatMap λj=>Yt (ar (lo+j) d)),y]
 |[],acc,x,_,_=>⟨x,by simp[ZJ]⟩
 |j::js,acc,x,p,G=>by
  have F:=p j ae;rw[ao,bK]at G;have w:nv [.lst ((ar (lo+j) d).map _)]=.ok _:=QM _ (by rw[aY];omega) (λl I=>by rw[bM I];exact g) (by rw[bj,jg];omega)
  have u:(Yt (ar (lo+j) d)).length=d.length^(lo+j):=by rw[JG,bj,jg]
  have J:Z5 (.lst [.lst d]) (.int ((lo)+(j)))=.ok (.lst ((ar (lo+j) d).map T.lst)):=by
   have o:(lo:Int)+(j)=((lo+j:Nat)):=by omega
   rw[o,uJ 00,jp,bj]
  have v:Ul ca nv [.vl (.tup [a,t,b,c]),.ow acc,.vl (.int ((lo)+(j)))]=.nx [.vl (.tup [a,t,b,c]),.ow (acc++Yt (ar (lo+j) d)),.vl (.int ((lo)+(j)))]:=by
   have o:zb 1 nv (za (zd Z5 (j7 (za (zb 1 ca (za (zd i4 04 02) (ze))) (ze))) (vE 2)) (ze)) [.vl (.tup [a,t,b,c]),.ow acc,.vl (.int ((lo)+(j)))]=.ok (.lst (Yt (ar (lo+j) d))):=by
    have B:zb 1 ca (za (zd i4 04 02) (ze)) [.vl (.tup [a,t,b,c]),.ow acc,.vl (.int ((lo)+(j)))]=.ok (.lst d):=by
     rw[zL,jU,i3,q]
    rw[zL,zk,tq B,i3,v2,i3,J,i3,w]
   show ((zb 1 _ _ _).s λt=>match t with|.lst D=>if acc.length+D.length<=mR then RS.nx _ else .bad|_=>.bad)=_
   rw[o];show (if _ then _ else _)=_
   rw[if_pos 00]
   rfl
  obtain⟨y,C⟩:=uK (k:=k) q g js (acc++Yt (ar (lo+j) d)) _ (λi hi=>p i (a9 _ hi)) (by rw[aB];omega)
  refine⟨y,?_⟩;have e:ZJ (zB 2) (Ul ca nv) ((j::js).map λ(j:Nat)=>T.int ((lo)+(j))) [.vl (.tup [a,t,b,c]),.ow acc,x]=match Ul ca _ [.vl _,.ow acc,.vl _]with
   |.nx f=>ZJ _ _ (js.map λ(j)=>T.int _) f
   |.ct f=>ZJ _ _ (js.map λ(j)=>T.int _) f
   |.bk f=>.nx f
   |r=>r:=rfl
  rw[e,v];dsimp only;rw[C,bC,bN]
def xK {ca:List T->R T}{a t:T}{lo hi:Nat}(g:lo<=hi)(f:hi<=3){x:Sl}{acc:List T}{r:RS}
  (d:ZJ (zB 2) (Ul ca nv) ((aV (hi+1-lo)).map λ(j:Nat)=>T.int ((lo:Int)+(j:Int))) [.vl (.tup [a,t,.int (lo:Int),.int (hi:Int)]),.ow acc,x]=r):
  j5 (Jv 000 (zd zA (zd i4 04 (cE (.int 3))) 02)) (zB 2) (Ul ca nv) [.vl (.tup [a,t,.int (lo:Int),.int (hi:Int)]),.ow acc,x]=r:=by
 have hn:((hi:Int)+1-(lo)).toNat=hi+1-lo:=by omega
 have c: -1000000<(lo:Int)/\(lo:Int)<1000000/\ -1000000<(hi:Int)+1/\(hi:Int)+1<1000000:=by omega
 have e:j5 (Jv 000 (zd zA (zd i4 04 (cE (.int 3))) 02)) (zB 2) (Ul ca nv) [.vl (.tup [a,t,.int (lo),.int (hi)]),.ow acc,x]=(Jv _ _ _).s λts=>ZJ _ _ ts _:=rfl;rw[e,Uk uI (QO Ga) c,hn];exact d
def HM {n L lo hi:Nat}(e:L=pw n lo hi)(h:L<=1000000):([]:List T).length+((aV (hi+1-lo)).map λj=>n^(lo+j)).sum<=mR:=by
 have h':pw n lo hi<=mR:=aC (e▸h) 01
 rw[cK,fN];exact h'
def QR {ca:List T->R T}(d:Nat)(lo hi:Int)(h:(Kd.whole lo hi).Ok (d+1))(g:(Kd.whole lo hi).all.length<=1000000)(H:∀a:Kd,a.Ok d->ca [a.t]=.ok (.lst a.all)):zn (nK ca nv (mO 3 [(Kd.whole lo hi).t]))=.ok (.lst (Kd.whole lo hi).all):=by
 have e:zn (nK ca nv (mO 3 [(Kd.whole lo hi).t]))=zn (nK ca _ [.vl _,.un,.un]):=rfl;rw[e,nK,Z0,j8];obtain⟨i,c,f⟩:=h;simp only[Kd.t];rw[Zg,je,Wy];unfold Av;rw[Uk jU (QO uI) ⟨by omega,by omega,by omega,by omega⟩]
 rfl
def xL {ca:List T->R T}(d:Nat)(a:List (Str×Int))(h:(Kd.pick a).Ok (d+1))(j:(Kd.pick a).all.length<=1000000)(H:∀f:Kd,f.Ok d->ca [f.t]=.ok (.lst f.all)):zn (nK ca nv (mO 3 [(Kd.pick a).t]))=.ok (.lst (Kd.pick a).all):=by
 have g:mR=16777216:=rfl;have e:zn (nK ca nv (mO 3 [(Kd.pick a).t]))=zn (nK ca _ [.vl _,.un,.un]):=rfl;rw[e,nK,Z0,j8];simp only[Kd.t];rw[n9,ZZ,show (("pick":Str)=="whole")=false from rfl,if_neg az,wZ];dsimp only;rw[Z0,j8,Zg,je,Wy,Wy,jC,zF,ZF,jU];have k:=h.2.1;have i:zo (zS 0 1) Z2 04 2 [] [.vl (.tup [.str "pick",.tup (a.map wk)]),.un,.un] (a.map wk)=.ok (a.map λc=>T.str c.1):=by
  unfold zo;rw[if_pos (by rw[ag];omega)]
  show quiet (zq _ _ _ _ [.un,.un])=_;rw[QP];rfl
 show zn (match ((((R.ok _).bind λts=>(zo _ _ _ 2 [] _ ts).bind λvs=>.ok _)).s λt=>.rt t)with|.nx ρ'=>_|r=>r)=_
 rw[i3,i];rfl
def gm {ca:List T->R T}(d:Nat)(a:List Kd)(h:(Kd.row a).Ok (d+1))(o:(Kd.row a).all.length<=1000000)(H:∀c:Kd,c.Ok d->ca [c.t]=.ok (.lst c.all)):zn (nK ca nv (mO 3 [(Kd.row a).t]))=.ok (.lst (Kd.row a).all):=by
 have p:mR=16777216:=rfl;have e:zn (nK ca nv (mO 3 [(Kd.row a).t]))=zn (nK ca _ [.vl _,.un,.un]):=rfl;rw[e,nK,Z0,j8];obtain⟨C,B,j⟩:=h;simp only[Kd.t];rw[n9,ZZ,show (("row":Str)=="whole")=false from rfl,if_neg az,wZ];dsimp only;rw[Z0,j8,n9,ZZ,show (("row":Str)=="pick")=false from rfl,if_neg az,wZ];dsimp only;rw[Z0,j8,Zg,je,Wy,Wy,jC,zL,Kd.ts_map];have w:zo (zB 0) Z2 (zb 1 ca (za 04 (ze))) 1 [] [.vl (.tup [.str "row",.tup (a.map Kd.t)]),.un,.un] (a.map Kd.t)=.ok ((a.map Kd.all).map T.lst):=by
  unfold zo;rw[if_pos (by rw[ag];omega)]
  show quiet (zq _ _ _ _ [.un])=_;have:∀(a:List Kd) (x:Sl),(∀k∈a,k.Ok d)->zq (zB 0) Z2 (zb 1 ca (za 04 (ze))) (a.map Kd.t) [x]=.ok ((a.map Kd.all).map T.lst):=by
   intro a
   induction a with
   |nil=>intro _ _;rfl
   |cons k a y=>
    intro x f;have q:zq (zB 0) Z2 (zb 1 ca (za 04 (ze))) ((k::a).map _) [x]=(zb 1 ca _ [.vl k.t]).bind λv=>(zq _ _ _ _ [.vl k.t]).bind λvs=>.ok _:=rfl;rw[q,zL,v0,i3,H k (f k ae),y _ λc g=>f c (a9 _ g)];rfl
  rw[this a .un j];rfl
 have i:=J7 a;have u:nv [.lst ((a.map Kd.all).map _)]=.ok _:=QM _ (by rw[ag];omega) (λl o=>by
  obtain⟨k,f,rfl⟩:=ay.mp o;exact ZP d k (j k f)) (by
  rw[aK];show nj (a.map λk=>k.all.length)<=mR;omega)
 show zn (match ((((R.ok _).bind λts=>(zo _ _ _ 1 [] _ ts).bind λvs=>.ok _).bind λx=>nv [x]).s λt=>.rt t)with|.nx ρ'=>_|r=>r)=_
 rw[i3,w,i3,i3,u,Kd.all,Kd.alls_map];rfl
def xM {ca:List T->R T}(d:Nat)(k:Kd)(lo hi:Nat)(h:(Kd.many k lo hi).Ok (d+1))(u:(Kd.many k lo hi).all.length<=1000000)(H:∀f:Kd,f.Ok d->ca [f.t]=.ok (.lst f.all)):zn (nK ca nv (mO 3 [(Kd.many k lo hi).t]))=.ok (.lst (Kd.many k lo hi).all):=by
 have o:mR=16777216:=rfl;have e:zn (nK ca nv (mO 3 [(Kd.many k lo hi).t]))=zn (nK ca nv [.vl (Kd.many k lo hi).t,.un,.un]):=rfl;rw[e,nK,Z0,j8];obtain⟨r,p,i⟩:=h;have g:=jo k lo hi;simp only[Kd.t];rw[n9,ZZ,show (("many":Str)=="whole")=false from rfl,if_neg az,wZ];dsimp only;rw[Z0,j8,n9,ZZ,show (("many":Str)=="pick")=false from rfl,if_neg az,wZ];dsimp only;rw[Z0,j8,n9,ZZ,show (("many":Str)=="row")=false from rfl,if_neg az,wZ];dsimp only;have v:Yz 1 (ze) [.vl (.tup [.str "many",k.t,.int (lo:Int),.int (hi:Int)]),.un,.un]=.nx [.vl (.tup [.str "many",k.t,.int (lo:Int),.int (hi:Int)]),.ow [],.un]:=rfl;rw[Z0,v];dsimp only;obtain⟨y,w⟩:=uK (k:=k) (lo:=lo) (H k i) (ZP d k i) (a:=.str "many") (b:=.int (lo:Int)) (c:=.int (hi:Int)) (aV (hi+1-lo)) [] .un (λj q=>by have:=bu.mp q;omega) (HM g u)
 have l:=xK (ca:=ca) (t:=k.t) r p w;rw[cq]at l;rw[zc l,Kd.all];rfl
def xN {ca:List T->R T}(d:Nat)(k:Kd)(h:k.Ok (d+1))(a:k.all.length<=1000000)(H:∀c:Kd,c.Ok d->ca [c.t]=.ok (.lst c.all)):zn (nK ca nv (mO 3 [k.t]))=.ok (.lst k.all):=by
 cases k with
 |whole lo hi=>exact QR d lo hi h a H
 |pick e=>exact xL d e h a H
 |row f=>exact gm d f h a H
 |many k lo hi=>exact xM d k lo hi h a H
theorem uL:∀(d n:Nat),d<=n->d<=3->∀k:Kd,k.Ok d->k.all.length<=1000000->pZ n 0 [k.t]=.ok (.lst k.all)
 |0,_,_,_,_,h,_=>h.elim
 |d+1,0,hn,_,_,_,_=>by omega
 |d+1,n+1,hn,hd,k,h,f=>by
  have e:pZ (n+1) 0 [k.t]=zn (nK (pZ n 0) nv (mO 3 [k.t])):=rfl;rw[e];refine xN d k h f λc a=>uL d n 00 00 c a ?_
  have g:=jx d c a;have:mx d<=1000000:=by
   have:d=0\/d=1\/d=2:=by omega
   rcases this with rfl|rfl|rfl<;>decide
  omega
def FL {x a b:Str}{r:List T}{ρ:En}:zu nA 03 (Zq (za (cE (.str a)) (za (cE (.str b)) (ze)))) (.vl (.tup (.str x::r))::ρ)=nA (.str x) (.tup [.str a,.str b]):=by
 rw[zM,zk,v0,i3,zU,i3,pC,i3,YC zU zU,i3]
def J8 {g:En->R Bool}{a c:En->RS}{ρ:En}(h:g ρ=.ok true):mT g a c ρ=a ρ:=by rw[j8,h,ZZ,if_pos rfl]
def Dw {g:En->R Bool}{c a:En->RS}{ρ:En}(h:g ρ=.ok false):mT g c a ρ=a ρ:=by rw[j8,h,ZZ,if_neg az]
def zm {g:En->R Bool}{a:En->RS}{ρ:En}(h:g ρ=.ok false):mT g a mS ρ=.nx ρ:=by rw[Dw h];rfl
def zK {i:Nat}{f:En->R T}{ρ:En}{t:T}(h:f ρ=.ok t):zG i f ρ=.nx (ρ.set i (.vl t)):=by rw[wf,h,ZZ]
def zl {f:En->R T}{ρ:En}{t:T}(h:f (frz ρ)=.ok t):zw f ρ=.rt t:=by rw[Zg,h,ZZ]
def ji {g:T->En->R En}{c:En->RS}{t:T}{ts:List T}{ρ ρ1 a:En}(e:g t ρ=.ok ρ1)(d:c ρ1=.nx a):ZJ g c (t::ts) ρ=ZJ g c ts a:=by
 rw[ZJ,e];dsimp only;rw[d]
def Ce (i:Nat)(t:T)(ρ:En):zB i t ρ=.ok (ρ.set i (.vl t)):=rfl
def zv {f g:En->RS}{ρ:En}{t:T}(h:f ρ=.rt t):zp f g ρ=.rt t:=by rw[Z0,h]
def QS {i j:Nat}(h:i<2^60):Z5 (.int (i:Int)) (.int (j:Int))=.ok (.int ((i*j:Nat):Int)):=by
 rw[Yr _ _ (.inl ⟨by omega,by omega⟩),dI]
def DS {d n:Nat}(h:n<=mx d)(hd:d<=3):n<2^60:=by
 have:d=0\/d=1\/d=2\/d=3:=by omega
 have a:mx 3<2^60:=by decide
 have c:mx 2<2^60:=by decide
 have e:mx 1<2^60:=by decide
 have f:mx 0<2^60:=by decide
 rcases this with rfl|rfl|rfl|rfl<;>omega
theorem ym {a b:Sl}:∀(ns:List Nat) (m:Nat) (x y:Sl),(∀n∈ns,1<=n)->m*nj ns<2^60->∃e,ZJ (zB 3) (zG 2 (zd Z5 (vE 2) (vE 3))) (ns.map λ(n:Nat)=>T.int (n:Int)) [a,b,.vl (.int (m:Int)),x,y]=.nx [a,b,.vl (.int ((m*nj ns:Nat):Int)),e,y]
 |[],m,x,y,_,_=>⟨x,by simp[ZJ,nj]⟩
 |n::ns,m,x,y,hp,i=>by
  have d:=wl λk c=>hp k (a9 _ c);have hn:=hp n ae;have g:m<=m*nj (n::ns):=dz _ (c_ hn d);have f:=b9 g i;rw[nj,←dL]at i;obtain⟨e,l⟩:=ym ns _ _ y (λk c=>hp k (a9 _ c)) i;refine⟨e,?_⟩;have j:zG 2 (zd Z5 (vE 2) (vE 3)) [a,b,.vl (.int (m)),.vl (.int (n)),y]=.nx [a,b,.vl (.int ((m*n):Int)),.vl (.int (n)),y]:=by
   rw[wf,zk,v2,i3,v3,i3,QS f];rfl
  have o:zB 3 (T.int (n)) [a,b,.vl (.int (m)),x,y]=.ok _:=rfl;rw[ao,ji o j,nj,←dL];exact l
def yn:∀(d:Nat) (lo hi:Int),(Kd.whole lo hi).Ok (d+1)->(Kd.whole lo hi).Ok 1
 |_,_,_,h=>h
def xO:∀(d:Nat) (a:List (Str×Int)),(Kd.pick a).Ok (d+1)->(Kd.pick a).Ok 1
 |_,_,h=>h
def uM {a:List T->R T}(k:Kd)(h:k.Ok 1){x:Str}{r:List T}(c:k.t=.tup (.str x::r))(i:nA (.str x) (.tup [.str "whole",.str "pick"])=.ok true):zn (ox (nW 8) a (mO 5 [k.t]))=.ok (.int (k.all.length:Int)):=by
 have g:nW 8 _=.ok _:=uL 1 8 00 00 k h (aC (jx 1 k h) 01)
 have e:zn (ox (nW 8) a (mO 5 [k.t]))=zn (ox _ a [.vl k.t,.un,.un,.un,.un]):=rfl;have f:zu nA 03 (Zq (za (cE (.str "whole")) (za (cE (.str "pick")) (ze)))) [.vl k.t,.un,.un,.un,.un]=.ok true:=by
  rw[c,FL,i]
 have d:zw (mM Zw (zb 1 (nW 8) (za 04 (ze)))) [.vl k.t,.un,.un,.un,.un]=.rt (.int (k.all.length)):=by
  refine zl ?_;rw[je,ZA,zL,v0,i3,g,i3,Ej]
 rw[e,ox,zv (by rw[J8 f,d])]
 rfl
def IT (b:Bool):b2 b=(iv b:Int):=by cases b<;>rfl
def xP {f:List T->R T}{d:Nat}(hd:d+1<=3)(c:List Kd)(h:(Kd.row c).Ok (d+1))(H:∀k:Kd,k.Ok d->f [k.t]=.ok (.int (k.all.length:Int))):zn (ox (nW 8) f (mO 5 [(Kd.row c).t]))=.ok (.int ((Kd.row c).all.length:Int)):=by
 have g:=DS (jx _ _ h) hd;rw[J7]at g⊢;obtain⟨F,q,o⟩:=h;simp only[Kd.t,Kd.ts_map];have e:zn (ox (nW 8) f (mO 5 [.tup [.str "row",.tup (c.map Kd.t)]]))=zn (ox _ f [.vl _,.un,.un,.un,.un]):=rfl;have j:zu nA 03 (Zq (za (cE (.str "whole")) (za (cE (.str "pick")) (ze)))) [.vl (.tup [.str "row",.tup (c.map Kd.t)]),.un,.un,.un,.un]=.ok false:=by
  rfl
 have B:zo (zB 0) Z2 (zb 1 f (za 04 (ze))) 1 [] [.vl (.tup [.str "row",.tup (c.map Kd.t)]),.un,.un,.un,.un] (c.map Kd.t)=.ok ((c.map λk=>k.all.length).map λ(n:Nat)=>T.int (n)):=by
  unfold zo;rw[if_pos (by rw[ag];exact aC q 01)]
  have:∀(c:List Kd) (x:Sl),(∀k∈c,k.Ok d)->zq (zB 0) Z2 (zb 1 f (za 04 (ze))) (c.map Kd.t) [x]=.ok ((c.map λk=>k.all.length).map λ(n:Nat)=>T.int (n)):=by
   intro c
   induction c with
   |nil=>intro _ _;rfl
   |cons k c C=>
    intro x i;have j:zq (zB 0) Z2 (zb 1 f (za 04 (ze))) ((k::c).map _) [x]=(zb 1 f _ [.vl k.t]).bind λv=>(zq _ _ _ _ [.vl k.t]).bind λvs=>.ok _:=rfl;rw[j,zL,v0,i3,H k (i k ae),C _ λr l=>i r (a9 _ l)];rfl
  show quiet (zq _ _ _ _ [.un])=_;rw[this c .un o];rfl
 have u:nC (zu mL 03 (cE (.str "row"))) (zE (Zj (zd i4 04 02)) (zB 0) (Z2) (zb 1 f (za 04 (ze))) 1 []) (j7 (ze)) [.vl (.tup [.str "row",.tup (c.map Kd.t)]),.un,.un,.un,.un]=.ok (.lst ((c.map λk=>k.all.length).map λ(n:Nat)=>T.int (n))):=by
  unfold nC;rw[n9,i3,show (("row":Str)=="row")=true from rfl,if_pos rfl,zF,ZF,jU];show ((R.ok _).bind _)=_;rw[i3,B,i3]
 obtain⟨G,p⟩:=ym (a:=.vl _) (c.map λk=>k.all.length) 1 .un .un (λn hn=>by
  obtain⟨k,i,rfl⟩:=ay.mp hn;exact ZP d k (o k i)) (by rw[cx];exact g)
 rw[cx]at p;have D:j5 (Zj (vE 1)) _ _ [.vl _,.vl (.lst ((c.map λk=>k.all.length).map λ(n:Nat)=>T.int (n))),.vl (.int 1),.un,.un]=_:=p;rw[e,ox,zc (zm j),zc (zK u)];have y:([.vl (.tup [.str "row",.tup (c.map Kd.t)]),.un,.un,.un,.un]:En).set 1 (.vl (.lst ((c.map λk=>k.all.length).map λ(n:Nat)=>T.int (n))))=[.vl _,.vl (.lst ((c.map λk=>k.all.length).map λ(n:Nat)=>T.int (n))),.un,.un,.un]:=rfl;rw[y,zc (zK zU)];have w:([.vl (.tup [.str "row",.tup (c.map Kd.t)]),.vl (.lst ((c.map λk=>k.all.length).map λ(n:Nat)=>T.int (n))),.un,.un,.un]:En).set 2 (.vl (.int 1))=[.vl _,.vl (.lst ((c.map λk=>k.all.length).map λ(n)=>T.int _)),.vl _,.un,.un]:=rfl;rw[w,zc D];rfl
def D6 {f g:En->R T}{ρ:En}{i j c:Int}(a:f ρ=.ok (.int i))(d:g ρ=.ok (.int j)):nG mX mX f (cE (.int c)) g ρ=.ok (.bl (decide (i<=c)&&decide (c<=j))):=by
 rw[QF,a,i3,zU,i3,wK,d];cases decide (i<=c)<;>rfl
def W1 (a b:Nat):decide ((a:Int)<=(b:Int))=decide (a<=b):=by
 by_cases h:a<=b
 ·rw[decide_eq_true h];exact decide_eq_true 00
 ·rw[decide_eq_false h];exact decide_eq_false 00
def QT (a b:Nat):((a:Int)==(b:Int))=(a==b):=by
 by_cases h:a=b
 ·subst h;simp
 ·rw[beq_eq_false_iff_ne.mpr h,beq_eq_false_iff_ne];omega
def AG {f:En->R T}{ρ:En}{b:Bool}(h:f ρ=.ok (.bl b)):mM qE f ρ=.ok (.int ((iv b:Nat):Int)):=by
 rw[ZA,h];show R.ok _=_;rw[IT]
def QU {f g:En->R T}{ρ:En}{i j:Nat}(a:f ρ=.ok (.int (i:Int)))(c:g ρ=.ok (.int (j:Int))):zd zA f g ρ=.ok (.int ((i+j:Nat):Int)):=by
 rw[zk,a,i3,c,i3,Z1,mF]
def J9 {f g:En->R T}{ρ:En}{i j:Nat}(h:i<2^60)(a:f ρ=.ok (.int (i:Int)))(c:g ρ=.ok (.int (j:Int))):zd Z5 f g ρ=.ok (.int ((i*j:Nat):Int)):=by
 rw[zk,a,i3,c,i3,QS h]
def gq {d n:Nat}(h:n<=mx d)(hd:d+1<=3)(j:1<=d):n*n*n<2^60/\n*n<2^60/\n<2^60:=by
 have a:n<=70644:=by
  have:d=1\/d=2:=by omega
  have c:mx 2=70644:=by decide
  have a:mx 1=41:=by decide
  rcases this with rfl|rfl<;>omega
 have c:=bx a a;have f:=bx c a;have i:70644*70644*70644<2^60:=by decide
 have e:70644*70644<2^60:=by decide
 have g:70644<2^60:=by decide
 exact⟨b9 f i,b9 c e,b9 a g⟩
noncomputable abbrev mt (t:T)(lo hi:Nat):T:=.tup [.str "many",t,.int (lo:Int),.int (hi:Int)]
def pE {t:T}{a b c d:Sl}{ρ:En}:vE 4 (a::b::c::d::.vl t::ρ)=.ok t:=rfl
def QV {t:T}{a x:Sl}{lo hi n:Nat}(l:n*n*n<2^60)(k:n*n<2^60)(f:n<2^60):
  zp (zG 2 (zd zA (mM qE (ZV mL 000 (cE (.int 0)))) (zd Z5 (vE 4) (mM qE (nG mX mX 000 02 (zd i4 04 (cE (.int 3))))))))
  (zp (zG 2 (zd zA (vE 2) (zd Z5 (zd Z5 (vE 4) (vE 4)) (mM qE (nG mX mX 000 (cE (.int 2)) (zd i4 04 (cE (.int 3))))))))
  (zG 2 (zd zA (vE 2) (zd Z5 (zd Z5 (zd Z5 (vE 4) (vE 4)) (vE 4)) (mM qE (ZV mL (zd i4 04 (cE (.int 3))) (cE (.int 3))))))))
  [.vl (mt t lo hi),a,.vl (.int 1),x,.vl (.int (n:Int))]=.nx [.vl (mt t lo hi),a,.vl (.int ((iv (lo==0)+n*iv (decide (lo<=1)&&decide (1<=hi))+n*n*iv (decide (lo<=2)&&decide (2<=hi))+n*n*n*iv (hi==3):Nat):Int)),x,.vl (.int (n:Int))]:=by
 have d:∀{p q r s:Sl},mM _ (nG mX mX _ _ _) [.vl (mt t lo hi),p,q,r,s]=.ok (.int ((iv (decide (lo<=1)&&decide (1<=hi))):Int)):=λ{p q r s}=>AG (by
  rw[D6 uI Ga];rw[show decide ((lo:Int)<=1)=decide _ from W1 lo 1,show decide ((1:Int)<=(hi))=decide _ from W1 1 hi])
 have g:∀{p q r s:Sl},mM _ (nG mX mX _ _ _) [.vl (mt t lo hi),p,q,r,s]=.ok (.int ((iv (decide (lo<=2)&&decide (2<=hi))):Int)):=λ{p q r s}=>AG (by
  rw[D6 uI Ga];rw[show decide ((lo:Int)<=2)=decide _ from W1 lo 2,show decide ((2:Int)<=(hi))=decide _ from W1 2 hi])
 have j:∀{p q r s:Sl},mM _ (ZV mL (zd i4 _ _) (cE _)) [.vl (mt t lo hi),p,q,r,s]=.ok _:=λ{p q r s}=>AG (by
  rw[Zm,uI,i3,zU,i3,oh,i3,show ((lo:Int)==0)=(lo==0) from QT lo 0])
 have c:∀{p q r s:Sl},mM _ (ZV mL (zd i4 _ _) (cE _)) [.vl (mt t lo hi),p,q,r,s]=.ok _:=λ{p q r s}=>AG (by
  rw[Zm,Ga,i3,zU,i3,oh,i3,show ((hi:Int)==3)=(hi==3) from QT hi 3])
 have e:=zK (i:=2) (QU (j (p:=a) (q:=.vl (.int 1)) (r:=x)) (J9 f pE d));have e:zG 2 _ _=.nx [.vl _,a,.vl _,x,.vl _]:=e;rw[zc e];generalize iv _+n*iv _=m1;have u:=zK (i:=2) (QU (v2 (t:=.int (m1)) (b:=a) (ρ:=[x,.vl _])) (J9 k (J9 f pE pE) g));rw[zc u];generalize m1+n*n*iv _=m2;have o:=zK (i:=2) (QU (v2 (t:=.int (m2)) (b:=a) (ρ:=[x,.vl _])) (J9 l (J9 k (J9 f pE pE) pE) c));exact o
def QW {c:List T->R T}{d:Nat}(hd:d+1<=3)(k:Kd)(lo hi:Nat)(h:(Kd.many k lo hi).Ok (d+1))(H:∀k:Kd,k.Ok d->c [k.t]=.ok (.int (k.all.length:Int))):zn (ox (nW 8) c (mO 5 [(Kd.many k lo hi).t]))=.ok (.int ((Kd.many k lo hi).all.length:Int)):=by
 obtain⟨u,j,f⟩:=h;have g:1<=d:=by
  cases d with
  |zero=>exact f.elim
  |succ d=>omega
 obtain⟨C,l,v⟩:=gq (jx d k f) hd g;rw[jo,gc _ u j];simp only[Kd.t];have i:=H k f;generalize k.all.length=n at*;generalize k.t=t at*;have e:zn (ox (nW 8) c (mO 5 [mt t lo hi]))=zn (ox _ c [.vl _,.un,.un,.un,.un]):=rfl;have p:zu nA 03 (Zq (za (cE (.str "whole")) (za (cE (.str "pick")) (ze)))) [.vl (mt t lo hi),.un,.un,.un,.un]=.ok false:=by
  rfl
 have o:nC (zu mL 03 (cE (.str "row"))) (zE (Zj (zd i4 04 02)) (zB 0) (Z2) (zb 1 c (za 04 (ze))) 1 []) (j7 (ze)) [.vl (mt t lo hi),.un,.un,.un,.un]=.ok (.lst []):=by
  rfl
 have w:([.vl (mt t lo hi),.un,.un,.un,.un]:En).set 1 (.vl (.lst []))=[.vl _,.vl _,.un,.un,.un]:=rfl;have q:([.vl (mt t lo hi),.vl (.lst []),.un,.un,.un]:En).set 2 (.vl (.int 1))=[.vl _,.vl _,.vl _,.un,.un]:=rfl;have G:j5 (Zj (vE 1)) (zB 3) (zG 2 (zd Z5 (vE 2) (vE 3))) [.vl (mt t lo hi),.vl (.lst []),.vl (.int 1),.un,.un]=.nx _:=rfl;have D:zu mL 03 (cE (.str "many")) [.vl (mt t lo hi),.vl (.lst []),.vl (.int 1),.un,.un]=.ok true:=by
  rfl
 have y:zb 1 c (za (zd i4 04 02) (ze)) [.vl (mt t lo hi),.vl (.lst []),.vl (.int 1),.un,.un]=.ok (.int (n)):=by
  rw[zL,jU,i3,i]
 have F:([.vl (mt t lo hi),.vl (.lst []),.vl (.int 1),.un,.un]:En).set 4 (.vl (.int (n)))=[.vl _,.vl _,.vl _,.un,.vl _]:=rfl;have B:=QV (t:=t) (a:=.vl (.lst [])) (x:=.un) (lo:=lo) (hi:=hi) C l v;rw[e,ox,zc (zm p),zc (zK o),w,zc (zK zU),q,zc G];have r:∀(P:En->RS),mT _ (zp _ P) mS _=P _:=λP=>by
  rw[J8 D,zc (zK y),F]
 rw[zc (Eq.trans (r _) B)];rfl
theorem QX:∀(d n:Nat),d<=n->d<=3->∀k:Kd,k.Ok d->AL n 0 [k.t]=.ok (.int (k.all.length:Int))
 |0,_,_,_,_,h=>h.elim
 |d+1,0,hn,_,_,_=>by omega
 |d+1,n+1,hn,hd,k,h=>by
  have H:=λe a=>QX d n 00 00 e a
  cases k with
  |whole lo hi=>exact uM _ (yn d lo hi h) (x:="whole") (r:=[.int lo,.int hi]) (by simp only[Kd.t]) rfl
  |pick c=>exact uM _ (xO d c h) (x:="pick") (r:=[.tup (c.map wk)]) (by simp only[Kd.t]) rfl
  |row f=>exact xP 00 f h H
  |many k lo hi=>exact QW 00 k lo hi h H
theorem Ok.mono:∀(d:Nat) (k:Kd),k.Ok d->k.Ok (d+1)
 |0,_,h=>h.elim
 |d+1,.whole _ _,h=>h
 |d+1,.pick _,h=>h
 |d+1,.row c,h=>⟨h.1,h.2.1,λk a=>Ok.mono d k (h.2.2 k a)⟩
 |d+1,.many k _ _,h=>⟨h.1,h.2.1,Ok.mono d k h.2.2⟩
def gr (j:Int):Z5 (.int 700) (.int j)=.ok (.int (700*j)):=Yr _ _ (.inl ⟨by decide,by decide⟩)
def Ex (ns:List Int)(d:Nat)(e:1<=d)(c:d<=8)(k:Int)(g:0<=k):∃q:Kd,o8 8 [mU ns,.int k,.int (d:Int)]=.ok q.t/\q.Ok d:=by
 obtain⟨t,a,hi⟩:=Uh ns d 8 c e k g;obtain⟨q,rfl,f⟩:=Uj d t hi;exact⟨q,a,f⟩
abbrev pq:En->RS:=zp (mT (zu mX (zb 1 (sE 8) (za (vE 3) (ze))) (vB 2)) (zw (vE 3)) (mS))
  (zG 3 (zb 3 (o8 8) (za 04 (za (zd zA (zd zA (vE 1) (cE (.int 500))) (zd Z5 (cE (.int 700)) (vE 4))) (za (cE (.int 2)) (ze))))))
abbrev oH (ns:List Int)(a:Int)(m:Nat)(k:Kd)(x:Sl):En:=[.vl (mU ns),.vl (.int a),.vl (.int (m:Int)),.vl k.t,x]
def QY {ns:List Int}{a:Int}{m:Nat}{k:Kd}{x:Sl}(c:k.Ok 3):zu mX (zb 1 (sE 8) (za (vE 3) (ze))) (vB 2) (oH ns a m k x)=.ok (decide (k.all.length<=m)):=by
 have e:sE 8 _=.ok _:=QX 3 8 00 00 k c
 rw[zM,zL,v3,i3,e,i3,w2,i3,wK,W1]
def gu (ns:List Int){a:Int}{m:Nat}(i:0<=a){k:Kd}(d:k.Ok 3)(j:Nat):(k.all.length<=m/\pq (oH ns a m k (.vl (.int (0+(j:Int)))))=.rt k.t)\/∃f:Kd,f.Ok 3/\pq (oH ns a m k (.vl (.int (0+(j:Int)))))=.nx (oH ns a m f (.vl (.int (0+(j:Int))))):=by
 by_cases h:k.all.length<=m
 ·refine .inl ⟨h,?_⟩;refine zv ?_;rw[J8 (by rw[QY d,decide_eq_true h])]
  exact zl rfl
 ·obtain⟨q,c,g⟩:=Ex ns 2 00 00 (a+500+700*(0+(j))) 00
  refine .inr ⟨q,Ok.mono 2 q g,?_⟩;unfold pq;rw[zc (zm (by rw[QY d,decide_eq_false h]))]
  have c:o8 8 [mU ns,.int _,.int 2]=.ok q.t:=c;have e:zb 3 (o8 8) (za 04 (za (zd zA (zd zA (vE 1) (cE (.int 500))) (zd Z5 (cE (.int 700)) (vE 4))) (za (cE (.int 2)) (ze)))) (oH ns a m k (.vl (.int (0+(j)))))=.ok q.t:=by
   rw[Zi,v0,i3,zk,zk,v1,i3,zU,i3,Z1,i3,zk,zU,i3,v4,i3,gr,i3,Z1,i3,zU,i3,c]
  rw[zK e];rfl
def F3 {g:T->En->R En}{a:En->RS}{t:T}{ts:List T}{ρ ρ1:En}{r:T}(d:g t ρ=.ok ρ1)(c:a ρ1=.rt r):ZJ g a (t::ts) ρ=.rt r:=by
 rw[ZJ,d];dsimp only;rw[c]
theorem QZ (ns:List Int){a:Int}{m:Nat}(g:0<=a):∀(js:List Nat) (k:Kd) (x:Sl),k.Ok 3->(∃c:Kd,c.Ok 3/\c.all.length<=m/\ZJ (zB 4) pq (js.map λ(j:Nat)=>T.int (0+(j:Int))) (oH ns a m k x)=.rt c.t)\/
  ∃(c:Kd) (l:Sl),c.Ok 3/\ZJ (zB 4) pq (js.map λ(j:Nat)=>T.int (0+(j:Int))) (oH ns a m k x)=.nx (oH ns a m c l)
 |[],k,x,d=>.inr ⟨k,x,d,rfl⟩
 |j::js,k,x,d=>by
  have i:zB 4 (T.int (0+(j))) (oH ns a m k x)=.ok _:=rfl;rw[ao];rcases gu ns g d j with ⟨f,e⟩|⟨c,f,e⟩
  ·exact .inl ⟨k,d,f,F3 i e⟩
  ·rw[ji i e];exact QZ ns g js c _ f
def xQ (ns:List Int)(a:Int)(j:0<=a)(m:Nat)(p:4<=m):∃k:Kd,k.Ok 3/\k.all.length<=m/\rN [mU ns,.int a,.int (m:Int)]=.ok k.t:=by
 obtain⟨q,g,u⟩:=Ex ns 3 00 00 a j
 have g:o8 8 [mU ns,.int a,.int 3]=.ok q.t:=g;have e:rN [mU ns,.int a,.int (m)]=zn (A8 _ _ [.vl _,.vl _,.vl _,.un,.un]):=rfl;have o:zb 3 (o8 8) (za 04 (za (vE 1) (za (cE (.int 3)) (ze)))) [.vl (mU ns),.vl (.int a),.vl (.int (m)),.un,.un]=.ok q.t:=by
  rw[Zi,v0,i3,v1,i3,zU,i3,g]
 have r:([.vl _,.vl _,.vl _,.un,.un]:En).set 3 _=oH ns a m q .un:=rfl;rw[e,A8,zc (zK o),r];rcases QZ ns j _ q .un u with ⟨k,c,l,d⟩|⟨k,x,c,d⟩
 ·refine⟨k,c,l,?_⟩;have f:j5 (ZI (cE (.int 3))) (zB 4) pq _=.rt k.t:=d;rw[zv f];rfl
 ·have f:j5 (ZI (cE (.int 3))) (zB 4) pq _=.nx _:=d;rw[zc f];have i:zu mX _ _ (frz (oH ns a m k x))=.ok _:=QY c
  by_cases h:k.all.length<=m
  ·refine⟨k,c,h,?_⟩;rw[zl]
   ·rfl
   ·unfold nC;rw[i,decide_eq_true h];rfl
  ·refine⟨.whole (-1) 2,⟨by omega,by omega,by omega⟩,by exact p,?_⟩
   rw[zl]
   ·rfl
   ·unfold nC;rw[i,i3,decide_eq_false h,if_neg az];rfl
mutual
noncomputable def Kd.has:Kd->T->Bool
 |.whole lo hi=>λt=>rO lo hi t
 |.pick d=>λt=>match t with|.str x=>d.any λc=>c.1==x|_=>false
 |.row a=>λt=>match t with|.tup xs=>xs.length==a.length&&Kd.hass a xs|_=>false
 |.many k lo hi=>λt=>match t with|.tup xs=>decide (lo<=xs.length)&&decide (xs.length<=hi)&&xs.all k.has|_=>false
noncomputable def Kd.hass:List Kd->List T->Bool
 |[]=>λ_=>true
 |k::a=>λxs=>match xs with|[]=>true|x::xs=>k.has x&&Kd.hass a xs
end
theorem JH:∀(a:List Kd) (xs:List T),Kd.hass a xs=(a.zip xs).all λq=>q.1.has q.2
 |[],_=>by simp[Kd.hass]
 |k::a,[]=>by simp[Kd.hass]
 |k::a,x::xs=>by simp[Kd.hass,JH a xs]
noncomputable def Yu:List (List T)->List T->Prop
 |[],[]=>True
 |l::a,x::xs=>x∈l/\Yu a xs
 |_,_=>False
theorem wq:∀(g c:List (List T)) (xs:List T),xs∈zW c g↔∃a∈c,∃b,Yu g b/\xs=a++b
 |[],c,xs=>by
  rw[zW];constructor
  ·exact λh=>⟨xs,h,[],trivial,by simp⟩
  ·rintro⟨a,f,b,d,rfl⟩
   cases b with
   |nil=>simpa using f
   |cons=>exact d.elim
 |l::g,c,xs=>by
  rw[zW,wq g];constructor
  ·rintro⟨o,i,b,d,rfl⟩
   obtain⟨a,f,j⟩:=dA.mp i;obtain⟨x,k,e⟩:=ay.mp j;exact⟨a,f,x::b,⟨k,d⟩,by rw[←e];simp⟩
  ·rintro⟨a,f,b,d,rfl⟩
   cases b with
   |nil=>exact d.elim
   |cons x b=>exact⟨a++[x],dA.mpr ⟨a,f,ay.mpr ⟨x,d.1,rfl⟩⟩,b,d.2,by simp⟩
def WD (c:List (List T))(t:T):t∈Yt c↔∃xs,Yu c xs/\t=.tup xs:=by
 rw[ay];constructor
 ·rintro⟨xs,h,rfl⟩
  obtain⟨a,e,b,d,rfl⟩:=(wq c _ xs).mp h;rw[ax.mp e];exact⟨b,d,rfl⟩
 ·rintro⟨xs,h,rfl⟩
  exact⟨xs,(wq c _ xs).mpr ⟨[],ax.mpr rfl,xs,h,rfl⟩,rfl⟩
theorem WF (l:List T):∀(m:Nat) (xs:List T),Yu (ar m l) xs↔xs.length=m/\∀x∈xs,x∈l
 |0,[]=>by simp[Yu]
 |0,x::xs=>by simp[Yu]
 |m+1,[]=>by simp[Yu,c6]
 |m+1,x::xs=>by
  show x∈l/\Yu _ xs↔_;rw[WF l m xs];simp;constructor
  ·rintro⟨a,b,c⟩;exact⟨b,a,c⟩
  ·rintro⟨a,b,c⟩;exact⟨b,a,c⟩
theorem uN:∀(d:List Kd),(∀k∈d,∀x,x∈k.all↔k.has x=true)->∀xs,Yu (d.map Kd.all) xs↔(xs.length==d.length&&Kd.hass d xs)=true
 |[],_,[]=>by simp[Yu,Kd.hass]
 |[],_,x::xs=>by simp[Yu]
 |k::d,h,[]=>by simp[Yu]
 |k::d,h,x::xs=>by
  show x∈k.all/\Yu _ xs↔_;rw[uN d (λf e=>h f (a9 _ e)) xs,h k ae x];simp[Kd.hass];constructor
  ·rintro⟨a,b,c⟩;exact⟨b,a,c⟩
  ·rintro⟨a,b,c⟩;exact⟨b,a,c⟩
mutual
theorem ZB:∀(k:Kd) (x:T),x∈k.all↔k.has x=true
 |.whole lo hi,x=>by
  rw[Kd.all,Kd.has,ay];constructor
  ·rintro⟨i,a,rfl⟩
   rw[bu]at a;simp[rO];omega
  ·intro h;obtain⟨i,rfl⟩:=KY h;simp[rO]at h;exact⟨(i-lo).toNat,by rw[bu];omega,by congr 1;omega⟩
 |.pick g,x=>by
  rw[Kd.all,Kd.has,ay];constructor
  ·rintro⟨c,d,rfl⟩
   simp only[im];exact⟨c,d,by simp⟩
  ·intro h;dsimp only at h;split at h
   ·rw[im]at h;obtain⟨c,d,e⟩:=h;exact⟨c,d,by rw[eq_of_beq e]⟩
   ·cases h
 |.row f,x=>by
  rw[Kd.all,Kd.has,WD,Kd.alls_map];have:=uN f (yo f);constructor
  ·rintro⟨xs,h,rfl⟩
   exact(this xs).mp h
  ·intro h;dsimp only at h;split at h
   ·rename_i xs;exact⟨xs,(this xs).mpr h,rfl⟩
   ·cases h
 |.many k lo hi,x=>by
  rw[Kd.all,Kd.has,dA];constructor
  ·rintro⟨i,a,h⟩
   rw[WD]at h;obtain⟨xs,h,rfl⟩:=h;rw[WF]at h;rw[bu]at a;simp only[am,decide_eq_true_eq,aR];exact⟨⟨by omega,by omega⟩,λy hy=>(ZB k y).mp (h.2 y hy)⟩
  ·intro h;dsimp only at h;split at h
   ·rename_i xs;simp only[am,decide_eq_true_eq,aR]at h;refine⟨xs.length-lo,by rw[bu];omega,?_⟩
    rw[WD];exact⟨xs,(WF _ _ _).mpr ⟨by omega,λy hy=>(ZB k y).mpr (h.2 y hy)⟩,rfl⟩
   ·cases h
theorem yo:∀(a:List Kd),∀k∈a,∀x,x∈k.all↔k.has x=true
 |[],_,h=>nomatch h
 |k::a,c,h=>by
  rcases au.mp h with e|h
  ·intro x;rw[e];exact ZB k x
  ·exact yo a c h
end
theorem W2 {c:List T->R T}:∀(qs:List (Kd×T)) (x y:Sl),(∀q∈qs,c [q.1.t,q.2]=.ok (.bl (q.1.has q.2)))->zq (zS 0 1) Z2 (zb 2 c (za 04 05)) (qs.map λq=>T.tup [q.1.t,q.2]) [x,y]=.ok (qs.map λq=>T.bl (q.1.has q.2))
 |[],_,_,_=>rfl
 |q::qs,x,y,h=>by
  have e:zb 2 c (za 04 05) [.vl q.1.t,.vl q.2]=.ok (.bl (q.1.has q.2)):=by
   rw[zC,v0,i3,v1,i3,h q ae]
  have a:=W2 qs (.vl q.1.t) (.vl q.2) λr hr=>h r (a9 _ hr);have d:zq (zS 0 1) Z2 (zb 2 c (za 04 05)) ((q::qs).map λq=>T.tup [q.1.t,q.2]) [x,y]=
   (zb 2 c _ [.vl _,.vl q.2]).bind λv=>(zq _ _ _ (qs.map λq=>T.tup _) [.vl _,.vl q.2]).bind λvs=>.ok _:=rfl
  rw[d,e,i3,a,i3,ao]
theorem WG {a:Type}(p:a->Bool):∀qs:List a,ue (qs.map λq=>T.bl (p q))=some (qs.all p)
 |[]=>rfl
 |q::qs=>by
  have e:ue ((q::qs).map λq=>T.bl (p q))=match ue (qs.map λq=>T.bl _)with|some j=>some _|none=>none:=rfl
  rw[e,WG p qs];rfl
def Eu (a:List Kd)(xs:List T):Vf (a.map Kd.t) xs=(a.zip xs).map λq=>T.tup [q.1.t,q.2]:=by
 unfold Vf;rw[List.zip_map_left,aK];rfl
def yq {c:List T->R T}{s:T}(a:List Kd)(xs:List T)(i:jZ s=.ok (a.map Kd.t))(f:a.length<=3)(H:∀q∈a.zip xs,c [q.1.t,q.2]=.ok (.bl (q.1.has q.2))):
  zn (Be c (mO 2 [s,.tup xs]))=.ok (.bl ((a.zip xs).all λq=>q.1.has q.2)):=by
 have d:Xk 04 (vE 1) [.vl s,.vl (.tup xs)]=.ok ((a.zip xs).map λq=>T.tup [q.1.t,q.2]):=by
  show (jZ s).bind _=_;rw[i,←Eu];rfl
 have e:((a.zip xs).map λq=>T.tup [q.1.t,q.2]).length<=mR:=by
  rw[ag,fH];exact aC (mD _ _) (aC f 01)
 have g:zo (zS 0 1) Z2 (zb 2 c (za 04 05)) 2 [] [.vl s,.vl (.tup xs)] ((a.zip xs).map λq=>T.tup [q.1.t,q.2])=.ok ((a.zip xs).map λq=>T.bl (q.1.has q.2)):=by
  unfold zo;rw[if_pos e];show quiet (zq _ _ _ _ [.un,.un])=_;rw[W2 _ _ _ H];rfl
 rw[Be,zl]
 ·rfl
 ·show mM _ _ [.vl s,.vl _]=_;rw[ZA,zF,d,i3,g,i3];show (match ue ((a.zip xs).map λq=>T.bl _)with|some k=>_|none=>_)=_
  rw[WG]
def yr (a:List (Str×Int))(h:a.length<=4):oQ [(Kd.pick a).t]=.ok (.lst (a.map λc=>T.str c.1)):=by
 have e:oQ [(Kd.pick a).t]=zn (Au [.vl (.tup [.str "pick",.tup (a.map wk)])]):=by rfl
 have f:(a.map wk).length<=mR:=by rw[ag];exact aC h 01
 have g:zo _ _ 03 1 [] [.vl (.tup [.str "pick",.tup (a.map wk)])] _=.ok ((a.map wk).map λc=>match c with|.tup (w::_)=>w|_=>c):=
  zV _ f λt d=>by
   obtain⟨c,_,rfl⟩:=ay.mp d;rfl
 rw[e,Au,zl]
 ·rfl
 ·show zE _ _ _ _ _ _ [.vl _]=_;show ((zo _ _ _ _ _ _ _).bind _)=_;rw[g,aK];rfl
theorem yt (t:T):∀a:List (Str×Int),wD (λy=>mQ 30 y t) (a.map λc=>T.str c.1)=some ((Kd.pick a).has t)
 |[]=>by cases t<;>rfl
 |c::a=>by
  have f:=yt t a;have e:wD (λy=>mQ 30 y t) ((c::a).map λc=>T.str c.1)=match mQ 30 _ t with
   |none=>none
   |some b=>match wD (λy=>mQ 30 y t) (a.map λc=>T.str c.1)with
    |none=>none
    |some d=>some _:=rfl
  rw[e,f];cases t<;>rfl
abbrev mW (a b:T):En:=[.vl a,.vl b]
def YD {x w:Str}{r:List T}{b:T}(h:(x==w)=false){f:En->RS}:mT (zu mL 03 (cE (.str w))) f mS (mW (.tup (.str x::r)) b)=.nx (mW (.tup (.str x::r)) b):=
 zm (by rw[n9,h])
def sV {x:Str}{r:List T}{b:T}{f:En->RS}:mT (zu mL 03 (cE (.str x))) f mS (mW (.tup (.str x::r)) b)=f (mW (.tup (.str x::r)) b):=
 J8 (by rw[n9,beq_self_eq_true])
def v6 {cp:List T->R T}(lo hi:Int)(x:T):zn (oK om n6 oQ cp (mO 2 [(Kd.whole lo hi).t,x]))=.ok (.bl ((Kd.whole lo hi).has x)):=by
 have e:mO 2 [(Kd.whole lo hi).t,x]=mW (.tup [.str "whole",.int lo,.int hi]) x:=by rfl
 rw[e,oK,zv]
 ·rfl
 ·rw[sV,zl];show ZW _ _ (mW _ x)=_;rw[jQ,zL,v1,i3,Wx];cases x with
  |int i=>
   rw[QF,jU,i3,w1,i3,wK,i3,uI,i3,wK];show _=R.ok (T.bl (decide _&&decide _));cases decide (lo<=i)<;>rfl
  |_=>rfl
def xR {cp:List T->R T}(a:List (Str×Int))(f:a.length<=4)(x:T):zn (oK om n6 oQ cp (mO 2 [(Kd.pick a).t,x]))=.ok (.bl ((Kd.pick a).has x)):=by
 have e:mO 2 [(Kd.pick a).t,x]=mW (.tup [.str "pick",.tup (a.map wk)]) x:=by rfl
 have d:=yr a f;rw[Kd.t]at d;rw[e,oK,zc (YD 01),zv]
 ·rfl
 ·rw[sV,zl];show ZV _ _ _ (mW _ x)=_;rw[Zm,w1,i3,zL,v0,i3,d];show ((match wD (λy=>mQ 30 y x) (a.map λ(c:Str×Int)=>T.str c.1)with|some b=>R.ok b|none=>.bad).bind _)=_
  rw[yt];rfl
def gz {cp:List T->R T}(a:List Kd)(d:a.length<=3)(x:T)(H:∀xs,x=.tup xs->cp [.tup (a.map Kd.t),x]=.ok (.bl ((a.zip xs).all λq=>q.1.has q.2))):zn (oK om n6 oQ cp (mO 2 [(Kd.row a).t,x]))=.ok (.bl ((Kd.row a).has x)):=by
 have e:mO 2 [(Kd.row a).t,x]=mW (.tup [.str "row",.tup (a.map Kd.t)]) x:=by rw[Kd.t,Kd.ts_map];rfl
 rw[e,oK,zc (YD 01),zc (YD 01),zv]
 ·rfl
 ·rw[sV,zl];show ZW _ _ (mW _ x)=_;have c:mM Zw (zd i4 04 02) (mW (.tup [.str "row",.tup (a.map Kd.t)]) x)=.ok (.int (a.length)):=by
   rw[ZA,jU,i3,wL,ag]
  rw[jQ,Zi,v1,i3,c,i3,i3,ZM,Zy,zC,jU,i3,v1,i3];cases x with
  |tup xs=>
   rw[H xs rfl];show (if (decide _&&decide _)=true then _ else _)=R.ok (T.bl (xs.length==a.length&&Kd.hass a xs))
   rw[JH]
   by_cases h:xs.length=a.length
   ·simp[h]
   ·rw[if_neg (by simp;omega)]
    simp[h]
  |_=>rfl
theorem v7 (k:Kd):∀xs:List T,((ar xs.length k).zip xs).all (λq=>q.1.has q.2)=xs.all k.has
 |[]=>rfl
 |x::xs=>by
  rw[aA,c6,dH,dg,dg,v7 k xs]
def xS {cp:List T->R T}(k:Kd)(lo hi:Nat)(f:hi<=3)(x:T)(H:∀xs,x=.tup xs->xs.length<=3->cp [.lst ((ar xs.length k).map Kd.t),x]=.ok (.bl (((ar xs.length k).zip xs).all λq=>q.1.has q.2))):zn (oK om n6 oQ cp (mO 2 [(Kd.many k lo hi).t,x]))=.ok (.bl ((Kd.many k lo hi).has x)):=by
 have e:mO 2 [(Kd.many k lo hi).t,x]=mW (.tup [.str "many",k.t,.int (lo),.int (hi)]) x:=by rfl
 rw[e,oK,zc (YD 01),zc (YD 01),zc (YD 01),zl]
 ·rfl
 ·show ZW _ _ (mW _ x)=_;rw[jQ,Zi,v1,i3,uI,i3,Ga,i3,ZM,Zy];cases x with
  |tup xs=>
   show (if (decide _&&decide _)=true then _ else _)=R.ok (T.bl (decide _&&decide _&&xs.all _))
   cases c:(decide (lo<=xs.length)&&decide (xs.length<=hi))with
   |false=>rfl
   |true=>
    rw[am,decide_eq_true_eq,decide_eq_true_eq]at c;have a:xs.length<=3:=by omega
    have d:zd Z5 (j7 (za (zd i4 04 02) (ze))) (mM Zw (vB 1)) (mW (.tup [.str "many",k.t,.int (lo),.int (hi)]) (.tup xs))=.ok (.lst ((ar xs.length k).map Kd.t)):=by
     rw[zk,tq jU,i3,ZA,w1,i3,wL,i3,uJ a,jp,bj]
    rw[zC,d,i3,v1,i3,H xs rfl a,v7];rfl
  |_=>rfl
theorem XF:∀(d n:Nat),2*d<=n->∀(k:Kd) (x:T),k.Ok d->oG n 0 [k.t,x]=.ok (.bl (k.has x))
 |0,_,_,_,_,h=>h.elim
 |d+1,n+2,hn,k,x,h=>by
  have i:=XF d n 00
  have e:oG (n+2) 0 [k.t,x]=zn (oK om n6 oQ (oG (n+1) 1) (mO 2 [k.t,x])):=by rw[oG]
  have f:∀s y,oG (n+1) 1 [s,y]=zn _:=λs y=>by rw[oG];intro h;cases h
  cases k with
  |whole lo hi=>exact v6 lo hi x
  |pick l=>exact xR l h.2.1 x
  |row g=>
   refine gz g h.2.1 x λxs a=>?_;rw[f,a,yq g xs rfl h.2.1 λq c=>i q.1 q.2 (h.2.2 q.1 (cJ c).1)]
  |many k lo hi=>
   refine xS k lo hi h.2.1 x λxs a j=>?_;rw[f,a,yq _ xs rfl (by rw[aY];exact j) λq c=>i q.1 q.2 (by
    rw[bM (cJ c).1];exact h.2.2)]
theorem v8:∀(d:Nat) (k:Kd),k.Ok d->nV d k.t=true
 |0,_,h=>h.elim
 |d+1,.whole lo hi,h=>by
  have e:nV (d+1) (Kd.whole lo hi).t=(decide (-20<=lo)&&decide (lo<=hi)&&decide (hi<=20)):=by rfl
  obtain⟨j,i,g⟩:=h;rw[e];simp;omega
 |d+1,.pick f,h=>by
  have e:nV (d+1) (Kd.pick f).t=(decide (1<=(f.map wk).length)&&decide ((f.map wk).length<=4)&&(f.map wk).all zZ&&decide ((dd [] ((f.map wk).map j6)).length=(f.map wk).length)):=by rfl
  obtain⟨j,i,g,x⟩:=h;have u:(f.map wk).map j6=f.map (·.1):=by rw[aK];rfl
  have r:=(WA _ []).mpr λk w v=>by simpa using x k w v
  rw[e,u,r,ag];simp only[am,decide_eq_true_eq,aR];refine⟨⟨⟨j,i⟩,λc o=>?_⟩,by simp⟩
  obtain⟨p,hp,rfl⟩:=ay.mp o;obtain⟨a,b,c⟩:=g p hp;show (Zs _&&decide _&&decide _)=true;rw[a];simp;omega
 |d+1,.row l,h=>by
  have e:nV (d+1) (Kd.row l).t=(decide (1<=(l.map Kd.t).length)&&decide ((l.map Kd.t).length<=3)&&(l.map Kd.t).all (nV d)):=by rw[Kd.t,Kd.ts_map];rfl
  obtain⟨j,i,g⟩:=h;rw[e,ag];simp only[am,decide_eq_true_eq,aR];refine⟨⟨j,i⟩,λc o=>?_⟩;obtain⟨k,q,rfl⟩:=ay.mp o;exact v8 d k (g k q)
 |d+1,.many k lo hi,h=>by
  have e:nV (d+1) (Kd.many k lo hi).t=((decide ((0:Int)<=(lo:Int))&&decide ((lo:Int)<=(hi))&&decide ((hi:Int)<=3))&&nV d k.t):=by rfl
  obtain⟨j,i,g⟩:=h;rw[e,v8 d k g];simp;omega
theorem yu:∀(a:List Kd) (xs:List T),xs.length=a.length->Kd.hass a xs=true->∀x∈xs,∃k∈a,k.has x=true
 |[],[],_,_,_,h=>nomatch h
 |k::a,[],h,_,_,_=>by cases h
 |[],x::xs,h,_,_,_=>by cases h
 |k::a,x::xs,e,h,y,hy=>by
  rw[Kd.hass]at h;rw[am]at h;rcases au.mp hy with rfl|hy
  ·exact⟨k,ae,h.1⟩
  ·obtain⟨d,c,f⟩:=yu a xs (by simpa using e) h.2 y hy
   exact⟨d,a9 _ c,f⟩
theorem yv {d o:Type}(f:d->List o)(m:Nat):∀(c:List d) (i j:Nat),(∀a∈c,(f a).length=m)->j<m->(c.flatMap f)[i*m+j]?=(c[i]?).bind λa=>(f a)[j]?
 |[],i,j,_,_=>by simp
 |a::c,0,j,h,k=>by
  have g:=h a ae;rw[bC,Nat.zero_mul,fN,b6 00]
  rfl
 |a::c,i+1,j,h,k=>by
  have g:=h a ae;have e:(i+1)*m=i*m+m:=by rw[fE,cx]
  rw[bC,aW 00,g,e,show i*m+m+j-m=i*m+j by omega,yv f m c i j (λb l=>h b (a9 _ l)) k]
  rfl
theorem uO {d i:Type}(f:d->List i):∀(c:List d) (q j:Nat) (a:d),c[q]?=some a->j<(f a).length->(c.flatMap f)[((c.take q).map λb=>(f b).length).sum+j]?=(f a)[j]?
 |[],q,j,a,h,_=>by simp at h
 |b::c,0,j,a,h,g=>by
  have e:=by simpa using h
  subst e;rw[bC,List.take_zero,bO,List.sum_nil,fN,b6 g]
 |b::c,q+1,j,a,h,g=>by
  rw[bC,List.take_succ_cons,ao,bK,Nat.add_assoc,aW 00,Nat.add_sub_cancel_left]
  exact uO f c q j a (by simpa using h) g
theorem W3:∀(d c:List (List T)) (l:List T),zW c (d++[l])=(zW c d).flatMap λa=>l.map λx=>a++[x]
 |[],c,l=>rfl
 |_::d,c,l=>by
  rw[ir,zW,zW,W3 d]
def xT {c:List (List T)}{l:List T}{i j:Nat}{xs:List T}{x:T}(h:(zW [[]] c)[i]?=some xs)(d:l[j]?=some x):(zW [[]] (c++[l]))[i*l.length+j]?=some (xs++[x]):=by
 have e:=(aP.mp d).1;rw[W3,yv _ _ _ i j (λa _=>ag ..) e,h];show (l.map λx=>xs++[x])[j]?=_;rw[aw,d];rfl
theorem yw:∀(ns:List Nat) (n:Nat),nj (ns++[n])=nj ns*n
 |[],n=>by simp[nj]
 |m::ns,n=>by rw[ir,nj,nj,yw ns n,dL]
def W4 (a:List (List T)):(zW [[]] a).length=nj (a.map (·.length)):=by rw[wm,aM,cx]
def yx {a:Type}{xs:List a}{i:Nat}(h:i<xs.length):∃x,xs[i]?=some x:=⟨_,ah h⟩
def Fw {xs:List T}{j:Nat}{v:T}(h:xs[j]?=some v):nt xs (j:Int)=.ok v:=by unfold nt;rw[j2 h]
noncomputable def nO (c lo q:Nat):Nat:=((aV q).map λi=>c^(lo+i)).sum
def xU (c lo q:Nat):nO c lo (q+1)=nO c lo q+c^(lo+q):=by
 unfold nO;rw[iL,bm];simp
def gC {k:Kd}{lo hi q j:Nat}{xs:List T}(a:q<hi+1-lo)(h:(zW [[]] (ar (lo+q) k.all))[j]?=some xs):(Kd.many k lo hi).all[nO k.all.length lo q+j]?=some (.tup xs):=by
 have d:=(aP.mp h).1;have e:=uO (λi=>Yt (ar _ _)) _ q j q (by rw[dk a]) (by rw[ag];exact d)
 have c:(((aV (hi+1-lo)).take q).map λb=>(Yt (ar (lo+b) k.all)).length).sum=nO k.all.length lo q:=by
  rw[List.take_range,mG (eO a),nO];congr 1
  refine b5 λi _=>?_;rw[JG,bj,jg]
 rw[c]at e;rw[Kd.all,e];rw[aw,h];rfl
abbrev AA (c:List T->R T):En->RS:=zG 1 (zd Z5 (vE 1) (zb 1 c (za (vE 2) (ze))))
theorem v9 {c:List T->R T}{S:Sl}:∀(d:List Kd) (m:Nat) (x:Sl),(∀k∈d,c [k.t]=.ok (.int (k.all.length:Int))/\1<=k.all.length)->m*nj (d.map λk=>k.all.length)<2^60->
  ∃y,ZJ (zB 2) (AA c) (d.map Kd.t) [S,.vl (.int (m:Int)),x]=.nx [S,.vl (.int ((m*nj (d.map λk=>k.all.length):Nat):Int)),y]
 |[],m,x,_,_=>⟨x,by simp[ZJ,nj]⟩
 |k::d,m,x,H,f=>by
  obtain⟨l,i⟩:=H k ae;have hp:=wl λn hn=>by
   obtain⟨e,a,rfl⟩:=ay.mp hn;exact(H e (a9 _ a)).2
  rw[ao,nj,←dL]at f;have g:m<2^60:=by
   have p:m<=m*k.all.length:=dz _ i;have q:m*k.all.length<=m*k.all.length*nj (d.map λk=>k.all.length):=dz _ hp;omega
  have j:AA c [S,.vl (.int (m)),.vl k.t]=.nx [S,.vl (.int ((m*k.all.length:Nat))),.vl k.t]:=by
   rw[AA,zK]
   ·rfl
   ·rw[zk,v1,i3,zL,v2,i3,l,i3,QS g]
  obtain⟨y,o⟩:=v9 (S:=S) d _ _ (λe a=>H e (a9 _ a)) f;refine⟨y,?_⟩;rw[ao,ji rfl j,o,ao,nj,dL]
def wt {c:List T->R T}{s:T}(a:List Kd)(i:Jl s=.ok (a.map Kd.t))(H:∀k∈a,c [k.t]=.ok (.int (k.all.length:Int))/\1<=k.all.length)(d:nj (a.map λk=>k.all.length)<2^60):
  zn (tK c (mO 3 [s]))=.ok (.int ((nj (a.map λk=>k.all.length):Nat):Int)):=by
 obtain⟨y,e⟩:=v9 a 1 .un H (by rw[cx];exact d)
 rw[cx]at e;have g:zG 1 02 [.vl s,.un,.un]=.nx [.vl s,.vl _,.un]:=rfl;have f:j5 (Zj 04) (zB 2) (AA c) [.vl s,.vl (.int 1),.un]=.nx [.vl s,.vl (.int ((nj (a.map λk=>k.all.length)):Int)),y]:=by
  show ((Jl s).s λts=>ZJ _ _ ts _)=_;rw[i];exact e
 show zn (tK c [.vl s,.un,.un])=_;rw[tK,zc g,zc f];rfl
theorem vc {c:Type}(g:c->Nat):∀l:List c,zR (l.map λa=>T.int ((g a:Nat):Int))=some (l.map λa=>((g a:Nat):Int))
 |[]=>rfl
 |a::l=>by
  show (match zR (l.map λa=>T.int _)with|some l=>some _|none=>none)=_
  rw[vc g l];rfl
theorem yy {c:Type}(g:c->Nat):∀l:List c,(l.map λa=>((g a:Nat):Int)).sum=(((l.map g).sum:Nat):Int)
 |[]=>rfl
 |a::l=>by rw[ao,bK,ao,bK,yy g l];omega
def HE {c:Type}(g:c->Nat)(l:List c):VU (.lst (l.map λa=>T.int ((g a:Nat):Int)))=.ok (.int (((l.map g).sum:Nat):Int)):=by
 unfold VU;dsimp only;rw[vc,←yy]
def jW (k:Kd)(m:Nat):((ar m k).map λk=>k.all.length)=ar m k.all.length:=by rw[bj]
def vd {c:List T->R T}{t:T}{n lo hi q:Nat}(o:lo+q<=4)(H:∀m,m<=3->c [.lst (ar m t)]=.ok (.int ((n^m:Nat):Int))):
  zn (rY c (mO 2 [mt t lo hi,.int ((lo+q:Nat):Int)]))=.ok (.int ((nO n lo q:Nat):Int)):=by
 have g:Jv 000 (vE 1) [.vl (mt t lo hi),.vl (.int ((lo+q:Nat)))]=.ok (rng (lo) q):=by
  rw[Uk rfl rfl ⟨by omega,by omega,by omega,by omega⟩]
  congr 2;omega
 have k:zo _ _ (zb 1 c (za (zd _ _ _) _)) 1 [0] [.vl _,.vl (.int ((lo+q:Nat)))] _=.ok ((rng (lo) q).map λx=>match x with|.int i=>T.int ((n^i.toNat:Nat))|y=>y):=
  zV _ (by unfold rng;rw[ag,ba];have:mR=16777216:=rfl;omega) λx f=>by
   obtain⟨i,a,rfl⟩:=ay.mp f;have j:=bu.mp a;show zb 1 c _ [.vl _,.vl _]=_;have e:zd Z5 (j7 (za (zd i4 (vE 1) 02) (ze))) 04 [.vl (.int ((lo)+(i))),.vl (mt t lo hi)]=.ok (.lst (ar (lo+i) t)):=by
    have l:zd i4 (vE 1) 02 [.vl (.int ((lo)+(i))),.vl (mt t lo hi)]=.ok t:=rfl;rw[zk,tq l,i3,v0,i3,show (lo:Int)+(i)=((lo+i:Nat)) by omega,uJ 00,jp]
   rw[zL,e,i3,H _ 00]
   show _=R.ok (T.int _);rw[show ((lo:Int)+(i)).toNat=lo+i by omega]
 rw[rY,zl]
 ·rfl
 ·show mM _ _ [.vl _,.vl _]=_;rw[ZA,zF,g,i3,k,i3,i3];have d:((rng (lo) q).map λx=>match x with|.int i=>T.int ((n^i.toNat:Nat))|y=>y)=(aV q).map λi=>T.int ((n^(lo+i):Nat)):=by
   unfold rng;rw[aK];refine b5 λi _=>?_;show T.int _=_;rw[show ((lo:Int)+(i)).toNat=lo+i by omega]
  rw[d,HE (λi=>n^(lo+i))];rfl
def XG {d n m:Nat}(h:n<=mx d)(hd:d<=2)(c:m<=3):n^m<2^60:=by
 have a:mx d<=70644:=by
  have:d=0\/d=1\/d=2:=by omega
  rcases this with rfl|rfl|rfl<;>decide
 have e:=aC (Nat.pow_le_pow_left (aC h a) m) (cf 00 c)
 omega
theorem yz:∀(d n:Nat),3*d<=n->d<=3->∀k:Kd,k.Ok d->oj n 0 [k.t]=.ok (.int (k.all.length:Int))
 |0,_,_,_,_,h=>h.elim
 |d+1,n+3,hn,hd,k,h=>by
  have r:=yz d n 00 00
  have i:=yz d (n+1) 00 00
  have e:oj (n+3) 0 [k.t]=zn (tP _ _ [.vl k.t]):=rfl;have p:∀s u,oj (n+2) 2 [s,u]=zn _:=λs u=>rfl;rw[e,tP];cases k with
  |whole lo hi=>
   obtain⟨f,c,a⟩:=h;rw[jh];simp only[Kd.t];rw[zv (t:=.int _)]
   ·rfl
   ·rw[J8 (by rw[n9,beq_self_eq_true]),zl]
    show R.ok _=_;congr 2;omega
  |pick w=>
   rw[WC];simp only[Kd.t];rw[zc (zm 09),zv]
   ·rfl
   ·rw[J8 (by rw[n9,beq_self_eq_true]),zl]
    show R.ok _=_;rw[ag]
  |row o=>
   obtain⟨f,c,a⟩:=h;rw[J7];simp only[Kd.t];rw[Kd.ts_map,zc (zm 09),zc (zm 09),zv]
   ·rfl
   ·rw[J8 (by rw[n9,beq_self_eq_true]),zl]
    have l:=jx (d+1) (.row o) ⟨f,c,a⟩;rw[J7]at l;exact wt o rfl (λk j=>⟨i k (a k j),ZP d k (a k j)⟩) (DS l hd)
  |many k lo hi=>
   obtain⟨f,c,a⟩:=h;rw[jo];simp only[Kd.t];rw[zc (zm 09),zc (zm 09),zc (zm 09),zl]
   ·rfl
   ·show zb 2 _ _ [.vl _]=_;rw[zC,v0,i3,QO Ga,i3,p,show (hi:Int)+1=((lo+(hi+1-lo):Nat)) by omega]
    refine vd 00 λm q=>?_
    have hp:nj ((ar m k).map λk=>k.all.length)=k.all.length^m:=by rw[jW,jg]
    rw[←hp];refine wt _ (by rw[bj];rfl) (λv g=>?_) (by rw[hp];exact XG (jx d k a) 00 q)
    rw[bM g];exact⟨r k a,ZP d k a⟩
def jn {d:Nat}(hd:d<=3){k:Kd}(h:k.Ok d):pD 20 [k.t]=.ok (.int (k.all.length:Int)):=yz d 20 00 hd k h
def yA {d:Nat}(hd:d<=2){k:Kd}(h:k.Ok d){lo hi q:Nat}(c:lo+q<=4):ri 20 [mt k.t lo hi,.int ((lo+q:Nat):Int)]=.ok (.int ((nO k.all.length lo q:Nat):Int)):=by
 have e:ri 20 [mt k.t lo hi,.int ((lo+q:Nat))]=zn (rY (oj 19 1) (mO 2 [mt k.t lo hi,.int ((lo+q):Int)])):=rfl;rw[e];refine vd c λm f=>?_;have hp:nj ((ar m k).map λk=>k.all.length)=k.all.length^m:=by rw[jW,jg]
 rw[←hp];refine wt _ (by rw[bj];rfl) (λg a=>?_) (by rw[hp];exact XG (jx d k h) hd f)
 rw[bM a];exact⟨yz d 18 00 00 k h,ZP d k h⟩
abbrev Af (cc cw:List T->R T):En->RS:=zp (zG 5 (zb 1 cc (za (vE 4) (ze))))
  (zp (VL 2 (zb 2 cw (za (vE 4) (za (zd jr (vE 3) (vE 5)) (ze)))))
  (zG 3 (zd We (vE 3) (vE 5))))
structure sI (cc cw:List T->R T) (k:Kd):Prop where
 nz:cc [k.t]=.ok (.int (k.all.length:Int))
 at_:∀(i:Nat) x,k.all[i]?=some x->cw [k.t,.int (i:Int)]=.ok x
 pos:1<=k.all.length
 le:k.all.length<1000000
def CY {t:T}{a b c d e:Sl}{ρ:En}:vE 5 (a::b::c::d::e::.vl t::ρ)=.ok t:=rfl
def ve {n c:Nat}(h:1<=c):jr (.int (n:Int)) (.int (c:Int))=.ok (.int ((n%c:Nat):Int)):=by
 unfold jr;dsimp only;rw[if_pos 00];rfl
def gD {n c:Nat}(h:1<=c)(h':c<1000000):We (.int (n:Int)) (.int (c:Int))=.ok (.int ((n/c:Nat):Int)):=by
 unfold We;dsimp only;rw[if_pos 00];rfl
def IA {i:Nat}{f:En->R T}{ρ:En}{ts:List T}{t:T}(hi:ρ[i]?=some (.ow ts))(a:ts.length<mR)(h:f ρ=.ok t):VL i f ρ=.nx (ρ.set i (.ow (ts++[t]))):=by
 unfold VL;rw[hi];dsimp only;rw[h,ZZ,if_pos a]
theorem vg {d e:List T->R T}{S N:Sl}:∀(rs:List Kd) (acc:List T) (n:Nat) (x y:Sl),(∀k∈rs,sI d e k)->n<nj (rs.map λk=>k.all.length)->acc.length+rs.length<=1000->
  ∃xs r g i,(zW [[]] (rs.reverse.map Kd.all))[n]?=some xs/\ZJ (zB 4) (Af d e) (rs.map Kd.t) [S,N,.ow acc,.vl (.int (n:Int)),x,y]=.nx [S,N,.ow (acc++xs.reverse),r,g,i]
 |[],acc,n,x,y,_,hn,_=>⟨[],.vl (.int (n)),x,y,by
   have:=by simp[nj]at hn;exact hn
   subst this;rfl,by simp[ZJ]⟩
 |k::rs,acc,n,x,y,H,hn,D=>by
  obtain⟨G,q,f,l⟩:=H k ae;rw[aA]at D;have I:mR=16777216:=rfl;have a:n%k.all.length<k.all.length:=lA _ f;obtain⟨v,o⟩:=yx a;have c:=Nat.div_lt_of_lt_mul hn;obtain⟨xs,r,g,i,C,p⟩:=vg rs (acc++[v]) _ _ _ (λB j=>H B (a9 _ j)) c (by rw[aB,aM];omega)
  have w:zG 5 (zb 1 d (za (vE 4) (ze))) [S,N,.ow acc,.vl (.int (n)),.vl k.t,y]=.nx [S,N,.ow acc,.vl (.int (n)),.vl k.t,.vl (.int (k.all.length))]:=by
   rw[zK]
   ·rfl
   ·rw[zL,v4,i3,G]
  have b2:VL 2 (zb 2 e (za (vE 4) (za (zd jr (vE 3) (vE 5)) (ze)))) [S,N,.ow acc,.vl (.int (n)),.vl k.t,.vl (.int (k.all.length))]=.nx [S,N,.ow (acc++[v]),.vl (.int (n)),.vl k.t,.vl (.int (k.all.length))]:=by
   rw[IA rfl 00]
   ·rfl
   ·rw[zC,v4,i3,zk,v3,i3,CY,i3,ve f,i3,q _ v o]
  have F:zG 3 (zd We (vE 3) (vE 5)) [S,N,.ow (acc++[v]),.vl (.int (n)),.vl k.t,.vl (.int (k.all.length))]=.nx [S,N,.ow (acc++[v]),.vl (.int ((n/k.all.length:Nat))),.vl k.t,.vl (.int (k.all.length))]:=by
   rw[zK]
   ·rfl
   ·rw[zk,v3,i3,CY,i3,gD f l]
  have u:Af d e [S,N,.ow acc,.vl (.int (n)),.vl k.t,y]=.nx [S,N,.ow (acc++[v]),.vl (.int ((n/k.all.length:Nat))),.vl k.t,.vl (.int (k.all.length))]:=by
   rw[Af,zc w,zc b2,F]
  refine⟨xs++[v],r,g,i,?_,?_⟩
  ·have:=xT C o;rw[dD,Nat.div_add_mod]at this;rw[cY,bm];exact this
  ·rw[ao,ji rfl u,p];simp
theorem vh:∀ns:List Nat,nj ns.reverse=nj ns
 |[]=>rfl
 |n::ns=>by rw[cY,yw,vh ns,nj,dD]
def wu {j o:List T->R T}{s:T}(e:List Kd)(I:jZ s=.ok (e.map Kd.t))(N:e.length<=3)(H:∀k∈e,sI j o k){n:Nat}{xs:List T}(q:(zW [[]] (e.map Kd.all))[n]?=some xs):
  zn (rZ j o (mO 6 [s,.int (n:Int)]))=.ok (.tup xs):=by
 have hn:=(aP.mp q).1;rw[W4,aK]at hn;have hr:(e.reverse.map λk=>k.all.length)=(e.map λk=>k.all.length).reverse:=by rw[mi]
 obtain⟨M,r,y,D,u,v⟩:=vg _ [] n .un .un (λk G=>H k (List.mem_reverse.mp G)) (by rw[hr,vh];exact hn) (by rw[cL,cK];omega)
 rw[iX,q]at u;cases u;have B:Yz 2 (ze) [.vl s,.vl (.int (n)),.un,.un,.un,.un]=.nx [.vl s,.vl _,.ow [],.un,.un,.un]:=rfl;have F:zG 3 (vE 1) [.vl s,.vl (.int (n)),.ow [],.un,.un,.un]=.nx [.vl s,.vl _,.ow [],.vl _,.un,.un]:=rfl;have L:j5 (Cz 04) (zB 4) (Af j o) [.vl s,.vl (.int (n)),.ow [],.vl (.int (n)),.un,.un]=.nx [.vl s,.vl (.int (n)),.ow xs.reverse,r,y,D]:=by
  show (((jZ s).bind λxs=>R.ok _).s λts=>ZJ _ _ ts _)=_;rw[I,i3,←mi];exact v
 have g:xs.reverse.length<=mR:=by
  have:∀(f d:List _) (m:Nat),(∀a∈d,a.length<=m)->∀a∈zW d f,a.length<=m+f.length:=by
   intro f
   induction f with
   |nil=>intro d m h a i;exact h a i
   |cons l f C=>
    intro d m h a i;have:=C (d.flatMap λa=>l.map λx=>a++[x]) (m+1) (λb p=>by
     obtain⟨c,J,p⟩:=dA.mp p;obtain⟨z,_,rfl⟩:=ay.mp p;have:=h c J;rw[aB,aM];omega) a i
    rw[aA];omega
  have w:=this _ _ 0 (λa i=>by rw[ax.mp i];exact aq _) xs (bR q)
  rw[ag]at w;rw[cL];have p:mR=16777216:=rfl;omega
 show zn (rZ j o [.vl s,.vl _,.un,.un,.un,.un])=_;rw[rZ,zc B,zc F,zc L,zl]
 ·rfl
 ·show x9 (.lst _)=_;unfold x9;dsimp only;rw[if_pos g,iX]
abbrev pQ:En->R Bool:=zu mX (zb 2 (ri 20) (za 04 (za (zd zA (vE 2) 02) (ze)))) (vB 1)
abbrev pA:En->RS:=zG 2 (zd zA (vE 2) 02)
def Fl {t:T}{a:Sl}{ρ:En}:vB 1 (a::.vl t::ρ)=.ok t:=rfl
theorem vi {d:Nat}(hd:d<=2){k:Kd}(h:k.Ok d){lo hi n:Nat}(l:lo<=hi)(i:hi<=3)(hn:n<nO k.all.length lo (hi+1-lo)):∀(f q:Nat),q<=hi-lo->hi-lo-q<f->nO k.all.length lo q<=n->
  ∃c,c<=hi-lo/\nO k.all.length lo c<=n/\n<nO k.all.length lo (c+1)/\Zr pQ pA f [.vl (mt k.t lo hi),.vl (.int (n:Int)),.vl (.int ((lo+q:Nat):Int))]=.nx [.vl (mt k.t lo hi),.vl (.int (n:Int)),.vl (.int ((lo+c:Nat):Int))]
 |0,q,_,w,_=>by omega
 |f+1,q,o,w,p=>by
  have u:pQ [.vl (mt k.t lo hi),.vl (.int (n)),.vl (.int ((lo+q:Nat)))]=.ok (decide (nO k.all.length lo (q+1)<=n)):=by
   rw[pQ,zM,zC,v0,i3,QO v2,i3,show ((lo+q:Nat):Int)+1=((lo+(q+1):Nat)) by omega,yA hd h 00,i3,Fl,i3,wK,W1]
  have v:Zr pQ pA (f+1) [.vl (mt k.t lo hi),.vl (.int (n)),.vl (.int ((lo+q:Nat)))]=(pQ _).s λj=>if j=true then match pA [.vl _,.vl _,.vl (.int _)]with
    |.nx a=>Zr pQ pA f a
    |.ct a=>Zr pQ pA f a
    |.bk a=>.nx a
    |r=>r
   else .nx _:=rfl
  rw[v,u,ZZ]
  by_cases e:nO k.all.length lo (q+1)<=n
  ·rw[if_pos (decide_eq_true e)];have g:q+1<=hi-lo:=by
    rcases Nat.lt_or_ge q _ with z|z
    ·exact z
    ·have:q=hi-lo:=by omega
     rw[this,show hi-lo+1=hi+1-lo by omega]at e
     omega
   have x:pA [.vl (mt k.t lo hi),.vl (.int (n)),.vl (.int ((lo+q:Nat)))]=.nx [.vl (mt k.t lo hi),.vl (.int (n)),.vl (.int ((lo+(q+1):Nat)))]:=by
    rw[pA,zK]
    ·rfl
    ·rw[QO v2,show ((lo+q:Nat):Int)+1=((lo+(q+1):Nat)) by omega]
   exact vi hd h l i hn f _ g 00 e
  ·rw[if_neg (by simpa using e)]
   exact⟨q,o,p,by omega,rfl⟩
def F8 {i j:Nat}(h:j<=i):Jj (.int (i:Int)) (.int (j:Int))=.ok (.int ((i-j:Nat):Int)):=by
 rw[Zt];congr 2;omega
def Yv {d:Nat}(hd:d<=2){k:Kd}(h:k.Ok d){cp:List T->R T}{lo hi n:Nat}(l:lo<=hi)(g:hi<=3)(hn:n<nO k.all.length lo (hi+1-lo))
  (H:∀(m:Nat),m<=3->∀(j:Nat) (xs:List T),(zW [[]] (ar m k.all))[j]?=some xs->cp [.lst (ar m k.t),.int (j:Int)]=.ok (.tup xs)):
  ∃x,(Kd.many k lo hi).all[n]?=some x/\zn (tf (ri 20) cp (mO 3 [mt k.t lo hi,.int (n:Int)]))=.ok x:=by
 obtain⟨q,u,o,a,e⟩:=vi hd h l g hn 8 0 00 00 (by unfold nO;simp)
 rw[xU]at a;have i:n-nO k.all.length lo q<(zW [[]] (ar (lo+q) k.all)).length:=by
  rw[W4,bj,jg];omega
 obtain⟨xs,c⟩:=yx i;have f:=gC (hi:=hi) 00 c
 rw[show nO _ lo q+(n-nO _ lo q)=n by omega]at f
 refine⟨_,f,?_⟩;have p:zG 2 000 [.vl (mt k.t lo hi),.vl (.int (n:Int)),.un]=.nx [.vl _,.vl _,.vl (.int ((lo+0:Nat)))]:=rfl;show zn (tf _ cp [.vl _,.vl _,.un])=_;rw[tf,zc p,zc e,zl]
 ·rfl
 ·show zb 2 cp _ [.vl _,.vl _,.vl _]=_;have r:zd Z5 (j7 (za (zd i4 04 02) (ze))) (vE 2) [.vl (mt k.t lo hi),.vl (.int (n)),.vl (.int ((lo+q:Nat)))]=.ok (.lst (ar (lo+q) k.t)):=by
   rw[zk,tq jU,i3,v2,i3,uJ 00,jp]
  rw[zC,r,i3,zk,v1,i3,zC,v0,i3,v2,i3,yA hd h 00,i3,F8 o,i3,H _ 00 _ xs c]
def vj {d:Nat}(hd:d<=2){k:Kd}(h:k.Ok d):k.all.length<1000000:=by
 have c:=jx d k h;have a:mx d<=70644:=by
  have:d=0\/d=1\/d=2:=by omega
  rcases this with rfl|rfl|rfl<;>decide
 omega
theorem jD:∀(d n:Nat),3*d<=n->d<=3->∀k:Kd,k.Ok d->∀(i:Nat) (x:T),k.all[i]?=some x->oz n 0 [k.t,.int (i:Int)]=.ok x
 |0,_,_,_,_,h=>h.elim
 |d+1,n+3,hn,hd,k,h=>by
  intro i x a;have w:=jD d n 00 00
  have q:=jD d (n+1) 00 00
  have e:oz (n+3) 0 [k.t,.int (i:Int)]=zn (AN oQ _ _ (mW k.t (.int (i:Int)))):=rfl;have f:=(aP.mp a).1;rw[e,AN];cases k with
  |whole lo hi=>
   rw[Kd.all,aw]at a;rw[jh]at f;rw[dk f]at a;cases a;rw[zv]
   ·rfl
   ·rfl
  |pick y=>
   have r:=yr y h.2.1;simp only[Kd.t]at r⊢;rw[zc (YD 01),zv]
   ·rfl
   ·rw[sV,zl];show zd i4 _ _ (mW _ _)=_;rw[zk,zL,v0,i3,r,v1];exact Fw a
  |row B=>
   obtain⟨u,o,c⟩:=h;rw[Kd.all,Kd.alls_map,aw]at a;cases hr:(zW _ _)[i]? with
   |none=>rw[hr]at a;cases a
   |some xs=>
    rw[hr]at a;cases a;simp only[Kd.t];rw[Kd.ts_map,zc (YD 01),zc (YD 01),zv]
    ·rfl
    ·rw[sV,zl];refine wu B rfl o (λk l=>⟨jn 00 (c k l),q k (c k l),ZP d k (c k l),vj 00 (c k l)⟩) hr
  |many k lo hi=>
   obtain⟨u,o,c⟩:=h;rw[jo]at f;obtain⟨D,g,C⟩:=Yv (cp:=oz (n+1) 2) 00 c u o f (λm v j xs hr=>by
    refine wu _ (by rw[bj];rfl) (by rw[aY];exact v) (λF p=>?_) (by rw[bj];exact hr)
    rw[bM p];exact⟨jn 00 c,w k c,ZP d k c,vj 00 c⟩)
   rw[a]at g;cases g;simp only[Kd.t];rw[zc (YD 01),zc (YD 01),zc (YD 01),zl]
   ·rfl
   ·show zb 2 _ _ (mW _ _)=_;rw[zC,v0,i3,v1,i3];exact C
def Ig {k:Kd}(h:k.Ok 3){i:Nat}{x:T}(a:k.all[i]?=some x):sQ 20 [k.t,.int (i:Int)]=.ok x:=jD 3 20 00 00 k h i x a
theorem W5:∀(e d:List (List T)) (m:Nat),(∀a∈d,a.length=m)->∀a∈zW d e,a.length=m+e.length
 |[],d,m,h,a,g=>h a g
 |l::e,d,m,h,a,g=>by
  have:=W5 e (d.flatMap λa=>l.map λx=>a++[x]) _ (λb f=>by
   obtain⟨c,i,f⟩:=dA.mp f;obtain⟨z,_,rfl⟩:=ay.mp f;rw[aB,aM,h c i]) a g
  rw[aA];omega
noncomputable def Pl:Nat->T->Prop
 |0,_=>False
 |n+1,.tup xs=>∀x∈xs,Pl n x
 |n+1,.lst xs=>∀x∈xs,Pl n x
 |_+1,.fz _=>False
 |_+1,_=>True
theorem JI {f:T->T->Option Bool}:∀(xs a:List T),(∀x∈xs,∀y,∃b,f x y=some b)->∃b,nE f xs a=some b
 |[],[],_=>⟨_,rfl⟩
 |[],_::_,_=>⟨_,rfl⟩
 |_::_,[],_=>⟨_,rfl⟩
 |x::xs,y::a,h=>by
  obtain⟨b,d⟩:=h x ae y;obtain⟨c,e⟩:=JI xs a λz hz=>h z (a9 _ hz);exact⟨b&&c,by unfold nE;rw[d,e]⟩
theorem Zn {f:T->T->Option Bool}:∀(xs:List T),(∀x∈xs,f x x=some true)->nE f xs xs=some true
 |[],_=>rfl
 |x::xs,h=>by
  unfold nE;rw[h x ae,Zn xs λz hz=>h z (a9 _ hz)];rfl
theorem JJ:∀(n:Nat) (y x:T),Pl n y->∃b,mQ n y x=some b
 |0,_,_,h=>h.elim
 |n+1,y,x,h=>by
  cases y with
  |tup xs=>
   cases x with
   |tup a=>exact JI xs a λz hz u=>JJ n z u (h z hz)
   |_=>exact⟨false,by rw[mQ]<;>intros<;>first|rfl|contradiction|(intro z)⟩
  |lst xs=>
   cases x with
   |lst a=>exact JI xs a λz hz u=>JJ n z u (h z hz)
   |fz a=>exact JI xs a λz hz u=>JJ n z u (h z hz)
   |_=>exact⟨false,by rw[mQ]<;>intros<;>first|rfl|contradiction|(intro z)⟩
  |fz xs=>exact h.elim
  |non=>cases x<;>exact⟨_,rfl⟩
  |bl b=>cases x<;>exact⟨_,rfl⟩
  |int i=>cases x<;>exact⟨_,rfl⟩
  |str i=>cases x<;>exact⟨_,rfl⟩
theorem Z7:∀(n:Nat) (y:T),Pl n y->mQ n y y=some true
 |0,_,h=>h.elim
 |n+1,y,h=>by
  cases y with
  |tup xs=>exact Zn xs λz hz=>Z7 n z ((h) z hz)
  |lst xs=>exact Zn xs λz hz=>Z7 n z ((h) z hz)
  |fz xs=>exact h.elim
  |non=>rfl
  |bl b=>show some _=_;simp
  |int i=>show some _=_;simp
  |str i=>show some _=_;simp
theorem Pl.up:∀(n:Nat) (y:T),Pl n y->Pl (n+1) y
 |0,_,h=>h.elim
 |n+1,y,h=>by
  cases y with
  |tup xs=>exact λz hz=>Pl.up n z ((h) z hz)
  |lst xs=>exact λz hz=>Pl.up n z ((h) z hz)
  |fz xs=>exact h.elim
  |_=>exact trivial
def Pl.le {n m:Nat}{y:T}(a:n<=m)(h:Pl n y):Pl m y:=by
 obtain⟨j,rfl⟩:∃j,m=n+j:=⟨m-n,by omega⟩
 clear a
 induction j with
 |zero=>exact h
 |succ j c=>exact Pl.up _ _ c
def vk {t:T}(h:Pl 30 t):nq t t=.ok false:=by unfold nq;rw[Z7 30 t h];rfl
def xV {t:T}(h:Pl 30 t):mL t t=.ok true:=by unfold mL;rw[Z7 30 t h]
theorem uP {f:T->Option Bool}:∀(ts:List T),(∀t∈ts,∃b,f t=some b)->∃b,wD f ts=some b/\(b=false->∀t∈ts,f t=some false)
 |[],_=>⟨false,rfl,λ_ _ h=>nomatch h⟩
 |t::ts,h=>by
  obtain⟨b,d⟩:=h t ae;obtain⟨c,g,h'⟩:=uP ts λu a=>h u (a9 _ a);refine⟨b||c,by unfold wD;rw[d,g],λe u a=>?_⟩
  rw[Bool.or_eq_false_iff]at e;rcases au.mp a with rfl|a
  ·rw[d,e.1]
  ·exact h' e.2 u a
def Ja {f:En->R T}{ρ:En}{t:T}(h:f ρ=.ok t):wH f ρ=.nx ρ:=by unfold wH;rw[h,ZZ]
def og (k:Kd):((rng 0 k.all.length).map λt=>match t with|.int i=>(k.all[i.toNat]?).getD .non|y=>y)=k.all:=by
 unfold rng;rw[aK];refine cX λi=>?_;rw[aw]
 by_cases hi:i<k.all.length
 ·rw[dk hi];show some ((k.all[((0:Int)+(i)).toNat]?).getD _)=_;rw[show ((0:Int)+(i)).toNat=i by omega]
  obtain⟨x,a⟩:=yx hi;rw[a];rfl
 ·rw[aS (by simpa using hi),aS 00];rfl
def WH {f:En->R T}{ρ:En}{j:Int}(a:f ρ=.ok (.int j))(h: -1000000<j/\j<1000000):ZI f ρ=.ok (rng 0 j.toNat):=by
 unfold ZI;rw[a];exact if_pos h
def gE {i j:Int}:nZ (.int i) (.int j)=.ok (decide (j<i)):=rfl
inductive W:Nat->T->Prop where
 |int (d:Nat) (i:Int):W d (.int i)
 |str (d:Nat) (s:Str):W d (.str s)
 |tup {d:Nat} {xs:List T} (h:xs.length<=3) (r:∀x∈xs,W d x):W (d+1) (.tup xs)
theorem Cj:∀(d:Nat) (k:Kd) (x:T),k.Ok (d+1)->k.has x=true->W d x
 |d,.whole lo hi,x,_,h=>by
  cases x<;>first|exact .int _ _|(simp[Kd.has,rO]at h)
 |d,.pick q,x,_,h=>by
  cases x<;>first|exact .str _ _|(simp[Kd.has]at h)
 |0,.row i,x,a,h=>by
  obtain⟨g,j,a⟩:=a
  match i,g,a with
  |k::_,_,a=>exact(a k ae).elim
 |0,.many k lo hi,x,a,h=>a.2.2.elim
 |d+1,.row i,x,a,h=>by
  obtain⟨g,j,a⟩:=a;cases x with
  |tup xs=>
   rw[Kd.has]at h;simp only[am,beq_iff_eq]at h;obtain⟨l,e⟩:=h;refine .tup 00 λx f=>?_
   obtain⟨k,o,c⟩:=yu i xs l e x f;exact Cj d k x (a k o) c
  |_=>simp[Kd.has]at h
 |d+1,.many k lo hi,x,a,h=>by
  obtain⟨g,j,a⟩:=a;cases x with
  |tup xs=>
   rw[Kd.has]at h;simp only[am,decide_eq_true_eq,aR]at h;obtain⟨⟨l,p⟩,e⟩:=h;refine .tup 00 λx f=>?_
   exact Cj d k x a (e x f)
  |_=>simp[Kd.has]at h
mutual
noncomputable def lv:T->List T
 |.tup xs=>oo xs
 |.non=>[.non]
 |.bl b=>[.bl b]
 |.int b=>[.int b]
 |.str b=>[.str b]
 |.lst b=>[.lst b]
 |.fz b=>[.fz b]
noncomputable def oo:List T->List T
 |[]=>[]
 |x::xs=>lv x++oo xs
end
def Ij (xs:List T):lv (.tup xs)=oo xs:=by rw[lv]
def WI (x:T)(xs:List T):oo (x::xs)=lv x++oo xs:=by rw[oo]
def vm:oo []=[]:=by rw[oo]
theorem vn {n:Nat}:∀xs:List T,(∀x∈xs,(lv x).length<=n)->(oo xs).length<=xs.length*n
 |[],_=>by exact aU _
 |x::xs,h=>by
  rw[WI,aB,aA,fL];have c:=h x ae;have a:=vn xs λy hy=>h y (a9 _ hy);omega
def rA (d:Nat):1<=3^d:=Nat.one_le_pow _ _ 00
def vo {d:Nat}{x:T}(h:W d x):(lv x).length<=3^d:=by
 induction h with
 |int d i=>exact rA d
 |str d i=>exact rA d
 |@tup d xs h r a=>
  rw[Ij];have:=vn xs a;have c:=fF (3^d) h;omega
inductive Lf:T->Prop where
 |int (i:Int):Lf (.int i)
 |str (i:Str):Lf (.str i)
theorem XH:∀(xs:List T),(∀x∈xs,∀y∈lv x,Lf y)->∀y∈oo xs,Lf y
 |[],_,y,hy=>by cases hy
 |x::xs,h,y,hy=>by
  rcases bI.mp hy with hy|hy
  ·exact h x ae y hy
  ·exact XH xs (λz hz=>h z (a9 _ hz)) y hy
def EE {d:Nat}{x:T}(h:W d x):∀y∈lv x,Lf y:=by
 induction h with
 |int d i=>intro y hy;rw[ax.mp hy];exact .int _
 |str d i=>intro y hy;rw[ax.mp hy];exact .str _
 |@tup d xs h r a=>intro y hy;exact XH xs a y hy
def FD {i:Nat}{f:En->R T}{ρ:En}{ts a:List T}(hi:ρ[i]?=some (.ow ts))(h:f ρ=.ok (.lst a))(c:ts.length+a.length<=mR):Vd i f ρ=.nx (ρ.set i (.ow (ts++a))):=by
 unfold Vd;rw[hi];dsimp only;rw[h,ZZ];dsimp only;rw[if_pos c]
abbrev Bp (c:List T->R T):En->RS:=Vd 1 (zb 1 c (za (vE 2) (ze)))
theorem vp {c:List T->R T}{n:Nat}(hn:n<=1000){a:Sl}:∀(xs:List T) (acc:List T) (x:Sl),(∀x∈xs,c [x]=.ok (.lst (lv x))/\(lv x).length<=n)->acc.length+xs.length*n<=1000000->
  ∃d,ZJ (zB 2) (Bp c) xs [a,.ow acc,x]=.nx [a,.ow (acc++oo xs),d]
 |[],acc,x,_,_=>⟨x,by rw[vm,br];rfl⟩
 |y::xs,acc,x,H,g=>by
  obtain⟨e,j⟩:=H y ae;rw[aA,fL]at g;have i:mR=16777216:=rfl;obtain⟨d,h⟩:=vp hn xs (acc++lv y) _ (λz hz=>H z (a9 _ hz)) (by rw[aB];omega)
  refine⟨d,?_⟩;have f:zB 2 y [a,.ow acc,x]=.ok _:=rfl;have b2:Bp c [a,.ow acc,.vl y]=.nx [a,.ow (acc++lv y),.vl y]:=by
   have z:zb 1 c (za (vE 2) (ze)) [a,.ow acc,.vl y]=.ok (.lst (lv y)):=by rw[zL,v2,i3,e]
   exact FD rfl z 00
  rw[ji f b2,h,WI,bN]
def XI {x:T}{r:En}:WR (jA (mM (wT "tuple") (vB 0))) (.vl x::r)=.ok (!(match x with|.tup _=>true|_=>false)):=by
 all_goals (cases x<;>rfl)
theorem wv:∀(n d:Nat),d<n->d<=3->∀x:T,W d x->sY n 0 [x]=.ok (.lst (lv x))
 |0,d,h,_,_,_=>absurd h (iM _)
 |n+1,d,h,k,x,e=>by
  show zn (Am _ [.vl x,.un,.un])=_;rw[Am];cases e with
  |int d i=>
   rfl
  |str d i=>
   rfl
  |@tup d xs g r=>
   have hp:3^d<=27:=cf 00 (show d<=3 by omega)
   obtain⟨f,j⟩:=vp 00 xs [] .un (λy hy=>⟨wv n d 00 00 y (r y hy),vo (r y hy)⟩) (by have:=bx g hp;simp;omega)
   have c:Yz 1 ze [.vl (.tup xs),.un,.un]=.nx [.vl _,.ow [],.un]:=rfl;have a:j5 (Zj 04) (zB 2) (Bp (sY n 0)) [.vl (.tup xs),.ow [],.un]=.nx [.vl (.tup xs),.ow ([]++oo xs),f]:=by
    exact j
   rw[zc (zm XI),zc c,zc a,cq];rfl
abbrev CS (c:List T->R T):En->RS:=zG 1 (zd zA (vE 1) (zb 1 c (za (vE 2) (ze))))
def F5 {xs a:List T}(h:xs.length+a.length<=1000000):zA (.lst xs) (.lst a)=.ok (.lst (xs++a)):=by
 unfold zA;dsimp only;rw[if_pos (by have c:mR=16777216:=rfl;omega)]
theorem vq {c:List T->R T}{n:Nat}(hn:n<=1000){a:Sl}:∀(xs:List T) (acc:List T) (x:Sl),(∀x∈xs,c [x]=.ok (.lst (lv x))/\(lv x).length<=n)->acc.length+xs.length*n<=1000000->
  ∃d,ZJ (zB 2) (CS c) xs [a,.vl (.lst acc),x]=.nx [a,.vl (.lst (acc++oo xs)),d]
 |[],acc,x,_,_=>⟨x,by rw[vm,br];rfl⟩
 |y::xs,acc,x,H,g=>by
  obtain⟨e,i⟩:=H y ae;rw[aA,fL]at g;obtain⟨d,h⟩:=vq hn xs (acc++lv y) _ (λz hz=>H z (a9 _ hz)) (by rw[aB];omega)
  refine⟨d,?_⟩;have f:zB 2 y [a,.vl (.lst acc),x]=.ok _:=rfl;have b2:CS c [a,.vl (.lst acc),.vl y]=.nx [a,.vl (.lst (acc++lv y)),.vl y]:=by
   have z:zd zA (vE 1) (zb 1 c (za (vE 2) (ze))) [a,.vl (.lst acc),.vl y]=.ok (.lst (acc++lv y)):=by rw[zk,v1,i3,zL,v2,i3,e,i3,F5 00]
   exact zK z
  rw[ji f b2,h,WI,bN]
theorem yB:∀(n d:Nat),d<n->d<=3->∀x:T,W d x->r9 n 0 [x]=.ok (.lst (lv x))
 |0,d,h,_,_,_=>absurd h (iM _)
 |n+1,d,h,k,x,e=>by
  show zn (A2 _ [.vl x,.un,.un])=_;rw[A2];cases e with
  |int d i=>
   rfl
  |str d i=>
   rfl
  |@tup d xs g r=>
   have hp:3^d<=27:=cf 00 (show d<=3 by omega)
   obtain⟨f,j⟩:=vq 00 xs [] .un (λy hy=>⟨yB n d 00 00 y (r y hy),vo (r y hy)⟩) (by have:=bx g hp;simp;omega)
   have c:zG 1 (j7 ze) [.vl (.tup xs),.un,.un]=.nx [.vl _,.vl _,.un]:=rfl;have a:j5 (Zj 04) (zB 2) (CS (r9 n 0)) [.vl (.tup xs),.vl (.lst []),.un]=.nx [.vl (.tup xs),.vl (.lst ([]++oo xs)),f]:=by
    exact j
   rw[zc (zm XI),zc c,zc a,cq];rfl
def j0 {ft:En->R Bool}{p:T->Bool}{k:Nat}{js:List Nat}{ρ:En}{fe:En->R T}(ts:List T)(c:ts.length<=mR)(H:∀t∈ts,ft ((Jz k js ρ).set 0 (.vl t))=.ok (p t)/\fe ((Jz k js ρ).set 0 (.vl t))=.ok t):zo (zB 0) ft fe k js ρ ts=.ok (ts.filter p):=by
 unfold zo;rw[if_pos c,Ze (h:=id) ts _ λt a=>⟨(H t a).1,λ_=>(H t a).2⟩,List.map_id];rfl
noncomputable def ZQ:List T->List Int
 |[]=>[]
 |.int i::r=>i::ZQ r
 |.non::r=>ZQ r
 |.bl _::r=>ZQ r
 |.str _::r=>ZQ r
 |.tup _::r=>ZQ r
 |.lst _::r=>ZQ r
 |.fz _::r=>ZQ r
theorem ww:∀ts:List T,ts.filter B8=(ZQ ts).map T.int
 |[]=>rfl
 |t::ts=>by
  have a:=ww ts;rw[iu,a];cases t<;>rfl
theorem Jb:∀a:List Int,zR (a.map T.int)=some a
 |[]=>rfl
 |i::a=>by
  have e:zR ((i::a).map T.int)=match zR _ with|some l=>some _|none=>none:=rfl
  rw[e,Jb a]
theorem WK:∀ts:List T,(ZQ ts).length<=ts.length
 |[]=>aq _
 |t::ts=>by
  have a:=WK ts;cases t<;>simp only[ZQ,aA]<;>omega
def w9 {d:Nat}{x:T}(hd:d<=2)(h:W d x):(lv x).length<=9:=aC (vo h) (cf 00 hd)
def Yw {d:Nat}(hd:d<=2){x:T}(h:W d x):Ah [x]=.ok 001:=by
 show zn _=_;have e:=w9 hd h;have a:zo _ (jA (zb 1 om (za 04 _))) 04 1 [] [.vl x] (lv x)=.ok _:=
  j0 _ (by have f:mR=16777216:=rfl;omega) λt _=>⟨by
   show jA _ [.vl t]=_;rw[Jq,zL,v0,i3,Wx,i3,QH],rfl⟩
 rw[BW,zl]
 ·rfl
 ·show zE _ _ _ _ _ _ [.vl x]=_;have c:pV 8 [x]=.ok _:=wv 8 d 00 00 x h
  rw[zF,ZF,zL,v0,i3,c];show ((zo _ _ _ _ _ _ _).bind _)=_;rw[a,i3,ww]
noncomputable def oR (a:List Int):Bool:=(a.zip (a.drop 1)).all λq=>decide (q.1<=q.2)
theorem vt:∀(qs:List (Int×Int)) (x y:Sl),zq (zS 0 1) Z2 (ZV mX (vB 0) (vB 1)) (qs.map λq=>T.tup [.int q.1,.int q.2]) [x,y]=.ok (qs.map λq=>T.bl (decide (q.1<=q.2)))
 |[],_,_=>rfl
 |q::qs,x,y=>by
  have c:=vt qs (.vl (.int q.1)) (.vl (.int q.2));have a:zq (zS 0 1) Z2 (ZV mX (vB 0) (vB 1)) ((q::qs).map λq=>T.tup [.int q.1,.int q.2]) [x,y]=
   (R.ok (T.bl _)).bind λv=>(zq _ _ _ (qs.map λq=>T.tup [.int q.1,.int q.2]) [.vl _,.vl _]).bind λvs=>.ok _:=rfl
  rw[a,i3,c,i3,ao]
def gF (xs:List T):oJ xs (some ((1:Nat):Int)) none=xs.drop 1:=by
 unfold oJ;rw[HT.sIx_nat,HT.sIx_none]
 by_cases h:1<=xs.length
 ·rw[mG h,iD (by rw[ie];omega)]
 ·have:xs=[]:=bc.mp 00
  subst this;rfl
def vv (a:List Int)(d:a.length<=100):Bv [.lst (a.map T.int)]=.ok (.bl (oR a)):=by
 show zn _=_;have hz:Xk 04 (oD 04 (Ju 02) (oE)) [.vl (.lst (a.map T.int))]=.ok ((a.zip (a.drop 1)).map λq=>T.tup [.int q.1,.int q.2]):=by
  show R.ok (Vf _ (oJ _ (some ((1:Nat))) _))=_;rw[gF,←List.map_drop];unfold Vf;rw[List.zip_map,aK];rfl
 have c:zo (zS 0 1) Z2 (ZV mX (vB 0) (vB 1)) 2 [] [.vl (.lst (a.map T.int))] ((a.zip (a.drop 1)).map λq=>T.tup [.int q.1,.int q.2])=.ok ((a.zip (a.drop 1)).map λq=>T.bl (decide (q.1<=q.2))):=by
  unfold zo;rw[if_pos (by rw[ag,fH];have e:mR=16777216:=rfl;omega)]
  show quiet (zq _ _ _ _ [.un,.un])=_;rw[vt];rfl
 rw[Co,zl]
 ·rfl
 ·show mM _ _ [.vl _]=_;rw[ZA,zF,hz,i3,c,i3];show (match ue _ with|some k=>R.ok _|none=>.bad)=_
  rw[WG (λq=>decide _)];rfl
def Zu (x y:Int)(r:List Int):oR (x::y::r)=(decide (x<=y)&&oR (y::r)):=by
 unfold oR;rw[l6,eV,dH,dg,l6,eV]
theorem vx (x:Int):∀l:List Int,oR l=true->oR (UR x l)=true/\∀y,(∀z∈l,y<=z)->y<=x->∀z∈UR x l,y<=z
 |[],_=>⟨rfl,λy _ h z hz=>by rw[ax.mp hz];exact h⟩
 |[a],_=>by
  rw[UR];split
  ·rename_i h;exact⟨by rw[Zu,decide_eq_true h];rfl,λy d e z hz=>by
    rcases au.mp hz with rfl|hz
    ·exact e
    ·exact d z hz⟩
  ·rw[UR];exact⟨by rw[Zu,decide_eq_true 00];rfl,λy d e z hz=>by
    rcases au.mp hz with rfl|hz
    ·exact d _ ae
    ·rw[ax.mp hz];exact e⟩
 |a::b::r,h=>by
  rw[Zu,am,decide_eq_true_eq]at h;obtain⟨c,f⟩:=vx x _ h.2;rw[UR];split
  ·rename_i j;exact⟨by rw[Zu,decide_eq_true j,Zu,decide_eq_true h.1,h.2];rfl,λy d e z hz=>by
    rcases au.mp hz with rfl|hz
    ·exact e
    ·exact d z hz⟩
  ·refine⟨?_,λy d e z hz=>by
    rcases au.mp hz with rfl|hz
    ·exact d _ ae
    ·exact f y (λw i=>d w (a9 _ i)) e z hz⟩
   rw[UR]at c⊢;split
   ·rename_i g;rw[if_pos g]at c;rw[Zu,decide_eq_true 00,c];rfl
   ·rename_i g;rw[if_neg g]at c;rw[Zu,decide_eq_true h.1,c];rfl
theorem vz:∀l:List Int,oR (qO l)=true
 |[]=>rfl
 |x::l=>by rw[qO];exact(vx x _ (vz l)).1
theorem vA:∀l:List Int,oR l=true->qO l=l
 |[],_=>rfl
 |[x],_=>rfl
 |x::y::r,h=>by
  rw[Zu,am,decide_eq_true_eq]at h;rw[qO,vA _ h.2,UR,if_pos h.1]
theorem yC {n:Nat}:∀xs a:List Int,∃b,nE (mQ n) (xs.map T.int) (a.map T.int)=some b/\(b=true↔xs=a)
 |[],[]=>⟨true,rfl,by simp⟩
 |[],y::a=>⟨false,rfl,by simp⟩
 |x::xs,[]=>⟨false,rfl,by simp⟩
 |x::xs,y::a=>by
  obtain⟨b,e,h⟩:=yC xs a;have f:nE _ ((x::xs).map T.int) ((y::a).map T.int)=match mQ n _ _ with
   |none=>none
   |some b=>match nE _ _ _ with
    |none=>none
    |some c=>some _:=rfl
  have d:mQ n (.int x) (.int y)=some (x==y):=by cases n<;>rfl
  refine⟨(x==y)&&b,by rw[f,d,e],?_⟩
  rw[am,beq_iff_eq,h,mC]
def vC (a:List Int):mL (.lst (a.map T.int)) (.lst ((qO a).map T.int))=.ok (oR a):=by
 obtain⟨b,e,h⟩:=yC a _;have f:mQ 30 (.lst _) (.lst _)=some b:=e;unfold mL;rw[f];show R.ok b=_;congr 1
 cases c:b with
 |true=>
  have:=h.mp c;rw[this];exact(vz a).symm
 |false=>
  cases d:oR a with
  |false=>rfl
  |true=>rw[c]at h;exact absurd (h.mpr (vA a d).symm) az
def Wq (a:List Int)(c:a.length<=60):xa (.lst (a.map T.int))=.ok (.lst ((qO a).map T.int)):=by
 unfold xa;dsimp only;rw[Jb];dsimp only;rw[if_pos (by rw[ag];omega)]
def Ii (a:List Int):VU (.lst (a.map T.int))=.ok (.int a.sum):=by
 unfold VU;dsimp only;rw[Jb]
def n8 (xs:List T)(x:T):Bool:=(wD (λy=>mQ 30 y x) xs).getD false
def Fq {xs:List T}(x:T)(h:∀y∈xs,Pl 30 y):wD (λy=>mQ 30 y x) xs=some (n8 xs x):=by
 obtain⟨b,e,_⟩:=uP xs λt a=>JJ 30 t x (h t a);unfold n8;rw[e];rfl
def W.pl {d:Nat}{x:T}(h:W d x):Pl (d+1) x:=by
 induction h with
 |int d i=>exact trivial
 |str d i=>exact trivial
 |@tup d xs h r a=>exact a
def W.pl30 {d:Nat}{x:T}(h:W d x)(hd:d<=2):Pl 30 x:=h.pl.le 00
noncomputable def Zd:T->List T
 |.tup xs=>xs
 |.non=>[.non]
 |.bl b=>[.bl b]
 |.int b=>[.int b]
 |.str b=>[.str b]
 |.lst b=>[.lst b]
 |.fz b=>[.fz b]
def gG {d:Nat}{x:T}(h:W d x):AT [x]=.ok (.tup (Zd x)):=by cases h<;>rfl
def uQ {d:Nat}{x:T}(h:W d x):(Zd x).length<=3:=by
 cases h with
 |int=>exact(by decide:1<=3)
 |str=>exact(by decide:1<=3)
 |tup h _=>exact h
def yD {d:Nat}{x:T}(h:W d x)(hd:d<=2):∀y∈Zd x,Pl 30 y:=by
 cases h with
 |int=>intro y hy;rw[ax.mp hy];exact trivial
 |str=>intro y hy;rw[ax.mp hy];exact trivial
 |@tup d xs h r=>intro y hy;exact(r y hy).pl30 00
def un (a:List T):Bool:= !(a.zipIdx.any λp=>n8 (a.take p.2) p.1)
def uR {xs:List T}{k:Nat}:Ai (.tup xs) none (some (k:Int))=.ok (.tup (xs.take k)):=by
 show R.ok _=_;have:oJ xs none (some (k))=xs.take k:=by
  unfold oJ;rw[HT.sIx_none,HT.sIx_nat];simp only[eV,Nat.sub_zero];rw[List.take_eq_take_iff];omega
 rw[this]
def vD {a:List T}(h:∀y∈a,Pl 30 y)(k:Nat)(x:T):nA x (.tup (a.take k))=.ok (n8 (a.take k) x):=by
 show (match wD (λy=>mQ 30 y x) _ with|some b=>R.ok b|none=>.bad)=_
 rw[Fq x λy hy=>h y (List.mem_of_mem_take hy)]
abbrev oZ:En->R T:=ZV nA (vB 1) (oD (vE 2) (oE) (Ju 04))
theorem vF {a:List T}(h:∀y∈a,Pl 30 y):∀(qs:List (T×Nat)) (x y:Sl),zq (zS 0 1) Z2 oZ (qs.map λp=>T.tup [.int (p.2:Nat),p.1]) [x,y,.vl (.tup a)]=.ok (qs.map λp=>T.bl (n8 (a.take p.2) p.1))
 |[],_,_=>rfl
 |q::qs,x,y=>by
  have f:=vF h qs (.vl (.int (q.2))) (.vl q.1);have e:oZ [.vl (.int (q.2)),.vl q.1,.vl (.tup a)]=.ok (.bl (n8 (a.take q.2) q.1)):=by
   have c:oD (vE 2) oE (Ju 04) [.vl (.int (q.2)),.vl q.1,.vl (.tup a)]=Ai (.tup a) _ _:=rfl;unfold oZ;rw[Zm,w1,i3,c,uR,i3,vD h,i3]
  have d:zq (zS 0 1) Z2 oZ ((q::qs).map λp=>T.tup [.int (p.2),p.1]) [x,y,.vl (.tup a)]=
   (oZ [.vl _,.vl q.1,.vl _]).bind λv=>(zq _ _ oZ (qs.map λp=>T.tup _) [.vl _,.vl q.1,.vl _]).bind λvs=>.ok _:=rfl
  rw[d,e,i3,f,i3,ao]
theorem uS {a:Type}(p:a->Bool):∀qs:List a,wJ (qs.map λq=>T.bl (p q))=some (qs.any p)
 |[]=>rfl
 |q::qs=>by
  have e:wJ ((q::qs).map λq=>T.bl (p q))=match wJ (qs.map λq=>T.bl _)with|some j=>some _|none=>none:=rfl
  rw[e,uS p qs];rfl
def vG {a:List T}(h:∀y∈a,Pl 30 y)(f:a.length<=100):Dq [.tup a]=.ok (.bl (un a)):=by
 show zn _=_;have d:zo (zS 0 1) Z2 oZ 2 [0] [.vl (.tup a)] (jt a)=.ok (a.zipIdx.map λp=>T.bl (n8 (a.take p.2) p.1)):=by
  unfold zo;rw[if_pos (by unfold jt;rw[ag,lx];have g:mR=16777216:=rfl;omega)]
  show quiet (zq _ _ _ _ [.un,.un,.vl _])=_;unfold jt;rw[vF h];rfl
 rw[CH,zl]
 ·rfl
 ·have e:zE (UT 04) (zS 0 1) Z2 oZ 2 [0] [.vl (.tup a)]=.ok (.lst (a.zipIdx.map λp=>T.bl (n8 (a.take p.2) p.1))):=by
   show ((R.ok _).bind _)=_;rw[i3,d,i3]
  have c:mM BR (zE (UT 04) (zS 0 1) Z2 oZ 2 [0]) [.vl (.tup a)]=.ok (.bl (a.zipIdx.any λp=>n8 (a.take p.2) p.1)):=by
   rw[ZA,e];show (match wJ _ with|some k=>R.ok _|none=>.bad)=_
   rw[uS (λp:T×Nat=>n8 _ p.1)]
  show Vc _ [.vl _]=_;unfold Vc;rw[c];rfl
def xW {d:List T}(h:∀y∈d,Pl 30 y)(B:d.length<=100){a b c:Sl}{ρ:En}:∃r,zo (zB 0) (zu nA (zd i4 (vE 1) 04) (oD (vE 1) (oE) (Ju 04))) 04 1 [3] (a::b::c::.vl (.tup d)::ρ) (rng 0 d.length)=.ok r/\r.isEmpty=un d:=by
 let p:T->Bool:=λt=>match t with
  |.int i=>match d[i.toNat]? with|some w=>n8 (d.take i.toNat) w|none=>false
  |_=>false
 refine⟨(rng 0 _).filter p,j0 _ (by unfold rng;rw[ag,ba];have v:mR=16777216:=rfl;omega) λt j=>?_,?_⟩
 ·obtain⟨k,f,rfl⟩:=ay.mp j;have e:=bu.mp f;refine⟨?_,rfl⟩;show zu nA _ _ [.vl _,.vl _]=_;rw[show (0:Int)+(k)=(k) by omega]
  have o:i4 (.tup d) (.int k)=.ok d[k]:=by
   show nt d k=_;unfold nt;rw[j2 (ah e)]
  have l:oD (vE 1) oE (Ju 04) [.vl (.int (k)),.vl (.tup d)]=Ai (.tup d) _ _:=rfl;rw[zM,zk,v1,i3,v0,i3,o,i3,l,uR,i3,vD h];show _=R.ok (match d[((k:Int)).toNat]? with|some w=>n8 _ w|none=>false)
  rw[a_,ah e]
 ·rw[iN,List.isEmpty_iff,iI];unfold un;rw[lQ,lE];constructor
  ·intro H q u;obtain⟨x,k⟩:=q;have f:=List.mem_zipIdx' u;have:=H _ (by exact ay.mpr ⟨k,bu.mpr f.1,rfl⟩)
   intro g;apply this
   show (match d[((0:Int)+(k)).toNat]? with|some w=>n8 _ w|none=>false)=true
   rw[show ((0:Int)+(k)).toNat=k by omega,ah f.1,←f.2]
   exact g
  ·intro H t j g;obtain⟨k,f,rfl⟩:=ay.mp j;have e:=bu.mp f;have g:(match d[((0:Int)+(k)).toNat]? with|some w=>n8 _ w|none=>false)=true:=g
   rw[show ((0:Int)+(k)).toNat=k by omega,ah e]at g
   exact H _ (List.mk_mem_zipIdx_iff_getElem?.mpr (ah e)) g
noncomputable def Vm (w:Str):T->Bool
 |.str x=>x==w
 |_=>false
def El (w:Str)(n:Nat):∀t:T,mQ n t (.str w)=some (Vm w t)
 |.str x=>by cases n<;>rfl
 |.non=>by cases n<;>rfl
 |.bl _=>by cases n<;>rfl
 |.int _=>by cases n<;>rfl
 |.tup _=>by cases n<;>rfl
 |.lst _=>by cases n<;>rfl
 |.fz _=>by cases n<;>rfl
theorem vH (w:Str):∀ts:List T,wD (λy=>mQ 30 y (.str w)) ts=some (ts.any (Vm w))
 |[]=>rfl
 |t::ts=>by
  have e:wD (λy=>mQ 30 y (.str w)) (t::ts)=match mQ 30 t _ with
   |none=>none
   |some b=>match wD (λy=>mQ 30 y _) ts with
    |none=>none
    |some d=>some _:=rfl
  rw[e,El,vH w ts];rfl
def gH (w:Str)(ts:List T):(ts.filter (Vm w)).isEmpty= !(ts.any (Vm w)):=by
 induction ts with
 |nil=>rfl
 |cons t ts a=>
  rw[iu,hZ];cases Vm w t with
  |true=>rfl
  |false=>rw[if_neg az,a,Bool.false_or]
inductive Ru where
 |sum (a b:Int)|size (a b:Int)|word (w:Str)|rising|unlike|no (r:Ru)|all (r s:Ru)|some (r s:Ru)
def Ru.t:Ru->T
 |.sum a b=>.tup [.str "sum",.int a,.int b]
 |.size a b=>.tup [.str "size",.int a,.int b]
 |.word w=>.tup [.str "word",.str w]
 |.rising=>.tup [.str "rising"]
 |.unlike=>.tup [.str "unlike"]
 |.no r=>.tup [.str "no",r.t]
 |.all r s=>.tup [.str "all",r.t,s.t]
 |.some r s=>.tup [.str "some",r.t,s.t]
inductive jq:Nat->Ru->Prop where
 |sum {d:Nat} {a b:Int} (ha: -50<=a/\a<=50) (hb: -50<=b/\b<=50):jq (d+1) (.sum a b)
 |size {d:Nat} {a b:Int} (ha: -50<=a/\a<=50) (hb: -50<=b/\b<=50):jq (d+1) (.size a b)
 |word {d:Nat} {w:Str} (h:Zs (.str w)=true):jq (d+1) (.word w)
 |rising {d:Nat}:jq (d+1) .rising
 |unlike {d:Nat}:jq (d+1) .unlike
 |no {d:Nat} {r:Ru} (h:jq d r):jq (d+1) (.no r)
 |all {d:Nat} {r s:Ru} (h:jq d r) (h':jq d s):jq (d+1) (.all r s)
 |some {d:Nat} {r s:Ru} (h:jq d r) (h':jq d s):jq (d+1) (.some r s)
def jq.up {d:Nat}{r:Ru}(h:jq d r):jq (d+1) r:=by
 induction h with
 |sum f e=>exact .sum f e
 |size f e=>exact .size f e
 |word h=>exact .word h
 |rising=>exact .rising
 |unlike=>exact .unlike
 |no h c=>exact .no c
 |all h h' c a=>exact .all c a
 |some h h' c a=>exact .some c a
def kp:Ru->T->Bool
 |.sum a b,x=>decide (a<=(ZQ (lv x)).sum)&&decide ((ZQ (lv x)).sum<=b)
 |.size a b,x=>decide (a<=((Zd x).length:Int))&&decide (((Zd x).length:Int)<=b)
 |.word w,x=>(lv x).any (Vm w)
 |.rising,x=>oR (ZQ (lv x))
 |.unlike,x=>un (Zd x)
 |.no r,x=> !kp r x
 |.all r s,x=>kp r x&&kp s x
 |.some r s,x=>kp r x||kp s x
def JK {i:Int}(h: -50<=i/\i<=50):tZ [.int i]=.ok (.bl true):=by
 show zn _=_;rw[By,zl]
 ·rfl
 ·show ZW _ _ [.vl _]=_;rw[jQ,zL,v0,i3,QF,Xy,zU,i3];rw[i3,w0,i3,wK,decide_eq_true h.1,i3,i3,wK,decide_eq_true h.2];rfl
def ZC {x w:Str}{r:List T}{ρ:En}(b:Bool)(h:(x==w)=b):zu mL 03 (cE (.str w)) (.vl (.tup (.str x::r))::ρ)=.ok b:=by rw[n9,h]
def YE {f g:En->R Bool}{ρ:En}{b:Bool}(h:f ρ=.ok false)(h':g ρ=.ok b):nU f g ρ=.ok b:=by rw[Ym,h,i3,if_neg az,h']
def DE {f g:En->R Bool}{ρ:En}(h:f ρ=.ok true):nU f g ρ=.ok true:=by rw[Ym,h,i3,if_pos rfl]
def wM {f g:En->R T}{ρ:En}{r:R T}(h:f ρ=.ok (.bl true))(h':g ρ=r):ZW f g ρ=r:=by rw[jQ,h,Zy,if_pos rfl,h']
def vI {xs:List T}{ρ:En}{n:Int}(h:((xs.length:Int)==n)=true):ZV mL (mM Zw (vB 0)) (cE (.int n)) (.vl (.tup xs)::ρ)=.ok (.bl true):=by
 rw[Zm,ZA,w0,i3,wL,i3,zU,i3,oh,h,i3]
def jj {xs:List T}{d:Nat}{x:T}:nU (zu mL (vB 1) (cE (.int 0))) (nU (WR (jA (mM (wT "tuple") (vB 0)))) (zu mL (mM Zw (vB 0)) (cE (.int 0)))) (mW (.tup (x::xs)) (.int ((d+1:Nat):Int)))=.ok false:=by
 refine YE ?_ (YE ?_ ?_)
 ·rw[zM,w1,i3,zU,i3,oh,beq_eq_false_iff_ne.mpr 00]
 ·rfl
 ·rw[zM,ZA,w0,i3,wL,i3,zU,i3,oh,beq_eq_false_iff_ne.mpr (by rw[aA];omega)]
def xX {w:Str}(h:Zs (.str w)=true):KR (.str w):=by
 have h:(decide _&&decide _&&w.cps.toList.all _)=true:=h;simp only[am,decide_eq_true_eq]at h;exact aC h.1.2 01
theorem Jc:∀(n d:Nat),d<=n->∀r:Ru,jq d r->rS n 0 [r.t,.int (d:Int)]=.ok (.bl true)
 |0,d,h,r,hr=>by
  have:d=0:=by omega
  subst this;cases hr
 |n+1,d,h,r,hr=>by
  show zn (AO pp (rS n 0) tZ (mW r.t (.int (d:Int))))=_;rw[AO];cases hr with
  |@sum d a b g f=>
   rw[Ru.t,zc (zm jj),zv (t:=.bl true)]
   ·rfl
   ·exact zl (wM (vI rfl) (wM (by show zb 1 _ _ (mW _ _)=_;rw[zL,jU,i3,JK g]) (by show zb 1 _ _ (mW _ _)=_;rw[zL,uI,i3,JK f])))
  |@size d a b g f=>
   rw[Ru.t,zc (zm jj),zv (t:=.bl true)]
   ·rfl
   ·exact zl (wM (vI rfl) (wM (by show zb 1 _ _ (mW _ _)=_;rw[zL,jU,i3,JK g]) (by show zb 1 _ _ (mW _ _)=_;rw[zL,uI,i3,JK f])))
  |@word d w j=>
   rw[Ru.t,zc (zm jj),zc (zm (YE (ZC false 01) (ZC false 01))),zv (t:=.bl true)]
   ·rfl
   ·exact zl (wM (vI rfl) (by show zb 1 _ _ (mW _ _)=_;rw[zL,jU,i3,QE _ (xX j),j]))
  |rising=>
   rw[Ru.t,zc (zm jj),zc (zm (YE (ZC false 01) (ZC false 01))),zc (zm (ZC false 01)),zv (t:=.bl true)]
   ·rfl
   ·rw[J8 (DE (ZC true 01))]
    exact zl (vI rfl)
  |unlike=>
   rw[Ru.t,zc (zm jj),zc (zm (YE (ZC false 01) (ZC false 01))),zc (zm (ZC false 01)),zv (t:=.bl true)]
   ·rfl
   ·rw[J8 (YE (ZC false 01) (ZC true 01))]
    exact zl (vI rfl)
  |@no d r hr=>
   have e:=Jc n d 00 r hr
   rw[Ru.t,zc (zm jj),zc (zm (YE (ZC false 01) (ZC false 01))),zc (zm (ZC false 01)),zc (zm (YE (ZC false 01) (ZC false 01))),zv (t:=.bl true)]
   ·rfl
   ·rw[J8 (ZC true 01)]
    exact zl (wM (vI rfl) (by show zb 2 _ _ (mW _ _)=_;rw[zC,jU,i3,zk,v1,i3,zU,i3,Zt,i3,show ((d+1:Nat))-1=(d:Int) by omega,e]))
  |@all d r s hr i=>
   have e:=Jc n d 00 r hr
   have c:=Jc n d 00 s i
   rw[Ru.t,zc (zm jj),zc (zm (YE (ZC false 01) (ZC false 01))),zc (zm (ZC false 01)),zc (zm (YE (ZC false 01) (ZC false 01))),zc (zm (ZC false 01)),zv (t:=.bl true)]
   ·rfl
   ·exact zl (wM (vI rfl) (wM (by show zb 2 _ _ (mW _ _)=_;rw[zC,jU,i3,zk,v1,i3,zU,i3,Zt,i3,show ((d+1:Nat):Int)-1=(d) by omega,e]) (by show zb 2 _ _ (mW _ _)=_;rw[zC,uI,i3,zk,v1,i3,zU,i3,Zt,i3,show ((d+1:Nat):Int)-1=(d) by omega,c])))
  |@some d r s hr i=>
   have e:=Jc n d 00 r hr
   have c:=Jc n d 00 s i
   rw[Ru.t,zc (zm jj),zc (zm (YE (ZC _ 01) (ZC _ 01))),zc (zm (ZC _ 01)),zc (zm (YE (ZC _ 01) (ZC _ 01))),zc (zm (ZC _ 01)),zv]
   ·rfl
   ·exact zl (wM (vI rfl) (wM (by show zb 2 _ _ (mW _ _)=_;rw[zC,jU,i3,zk,v1,i3,zU,i3,Zt,i3,show ((d+1:Nat):Int)-1=(d) by omega,e]) (by show zb 2 _ _ (mW _ _)=_;rw[zC,uI,i3,zk,v1,i3,zU,i3,Zt,i3,show ((d+1:Nat):Int)-1=(d) by omega,c])))
def Ek {f g h:En->R T}{ρ:En}{i j k:Int}(a:f ρ=.ok (.int i))(c:g ρ=.ok (.int j))(d:h ρ=.ok (.int k)):nG mX mX f g h ρ=.ok (.bl (decide (i<=j)&&decide (j<=k))):=by
 rw[QF,a,i3,c,i3,wK,i3];cases decide (i<=j)with
 |true=>rw[if_pos rfl,d,i3,wK,i3,l8]
 |false=>rw[if_neg az,Bool.false_and]
def vJ {r:Ru}{x:T}{d:Nat}(hd:d<=2)(h:W d x)(b:Bool)(hr:(match r with|.no _=>False|.all _ _=>False|.some _ _=>False|_=>True)):rM [r.t,x]=.ok (.bl (kp r x)):=by
 have hn:=Yw hd h;have hp:=gG h;have c:pV 8 [x]=.ok (.lst (lv x)):=wv 8 d 00 00 x h
 have hi:=aC (WK _) (w9 hd h);show zn (Bb AT (pV 8) Ah _ _ (mW r.t x))=_;rw[Bb];cases r with
 |sum a b=>
  rw[zv]
  ·rfl
  ·refine zl ?_;show nG _ _ _ _ _ (mW _ x)=_;exact Ek jU (by rw[ZA,zL,v1,i3,hn,i3,Ii]) uI
 |size a b=>
  rw[Ru.t,zc (zm (ZC _ 01)),zv]
  ·rfl
  ·rw[J8 (ZC _ 01)]
   refine zl ?_;show nG _ _ _ _ _ (mW _ x)=_;exact Ek jU (by rw[ZA,zL,v1,i3,hp,i3,wL]) uI
 |word w=>
  rw[Ru.t,zc (zm (ZC false 01)),zc (zm (ZC false 01)),zv]
  ·rfl
  ·rw[J8 (ZC true 01)]
   refine zl ?_;show ZV _ _ _ (mW _ x)=_;rw[Zm,jU,i3,zL,v1,i3,c];show ((match wD (λy=>mQ 30 y (.str w)) (lv x)with|some b=>R.ok b|none=>.bad).bind _)=_
   rw[vH];rfl
 |rising=>
  rw[Ru.t,zc (zm (ZC false 01)),zc (zm (ZC _ 01)),zc (zm (ZC _ 01)),zv (t:=.bl (kp _ x))]
  ·rfl
  ·rw[J8 (ZC true 01)]
   refine zl ?_;show zb 1 _ _ (mW _ x)=_;rw[zL,zL,v1,i3,hn,i3,vv _ 00]
   rfl
 |unlike=>
  rw[Ru.t,zc (zm (ZC false 01)),zc (zm (ZC _ 01)),zc (zm (ZC false 01)),zc (zm (ZC _ 01)),zl]
  ·rfl
  ·show zb 1 _ _ (mW _ x)=_;rw[zL,zL,v1,i3,hp,i3,vG (yD h hd) (aC (uQ h) 00)]
   rfl
 |no=>exact hr.elim
 |all=>exact hr.elim
 |some=>exact hr.elim
def vK {f:En->R T}{ρ:En}{b:Bool}(h:f ρ=.ok (.bl b)):Vc f ρ=.ok (.bl (!b)):=by unfold Vc;rw[h];rfl
def WL {f g:En->R T}{ρ:En}{a b:Bool}(h:f ρ=.ok (.bl a))(h':g ρ=.ok (.bl b)):ZW f g ρ=.ok (.bl (a&&b)):=by
 rw[jQ,h,h'];cases a<;>rfl
def XJ {f g:En->R T}{ρ:En}{a b:Bool}(h:f ρ=.ok (.bl a))(h':g ρ=.ok (.bl b)):rh f g ρ=.ok (.bl (a||b)):=by
 unfold rh;rw[h];cases a with
 |true=>rfl
 |false=>exact h'
theorem Jd {x:T}{e:Nat}(j:e<=2)(g:W e x):∀(n d:Nat),d<=n->∀r:Ru,jq d r->oU n 0 [r.t,x]=.ok (.bl (kp r x))
 |0,d,h,r,hr=>by
  have:d=0:=by omega
  subst this;cases hr
 |n+1,d,h,r,hr=>by
  show zn (AW (oU n 0) rM (mW r.t x))=_;rw[AW];have c:∀(r:Ru) (s:Str) (q:List T),r.t=.tup (.str s::q)->(s=="no")=false->(s=="all")=false->(s=="some")=false->(match r with|.no _=>False|.all _ _=>False|.some _ _=>False|_=>True)->
    zn (zp (mT (zu mL 03 (cE (.str "no"))) (zw (Vc (zb 2 (oU n 0) (za (zd i4 04 02) 05)))) (mS))
  (zp (mT (zu mL 03 (cE (.str "all"))) (zw (ZW (zb 2 (oU n 0) (za (zd i4 04 02) 05)) (zb 2 (oU n 0) (za 000 05)))) (mS))
  (zp (mT (zu mL 03 (cE (.str "some"))) (zw (rh (zb 2 (oU n 0) (za (zd i4 04 02) 05)) (zb 2 (oU n 0) (za 000 05)))) (mS))
  (zw (zb 2 rM (za 04 05))))) (mW r.t x))=.ok (.bl (kp r x)):=by
   intro r s q e p l u o;have i:=vJ j g true o;rw[e]at i⊢;rw[zc (zm (ZC _ p)),zc (zm (ZC false l)),zc (zm (ZC _ u)),zl]
   ·rfl
   ·show zb 2 _ _ (mW _ x)=_;rw[zC,v0,i3,v1,i3,i]
  cases hr with
  |@sum d a b y v=>exact c (.sum a b) "sum" _ rfl 01 01 01 trivial
  |@size d a b y v=>exact c _ "size" _ rfl 01 01 01 trivial
  |@word d w B=>exact c _ _ _ rfl 01 01 01 trivial
  |rising=>exact c .rising _ _ rfl 01 01 01 trivial
  |unlike=>exact c .unlike _ _ rfl 01 01 01 trivial
  |@no d r hr=>
   have k:=Jd j g n d 00 r hr
   rw[Ru.t,zv]
   ·rfl
   ·exact zl (vK (by show zb 2 _ _ (mW _ x)=_;rw[zC,jU,i3,v1,i3,k]))
  |@all d r s hr i=>
   have k:=Jd j g n d 00 r hr
   have f:=Jd j g n d 00 s i
   rw[Ru.t,zc (zm (ZC _ 01)),zv]
   ·rfl
   ·exact zl (WL (by show zb 2 _ _ (mW _ x)=_;rw[zC,jU,i3,v1,i3,k]) (by show zb 2 _ _ (mW _ x)=_;rw[zC,uI,i3,v1,i3,f]))
  |@some d r s hr i=>
   have k:=Jd j g n d 00 r hr
   have f:=Jd j g n d 00 s i
   rw[Ru.t,zc (zm (ZC _ 01)),zc (zm (ZC _ 01)),zv]
   ·rfl
   ·exact zl (XJ (by show zb 2 _ _ (mW _ x)=_;rw[zC,jU,i3,v1,i3,k]) (by show zb 2 _ _ (mW _ x)=_;rw[zC,uI,i3,v1,i3,f]))
abbrev lk (r x a b:T):En:=[.vl r,.vl x,.vl a,.vl b,.un,.un,.un]
def np {x w:Str}{r:List T}{y a b:T}(c:Bool)(h:(x==w)=c):zu mL 03 (cE (.str w)) (lk (.tup (.str x::r)) y a b)=.ok c:=ZC c h
theorem yE {r x a b:T}{z:Sl}:∀(c:List Int) (m:Int) (y:Sl),∃d,ZJ (zB 5) (zG 4 (zd zA (vE 4) (vE 5))) (c.map T.int) [.vl r,.vl x,.vl a,.vl b,.vl (.int m),y,z]=.nx [.vl r,.vl x,.vl a,.vl b,.vl (.int (m+c.sum)),d,z]
 |[],m,y=>⟨y,by rw[List.sum_nil,Int.add_zero];rfl⟩
 |i::c,m,y=>by
  obtain⟨d,h⟩:=yE (r:=r) (x:=x) (a:=a) (b:=b) (z:=z) c (m+i) (.vl (.int i));refine⟨d,?_⟩;have e:zB 5 (.int i) [.vl r,.vl x,.vl a,.vl b,.vl (.int m),y,z]=.ok [.vl r,.vl x,.vl a,.vl b,.vl (.int m),.vl (.int i),z]:=rfl;have b2:zG 4 (zd zA (vE 4) (vE 5)) [.vl r,.vl x,.vl a,.vl b,.vl (.int m),.vl (.int i),z]=.nx [.vl r,.vl x,.vl a,.vl b,.vl (.int (m+i)),.vl (.int i),z]:=rfl;rw[ao,ji e b2,h,bK,Int.add_assoc]
def C9 {f g:En->R T}{ρ:En}{i j:Int}(a:f ρ=.ok (.int i))(c:g ρ=.ok (.int j)):ZV mX f g ρ=.ok (.bl (decide (i<=j))):=by rw[Zm,a,i3,c,i3,wK,i3]
def Cu {f g:En->R T}{ρ:En}{i j:Int}(a:f ρ=.ok (.int i))(c:g ρ=.ok (.int j)):ZV pW f g ρ=.ok (.bl (decide (j<=i))):=by
 rw[Zm,a,i3,c,i3];rfl
def uT {r x a b:T}:frz (lk r x a b)=lk r x a b:=rfl
theorem j3 {x:T}{e:Nat}(l:e<=2)(f:W e x):∀(n d:Nat),d<=n->∀r:Ru,jq d r->nR n 0 [r.t,x]=.ok (.bl (kp r x))
 |0,d,h,r,hr=>by
  have:d=0:=by omega
  subst this;cases hr
 |n+1,d,h,r,hr=>by
  show zn (AB (sJ 8) (nR n 0) [.vl r.t,.vl x,.un,.un,.un,.un,.un])=_;have G:sJ 8 [x]=.ok (.lst (lv x)):=yB 8 e 00 00 x f
  have S:=w9 l f;have hB:mR=16777216:=rfl;have hi:(ZQ (lv x)).length<=9:=aC (WK _) S;have P:zG 2 (zE (Zj (zb 1 (sJ 8) 05)) (zB 0) (jA (mM (wT "int") (vB 0))) 04 1 []) [.vl r.t,.vl x,.un,.un,.un,.un,.un]=.nx [.vl r.t,.vl x,.vl 001,.un,.un,.un,.un]:=by
   have g:zo (zB 0) (jA (mM (wT "int") (vB 0))) 04 1 [] [.vl r.t,.vl x,.un,.un,.un,.un,.un] (lv x)=.ok ((lv x).filter B8):=
    j0 _ 00 λt C=>⟨by cases EE f t C<;>rfl,rfl⟩
   rw[zK (t:=.lst ((ZQ (lv x)).map T.int))]
   ·rfl
   ·rw[zF,ZF,zL,v1,i3,G,i3];show ((zo _ _ _ _ _ _ (lv x)).bind _)=_;rw[g,i3,ww]
  have I:zG 3 (nC (jA (mM (wT "tuple") (vB 1))) (vE 1) (Zq 05)) [.vl r.t,.vl x,.vl 001,.un,.un,.un,.un]=.nx (lk r.t x 001 (.tup (Zd x))):=by
   cases f<;>rfl
  rw[AB,zc P,zc I];cases hr with
  |@sum d a b U Q=>
   obtain⟨D,F⟩:=yE (r:=(Ru.sum a b).t) (x:=x) (a:=.lst ((ZQ (lv x)).map T.int)) (b:=.tup (Zd x)) (z:=.un) (ZQ (lv x)) 0 .un;rw[iG]at F;have p:zG 4 (cE (.int 0)) (lk (Ru.sum a b).t x 001 (.tup (Zd x)))=.nx [.vl (Ru.sum a b).t,.vl x,.vl 001,.vl (.tup (Zd x)),.vl (.int 0),.un,.un]:=rfl;have X:j5 (Zj (vE 2)) (zB 5) (zG 4 (zd zA (vE 4) (vE 5))) [.vl (Ru.sum a b).t,.vl x,.vl 001,.vl (.tup (Zd x)),.vl (.int 0),.un,.un]=.nx [.vl (Ru.sum a b).t,.vl x,.vl 001,.vl (.tup (Zd x)),.vl (.int (ZQ (lv x)).sum),D,.un]:=by
    unfold j5;rw[ZF,v2,i3];exact F
   rw[zv (t:=.bl (kp (.sum a b) x))]
   ·rfl
   ·rw[J8 (by rw[Ru.t];exact np true 01),zc p,zc X,zl (t:=.bl (kp (.sum a b) x))]
    show ZW _ _ [.vl (Ru.sum a b).t,.vl x,.vl 001,.vl (.tup (Zd x)),.vl (.int (ZQ (lv x)).sum),sj D,.un]=_;rw[Ru.t];exact WL (C9 jU rfl) (C9 rfl uI)
  |@size d a b U Q=>
   rw[Ru.t,zc (zm (np false 01)),zv (t:=.bl (kp (.size a b) x))]
   ·rfl
   ·rw[J8 (np true 01),zl (t:=.bl (kp (.size a b) x))]
    rw[uT];exact WL (Cu (i:=((Zd x).length:Int)) rfl jU) (C9 (i:=((Zd x).length:Int)) rfl uI)
  |@word d w Z=>
   rw[Ru.t,zc (zm (np false 01)),zc (zm (np false 01)),zv (t:=.bl (kp (.word w) x))]
   ·rfl
   ·rw[J8 (np true 01),zl (t:=.bl (kp (.word w) x))]
    rw[uT];have g:zo (zB 0) (zu mL (vB 0) (zd i4 (vE 1) 02)) 04 1 [0] (lk (.tup [.str "word",.str w]) x 001 (.tup (Zd x))) (lv x)=.ok ((lv x).filter (Vm w)):=
     j0 _ 00 λt C=>⟨by
      show zu mL (vB 0) (zd i4 (vE 1) 02) [.vl t,.vl (.tup [.str "word",.str w])]=_;rw[zM,w0,i3,zk,v1,i3,zU,i3,pG,i3];unfold mL;rw[El],rfl⟩
    rw[Zm,zF,ZF,zL,v1,i3,G,i3];show (((zo _ _ _ _ _ _ (lv x)).bind _).bind _)=_;rw[g,i3,i3,show j7 ze (lk (.tup [.str "word",.str w]) x 001 (.tup (Zd x)))=.ok (.lst []) from rfl,i3];have N:nq (.lst ((lv x).filter (Vm w))) (.lst [])=.ok (!((lv x).filter (Vm w)).isEmpty):=by cases (lv x).filter (Vm w)<;>rfl
    rw[N,i3,gH,Bool.not_not];rfl
  |rising=>
   rw[Ru.t,zc (zm (np false 01)),zc (zm (np false 01)),zc (zm (np false 01)),zv (t:=.bl (kp .rising x))]
   ·rfl
   ·rw[J8 (np true 01),zl (t:=.bl (kp .rising x))]
    rw[uT,Zm,ZA,w2,i3,i3,Wq _ 00,i3,vC,i3]
    rfl
  |unlike=>
   rw[Ru.t,zc (zm (np false 01)),zc (zm (np false 01)),zc (zm (np false 01)),zc (zm (np false 01)),zv (t:=.bl (kp .unlike x))]
   ·rfl
   ·rw[J8 (np true 01),zl (t:=.bl (kp .unlike x))]
    rw[uT];have O:=uQ f;obtain⟨q,J,L⟩:=xW (yD f l) 00 (a:=.vl (.tup [.str "unlike"])) (b:=.vl x) (c:=.vl 001) (ρ:=[.un,.un,.un])
    have M:ZI (mM Zw (vB 3)) (lk (.tup [.str "unlike"]) x 001 (.tup (Zd x)))=.ok (rng 0 (Zd x).length):=by
     rw[WH (j:=((Zd x).length:Int)) rfl ⟨by omega,by omega⟩,a_]
    rw[Zm,zF,M,i3,J,i3,i3,show j7 ze (lk (.tup [.str "unlike"]) x 001 (.tup (Zd x)))=.ok (.lst []) from rfl,i3,EM,i3,L];rfl
  |@no d r hr=>
   have o:=j3 l f n d 00 r hr
   rw[Ru.t,zc (zm (np false 01)),zc (zm (np false 01)),zc (zm (np false 01)),zc (zm (np false 01)),zc (zm (np false 01)),zv (t:=.bl (kp (.no r) x))]
   ·rfl
   ·rw[J8 (np true 01),zl (t:=.bl (kp (.no r) x))]
    rw[uT];exact vK (by rw[zC,jU,i3,v1,i3,o])
  |@all d r s hr B=>
   have o:=j3 l f n d 00 r hr
   have k:=j3 l f n d 00 s B
   have p:zG 6 (zE (Zj (oD 04 (Ju 02) (oE))) (zB 0) (Z2) (zb 2 (nR n 0) (za 04 05)) 1 [1]) (lk (.tup [.str "all",r.t,s.t]) x 001 (.tup (Zd x)))=.nx [.vl (.tup [.str "all",r.t,s.t]),.vl x,.vl 001,.vl (.tup (Zd x)),.un,.un,.vl (.lst [.bl (kp r x),.bl (kp s x)])]:=by
    rw[zK (t:=.lst [.bl (kp r x),.bl (kp s x)])]
    ·rfl
    ·rw[zF];show ((zo (zB 0) Z2 (zb 2 (nR n 0) (za 04 05)) 1 [1] (lk (.tup [.str "all",r.t,s.t]) x 001 (.tup (Zd x))) [r.t,s.t]).bind _)=_;have g:zo (zB 0) Z2 (zb 2 (nR n 0) (za 04 05)) 1 [1] (lk (.tup [.str "all",r.t,s.t]) x 001 (.tup (Zd x))) [r.t,s.t]=.ok [.bl (kp r x),.bl (kp s x)]:=by
      unfold zo;rw[if_pos (by show 2<=mR;omega)]
      have y:zb 2 (nR n 0) (za 04 05) [.vl r.t,.vl x]=.ok (.bl (kp r x)):=by rw[zC,v0,i3,v1,i3,o]
      have u:zb 2 (nR n 0) (za 04 05) [.vl s.t,.vl x]=.ok (.bl (kp s x)):=by rw[zC,v0,i3,v1,i3,k]
      show quiet ((zb 2 (nR n 0) (za 04 05) [.vl r.t,.vl x]).bind λv=>((zb 2 (nR n 0) (za 04 05) [.vl s.t,.vl x]).bind λv=>(R.ok []).bind λvs=>.ok (v::vs)).bind λvs=>.ok (v::vs))=_;rw[y,u];rfl
     rw[g,i3]
   rw[Ru.t,zc (zm (np false 01)),zc (zm (np false 01)),zc (zm (np false 01)),zc (zm (np false 01)),zc (zm (np false 01)),zc (zm (np false 01)),zc p,zl (t:=.bl (kp (.all r s) x))]
   ·rfl
   ·show nC _ _ _ [.vl (.tup [.str "all",r.t,s.t]),.vl x,.vl 001,.vl (.tup (Zd x)),.un,.un,.vl (.lst [.bl (kp r x),.bl (kp s x)])]=_;unfold nC;rw[ZC true 01,i3,if_pos rfl]
    exact WL rfl rfl
  |@some d r s hr B=>
   have o:=j3 l f n d 00 r hr
   have k:=j3 l f n d 00 s B
   have p:zG 6 (zE (Zj (oD 04 (Ju 02) (oE))) (zB 0) (Z2) (zb 2 (nR n 0) (za 04 05)) 1 [1]) (lk (.tup [.str "some",r.t,s.t]) x 001 (.tup (Zd x)))=.nx [.vl (.tup [.str "some",r.t,s.t]),.vl x,.vl 001,.vl (.tup (Zd x)),.un,.un,.vl (.lst [.bl (kp r x),.bl (kp s x)])]:=by
    rw[zK (t:=.lst [.bl (kp r x),.bl (kp s x)])]
    ·rfl
    ·rw[zF];show ((zo (zB 0) Z2 (zb 2 (nR n 0) (za 04 05)) 1 [1] (lk (.tup [.str "some",r.t,s.t]) x 001 (.tup (Zd x))) [r.t,s.t]).bind _)=_;have g:zo (zB 0) Z2 (zb 2 (nR n 0) (za 04 05)) 1 [1] (lk (.tup [.str "some",r.t,s.t]) x 001 (.tup (Zd x))) [r.t,s.t]=.ok [.bl (kp r x),.bl (kp s x)]:=by
      unfold zo;rw[if_pos (by show 2<=mR;omega)]
      have y:zb 2 (nR n 0) (za 04 05) [.vl r.t,.vl x]=.ok (.bl (kp r x)):=by rw[zC,v0,i3,v1,i3,o]
      have u:zb 2 (nR n 0) (za 04 05) [.vl s.t,.vl x]=.ok (.bl (kp s x)):=by rw[zC,v0,i3,v1,i3,k]
      show quiet ((zb 2 (nR n 0) (za 04 05) [.vl r.t,.vl x]).bind λv=>((zb 2 (nR n 0) (za 04 05) [.vl s.t,.vl x]).bind λv=>(R.ok []).bind λvs=>.ok (v::vs)).bind λvs=>.ok (v::vs))=_;rw[y,u];rfl
     rw[g,i3]
   rw[Ru.t,zc (zm (np false 01)),zc (zm (np false 01)),zc (zm (np false 01)),zc (zm (np false 01)),zc (zm (np false 01)),zc (zm (np false 01)),zc p,zl (t:=.bl (kp (.some r s) x))]
   ·rfl
   ·show nC _ _ _ [.vl (.tup [.str "some",r.t,s.t]),.vl x,.vl 001,.vl (.tup (Zd x)),.un,.un,.vl (.lst [.bl (kp r x),.bl (kp s x)])]=_;unfold nC;rw[ZC false 01,i3,if_neg az]
    exact XJ rfl rfl
abbrev lr (ns:List Int)(k:Int)(d:Nat)(p:Int)(a b:Sl):En:=[.vl (mU ns),.vl (.int k),.vl (.int (d:Int)),.vl (.int p),a,b]
def vL {ns:List Int}{k:Int}{d:Nat}{p:Int}{a b:Sl}{j m q:Int}(h:nu [mU ns,.int (k+j),.int m]=.ok (.int q)):zb 3 nu (za 04 (za (zd zA (vE 1) (cE (.int j))) (za (cE (.int m)) (ze)))) (lr ns k d p a b)=.ok (.int q):=by
 rw[Zi,v0,i3,zk,v1,i3,zU,i3,Z1,i3,zU,i3,h]
theorem JL (ns:List Int):∀(n d:Nat),d<=n->1<=d->∀k:Int,0<=k->∃r:Ru,ph n 0 [mU ns,.int k,.int (d:Int)]=.ok r.t/\jq d r
 |0,d,h,h1,k,hk=>by omega
 |n+1,d,h,h1,k,hk=>by
  obtain⟨p,hp,p0,p9⟩:=zN ns k 9 hk 00
  have e1:zG 3 (zb 3 nu (za 04 (za (vE 1) (za (cE (.int 9)) (ze))))) [.vl (mU ns),.vl (.int k),.vl (.int (d:Int)),.un,.un,.un]=.nx (lr ns k d p .un .un):=by
   rw[zK (t:=.int p)]
   ·rfl
   ·rw[Zi,v0,i3,v1,i3,zU,i3,hp]
  have e:ph (n+1) 0 [mU ns,.int k,.int (d:Int)]=zn (Ac nu (ph n 0) [.vl (mU ns),.vl (.int k),.vl (.int (d:Int)),.un,.un,.un]):=rfl;rw[e,Ac,zc e1];have i:GW (zu nZ (vB 2) 02) (zu nZ (vB 3) (cE (.int 5))) (lr ns k d p .un .un)=.ok (decide (1<d)&&decide (5<p)):=by
   rw[KU,zM,w2,i3,zU,i3,gE,i3,show decide ((1:Int)<(d:Int))=decide (1<d) by rw[iN,decide_eq_true_eq,decide_eq_true_eq];omega]
   cases decide (1<d)with
   |true=>rw[if_pos rfl,zM,w3,i3,zU,i3,gE,l8]
   |false=>rfl
  by_cases hb:1<d/\5<p
  ·rw[decide_eq_true hb.1,decide_eq_true hb.2]at i;obtain⟨d,rfl⟩:∃L,d=L+1:=⟨d-1,by omega⟩
   obtain⟨a,J,I⟩:=JL ns n d 00 00 (2*k+11) 00
   obtain⟨o,M,o2⟩:=JL ns n d 00 00 (2*k+24) 00
   have X:Z5 (.int 2) (.int k)=.ok (.int (2*k)):=Yr _ _ (.inl ⟨by decide,by decide⟩)
   have l:zG 4 (zb 3 (ph n 0) (za 04 (za (zd zA (zd Z5 (cE (.int 2)) (vE 1)) (cE (.int 11))) (za (zd Jj (vE 2) 02) (ze))))) (lr ns k (d+1) p .un .un)=.nx (lr ns k (d+1) p (.vl a.t) .un):=by
    rw[zK (t:=a.t)]
    ·rfl
    ·rw[Zi,v0,i3,zk,zk,zU,i3,v1,i3,X,i3,zU,i3,Z1,i3,zk,v2,i3,zU,i3,Zt,i3,show ((d+1:Nat):Int)-1=(d:Int) by omega,J]
   have S:zb 3 (ph n 0) (za 04 (za (zd zA (zd Z5 (cE (.int 2)) (vE 1)) (cE (.int 24))) (za (zd Jj (vE 2) 02) (ze)))) (lr ns k (d+1) p (.vl a.t) .un)=.ok o.t:=by
    rw[Zi,v0,i3,zk,zk,zU,i3,v1,i3,X,i3,zU,i3,Z1,i3,zk,v2,i3,zU,i3,Zt,i3,show ((d+1:Nat):Int)-1=(d:Int) by omega,M]
   by_cases U:p=6
   ·subst U;refine⟨.no a,?_,.no I⟩;rw[zv (t:=(Ru.no a).t)]
    ·rfl
    ·rw[J8 i,zc l,zv (t:=(Ru.no a).t)];rw[J8 rfl,Ru.t];exact zl (YC rfl rfl)
   ·have v:zu mL (vB 3) (cE (.int 6)) (lr ns k (d+1) p (.vl a.t) .un)=.ok false:=by
     rw[zM,w3,i3,zU,i3,oh,beq_eq_false_iff_ne.mpr U]
    by_cases h7:p=7
    ·subst h7;refine⟨.all a o,?_,.all I o2⟩;rw[zv (t:=(Ru.all a o).t)]
     ·rfl
     ·rw[J8 i,zc l,zc (zm v),Ru.t];exact zl (G9 rfl rfl S)
    ·have h8:p=8:=by omega
     subst h8;refine⟨.some a o,?_,.some I o2⟩;rw[zv (t:=(Ru.some a o).t)]
     ·rfl
     ·rw[J8 i,zc l,zc (zm v),Ru.t];exact zl (G9 rfl rfl S)
  ·have i:GW (zu nZ (vB 2) 02) (zu nZ (vB 3) (cE (.int 5))) (lr ns k d p .un .un)=.ok false:=by
    rw[i];congr 1
    rw[Bool.and_eq_false_iff,decide_eq_false_iff_not,decide_eq_false_iff_not];omega
   obtain⟨d,rfl⟩:∃L,d=L+1:=⟨d-1,by omega⟩
   obtain⟨q,hq,q0,q9⟩:=zN ns (k+1) 9 00 00
   have l:zG 5 (zd Jj (zb 3 nu (za 04 (za (zd zA (vE 1) 02) (za (cE (.int 9)) (ze))))) (cE (.int 4))) (lr ns k (d+1) p .un .un)=.nx (lr ns k (d+1) p .un (.vl (.int (q-4)))):=by
    rw[zK (t:=.int (q-4))]
    ·rfl
    ·rw[zk,vL hq,i3,zU,i3,Zt]
   rw[zc (zm i),zc l];have C:∃m:Nat,m<6/\zd jr (vE 3) (cE (.int 6)) (lr ns k (d+1) p .un (.vl (.int (q-4))))=.ok (.int (m:Int)):=by
    obtain⟨w,rfl⟩:=cH p0;exact⟨w%6,lA _ 00,by rw[zk,v3,i3,zU,i3];exact ve (c:=6) 00⟩
   obtain⟨m,m6,C⟩:=C;have Z:zu oB (zd jr (vE 3) (cE (.int 6))) (cE (.int 2)) (lr ns k (d+1) p .un (.vl (.int (q-4))))=.ok (decide (m<2)):=by
    rw[zM,C,i3,zU,i3,Dg];congr 1;rw[iN,decide_eq_true_eq,decide_eq_true_eq];omega
   have tk:∀j:Nat,zu mL (zd jr (vE 3) (cE (.int 6))) (cE (.int (j:Int))) (lr ns k (d+1) p .un (.vl (.int (q-4))))=.ok (m==j):=λj=>by
    rw[zM,C,i3,zU,i3,oh,QT]
   have x:zu mL (zd jr (vE 3) (cE (.int 6))) (cE (.int 2)) (lr ns k (d+1) p .un (.vl (.int (q-4))))=.ok (m==2):=tk 2;have y:zu mL (zd jr (vE 3) (cE (.int 6))) (cE (.int 3)) (lr ns k (d+1) p .un (.vl (.int (q-4))))=.ok (m==3):=tk 3;have B:zu mL (zd jr (vE 3) (cE (.int 6))) (cE (.int 4)) (lr ns k (d+1) p .un (.vl (.int (q-4))))=.ok (m==4):=tk 4
   by_cases Q:m<2
   ·obtain⟨u,D,u0,u5⟩:=zN ns (k+2) 5 00 00
    refine⟨.sum (q-4) (q-4+u-1),?_,.sum ⟨by omega,by omega⟩ ⟨by omega,by omega⟩⟩
    rw[zv (t:=(Ru.sum (q-4) (q-4+u-1)).t)]
    ·rfl
    ·rw[J8 (by rw[Z,decide_eq_true Q]),Ru.t]
     refine zl (G9 rfl rfl ?_);show zd Jj _ _ (lr ns k (d+1) p .un (.vl (.int (q-4))))=_;rw[zk,zk,vL D,show vE 5 (lr ns k (d+1) p .un (.vl (.int (q-4))))=.ok (.int (q-4)) from rfl,i3,i3,Z1,i3,zU,i3,Zt]
   rw[zc (zm (by rw[Z,decide_eq_false Q]))]
   by_cases h3:m=2
   ·subst h3;obtain⟨f,g,O,N⟩:=zN ns (k+1) 3 00 00
    obtain⟨u,D,u0,u4⟩:=zN ns (k+2) 4 00 00
    refine⟨.size f u,?_,.size ⟨by omega,by omega⟩ ⟨by omega,by omega⟩⟩
    rw[zv (t:=(Ru.size f u).t)]
    ·rfl
    ·rw[J8 x,Ru.t];exact zl (G9 rfl (vL g) (vL D))
   rw[zc (zm (by rw[x,beq_eq_false_iff_ne.mpr h3]))]
   by_cases h4:m=3
   ·subst h4;obtain⟨f,g,O,N⟩:=zN ns (k+1) 4 00 00
    have F:∃w:Str,Zs (.str w)=true/\i4 (.lst [.str "a",.str "b",.str "ab",.str "zz"]) (.int f)=.ok (.str w):=by
     have G:f=0\/f=1\/f=2\/f=3:=by omega
     rcases G with rfl|rfl|rfl|rfl
     ·exact⟨"a",by decide,rfl⟩
     ·exact⟨"b",by decide,rfl⟩
     ·exact⟨"ab",by decide,rfl⟩
     ·exact⟨"zz",by decide,rfl⟩
    obtain⟨w,F,hx⟩:=F;refine⟨.word w,?_,.word F⟩;rw[zv (t:=(Ru.word w).t)]
    ·rfl
    ·rw[J8 y,Ru.t];refine zl (YC rfl ?_);show zd i4 _ _ (lr ns k (d+1) p .un (.vl (.int (q-4))))=_;rw[zk,vL g];exact hx
   rw[zc (zm (by rw[y,beq_eq_false_iff_ne.mpr h4]))]
   by_cases P:m=4
   ·subst P;refine⟨.rising,?_,.rising⟩;rw[zl (t:=Ru.rising.t)]
    ·rfl
    ·show nC _ _ _ (lr ns k (d+1) p .un (.vl (.int (q-4))))=_;unfold nC;rw[B,i3];rfl
   ·refine⟨.unlike,?_,.unlike⟩;rw[zl (t:=Ru.unlike.t)]
    ·rfl
    ·show nC _ _ _ (lr ns k (d+1) p .un (.vl (.int (q-4))))=_;unfold nC;rw[B,i3,beq_eq_false_iff_ne.mpr P];rfl
def vM {k:Kd}(a:k.Ok 3){x:T}(c:x∈k.all):W 2 x:=Cj 2 k x a ((ZB k x).mp c)
def W6 {x:T}(a:W 2 x){r:Ru}(hr:jq 3 r):sk 8 [r.t,x]=.ok (.bl (kp r x)):=Jd 00 a 8 3 00 r hr
noncomputable def mP (q:Rat):T:=.tup [.int q.num,.int q.den]
def gI {b:Nat}:nq (.int (b:Int)) (.int 0)=.ok (!(b==0)):=by
 show R.ok _=_;congr 2
 cases b with
 |zero=>rfl
 |succ n=>
  rw[show ((n+1==0)=false) from rfl,beq_eq_false_iff_ne];omega
def yF {g:En->R Bool}{a:En->RS}{n:Nat}{ρ ρ':En}(h:g ρ=.ok true)(c:a ρ=.nx ρ'):Zr g a (n+1) ρ=Zr g a n ρ':=by
 show (g ρ).s _=_;rw[h,ZZ,if_pos rfl,c]
def vN {g:En->R Bool}{a:En->RS}{n:Nat}{ρ:En}(h:g ρ=.ok false):Zr g a (n+1) ρ=.nx ρ:=by
 show (g ρ).s _=_;rw[h,ZZ,if_neg az]
def sA {a b:Nat}(h:1<=b):jr (.int (a:Int)) (.int (b:Int))=.ok (.int ((a%b:Nat):Int)):=ve h
abbrev DU:En->RS:=zp (zG 2 (zd jr 04 (vE 1))) (zp (zG 0 (vE 1)) (zG 1 (vE 2)))
theorem vO:∀(n b a:Nat) (x:Sl),b<n->∃c,Zr (zu nq (vB 1) (cE (.int 0))) DU n [.vl (.int (a:Int)),.vl (.int (b:Int)),x]=.nx [.vl (.int ((fO a b:Nat):Int)),.vl (.int 0),c]
 |0,b,a,x,h=>by omega
 |n+1,0,a,x,h=>⟨x,by
  rw[lC];rfl⟩
 |n+1,b+1,a,x,h=>by
  have e:DU [.vl (.int (a)),.vl (.int ((b+1:Nat))),x]=.nx [.vl (.int ((b+1:Nat))),.vl (.int ((a%(b+1):Nat))),.vl (.int ((a%(b+1)):Int))]:=by
   have f:zG 2 (zd jr 04 (vE 1)) [.vl (.int (a)),.vl (.int ((b+1:Nat))),x]=.nx [.vl (.int (a)),.vl (.int ((b+1):Int)),.vl (.int ((a%(b+1):Nat)))]:=by
    rw[zK]
    ·rfl
    ·rw[zk,v0,i3,v1,i3,sA 00]
   show zp _ _ _=_;rw[zc f];rfl
  have d:a%(b+1)<n:=by have:=lA a (show b+1>0 by omega);omega
  obtain⟨c,g⟩:=vO n _ _ _ d;refine⟨c,?_⟩;rw[yF (show zu nq (vB 1) (cE (.int 0)) [.vl _,.vl (.int ((b+1:Nat))),x]=.ok _ from gI) e,g,fP _,←Nat.gcd_rec,fP]
def gJ {a b:Nat}(h:b<2^9000):AY [.int (a:Int),.int (b:Int)]=.ok (.int ((fO a b:Nat):Int)):=by
 obtain⟨d,c⟩:=vO _ b a .un h;show zn (tO [.vl _,.vl _,.un])=_;unfold tO;rw[zc c];rfl
def IW (u:Int):A3 (.int u)=.ok (.int (u.natAbs:Int)):=by
 show R.ok _=_;congr 2
 split<;>omega
def yG {u:Int}{g:Nat}(a:1<=g)(h:g<2^9000):Xo (.int u) (.int (g:Int))=.ok (.int (u/(g:Int))):=by
 show (if _ then _ else _)=_
 rw[if_pos];refine⟨by omega,?_⟩
 exact(Nat.log2_lt 00).mpr h
def gK (u:Int)(d:Nat)(h:1<=d):(mkRat u d).num=u/((fO u.natAbs d:Nat):Int)/\(((mkRat u d).den:Nat):Int)=(d:Int)/((fO u.natAbs d:Nat):Int):=by
 rw[i8,i9,if_neg 00,if_neg 00,fP d]
 exact⟨rfl,Int.natCast_ediv _ _⟩
def gL {u:Int}{d:Nat}(h:1<=d):1<=fO u.natAbs d/\fO u.natAbs d<=d:=⟨ia _ h,mj _ h⟩
def jE {u:Int}{d:Nat}(h:1<=d)(hd:d<2^9000):sX [.int u,.int (d:Int)]=.ok (mP (mkRat u d)):=by
 obtain⟨a,f⟩:=gL h;have c:=b9 f hd;obtain⟨e,g⟩:=gK u d h;show zn (Ab _ [.vl _,.vl _,.un])=_;unfold Ab;have i:zG 2 (zb 2 AY (za (mM A3 (vB 0)) 05)) [.vl (.int u),.vl (.int (d)),.un]=.nx [.vl (.int u),.vl (.int (d)),.vl (.int ((fO u.natAbs d):Int))]:=by
  rw[zK]
  ·rfl
  ·rw[zC,ZA,w0,i3,IW,i3,v1,i3,gJ hd]
 rw[zc i,zl]
 ·rfl
 ·unfold mP;rw[e,g];exact YC (yG a c) (yG a c)
structure Bd (q:Rat) (m:Nat):Prop where
 num:q.num.natAbs<=2^m
 den:q.den<=2^m
def Bd.le {q:Rat}{m n:Nat}(h:Bd q m)(a:m<=n):Bd q n:=⟨aC h.num (cf 01 a),aC h.den (cf 01 a)⟩
def Bd.mk' {u:Int}{d m:Nat}(h:1<=d)(c:u.natAbs<=2^m)(a:d<=2^m):Bd (mkRat u d) m:=by
 constructor
 ·rw[i8,if_neg 00,Int.natAbs_ediv_of_dvd]
  ·exact aC (mH _ _) c
  ·exact Int.natAbs_dvd_natAbs.mp (by simpa using Nat.gcd_dvd_right d _)
 ·rw[i9,if_neg 00]
  exact aC (mH _ _) a
def Vn (q:Rat):1<=q.den:=Nat.pos_of_ne_zero q.den_nz
def Bd.mul {p q:Rat}{m n:Nat}(h:Bd p m)(k:Bd q n):Bd (p*q) (m+n):=by
 rw[Rat.mul_def'];refine Bd.mk' (c_ (Vn p) (Vn q)) ?_ ?_
 ·rw[iY,eN];exact bx h.num k.num
 ·rw[eN];exact bx h.den k.den
def gM {p q:Rat}{m n:Nat}(h:Bd p m)(k:Bd q n):(p.num*(q.den:Int)+q.num*(p.den:Int)).natAbs<=2^(m+n+1):=by
 refine aC (Int.natAbs_add_le _ _) ?_;rw[iY,iY,fY,fY];have c:=bx h.num k.den;have a:=bx k.num h.den;rw[iH,eN];have d:2^n*2^m=2^m*2^n:=dD _ _;omega
def Bd.add {p q:Rat}{m n:Nat}(h:Bd p m)(k:Bd q n):Bd (p+q) (m+n+1):=by
 rw[lU];refine Bd.mk' (c_ (Vn p) (Vn q)) (gM h k) ?_;refine aC (bx h.den k.den) ?_;rw[←eN];exact cf 01 00
def At {n m:Nat}(h:n<=2^m)(a:m<9000):n<2^9000:=b9 h (iZ 01 a)
def DX {n m:Nat}(h:n<=2^m)(a:m<8000):n<o5:=by
 exact b9 h (iZ 01 a)
def Lo {i j:Int}{m n:Nat}(h:i.natAbs<=2^m)(k:j.natAbs<=2^n)(a:m<8000)(hn:n<8000):nY (.int i) (.int j)=.ok (.int (i*j)):=by
 show (if _ then _ else _)=_
 rw[if_pos ⟨DX h a,DX k hn⟩]
def nd (d:Nat){m:Nat}(h:d<=2^m):((d:Int)).natAbs<=2^m:=by exact h
def pX {i:Nat}{a b:T}{ρ:En}(h:vE i ρ=.ok (.tup [a,b])):zd i4 (vE i) (cE (.int 0)) ρ=.ok a:=by rw[zk,h,i3,zU,i3,pC]
def oW {i:Nat}{a b:T}{ρ:En}(h:vE i ρ=.ok (.tup [a,b])):zd i4 (vE i) 02 ρ=.ok b:=by rw[zk,h,i3,zU,i3,pG]
def uU {f g:En->R T}{ρ:En}{i j:Int}{m n:Nat}(a:f ρ=.ok (.int i))(d:g ρ=.ok (.int j))(h:i.natAbs<=2^m)(k:j.natAbs<=2^n)(c:m<8000)(hn:n<8000):zd nY f g ρ=.ok (.int (i*j)):=by
 rw[zk,a,i3,d,i3,Lo h k c hn]
def Eh {f g:En->R T}{ρ:En}{i j:Int}(a:f ρ=.ok (.int i))(c:g ρ=.ok (.int j)):zd zA f g ρ=.ok (.int (i+j)):=by
 rw[zk,a,i3,c,i3,Z1]
def yH {p q:Rat}{m n:Nat}(h:Bd p m)(k:Bd q n)(d:m+n<8000):pN [mP p,mP q]=.ok (mP (p*q)):=by
 show zn (Aa _ [.vl _,.vl _])=_;unfold Aa;rw[zl]
 ·rfl
 ·rw[zC];have c:vE 0 (frz [.vl (mP p),.vl (mP q)])=.ok _:=rfl;have a:vE 1 (frz [.vl (mP p),.vl (mP q)])=.ok _:=rfl;rw[uU (pX c) (pX a) h.num k.num 00 00,i3,uU (oW c) (oW a) (nd _ h.den) (nd _ k.den) 00 00,i3,←dI,
   jE (c_ (Vn p) (Vn q)) (At (by rw[eN];exact bx h.den k.den) 00),←Rat.mul_def']
def gO {p q:Rat}{m n:Nat}(h:Bd p m)(k:Bd q n)(d:m+n<8000):An [mP p,mP q]=.ok (mP (p+q)):=by
 show zn (A7 _ [.vl _,.vl _])=_;unfold A7;rw[zl]
 ·rfl
 ·rw[zC];have c:vE 0 (frz [.vl (mP p),.vl (mP q)])=.ok _:=rfl;have a:vE 1 (frz [.vl (mP p),.vl (mP q)])=.ok _:=rfl;rw[Eh (uU (pX c) (oW a) h.num (nd _ k.den) 00 00) (uU (pX a) (oW c) k.num (nd _ h.den) 00 00),i3,uU (oW c) (oW a) (nd _ h.den) (nd _ k.den) 00 00,i3,←dI,
   jE (c_ (Vn p) (Vn q)) (At (by rw[eN];exact bx h.den k.den) 00),←lU]
noncomputable def zP:List Rat->Rat
 |[]=>0
 |q::r=>q+zP r
abbrev DZ:En->RS:=zG 1 (zb 2 An (za (vE 1) (za (vE 2) (ze))))
theorem vP {s:Sl}{m:Nat}:∀(qs:List Rat) (p:Rat) (n:Nat) (x:Sl),(∀q∈qs,Bd q m)->Bd p n->n+qs.length*(m+1)<8000->
  ∃c,ZJ (zB 2) DZ (qs.map mP) [s,.vl (mP p),x]=.nx [s,.vl (mP (p+zP qs)),c]
 |[],p,n,x,_,_,_=>⟨x,by rw[zP,d0];rfl⟩
 |q::r,p,n,x,d,hp,g=>by
  rw[aA,fE]at g;have f:=d q ae;obtain⟨c,e⟩:=vP r _ _ _ (λa i=>d a (a9 _ i)) (hp.add f) 00
  refine⟨c,?_⟩;rw[ao,ji (Ce 2 _ _),e,zP,cO];show zG 1 _ [s,.vl _,.vl _]=_;rw[zK]
  ·rfl
  ·rw[zC,v1,i3,show vE 2 _=.ok _ from rfl,i3,gO hp f 00]
def bd0:Bd 0 0:=⟨by decide,by decide⟩
def bd1:Bd 1 0:=⟨by decide,by decide⟩
def Um {qs:List Rat}{m:Nat}(h:∀q∈qs,Bd q m)(f:qs.length*(m+1)<8000):Cp [.lst (qs.map mP)]=.ok (mP (zP qs)):=by
 show zn (Bg _ [.vl _,.un,.un])=_;unfold Bg;have d:zG 1 (Zq (za (cE (.int 0)) (za 02 (ze)))) [.vl (.lst (qs.map mP)),.un,.un]=.nx [.vl (.lst (qs.map mP)),.vl (mP 0),.un]:=by
  rfl
 obtain⟨a,e⟩:=vP qs 0 0 .un h bd0 00
 have c:j5 (Zj 04) (zB 2) DZ [.vl (.lst (qs.map mP)),.vl (mP 0),.un]=.nx [.vl (.lst (qs.map mP)),.vl (mP (zP qs)),a]:=by
  rw[f7]at e;exact e
 rw[zc d,zc c];rfl
noncomputable def ju:List Rat->Rat
 |[]=>1
 |q::r=>q*ju r
noncomputable def W7 (a:List (Str×Int)):Int:=(a.map (·.2)).sum
mutual
noncomputable def Kd.sh:Kd->T->Rat
 |.whole lo hi=>λ_=>mkRat 1 (hi+1-lo).toNat
 |.pick a=>λt=>match t with|.str x=>mkRat ((a.lookup x).getD 0) (W7 a).toNat|_=>0
 |.row c=>λt=>match t with|.tup xs=>Kd.shs c xs|_=>0
 |.many k lo hi=>λt=>match t with|.tup xs=>mkRat 1 (hi+1-lo)*ju (xs.map k.sh)|_=>0
noncomputable def Kd.shs:List Kd->List T->Rat
 |[]=>λ_=>1
 |k::a=>λxs=>match xs with|[]=>1|x::xs=>k.sh x*Kd.shs a xs
end
theorem WM:∀(a:List Kd) (xs:List T),Kd.shs a xs=ju ((a.zip xs).map λq=>q.1.sh q.2)
 |[],_=>by simp[Kd.shs,ju]
 |k::a,[]=>by simp[Kd.shs,ju]
 |k::a,x::xs=>by simp[Kd.shs,ju,WM a xs]
theorem yI (k:Kd):∀xs:List T,((ar xs.length k).zip xs).map (λq=>q.1.sh q.2)=xs.map k.sh
 |[]=>rfl
 |x::xs=>by rw[aA,c6,dH,ao,ao,yI k xs]
theorem Bd.prod {m:Nat}:∀{qs:List Rat},(∀q∈qs,Bd q m)->Bd (ju qs) (qs.length*m)
 |[],_=>by exact bd1.le (aU _)
 |q::r,h=>by
  rw[aA,fE,cx,lJ];exact(h q ae).mul (Bd.prod λa c=>h a (a9 _ c))
theorem vQ:∀a:List (Str×Int),J4 (a.map wk)=some a
 |[]=>rfl
 |c::a=>by
  show (match J4 _ with|some l=>some _|none=>none)=_
  rw[vQ a]
def Dst.nd {a:List Str}(h:Dst a):a.Nodup:=by
 rw[mJ,dZ];intro i j hi d c e;refine h j _ (ah d) ?_;rw[←e];rw[List.mem_take_iff_getElem];exact⟨i,by omega,rfl⟩
theorem Je:∀(a:List (Str×Int)) (x:Str),(a.any λc=>c.1==x)=true->∃i,a.lookup x=some i/\(x,i)∈a
 |[],x,h=>by simp at h
 |c::a,x,h=>by
  rw[hZ,eI]at h
  by_cases e:c.1=x
  ·refine⟨c.2,?_,?_⟩
   ·rw[aG];simp[e]
   ·rw[←e];exact ae
  ·have h:=h.resolve_left (by simp[e])
   obtain⟨i,f,d⟩:=Je a x h;refine⟨i,?_,a9 _ d⟩;rw[aG];have:=beq_eq_false_iff_ne.mpr (aT e);rw[this];exact f
theorem XL:∀{d:List (Str×Int)},(∀c∈d,1<=c.2/\c.2<=20)->(d.length:Int)<=W7 d/\W7 d<=20*d.length
 |[],_=>by simp[W7]
 |c::d,h=>by
  have g:=XL λa f=>h a (a9 _ f);have i:=h c ae;have e:W7 (c::d)=c.2+W7 d:=by simp[W7]
  rw[aA];omega
def yJ {d:Nat}{a:List (Str×Int)}(h:(Kd.pick a).Ok (d+1)):1<=W7 a/\W7 a<=80/\∀c∈a,1<=c.2/\c.2<=20:=by
 have e:=λc f=>(h.2.2.1 c f).2;have:=XL e;have i:=h.1;have g:=h.2.1;exact⟨by omega,by omega,e⟩
def Uo (a:List (Str×Int))(x:Str):(Kd.pick a).sh (.str x)=mkRat ((a.lookup x).getD 0) (W7 a).toNat:=by rw[Kd.sh]
def IX {a:List (Str×Int)}(hd:Dst (a.map (·.1))){x:Str}{i:Int}(h:a.lookup x=some i):qT (.tup (a.map wk)) (.str x)=.ok (.int i):=by
 unfold qT;dsimp only;rw[vQ];dsimp only;rw[if_pos hd.nd,h]
def gP {a:List (Str×Int)}(hd:Dst (a.map (·.1))):uo (.tup (a.map wk))=.ok (.int (W7 a)):=by
 unfold uo;dsimp only;rw[vQ];dsimp only;rw[if_pos hd.nd];rfl
def xY {d:Nat}{a:List (Str×Int)}(h:(Kd.pick a).Ok (d+1)){x:Str}{i:Int}(c:a.lookup x=some i):Ag [(Kd.pick a).t,.str x]=.ok (mP ((Kd.pick a).sh (.str x))):=by
 obtain⟨f,j,_⟩:=yJ h;show zn (DJ _ [.vl _,.vl _,.un])=_;have e:zd i4 04 02 [.vl (Kd.pick a).t,.vl (.str x),.un]=.ok (.tup (a.map wk)):=by exact jU
 have g:W7 a=(((W7 a).toNat):Int):=by omega
 show zn ((R.bind _ _).s _)=_;rw[e,i3,v1,i3,IX h.2.2.2 c,i3,gP h.2.2.2,i3,g,jE 00 (At (m:=7) 00 01),Uo,c]
 rfl
abbrev D3 (c:List T->R T):En->RS:=zG 2 (zb 2 pN (za (vE 2) (za (zb 2 c (za (vE 3) (za (vE 4) (ze)))) (ze))))
theorem vR {c:List T->R T}{s t:Sl}{m:Nat}:∀(qs:List (Kd×T)) (p:Rat) (n:Nat) (x y:Sl),(∀q∈qs,c [q.1.t,q.2]=.ok (mP (q.1.sh q.2))/\Bd (q.1.sh q.2) m)->Bd p n->n+qs.length*m<8000->
  ∃d f,ZJ (zS 3 4) (D3 c) (qs.map λq=>T.tup [q.1.t,q.2]) [s,t,.vl (mP p),x,y]=.nx [s,t,.vl (mP (p*ju (qs.map λq=>q.1.sh q.2))),d,f]
 |[],p,n,x,y,_,_,_=>⟨x,y,by simp only[bO,ju,mv];rfl⟩
 |q::r,p,n,x,y,h,hp,j=>by
  rw[aA,fE]at j;obtain⟨i,g⟩:=h q ae;obtain⟨d,f,e⟩:=vR r _ _ _ _ (λa k=>h a (a9 _ k)) (hp.mul g) 00
  refine⟨d,f,?_⟩;rw[ao,ao,ji rfl,e,ju,Rat.mul_assoc];show zG 2 _ _=_;rw[zK]
  ·rfl
  ·rw[zC,show vE 2 _=.ok _ from rfl,i3,zC,show vE 3 _=.ok _ from rfl,i3,show vE 4 _=.ok q.2 from rfl,i3,i,i3,yH hp g 00]
def uV {c:List T->R T}{s:T}{m:Nat}(a:List Kd)(xs:List T)(k:jZ s=.ok (a.map Kd.t))(r:a.length<=3)(i:m<=1000)(H:∀q∈a.zip xs,c [q.1.t,q.2]=.ok (mP (q.1.sh q.2))/\Bd (q.1.sh q.2) m):
  zn (Bf pN c (mO 5 [s,.tup xs]))=.ok (mP (ju ((a.zip xs).map λq=>q.1.sh q.2))):=by
 have e:mO 5 [s,.tup xs]=[.vl s,.vl _,.un,.un,.un]:=rfl;have hz:=by
  have j:(a.zip xs).length<=3:=by rw[fH];omega
  have:=bx j i;omega
 obtain⟨l,o,p⟩:=vR _ 1 0 .un .un H bd1 00
 have g:zG 2 (Zq (za 02 (za 02 (ze)))) [.vl s,.vl (.tup xs),.un,.un,.un]=.nx [.vl s,.vl (.tup xs),.vl (mP 1),.un,.un]:=by
  rfl
 have f:Xk 04 (vE 1) [.vl s,.vl (.tup xs),.vl (mP 1),.un,.un]=.ok ((a.zip xs).map λq=>T.tup [q.1.t,q.2]):=by
  show (jZ s).bind _=_;rw[k,←Eu];rfl
 have d:j5 (Xk 04 (vE 1)) (zS 3 4) (D3 c) [.vl s,.vl (.tup xs),.vl (mP 1),.un,.un]=.nx [.vl s,.vl (.tup xs),.vl (mP (ju ((a.zip xs).map λq=>q.1.sh q.2))),l,o]:=by
  unfold j5;rw[f,ZZ,p,Rat.one_mul]
 rw[e,Bf,zc g,zc d];rfl
noncomputable def sb:Nat->Nat
 |0=>0
 |d+1=>7+3*sb d
def Aw (d:Nat):sb (d+1)=7+3*sb d:=rfl
abbrev xZ (a b:T):En:=[.vl a,.vl b,.un]
def Gb {x w:Str}{r:List T}{b:T}(h:(x==w)=false){f:En->RS}:mT (zu mL 03 (cE (.str w))) f mS (xZ (.tup (.str x::r)) b)=.nx (xZ (.tup (.str x::r)) b):=
 zm (by rw[show zu mL _ _ _=.ok _ from n9,h])
def B9 {x:Str}{r:List T}{b:T}{f:En->RS}:mT (zu mL 03 (cE (.str x))) f mS (xZ (.tup (.str x::r)) b)=f (xZ (.tup (.str x::r)) b):=
 J8 (by rw[show zu mL _ _ _=.ok _ from n9,beq_self_eq_true])
theorem yK:∀(d n:Nat),2*d<=n->d<=3->∀(k:Kd) (x:T),k.Ok d->k.has x=true->oF n 0 [k.t,x]=.ok (mP (k.sh x))/\Bd (k.sh x) (sb d)
 |0,_,_,_,_,_,h,_=>h.elim
 |d+1,n+2,hn,U,k,x,h,f=>by
  have D:=yK d n 00 00
  have o:sb d<=1000:=by
   rcases(show d=0\/d=1\/d=2 by omega)with rfl|rfl|rfl<;>decide
  have e:oF (n+2) 0 [k.t,x]=zn (pK (pD 20) pN Ag (oF (n+1) 1) (xZ k.t x)):=by rfl
  have F:∀s y,oF (n+1) 1 [s,y]=zn _:=λs y=>by rw[oF];intro h;cases h
  rw[e];cases k with
  |whole lo hi=>
   obtain⟨N,X,O⟩:=h;have C:=jn (d:=1) 00 (yn d lo hi ⟨N,X,O⟩)
   rw[jh]at C;constructor
   ·rw[show (Kd.whole lo hi).t=.tup _ from by rw[Kd.t]]at C⊢
    rw[pK,zv (t:=mP _),Kd.sh]
    ·rfl
    ·rw[B9,zl (t:=mP _)];show Zq _ (xZ _ x)=_;have v:mP (mkRat 1 (hi+1-lo).toNat)=.tup [.int 1,.int (((hi+1-lo).toNat):Int)]:=by
      unfold mP;rw[i8,i9,if_neg 00,if_neg 00,show (1:Int).natAbs=1 from rfl,lV,Nat.div_one]
      rfl
     rw[v];exact YC rfl (by rw[zL,v0,i3,C])
   ·rw[Kd.sh];refine(Bd.mk' (m:=7) 00 01 00).le ?_
    rw[Aw];omega
  |pick I=>
   cases x with
   |str y=>
    have c:=by rw[Kd.has]at f;exact f
    obtain⟨i,hi,L⟩:=Je I y c;obtain⟨P,M,w⟩:=yJ h;have Z:=w _ L;constructor
    ·have G:=xY h hi;rw[show (Kd.pick I).t=.tup _ from by rw[Kd.t]]at G⊢
     rw[pK,zc (Gb 01),zv (t:=mP _)]
     ·rfl
     ·rw[B9,zl (t:=mP _)];show zb 2 _ _ (xZ _ _)=_;rw[zC,v0,i3,v1,i3,G]
    ·rw[Uo,hi];refine(Bd.mk' (m:=7) 00 ?_ 00).le ?_
     ·show i.natAbs<=128;omega
     ·rw[Aw];omega
   |_=>rw[Kd.has]at f;cases f
  |row l=>
   cases x with
   |tup xs=>
    have c:=by rw[Kd.has]at f;exact f
    rw[am,beq_iff_eq,JH,aR]at c;have H:=λq g=>D q.1 q.2 (h.2.2 q.1 (cJ g).1) (c.2 q g);have hp:=uV (s:=.tup (l.map Kd.t)) l xs rfl h.2.1 o H;have u:(Kd.row l).sh (.tup xs)=ju ((l.zip xs).map λq=>q.1.sh q.2):=by rw[Kd.sh,←WM]
    rw[u];constructor
    ·rw[show (Kd.row l).t=.tup _ from by rw[Kd.t,Kd.ts_map]]
     rw[pK,zc (Gb 01),zc (Gb 01),zv]
     ·rfl
     ·rw[B9,zl];show zb 2 _ _ (xZ _ _)=_;rw[zC,jU,i3,v1,i3,F,hp]
    ·have r:=Bd.prod (m:=sb d) (λq g=>by
      obtain⟨a,B,rfl⟩:=ay.mp g;exact(H a B).2)
     refine r.le ?_;have S:=h.2.1;have hz:((l.zip xs).map λq=>q.1.sh q.2).length<=3:=by rw[ag,fH];omega
     have:=fF (sb d) hz;rw[Aw];omega
   |_=>rw[Kd.has]at f;cases f
  |many k lo hi=>
   cases x with
   |tup xs=>
    have c:=by rw[Kd.has]at f;exact f
    rw[am,am,decide_eq_true_eq,decide_eq_true_eq,aR]at c;obtain⟨⟨l1,l2⟩,c⟩:=c;have S:=h.2.1;have j:xs.length<=3:=by omega
    have H:∀q∈(ar xs.length k).zip xs,oF n 0 [q.1.t,q.2]=.ok (mP (q.1.sh q.2))/\Bd (q.1.sh q.2) (sb d):=λq g=>by
     have:=cJ g;have e:=bM this.1;refine D q.1 q.2 ?_ ?_
     ·rw[e];exact h.2.2
     ·rw[e];exact c q.2 this.2
    have hp:=uV (s:=.lst _) _ xs rfl (by rw[aY];exact j) o H
    rw[yI]at hp;have u:(Kd.many k lo hi).sh (.tup xs)=mkRat 1 (hi+1-lo)*ju (xs.map k.sh):=by rw[Kd.sh]
    have r:=Bd.prod (qs:=xs.map k.sh) (m:=sb d) (λq g=>by
      rw[←yI]at g;obtain⟨a,B,rfl⟩:=ay.mp g;exact(H a B).2)
    rw[ag]at r;have p:Bd (mkRat 1 (hi+1-lo)) 2:=Bd.mk' 00 01 00
    have hz:=fF (sb d) j;rw[u];constructor
    ·rw[show (Kd.many k lo hi).t=.tup _ from by rw[Kd.t]]
     have Q:zd Z5 (j7 (za (zd i4 04 02) (ze))) (mM Zw (vB 1)) [.vl (.tup [.str "many",k.t,.int (lo:Int),.int (hi:Int)]),.vl (.tup xs),.vl (mP (mkRat 1 (hi+1-lo)))]=.ok (.lst ((ar xs.length k).map Kd.t)):=by
      rw[zk,tq jU,i3,ZA,w1,i3,wL,i3,uJ j,jp,bj]
     have v:mP (mkRat 1 (hi+1-lo))=.tup [.int 1,.int ((hi:Int)-(lo:Int)+1)]:=by
      unfold mP;rw[i8,i9,if_neg 00,if_neg 00,show (1:Int).natAbs=1 from rfl,lV,Nat.div_one,show ((hi+1-lo:Nat))=(hi:Int)-(lo:Int)+1 by omega]
      rfl
     have J:zG 2 (Zq (za 02 (za (zd zA (zd Jj (zd i4 04 (cE (.int 3))) 000) 02) (ze)))) (xZ (.tup [.str "many",k.t,.int (lo:Int),.int (hi:Int)]) (.tup xs))=.nx [.vl (.tup [.str "many",k.t,.int (lo:Int),.int (hi:Int)]),.vl (.tup xs),.vl (mP (mkRat 1 (hi+1-lo)))]:=by
      rw[v];rfl
     rw[pK,zc (Gb 01),zc (Gb 01),zc (Gb 01),zc J,zl]
     ·rfl
     ·show zb 2 _ _ [.vl _,.vl _,.vl _]=_;rw[zC,show vE 2 _=.ok _ from rfl,i3,zC,Q,i3,v1,i3,F,hp,i3,yH p r 00]
    ·refine(p.mul r).le ?_;rw[Aw];omega
   |_=>cases f
theorem JM:∀c bs:List Rat,zP (c++bs)=zP c+zP bs
 |[],bs=>by rw[cq,zP,f7]
 |a::c,bs=>by rw[ir,zP,zP,JM c bs,cO]
theorem WN {e:Type}(c:Rat)(f:e->Rat):∀d:List e,zP (d.map λa=>c*f a)=c*zP (d.map f)
 |[]=>by simp only[bO,zP,Rat.mul_zero]
 |a::d=>by simp only[ao,zP,WN c f d,Rat.mul_add]
theorem wx {d e:Type}(f:d->List e)(g:e->Rat):∀c:List d,zP ((c.flatMap f).map g)=zP (c.map λa=>zP ((f a).map g))
 |[]=>rfl
 |a::c=>by rw[bC,bm,JM,wx f g c];rfl
theorem j1 {d:Type}{f g:d->Rat}:∀{c:List d},(∀a∈c,f a=g a)->zP (c.map f)=zP (c.map g)
 |[],_=>rfl
 |a::c,h=>by rw[ao,ao,zP,zP,h a ae,j1 λb e=>h b (a9 _ e)]
theorem Jf:∀(d c:List (List T)),zW c d=c.flatMap λa=>(zW [[]] d).map λb=>a++b
 |[],c=>by
  simp only[zW,ao,bO,br]
  induction c with
  |nil=>rfl
  |cons a f e=>rw[bC,←e];rfl
 |l::d,c=>by
  rw[zW,Jf d,zW,Jf d (List.flatMap _ [[]])]
  induction c with
  |nil=>rfl
  |cons a f e=>
   rw[bC,List.flatMap_append,e,bC];congr 1
   simp only[ml,br,cq];rw[List.map_flatMap,ix,ix];congr 1
   funext x
   rw[aK];congr 1
   funext b
   simp[bN]
def vS (l:List T)(a:List (List T)):zW [[]] (l::a)=l.flatMap λx=>(zW [[]] a).map λb=>x::b:=by
 rw[zW,Jf,bC,ml,br,ix];rfl
abbrev Ew (k:Kd):Prop:=zP (k.all.map k.sh)=1
theorem wz:∀c:List Kd,(∀k∈c,Ew k)->zP ((zW [[]] (c.map Kd.all)).map (Kd.shs c))=1
 |[],_=>by
  show zP [Kd.shs [] []]=1;rw[Kd.shs];simp only[zP,d0]
 |k::c,h=>by
  rw[ao,vS,wx];have e:∀x∈k.all,zP (((zW [[]] (c.map Kd.all)).map λb=>x::b).map (Kd.shs (k::c)))=k.sh x:=λx _=>by
   rw[aK];have:((Kd.shs (k::c)) ∘λb=>x::b)=λb=>k.sh x*Kd.shs c b:=by funext b;show Kd.shs _ _=_;rw[Kd.shs]
   rw[this,WN,wz c λa d=>h a (a9 _ d),mv]
  rw[j1 e];exact h k ae
def Up (n:Nat)(h:n≠0):mkRat (n:Int) n=1:=by
 have e:(1:Rat)=mkRat 1 1:=rfl;rw[e,mm h 01];omega
theorem Jg {e:Type}(c:Rat):∀d:List e,zP (d.map λ_=>c)=mkRat (d.length:Int) 1*c
 |[]=>by
  rw[bO,zP,cK,l9];show 0=((0:Int):Rat)*c;rw[show ((0:Int):Rat)=0 from rfl,Rat.zero_mul]
 |a::d=>by
  rw[ao,zP,Jg c d,aA,l9,l9,mF,Rat.intCast_add,Rat.add_mul,lW];show _=_+((1:Int):Rat)*c;rw[show ((1:Int):Rat)=1 from rfl,Rat.one_mul]
theorem W8:∀(d:List (Str×Int)),(d.map (·.1)).Nodup->∀c∈d,d.lookup c.1=some c.2
 |[],_,c,h=>by simp at h
 |a::d,hn,c,h=>by
  rw[ao,cn]at hn;rw[aG];rcases au.mp h with rfl|h
  ·simp
  ·have f:(c.1==a.1)=false:=beq_eq_false_iff_ne.mpr λe=>hn.1 (e▸ay.mpr ⟨c,h,rfl⟩);rw[f];exact W8 d hn.2 c h
theorem vT (d:Nat)(hd:d≠0):∀a:List (Str×Int),zP (a.map λc=>mkRat c.2 d)=mkRat (W7 a) d
 |[]=>by
  show (0:Rat)=mkRat 0 d;rw[Rat.zero_mkRat]
 |c::a=>by
  rw[ao,zP,vT d hd a,Rat.mkRat_add_mkRat _ _ hd hd,mm (Nat.mul_ne_zero hd hd) hd];have:W7 (c::a)=c.2+W7 a:=by simp[W7]
  rw[this,dI,←Int.add_mul,Int.mul_assoc]
theorem Br:∀(d:Nat) (k:Kd),k.Ok d->Ew k
 |0,_,h=>h.elim
 |d+1,.whole lo hi,h=>by
  have x:=h.2.1;show zP _=1;rw[Kd.all,aK];have e:((Kd.whole lo hi).sh ∘λ(i:Nat)=>T.int (lo+(i:Int)))=λ_=>mkRat 1 (hi+1-lo).toNat:=by funext i;show Kd.sh _ _=_;rw[Kd.sh]
  rw[e,Jg,ba,l7,mo,cx];exact Up _ 00
 |d+1,.pick j,h=>by
  obtain⟨B,w,_⟩:=yJ h;show zP _=1;rw[Kd.all,aK];have e:∀c∈j,((Kd.pick j).sh ∘λc=>T.str c.1) c=mkRat c.2 (W7 j).toNat:=λc D=>by
   show (Kd.pick j).sh (.str c.1)=_;rw[Uo,W8 j h.2.2.2.nd c D];rfl
  rw[j1 e,vT _ 00,show W7 j=(((W7 j).toNat:Nat):Int) by omega]
  exact Up _ 00
 |d+1,.row q,h=>by
  have v:((Kd.row q).sh ∘T.tup)=Kd.shs q:=by funext xs;show Kd.sh _ _=_;rw[Kd.sh]
  show zP _=1;rw[Kd.all,Kd.alls_map,aK,v,wz q λk u=>Br d k (h.2.2 k u)]
 |d+1,.many k lo hi,h=>by
  have x:=h.1;have o:∀(m:Nat),zP ((Yt (ar m k.all)).map (Kd.many k lo hi).sh)=mkRat 1 (hi+1-lo):=λm=>by
   have y:ar m k.all=(ar m k).map Kd.all:=by rw[bj]
   have r:=wz (ar m k) λa p=>by rw[bM p];exact Br d k h.2.2
   rw[←y]at r;have C:∀xs∈zW [[]] (ar m k.all),xs.length=m:=λxs l=>by
    have:=W5 (ar m k.all) [[]] 0 (λa p=>by rw[ax.mp p];rfl) xs l
    rw[aY]at this;omega
   show zP (((zW [[]] _).map T.tup).map _)=_;rw[aK,j1 (f:=(Kd.many k lo hi).sh ∘T.tup) (g:=λxs=>mkRat 1 (hi+1-lo)*Kd.shs (ar m k) xs) (λxs l=>by
    show Kd.sh _ _=_;rw[Kd.sh,WM,←C xs l,yI]),WN,r,mv]
  show zP _=1;rw[Kd.all,wx,j1 (g:=λ_=>mkRat 1 (hi+1-lo)) (λi _=>o (lo+i)),Jg,ba,l7,mo,cx];exact Up _ 00
def vU {k:Kd}(a:k.Ok 3):Az [k.t]=.ok .non:=by
 have hi:=v8 3 k a;show zn (A4 _ [.vl k.t])=_;rw[A4,zm]
 ·rfl
 ·rw[uC,Jq,zL,v0,i3,Yp _ (WB 3 _ hi).so,hi];rfl
def jS {k:Kd}(a:k.Ok 3)(o:k.all.length<=500):rc [k.t]=.ok (.lst k.all):=by
 show zn (Ar _ _ _ [.vl k.t,.un])=_;have f:zG 1 (zb 1 (pD 20) (za 04 (ze))) [.vl k.t,.un]=.nx (mW k.t (.int (k.all.length))):=by
  rw[zK]
  ·rfl
  ·rw[zL,v0,i3,jn 00 a]
 have e:zu nZ (vB 1) (cE (.int 500)) (mW k.t (.int (k.all.length)))=.ok false:=by
  rw[zM,w1,i3,zU,i3,gE,decide_eq_false 00]
 have g:ZI (vE 1) (mW k.t (.int (k.all.length)))=.ok (rng 0 k.all.length):=by
  rw[WH rfl ⟨by omega,by omega⟩,a_]
 have j:zo _ _ (zb 2 (sQ 20) (za (vE 1) (za 04 _))) 1 [0] (mW k.t (.int (k.all.length))) (rng 0 k.all.length)=.ok ((rng 0 _).map λt=>match t with|.int i=>(k.all[i.toNat]?).getD .non|y=>y):=
  zV _ (by unfold rng;rw[ag,ba];have:mR=16777216:=rfl;omega) λt d=>by
   obtain⟨i,hi,rfl⟩:=ay.mp d;obtain⟨x,c⟩:=yx (bu.mp hi);show zb 2 _ _ (mW _ k.t)=R.ok ((k.all[((0:Int)+(i)).toNat]?).getD _);rw[show ((0:Int)+(i))=(i) by omega,zC,v1,i3,v0,i3,Ig a c,a_,c]
   rfl
 have l:sP (ZI (vE 1)) (zB 0) (Z2) (zb 2 (sQ 20) (za (vE 1) (za 04 (ze)))) 1 [0] (mW k.t (.int (k.all.length)))=.rf k.all:=by
  show ((ZI _ (mW k.t _)).s λts=>(zo _ _ _ _ _ (mW k.t _) ts).s λvs=>RS.rf vs)=_;rw[g,ZZ,j];exact congrArg _ (og k)
 rw[Ar,zc (Ja (by rw[zL,v0,i3,vU a])),zc f,zc (zm e),l]
 rfl
def uW {r:Ru}(h:jq 3 r):tT [r.t]=.ok .non:=by
 show zn (Bj _ [.vl r.t])=_;rw[Bj,zm]
 ·rfl
 ·have e:Cw [r.t]=.ok (.bl true):=by
   show zn (zw _ _)=_;rw[zl]
   ·rfl
   ·exact Jc 8 3 00 r h
  rw[uC,Jq,zL,v0,i3,e];rfl
def wA {f:En->R T}{ρ:En}:zn (zw f ρ)=f (frz ρ):=by rw[Zg,Jp]
def Hf {k:Kd}(a:k.Ok 3)(x:T):Cy [k.t,x]=.ok (.bl (k.has x)):=by
 show zn (Ae _ _ (mW k.t x))=_;unfold Ae;rw[zc (Ja (by rw[zL,v0,i3,vU a])),wA]
 exact XF 3 20 00 k x a
def X0 {k:Kd}(a:k.Ok 3){x:T}(c:k.has x=true):Aq [k.t,x]=.ok .non:=by
 show zn (tX _ (mW k.t x))=_;rw[tX,zm (by rw[uC,Jq,zC,v0,i3,v1,i3,Hf a,c];rfl)];rfl
def ZK {d:Type}{f g:d->T}{fe:En->R T}{k:Nat}{js:List Nat}{ρ:En}(l:List d)(i:l.length<=mR)(H:∀a∈l,fe ((Jz k js ρ).set 0 (.vl (f a)))=.ok (g a)):zo (zB 0) Z2 fe k js ρ (l.map f)=.ok (l.map g):=by
 rw[zV (h:=λt=>match fe ((Jz k js ρ).set 0 _)with|.ok u=>u|_=>t) _ (by rw[ag];exact i) (λt e=>by
  obtain⟨a,c,rfl⟩:=ay.mp e;rw[H a c]),aK]
 congr 1
 refine b5 λa c=>?_;show (match fe _ with|.ok u=>u|_=>f a)=_
 rw[H a c]
def nz (a:List T)(r:Ru):Int:=((a.filter λx=>kp r x).length:Nat)
inductive Cn:(List T->T)->Prop where
 |l:Cn T.lst
 |t:Cn T.tup
def jk {C:List T->T}(d:Cn C){rs:List Ru}(hr:∀r∈rs,jq 3 r)(hn:rs.length<=1000):pH [C (rs.map Ru.t)]=.ok .non:=by
 have j:∀(c:List T) (rs:List Ru) (y:Sl),(∀r∈rs,jq 3 r)->∃a,ZJ (zB 1) (wH (zb 1 tT 05)) (rs.map Ru.t) [.vl (C c),y]=.nx [.vl (C c),a]:=by
  intro c rs
  induction rs with
  |nil=>exact λy _=>⟨y,rfl⟩
  |cons r rs i=>
   intro y h;obtain⟨a,e⟩:=i _ λq g=>h q (a9 _ g);refine⟨a,?_⟩;rw[ao,ji (ρ1:=[.vl _,.vl r.t]) rfl (Ja (by exact uW (h r ae))),e]
 obtain⟨a,e⟩:=j _ rs .un hr;show zn (Ad _ [.vl _,.un])=_;unfold Ad;rw[zc (zm (by cases d<;>rfl))]
 have f:Zj 04 [.vl (C (rs.map Ru.t)),.un]=.ok (rs.map Ru.t):=by cases d<;>rfl
 unfold j5;rw[f];show zn (ZJ _ _ _ _)=_;rw[e];rfl
def Ee {f g:En->R T}{ρ:En}{x y:T}(a:f ρ=.ok x)(c:g ρ=.ok y):za f (za g ze) ρ=.ok [x,y]:=by
 show ((f ρ).bind λt=>((za g _) ρ).bind λts=>.ok _)=_;rw[a];show ((g ρ).bind λt=>(R.ok []).bind λts=>R.ok _).bind _=_;rw[c];rfl
section
variable {ts:List T}
def XM {f g:En->R T}{ρ:En}{t:T}(h:f ρ=.ok t)(h':g ρ=.ok t)(hp:Pl 30 t):ZV mL f g ρ=.ok (.bl true):=by rw[Zm,h,i3,h',i3,xV hp];rfl
def gQ {f g:En->R T}{ρ:En}(h:f ρ=.ok (.bl true))(h':g ρ=.ok (.bl true)):ZW f g ρ=.ok (.bl true):=by unfold ZW;rw[h];exact h'
end
def Yx {k:Kd}(a:k.Ok 3){x:T}(c:k.has x=true):re 20 [k.t,x]=.ok (mP (k.sh x))/\Bd (k.sh x) 91:=yK 3 20 00 00 k x a c
def HG {k:Kd}(c:k.Ok 3){a:List T}(d:∀x∈a,k.has x=true)(g:a.length<=60):Ax [k.t,.lst a]=.ok (mP (zP (a.map k.sh))):=by
 show zn _=_;have i:zo _ _ (zb 2 (re 20) (za (vE 1) (za 04 _))) 1 [0] (mW k.t (.lst a)) a=.ok (a.map λx=>mP _):=
  zV _ (aC g 01) λt e=>by
   show zb 2 _ _ (mW t k.t)=_;rw[zC,v1,i3,v0,i3,(Yx c (d t e)).1]
 unfold Dc;rw[zl]
 ·rfl
 ·show zb 1 _ _ (mW k.t _)=_;rw[zL,zF,ZF,v1];show ((zo _ _ _ _ _ _ a).bind _).bind _=_;rw[i,i3];have:=Um (λq f=>by obtain⟨x,j,rfl⟩:=ay.mp f;exact(Yx c (d x j)).2) (by rw[ag];omega)
  rw[aK]at this;exact this
def wy (rs:List Ru)(x:T):List Bool:=rs.map λr=>kp r x
def vV {C:List T->T}(c:Cn C){rs:List Ru}(hr:∀r∈rs,jq 3 r)(hn:rs.length<=1000){x:T}(d:W 2 x):Ay [C (rs.map Ru.t),x]=.ok (.tup ((wy rs x).map T.bl)):=by
 have e:mR=16777216:=rfl;cases c<;>
 ·show zn _=_;unfold CT;rw[wA];show (((zo _ _ _ _ _ _ _).bind _).bind _)=_;rw[ZK (g:=λr=>.bl _) rs 00 λr a=>?_,i3]
  ·unfold wy;rw[aK];rfl
  ·show zb 2 _ _ (mW r.t x)=_;rw[zC,v0,i3,v1,i3,W6 d (hr r a)]
theorem jT:∀k:List Bool,Z9 (k.map T.bl)=some k
 |[]=>rfl
 |b::k=>by
  show (Z9 _).map (λl=>b::l)=_;rw[jT k];rfl
def Zv (kf:T->List Bool):List T->List WE->List WE
 |[],a=>a
 |w::c,a=>Zv kf c (jF (kf w) w a)
theorem uX {g:T->R T}{kf:T->List Bool}:∀(a:List T) (c:List WE),(∀w∈a,g w=.ok (.tup ((kf w).map T.bl)))->w8 g a c=.ok (Zv kf a c)
 |[],c,_=>rfl
 |w::a,c,h=>by
  show ((g w).bind λt=>match t with
   |.tup ts=>(match Z9 ts with
    |some k=>w8 g a _
    |none=>.bad)
   |_=>.bad)=_
  rw[h w ae,i3];dsimp only;rw[jT];exact uX a _ λv d=>h v (a9 _ d)
structure EOk (al:List T) (n:Nat) (es:List WE):Prop where
 nd:(es.map (·.1)).Nodup
 len:es.length<=n
 mem:∀e∈es,(∀x∈e.2,x∈al)/\e.2.length<=n
theorem WO (k:List Bool)(w:T):∀a:List WE,(jF k w a).map (·.1)=if k∈a.map (·.1)then a.map (·.1)else a.map (·.1)++[k]
 |[]=>by simp[jF]
 |(c,d)::r=>by
  unfold jF
  by_cases h:c=k
  ·subst h;simp
  ·rw[if_neg h,ao,WO k w r,ao];have h':¬k=c:=λz=>h z.symm
   by_cases m:k∈r.map (·.1)
   ·rw[if_pos m,if_pos (a9 _ m)]
   ·rw[if_neg m,if_neg (by simpa[h']using m)];rfl
theorem vW {al:List T}{n:Nat}{k:List Bool}{w:T}(d:w∈al):∀g:List WE,(∀e∈g,(∀x∈e.2,x∈al)/\e.2.length<=n)->∀e∈jF k w g,(∀x∈e.2,x∈al)/\e.2.length<=n+1
 |[],_,e,a=>by
  simp only[jF,ax]at a;subst a;exact⟨λx f=>by rw[ax.mp f];exact d,by show 1<=n+1;omega⟩
 |(j,i)::r,h,e,a=>by
  unfold jF at a;have c:=h _ ae;have hr:=λe a=>h e (a9 _ a);split at a
  ·rcases au.mp a with rfl|a
   ·refine⟨λx f=>?_,by have:i.length<=n:=c.2;rw[aB,aM];omega⟩
    rcases bI.mp f with z|z
    ·exact c.1 x z
    ·rw[ax.mp z];exact d
   ·exact⟨(hr e a).1,hU (hr e a).2⟩
  ·rcases au.mp a with rfl|a
   ·exact⟨c.1,hU c.2⟩
   ·exact vW d r hr e a
def EOk.ins {al:List T}{n:Nat}{c:List WE}(h:EOk al n c){k:List Bool}{w:T}(i:w∈al):EOk al (n+1) (jF k w c):=by
 have e:=WO k w c;have j:(jF k w c).length<=c.length+1:=by
  have:=congrArg eJ e;rw[ag]at this;rw[this];split
  ·rw[ag];omega
  ·rw[aB,ag];exact aq _
 refine⟨?_,by have:=h.len;omega,vW i c h.mem⟩
 rw[e];split
 ·exact h.nd
 ·rename_i d;rw[hV];exact⟨h.nd,by simp,λa g b f z=>d (by rw[ax.mp f]at z;rw[←z];exact g)⟩
theorem vX {al:List T}{kf:T->List Bool}:∀(a:List T) (n:Nat) (c:List WE),EOk al n c->(∀w∈a,w∈al)->EOk al (n+a.length) (Zv kf a c)
 |[],n,c,h,_=>h
 |w::a,n,c,h,d=>by
  have:=vX (kf:=kf) a _ _ (h.ins (k:=kf w) (d w ae)) λv e=>d v (a9 _ e);rw[aA,show n+(a.length+1)=n+1+a.length by omega]
  exact this
def yL {C:List T->T}(g:Cn C){k:Kd}(c:k.Ok 3)(f:k.all.length<=500){rs:List Ru}(hr:∀r∈rs,jq 3 r)(hn:rs.length<=1000):zO [k.t,C (rs.map Ru.t)]=.ok (Zv (wy rs) k.all [])/\EOk k.all k.all.length (Zv (wy rs) k.all []):=by
 have j:mR=16777216:=rfl;refine⟨?_,?_⟩
 ·show ((rc _).bind λt=>match t with
   |.lst d=>if d.length<=mR then w8 (λw=>Ay _) d []else .bad
   |_=>.bad)=_
  rw[jS c f,i3];dsimp only;rw[if_pos 00]
  exact uX _ [] λw a=>vV g hr hn (vM c a)
 ·have:=vX (al:=k.all) (kf:=wy rs) _ 0 [] ⟨by simp,by simp,λe i=>by cases i⟩ λw a=>a
  rwa[fN]at this
def tl (k:Kd)(e:WE):T:=.tup [.tup (e.1.map T.bl),.int (e.2.length:Int),mP (zP (e.2.map k.sh))]
theorem vY {k:Kd}{fe:En->R T}:∀(a:List WE) (x y:Sl),(∀e∈a,fe [.vl (.tup (e.1.map T.bl)),.vl (.lst e.2),.vl k.t]=.ok (tl k e))->zq (zS 0 1) Z2 fe (a.map tF) [x,y,.vl k.t]=.ok (a.map (tl k))
 |[],x,y,_=>rfl
 |e::a,x,y,h=>by
  show ((zS 0 1 _ _).bind λρ1=>(Z2 ρ1).bind λc=>if c=true then (fe ρ1).bind λv=>(zq _ _ fe _ ρ1).bind λvs=>.ok _ else zq _ _ fe _ ρ1)=_
  rw[show zS 0 1 _ _=.ok [.vl _,.vl _,.vl k.t] from rfl,i3];unfold Z2;rw[h e ae,show zq _ (λ_=>R.ok _) fe _ _=_ from vY a _ _ λq d=>h q (a9 _ d)];rfl
def FJ (k:Kd)(e:WE):kW (tl k e)=e.1:=by
 show (Z9 _).getD []=_;rw[jT];rfl
def Hj (k:Kd)(e:WE):Pl 29 (tl k e):=λx a=>by
 simp only[au,bX,or_false]at a;rcases a with rfl|rfl|rfl
 ·intro y hy;obtain⟨b,_,rfl⟩:=ay.mp hy;trivial
 ·trivial
 ·intro y hy;simp only[au,bX,or_false]at hy;rcases hy with rfl|rfl<;>trivial
section
variable {C:List T->T}(hC:Cn C){k:Kd}(hk:k.Ok 3)(h4:k.all.length<=60){rs:List Ru}(hr:∀r∈rs,jq 3 r)(hn:rs.length<=1000)
include hC hk h4 hr hn
def WP:rJ [k.t,C (rs.map Ru.t)]=.ok (.lst (wE ((Zv (wy rs) k.all []).map (tl k))))/\(((Zv (wy rs) k.all []).map (tl k)).map kW).Nodup/\Pl 30 (.lst (wE ((Zv (wy rs) k.all []).map (tl k)))):=by
 have v:mR=16777216:=rfl;obtain⟨i,d⟩:=yL hC hk 00 hr hn
 generalize Zv _ _ []=a at*;have w:=d.len;have hd:((a.map (tl k)).map kW).Nodup:=by rw[aK,show (kW ∘tl k)=λe=>e.1 from funext λe=>FJ k e];exact d.nd
 refine⟨?_,hd,?_⟩
 ·show zn (Ao _ _ _ [.vl k.t,.vl _,.un])=_;unfold Ao;rw[zc (Ja (by rw[zL,v1,i3,jk hC hr hn]))]
  have r:rg (zS 0 1) Z2 (Zq (za 04 (za (mM Zw (vB 1)) (za (zb 2 Ax (za (vE 2) 05)) (ze))))) 2 [0] [.vl k.t,.vl (C (rs.map Ru.t)),.un] a=.ok (a.map (tl k)):=by
   unfold rg;rw[if_pos 00]
   show quiet (zq _ _ _ _ [.un,.un,.vl k.t])=_;rw[vY a _ _ λe p=>?_]
   ·rfl
   ·obtain⟨j,q⟩:=d.mem e p;refine G9 rfl rfl ?_;rw[zC,v2,i3,v1,i3,HG hk (λx f=>(ZB k x).mp (j x f)) 00]
  have o:uy (.lst (a.map (tl k)))=.ok (.lst (wE (a.map (tl k)))):=by
   show (if _ then _ else _)=_
   rw[if_pos];refine⟨aR.mpr λt g=>?_,hd,by rw[ag];omega⟩
   obtain⟨e,_,rfl⟩:=ay.mp g;show (Z9 _).isSome=true;rw[jT];rfl
  have l:tm zO [k.t,C (rs.map Ru.t)]=.ok a:=by
   show (if 2=2 then quiet _ else _)=_
   rw[i];rfl
  show zn (match tm _ _ with
   |.ok a=>(match rg _ _ _ 2 [0] [.vl k.t,.vl _,.un] a with
    |.ok vs=>(match uy _ with
     |.ok (.lst u)=>RS.rf u
     |_=>.bad)
    |_=>.bad)
   |_=>.bad)=_
  rw[l];dsimp only;rw[r];dsimp only;rw[o];rfl
 ·intro x f;have c:=(l5 _ _).mem_iff.mp f;obtain⟨e,_,rfl⟩:=ay.mp c;exact Hj k e
end
def vZ {q:Rat}:0<=q↔0<=q.num:=Rat.num_nonneg.symm
def gR {u:Int}{d:Nat}(h:0<=u)(hd:1<=d):0<=mkRat u d:=by
 rw[vZ,(gK u d hd).1];exact Int.ediv_nonneg h 00
theorem Uq:∀qs:List Rat,(∀q∈qs,0<=q)->0<=ju qs
 |[],_=>by decide
 |q::qs,h=>by
  rw[ju];exact Rat.mul_nonneg (h q ae) (Uq qs λa c=>h a (a9 _ c))
theorem Ur:∀qs:List Rat,(∀q∈qs,0<=q)->0<=zP qs
 |[],_=>by decide
 |q::qs,h=>by
  rw[zP];exact Rat.add_nonneg (h q ae) (Ur qs λa c=>h a (a9 _ c))
theorem V0:∀(d:Nat) (k:Kd) (x:T),k.Ok d->k.has x=true->0<=k.sh x
 |0,_,_,h,_=>h.elim
 |d+1,.whole lo hi,x,h,f=>by have:=h.2.1;rw[Kd.sh];exact gR 01 00
 |d+1,.pick l,x,h,f=>by
  obtain⟨r,_,w3⟩:=yJ h;rw[Kd.sh];cases x with
  |str x=>
   have a:(l.any λc=>c.1==x)=true:=by rw[Kd.has]at f;exact f
   obtain⟨i,e,o⟩:=Je l x a;refine gR ?_ 00
   rw[e];exact dW 01 (w3 _ o).1
  |_=>rw[Kd.has]at f;cases f
 |d+1,.row j,x,h,f=>by
  cases x with
  |tup xs=>
   have a:(xs.length==j.length&&Kd.hass j xs)=true:=by rw[Kd.has]at f;exact f
   rw[am,beq_iff_eq,JH,aR]at a;rw[Kd.sh];show 0<=Kd.shs j xs;rw[WM];exact Uq _ λq g=>by
    obtain⟨p,hp,rfl⟩:=ay.mp g;exact V0 d p.1 p.2 (h.2.2 p.1 (cJ hp).1) (a.2 p hp)
  |_=>rw[Kd.has]at f;cases f
 |d+1,.many k lo hi,x,h,f=>by
  cases x with
  |tup xs=>
   have a:(decide (lo<=xs.length)&&decide (xs.length<=hi)&&xs.all k.has)=true:=by rw[Kd.has]at f;exact f
   rw[am,aR]at a;have:=h.1;rw[Kd.sh];exact Rat.mul_nonneg (gR 01 00) (Uq _ λq g=>by
    obtain⟨p,hp,rfl⟩:=ay.mp g;exact V0 d k p h.2.2 (a.2 p hp))
  |_=>rw[Kd.has]at f;cases f
abbrev D1:En->RS:=Ve 4 5 (za (vE 5) (za (zd jr (vE 4) (vE 5)) (ze)))
theorem V1 {a b c d:Sl}:∀(n y x:Nat),y<n->Zr (zu nq (vB 5) (cE (.int 0))) D1 n [a,b,c,d,.vl (.int (x:Int)),.vl (.int (y:Int))]=.nx [a,b,c,d,.vl (.int ((fO x y:Nat):Int)),.vl (.int 0)]
 |0,y,x,h=>by omega
 |n+1,0,x,h=>by
  rw[vN (show zu nq (vB 5) (cE (.int 0)) [a,b,c,d,.vl (.int (x:Int)),.vl (.int ((0:Nat):Int))]=.ok false from gI),lC];rfl
 |n+1,y+1,x,h=>by
  have e:D1 [a,b,c,d,.vl (.int (x:Int)),.vl (.int ((y+1:Nat):Int))]=.nx [a,b,c,d,.vl (.int ((y+1:Nat):Int)),.vl (.int ((x%(y+1):Nat):Int))]:=by
   show Ve 4 5 _ _=_;unfold Ve;rw[Ee (x:=.int ((y+1:Nat):Int)) (y:=.int ((x%(y+1):Nat):Int)) rfl (by rw[zk,pE,i3,CY,i3,sA 00])];rfl
  have f:x%(y+1)<n:=by have:=lA x (show y+1>0 by omega);omega
  rw[yF (show zu nq (vB 5) (cE (.int 0)) [a,b,c,d,.vl (.int (x:Int)),.vl (.int ((y+1:Nat):Int))]=.ok true from gI) e,V1 n (x%(y+1)) (y+1) f,fP (y+1),←Nat.gcd_rec,fP]
def yM {p q:Rat}{m n:Nat}(h:Bd p m)(k:Bd q n)(F:m+n<8000)(hp:0<=p)(C:0<=q):o6 [mP p,mP q]=.ok (mP (p+q)):=by
 have g:=vZ.mp hp;have f:=vZ.mp C;obtain⟨u,o⟩:=cH (show 0<=p.num*(q.den:Int)+q.num*(p.den:Int) from Int.add_nonneg (Int.mul_nonneg g 00) (Int.mul_nonneg f 00))
 have hd:1<=p.den*q.den:=c_ (Vn p) (Vn q);have r:p.den*q.den<2^9000:=At (m:=m+n) (by rw[eN];exact bx h.den k.den) 00
 have w:1<=fO u (p.den*q.den):=ia _ hd;have v:fO u (p.den*q.den)<2^9000:=b9 (mj _ hd) r;obtain⟨j,l⟩:=gK (u:Int) (p.den*q.den) hd;rw[fY]at j l;have D:p+q=mkRat (u:Int) (p.den*q.den):=by rw[←o];exact lU p q
 show zn (tN [.vl (mP p),.vl (mP q),.un,.un,.un,.un])=_;have i:∀{a b c d:Sl},vE 0 [.vl (mP p),.vl (mP q),a,b,c,d]=.ok (.tup [.int p.num,.int p.den]):=rfl;have e:∀{a b c d:Sl},vE 1 [.vl (mP p),.vl (mP q),a,b,c,d]=.ok (.tup [.int q.num,.int q.den]):=rfl;have B:Ve 2 3 (za (zd zA (zd nY 03 (zd i4 (vE 1) 02)) (zd nY (zd i4 (vE 1) (cE (.int 0))) (zd i4 04 02))) (za (zd nY (zd i4 04 02) (zd i4 (vE 1) 02)) (ze))) [.vl (mP p),.vl (mP q),.un,.un,.un,.un]=.nx [.vl (mP p),.vl (mP q),.vl (.int (u:Int)),.vl (.int ((p.den*q.den:Nat):Int)),.un,.un]:=by
  unfold Ve;rw[Ee (x:=.int (u:Int)) (y:=.int ((p.den*q.den:Nat):Int)) (by
   rw[Eh (uU (pX i) (oW e) h.num (nd _ k.den) 00 00) (uU (pX e) (oW i) k.num (nd _ h.den) 00 00),o]) (by
   rw[uU (oW i) (oW e) (nd _ h.den) (nd _ k.den) 00 00,←dI])];rfl
 unfold tN;rw[zc B,zc (show Ve 4 5 (za (vE 2) (za (vE 3) (ze))) [.vl (mP p),.vl (mP q),.vl (.int (u:Int)),.vl (.int ((p.den*q.den:Nat):Int)),.un,.un]=.nx [.vl (mP p),.vl (mP q),.vl (.int (u:Int)),.vl (.int ((p.den*q.den:Nat):Int)),.vl (.int (u:Int)),.vl (.int ((p.den*q.den:Nat):Int))] from rfl),zc (V1 _ _ _ r),zl (t:=mP (p+q))]
 ·rfl
 ·rw[D];unfold mP;rw[j,l];exact YC (yG w v) (yG w v)
def V2 {C:List T->T}(e:Cn C){a:List T}{rs:List Ru}(hr:∀r∈rs,jq 3 r)(f:∀x∈a,W 2 x)(j:a.length<=1000)(hn:rs.length<=1000):A1 [.lst a,C (rs.map Ru.t)]=.ok (.lst (rs.map λr=>.int (nz a r))):=by
 have i:mR=16777216:=rfl;show zn (AD (sk 8) (mW (.lst a) (C (rs.map Ru.t))))=_;unfold AD;rw[wA];show zE _ _ _ _ _ _ (mW (.lst a) (C (rs.map Ru.t)))=_;rw[zF,ZF,v1,i3];rw[show Jl (C (rs.map Ru.t))=.ok (rs.map Ru.t) by cases e<;>rfl]
 show ((zo _ _ _ _ _ _ (rs.map Ru.t)).bind _)=_;rw[ZK (g:=λr=>.int (nz a r)) rs 00 λr c=>?_,i3]
 show mM Zw _ (mW r.t (.lst a))=_;rw[ZA,zF,ZF,v1,i3];show (((zo _ _ _ _ _ _ a).bind _).bind _)=_;rw[j0 (p:=λx=>kp r x) a 00 λt d=>⟨?_,rfl⟩,i3]
 ·rfl
 ·show jA _ (mW t r.t)=_;rw[Jq,zC,v1,i3,v0,i3,W6 (f t d) (hr r c)];rfl
def Us {k:Kd}(a:k.Ok 3){x:T}(c:k.has x=true):pO [k.t,x]=.ok (mP (k.sh x)):=by
 show zn (AZ Aq (re 20) (mW k.t x))=_;unfold AZ;rw[zc (Ja (t:=.non) (by rw[zC,v0,i3,v1,i3,X0 a c])),wA]
 show zb 2 _ _ (mW k.t x)=_;rw[zC,v0,i3,v1,i3,(Yx a c).1]
theorem V3 {m:Nat}:∀{qs:List Rat},(∀q∈qs,Bd q m)->Bd (zP qs) (qs.length*(m+1))
 |[],_=>bd0.le (aU _)
 |q::qs,h=>by
  rw[zP];refine((h q ae).add (V3 λp hp=>h p (a9 _ hp))).le ?_;rw[aA,fL];omega
section
variable {k:Kd}
def gB (k:Kd)(e:WE):BE:=(e.1,e.2,mP (zP (e.2.map k.sh)))
def qW (k:Kd)(y:List Bool)(a:List WE):Rat:=match a.find? (λe=>decide (e.1=y))with
 |some e=>zP (e.2.map k.sh)
 |none=>0
theorem Dz (y:List Bool):∀a:List WE,nw y (a.map (gB k))=(a.find? λe=>decide (e.1=y)).map (gB k)
 |[]=>rfl
 |e::a=>by
  unfold nw;rw[ao,bA,bA];show (match decide (e.1=y)with|true=>_|false=>_)=_
  cases decide (e.1=y)with
  |true=>rfl
  |false=>exact Dz y a
def EO (y:List Bool)(a:List WE):uA y (a.map (gB k))=mP (qW k y a):=by
 unfold uA qW;rw[Dz];cases a.find? λe=>decide (e.1=y)<;>rfl
theorem DR {y:List Bool}{w:T}:∀c:List WE,(c.map (·.1)).Nodup->wX y w (mP (qW k y c+k.sh w)) (c.map (gB k))=(jF y w c).map (gB k)
 |[],_=>by
  show [(y,[w],mP (0+k.sh w))]=[(y,[w],mP (zP [k.sh w]))];rw[zP,zP,f7,d0]
 |e::c,nd=>by
  rw[ao,cn]at nd
  by_cases h:e.1=y
  ·have g:qW k y (e::c)=zP (e.2.map k.sh):=by unfold qW;rw[bA,decide_eq_true h]
   have hn:∀f∈c,¬f.1=y:=λf i z=>nd.1 (ay.mpr ⟨f,i,z.trans h.symm⟩);unfold wX;rw[Dz,bA,decide_eq_true h];show (if true=true then _ else _)=_
   rw[if_pos rfl,ao,ao,show jF y w (e::c)=(e.1,e.2++[w])::c by obtain⟨a,b⟩:=e;exact if_pos h,ao]
   refine congr (congrArg _ ?_) ?_
   ·show (if e.1=y then (e.1,e.2++[w],mP (qW k y (e::c)+k.sh w))else _)=_
    rw[if_pos h,g];show _=(e.1,e.2++[w],mP (zP ((e.2++[w]).map k.sh)));rw[bm,JM];show _=(e.1,e.2++[w],mP (zP (e.2.map k.sh)+zP [k.sh w]));rw[zP,zP,d0]
   ·refine(b5 λf i=>?_).trans (List.map_id' _);obtain⟨f,d,rfl⟩:=ay.mp i;exact if_neg (hn f d)
  ·have g:qW k y (e::c)=qW k y c:=by unfold qW;rw[bA,decide_eq_false h]
   have l:=DR (y:=y) (w:=w) c nd.2;rw[g,show jF y w (e::c)=e::jF y w c by obtain⟨a,b⟩:=e;exact if_neg h,ao,ao,←l]
   have j:nw y (gB k e::c.map (gB k))=nw y (c.map (gB k)):=by
    unfold nw;rw[bA];show (match decide (e.1=y)with|true=>_|false=>_)=_
    rw[decide_eq_false h]
   unfold wX;rw[j];split
   ·rw[ao];exact congr (congrArg _ (if_neg h)) rfl
   ·rfl
theorem V4 (i:k.Ok 3){kf:T->List Bool}{gw:T->R T}{gs:T->T->R T}:∀(g:List T) (n:Nat) (c:List WE),EOk k.all n c->n+g.length<=60->(∀w∈g,w∈k.all)->(∀w∈k.all,gw w=.ok (.tup ((kf w).map T.bl)))->(∀(q:Rat) (w:T),w∈k.all->0<=q->Bd q 5600->gs (mP q) w=.ok (mP (q+k.sh w)))->ot gw gs g (c.map (gB k))=.ok ((Zv kf g c).map (gB k))
 |[],n,c,_,_,_,_,_=>rfl
 |w::g,n,c,l,hn,r,u,p=>by
  rw[aA]at hn;have j:=r w ae;have d:0<=qW k (kf w) c/\Bd (qW k (kf w) c) 5600:=by
   unfold qW;cases e:c.find? λe=>decide (e.1=kf w)with
   |none=>exact⟨Rat.le_refl,bd0.le (aU _)⟩
   |some f=>
    obtain⟨a,b⟩:=l.mem f (g7 e);refine⟨Ur _ λq d=>?_,(V3 (m:=91) λq d=>?_).le ?_⟩
    ·obtain⟨x,o,rfl⟩:=ay.mp d;exact V0 3 k x i ((ZB k x).mp (a x o))
    ·obtain⟨x,o,rfl⟩:=ay.mp d;exact(Yx i ((ZB k x).mp (a x o))).2
    ·rw[ag];omega
  unfold ot;rw[u w j,i3];dsimp only;rw[jT];dsimp only;rw[EO,p _ w j d.1 d.2,i3,if_pos (show Vi (mP _)=true from rfl),DR c l.nd];exact V4 i g (n+1) _ (l.ins j) 00 (λv y=>r v (a9 _ y)) u p
end
section
variable {k:Kd}{kf:T->List Bool}
theorem V5 {P:List Bool->Prop}(h:∀w,P (kf w)):∀(d:List T) (a:List WE),(∀y∈a.map (·.1),P y)->∀y∈(Zv kf d a).map (·.1),P y
 |[],a,c=>c
 |w::d,a,c=>V5 h d _ λy hy=>by
  rw[WO]at hy;split at hy
  ·exact c y hy
  ·rcases bI.mp hy with z|z
   ·exact c y z
   ·rw[ax.mp z];exact h w
theorem V6 (y:List Bool)(w:T):∀d:List WE,(∀e∈d,e.2≠[])->∀e∈jF y w d,e.2≠[]
 |[],_,e,c=>by
  simp only[jF,ax]at c;subst c;exact λz=>nomatch z
 |(a,b)::r,h,e,c=>by
  unfold jF at c;split at c
  ·rcases au.mp c with rfl|c
   ·simp
   ·exact h e (a9 _ c)
  ·rcases au.mp c with rfl|c
   ·exact h _ ae
   ·exact V6 y w r (λe c=>h e (a9 _ c)) e c
theorem yN:∀(c:List T) (a:List WE),(∀e∈a,e.2≠[])->∀e∈Zv kf c a,e.2≠[]
 |[],a,h=>h
 |w::c,a,h=>yN c _ (V6 _ _ a h)
def nL (k:Kd)(e:WE):Rat:=zP (e.2.map k.sh)
theorem V7 (y:List Bool)(w:T):∀c:List WE,zP ((jF y w c).map (nL k))=zP (c.map (nL k))+k.sh w
 |[]=>by
  show k.sh w+0+0=0+k.sh w;rw[d0,d0,f7]
 |(a,b)::r=>by
  unfold jF;split
  ·rw[ao,ao,zP,zP];show zP ((b++[w]).map k.sh)+_=zP (b.map k.sh)+_+k.sh w;rw[bm,JM];show zP (b.map k.sh)+zP [k.sh w]+_=_;rw[zP,zP,d0,cO,cO,lW (k.sh w)]
  ·rw[ao,ao,zP,zP,V7 y w r,cO]
theorem yO:∀(a:List T) (c:List WE),zP ((Zv kf a c).map (nL k))=zP (c.map (nL k))+zP (a.map k.sh)
 |[],c=>by show _=_+zP [];rw[zP,d0];rfl
 |w::a,c=>by
  show zP ((Zv kf a (jF (kf w) w c)).map (nL k))=_;rw[yO a,V7,ao,zP,cO]
def oi (e:WE):Int:=(e.2.length:Int)
theorem V8 (y:List Bool)(w:T):∀c:List WE,((jF y w c).map oi).sum=(c.map oi).sum+1
 |[]=>rfl
 |(a,b)::r=>by
  unfold jF;split
  ·rw[ao,ao,bK,bK];show ((b++[w]).length:Int)+_=(b.length:Int)+_+1;rw[aB,aM];omega
  ·rw[ao,ao,bK,bK,V8 y w r];omega
theorem yP:∀(a:List T) (c:List WE),((Zv kf a c).map oi).sum=(c.map oi).sum+(a.length:Int)
 |[],c=>by show _=_+((0:Nat):Int);rw[Zv];omega
 |w::a,c=>by
  show ((Zv kf a (jF (kf w) w c)).map oi).sum=_;rw[yP a,V8,aA];omega
theorem yQ {d e:Type}{f:d->e}:∀{l:List e} {m:List d},l.Perm (m.map f)->∃c:List d,c.Perm m/\l=c.map f
 |[],m,h=>by
  have:=h.length_eq;rw[ag]at this;exact⟨[],by rw[bc.mp this.symm],rfl⟩
 |b::l,m,h=>by
  obtain⟨a,i,rfl⟩:=ay.mp (h.mem_iff.mp ae);obtain⟨s,t,rfl⟩:=List.append_of_mem i;have g:l.Perm ((s++t).map f):=by
   refine(h.trans ?_).cons_inv;rw[bm,ao,bm];exact mn
  obtain⟨c,p,rfl⟩:=yQ g;exact⟨a::c,(p.cons a).trans mn.symm,rfl⟩
def V9 {a b:List Rat}(h:a.Perm b):zP a=zP b:=by
 induction h with
 |nil=>rfl
 |cons x _ c=>rw[zP,zP,c]
 |swap x y l=>rw[zP,zP,zP,zP,←cO,←cO,lW y x]
 |trans _ _ i j=>exact i.trans j
def X1 {a b:List Int}(h:a.Perm b):a.sum=b.sum:=by
 induction h with
 |nil=>rfl
 |cons x _ c=>rw[bK,bK,c]
 |swap x y l=>simp only[bK];omega
 |trans _ _ i j=>exact i.trans j
def Va {C:List T->T}(a:Cn C)(c:k.Ok 3)(d:k.all.length<=500){rs:List Ru}(hr:∀r∈rs,jq 3 r)(hn:rs.length<=1000):jP [k.t,C (rs.map Ru.t)]=.ok (.lst ((Zv (wy rs) k.all []).map λe=>T.lst e.2)):=by
 show C0 ((pH [C (rs.map Ru.t)]).bind λ_=>zO [k.t,C (rs.map Ru.t)])=_;rw[jk a hr hn,i3,(yL a c d hr hn).1];rfl
theorem sU (a:List Int)(m:Int):∀(c:List Nat) (x y:Sl),zq (zS 0 1) (zu mL (vB 1) (vB 2)) 04 (c.map λ(i:Nat)=>T.tup [.int (i:Int),.int (a.getD i 0)]) [x,y,.vl (.int m)]=.ok ((c.filter λi=>a.getD i 0==m).map λ(i:Nat)=>T.int (i:Int))
 |[],_,_=>rfl
 |i::c,x,y=>by
  have e:=sU a m c (.vl (.int (i:Int))) (.vl (.int (a.getD i 0)));have d:zq (zS 0 1) (zu mL (vB 1) (vB 2)) 04 ((i::c).map λ(i:Nat)=>T.tup [.int (i:Int),.int (a.getD i 0)]) [x,y,.vl (.int m)]=if (a.getD i 0==m)=true then (R.ok (T.int (i:Int))).bind λv=>(zq (zS 0 1) (zu mL (vB 1) (vB 2)) 04 (c.map λ(i:Nat)=>T.tup [.int (i:Int),.int (a.getD i 0)]) [.vl (.int (i:Int)),.vl (.int (a.getD i 0)),.vl (.int m)]).bind λvs=>.ok (v::vs)else zq (zS 0 1) (zu mL (vB 1) (vB 2)) 04 (c.map λ(i:Nat)=>T.tup [.int (i:Int),.int (a.getD i 0)]) [.vl (.int (i:Int)),.vl (.int (a.getD i 0)),.vl (.int m)]:=rfl
  rw[d,e,iu];split<;>rfl
def Dl (a:List Int)(m:Int)(f:Ua (.lst (a.map T.int))=.ok (.int m)):∀(c:List Nat) (x:Sl),(∀i∈c,i<a.length)->zq (zB 0) (zu mL (zd i4 (vE 1) 04) (mM Ua (vB 1))) 04 (c.map λ(i:Nat)=>T.int (i:Int)) [x,.vl (.lst (a.map T.int))]=.ok ((c.filter λi=>a.getD i 0==m).map λ(i:Nat)=>T.int (i:Int)):=λc x h=>by
 have:=Ze (ft:=zu mL (zd i4 (vE 1) 04) (mM Ua (vB 1))) (fe:=vE 0) (p:=λt=>match t with|.int i=>a.getD i.toNat 0==m|_=>false) (h:=id) (c.map λ(i:Nat)=>T.int (i:Int)) [x,.vl (.lst (a.map T.int))] λt e=>by
  obtain⟨i,hi,rfl⟩:=ay.mp e;refine⟨?_,λ_=>rfl⟩;have d:=h i hi;show zu mL _ _ [.vl (.int (i:Int)),.vl (.lst (a.map T.int))]=_;rw[zM,zk,v1,i3,v0,i3];show ((nt (a.map T.int) ((i:Nat):Int)).bind _)=_;unfold nt;rw[j2 (by rw[aw,ah d];rfl)]
  show ((Ua (.lst (a.map T.int))).bind λy=>mL (.int a[i]) y)=_;rw[f,i3];show R.ok (a[i]==m)=R.ok (a.getD ((i:Nat):Int).toNat 0==m);rw[a_,bv,ah d];rfl
 rw[this,List.filter_map,aK];rfl
end
abbrev wB:En->RS:=zp (zG 8 (zb 2 o6 (za (vE 8) (za (vE 10) (ze))))) (mT (nU (zu nq (zE (Zj (vE 7)) (zB 0) (WR (jA (mM (wT "bool") (vB 0)))) 02 1 []) (j7 (ze))) (zu oB (vB 9) 02)) (zw (cE (.bl false))) (mS))
abbrev eW (ns:List Int)(k:Kd)(rs:List Ru)(q:Rat)(a b c d:Sl):En:=[.vl (mU ns),.vl k.t,.vl (.lst (rs.map Ru.t)),.un,.un,.un,.un,a,.vl (mP q),b,c,d]
section
variable {ns:List Int}{k:Kd}{rs:List Ru}{d:Sl}
def AK (e:WE):Nat:=e.2.length*92+1
theorem XN (o:k.Ok 3):∀(fs:List WE) (q:Rat) (m:Nat) (a b c:Sl),(∀e∈fs,e.2≠[]/\(∀x∈e.2,x∈k.all)/\e.1.length<=1000)->0<=q->Bd q m->m+(fs.map AK).sum<=7900->∃g i l,ZJ (Kr 7 9 10) wB (fs.map (tl k)) (eW ns k rs q a b c d)=.nx (eW ns k rs (q+zP (fs.map (nL k))) g i l d)
 |[],q,m,a,b,c,_,_,_,_=>⟨a,b,c,by show RS.nx _=RS.nx (eW ns k rs (q+0) a b c d);rw[d0]⟩
 |e::fs,q,m,a,b,c,h,u,y,C=>by
  have I:mR=16777216:=rfl;obtain⟨D,r,J⟩:=h e ae;rw[ao,bK]at C;have hz:AK e=e.2.length*92+1:=rfl;have w:Bd (nL k e) (e.2.length*92):=by
   have:=V3 (m:=91) (qs:=e.2.map k.sh) λp hp=>by
    obtain⟨x,j,rfl⟩:=ay.mp hp;exact(Yx o ((ZB k x).mp (r x j))).2
   rwa[ag]at this
  have v:0<=nL k e:=Ur _ λp hp=>by
   obtain⟨x,j,rfl⟩:=ay.mp hp;exact V0 3 k x o ((ZB k x).mp (r x j))
  obtain⟨g,i,l,F⟩:=XN o fs (q+nL k e) (m+e.2.length*92+1) (.vl (.tup (e.1.map T.bl))) (.vl (.int (e.2.length:Int))) (.vl (mP (nL k e))) (λf G=>h f (a9 _ G)) (Rat.add_nonneg u v) (y.add w) 00
  refine⟨g,i,l,?_⟩;have s1:wB (eW ns k rs q (.vl (.tup (e.1.map T.bl))) (.vl (.int (e.2.length:Int))) (.vl (mP (nL k e))) d)=.nx (eW ns k rs (q+nL k e) (.vl (.tup (e.1.map T.bl))) (.vl (.int (e.2.length:Int))) (.vl (mP (nL k e))) d):=by
   unfold wB;rw[zc (ρ':=eW ns k rs (q+nL k e) (.vl (.tup (e.1.map T.bl))) (.vl (.int (e.2.length:Int))) (.vl (mP (nL k e))) d) ?s1,zm ?s2]
   case s1=>
    rw[zK (t:=mP (q+nL k e))]
    ·rfl
    ·exact yM y w 00 u v
   case s2=>
    rw[Ym,zM,zF];show (((zo _ _ _ _ _ _ (e.1.map T.bl)).bind _).bind _).bind _=_;unfold zo;rw[if_pos (by rw[ag];omega),Ze (p:=λ_=>false) (h:=λ_=>.int 1) (e.1.map T.bl) _ λt B=>by
     obtain⟨x,_,rfl⟩:=ay.mp B;exact⟨rfl,λ_=>rfl⟩,iI.mpr λ_ _=>by decide]
    show R.ok (decide ((e.2.length:Int)<1))=_;have:0<e.2.length:=List.length_pos_iff.mpr D;rw[decide_eq_false 00]
  rw[ao,ji (ρ1:=eW ns k rs q (.vl (.tup (e.1.map T.bl))) (.vl (.int (e.2.length:Int))) (.vl (mP (nL k e))) d) rfl s1,F,ao,zP,cO]
theorem XO:∀fs:List WE,((fs.map AK).sum:Int)=92*(fs.map oi).sum+fs.length
 |[]=>rfl
 |e::fs=>by
  have a:=XO fs;rw[ao,ao,bK,bK,aA];have:AK e=e.2.length*92+1:=rfl;have c:oi e=(e.2.length:Int):=rfl;omega
def gS (a:EOk k.all k.all.length (Zv (wy rs) k.all []))(r:k.all.length<=60):uB ((Zv (wy rs) k.all []).map (gB k))=true:=by
 have u:=a.len;have c:=V5 (kf:=wy rs) (P:=λy=>y.length=rs.length) (λw=>by unfold wy;rw[ag]) k.all [] (λy hy=>by cases hy)
 have nd:=a.nd;generalize Zv (wy rs) k.all []=l at*;unfold uB;rw[am,eI,decide_eq_true_eq,decide_eq_true_eq,ag];refine⟨by omega,?_⟩
 by_cases j:rs.length=0
 ·left
  match l,nd,c with
  |[],_,_=>exact(by decide:0<2)
  |[_],_,_=>exact(by decide:1<2)
  |e::f::l,nd,c=>
   exfalso;have i:=bc.mp ((c e.1 (ay.mpr ⟨e,ae,rfl⟩)).trans j);have o:=bc.mp ((c f.1 (ay.mpr ⟨f,a9 _ ae,rfl⟩)).trans j);rw[ao,cn]at nd;exact nd.1 (ay.mpr ⟨f,ae,by rw[i,o]⟩)
 ·right
  refine aR.mpr λg q=>?_;obtain⟨e,p,rfl⟩:=ay.mp q;have:=c e.1 (ay.mpr ⟨e,p,rfl⟩);show (!e.1.isEmpty)=true;cases i:e.1 with
  |nil=>rw[i]at this;exact absurd this.symm j
  |cons _ _=>rfl
def tH {t:T}{r:RS}(h:Pl 30 t):oq t t r=r:=by unfold oq;rw[vk h]
def gT (a:k.Ok 3)(j:k.all.length<=60)(hr:∀r∈rs,jq 3 r)(hn:rs.length<=1000):Qz 3 4 5 6 7 (zb 1 (nW 8) 05) (mM Y2 (zE (Zj (vE 2)) (zB 0) (Z2) (zb 2 (pS 8) (za 04 05)) 1 [6])) (zb 2 pO (za (vE 1) (za (vE 6) (ze)))) o6 (zb 2 rJ (za (vE 1) (za (vE 2) (ze)))) (zb 2 jP (za (vE 1) (za (mM Y2 (vE 2)) (ze)))) [.vl (mU ns),.vl k.t,.vl (.lst (rs.map Ru.t)),.un,.un,.un,.un,.un,.un,.un,.un,.un]=.nx [.vl (mU ns),.vl k.t,.vl (.lst (rs.map Ru.t)),.un,.un,.un,.un,.un,.un,.un,.un,.un]:=by
 have I:mR=16777216:=rfl;obtain⟨u,_,pl⟩:=WP .l a j hr hn;obtain⟨_,o⟩:=yL .l a 00 hr hn
 have p1:=Va .t a 00 hr hn
 have v:zb 1 (nW 8) 05 [.vl (mU ns),.vl k.t,.vl (.lst (rs.map Ru.t)),.un,.un,.un,.un,.un,.un,.un,.un,.un]=.ok (.lst k.all):=by
  rw[zL,v1,i3];exact uL 3 8 00 00 k a 00
 have p:=V4 a (kf:=wy rs) (gw:=oN (mM Y2 (zE (Zj (vE 2)) (zB 0) (Z2) (zb 2 (pS 8) (za 04 05)) 1 [6])) [.vl (mU ns),.vl k.t,.vl (.lst (rs.map Ru.t)),.un,.un,.un,.un,.un,.un,.un,.un,.un] 6) (gs:=oA (zb 2 pO (za (vE 1) (za (vE 6) (ze)))) o6 [.vl (mU ns),.vl k.t,.vl (.lst (rs.map Ru.t)),.un,.un,.un,.un,.un,.un,.un,.un,.un] 6) k.all 0 [] ⟨by simp,by simp,λe G=>by cases G⟩ 00 (λw c=>c) (λw c=>by
   show (((zo _ _ _ _ _ _ (rs.map Ru.t)).bind _).bind _)=_;rw[ZK (g:=λr=>.bl (kp r w)) rs 00 λr i=>?_,i3]
   ·unfold wy;rw[aK];rfl
   ·show zb 2 _ _ (mW r.t w)=_;rw[zC,v0,i3,v1,i3];exact j3 00 (vM a c) 8 3 00 r (hr r i)) (λq w c B D=>by
   show ((pO [k.t,w]).bind λt=>o6 [mP q,t])=_;rw[Us a ((ZB k w).mp c),i3];exact yM D (Yx a ((ZB k w).mp c)).2 01 B (V0 3 k w a ((ZB k w).mp c)))
 have e:yg 3 4 5 6 7 [.vl (mU ns),.vl k.t,.vl (.lst (rs.map Ru.t)),.un,.un,.un,.un,.un,.un,.un,.un,.un]=[.vl (mU ns),.vl k.t,.vl (.lst (rs.map Ru.t)),.un,.un,.un,.un,.un,.un,.un,.un,.un]:=rfl;unfold Qz;rw[if_pos (show List.all _ AV=true from rfl),e,v];dsimp only;rw[if_pos 00,show ot _ _ k.all []=_ from p]
 dsimp only;rw[if_pos (gS o j),zC,v1,i3,v2,i3,u,zC,v1,i3,show mM Y2 (vE 2) [.vl (mU ns),.vl k.t,.vl (.lst (rs.map Ru.t)),.un,.un,.un,.un,.un,.un,.un,.un,.un]=.ok (.tup (rs.map Ru.t)) from rfl,i3,p1];dsimp only;rw[aK,aK];show oq (.lst (wE ((Zv (wy rs) k.all []).map (tl k)))) (.lst (wE ((Zv (wy rs) k.all []).map (tl k)))) (oq (.lst ((Zv (wy rs) k.all []).map λe=>T.lst e.2)) (.lst ((Zv (wy rs) k.all []).map λe=>T.lst e.2)) _)=_;rw[tH pl,tH];intro x C;obtain⟨f,F,rfl⟩:=ay.mp C;exact λy hy=>(vM a ((o.mem f F).1 y hy)).pl.le (show 2+1<=28 by decide)
end
section
variable {ns:List Int}{k:Kd}{rs:List Ru}
def FB (a:List Int):jt (a.map T.int)=(aV a.length).map λ(i:Nat)=>T.tup [.int (i:Int),.int (a.getD i 0)]:=by
 unfold jt;refine cX λi=>?_;rw[aw,aw,iS,aw]
 by_cases h:i<a.length
 ·rw[ah h,dk h];show some (T.tup [.int ((0+i:Nat):Int),.int a[i]])=some (T.tup [.int (i:Int),.int (a.getD i 0)]);rw[fN,bv,ah h];rfl
 ·rw[aS 00,aS (by rw[ba];omega)];rfl
def BJ (d:List Int):List T:=((aV d.length).filter λi=>d.getD i 0==(match d with|[]=>0|c::d=>Zx (λa b=>decide (a<b)) c d)).map λ(i:Nat)=>T.int (i:Int)
def Ut (e:k.Ok 3)(o:k.all.length<=60)(hr:∀r∈rs,jq 3 r)(hn:rs.length<=1000):AS [k.t,.lst (rs.map Ru.t)]=.ok (.lst (BJ (rs.map (nz k.all)))):=by
 have j:mR=16777216:=rfl;show zn (AJ rc pH A1 [.vl k.t,.vl (.lst (rs.map Ru.t)),.un,.un])=_;unfold AJ;rw[zc (Ja (t:=.non) (by rw[zL,v1,i3,jk .l hr hn])),zc (ρ':=[.vl k.t,.vl (.lst (rs.map Ru.t)),.vl (.lst ((rs.map (nz k.all)).map T.int)),.un]) ?e1,zc (ρ':=[.vl k.t,.vl (.lst (rs.map Ru.t)),.vl (.lst ((rs.map (nz k.all)).map T.int)),.vl (.int (match rs.map (nz k.all)with|[]=>0|c::d=>Zx (λa b=>decide (a<b)) c d))]) ?e2]
 case e1=>
  rw[zK (t:=.lst ((rs.map (nz k.all)).map T.int))]
  ·rfl
  ·rw[zC,zL,v0,i3,jS e 00,i3,v1,i3,V2 .l hr (λx g=>vM e g) 00 hn,aK];rfl
 case e2=>
  rw[zK (t:=.int (match rs.map (nz k.all)with|[]=>0|c::d=>Zx (λa b=>decide (a<b)) c d))]
  ·rfl
  ·generalize rs.map (nz k.all)=d;cases d with
   |nil=>rfl
   |cons c d=>
    show (match zR ((c::d).map T.int)with|some (i::l)=>R.ok (T.int (Zx (λa b=>decide (a<b)) i l))|_=>.bad)=_
    rw[Jb]
 have f:(rs.map (nz k.all)).length<=1000:=by rw[ag];exact hn
 generalize rs.map (nz k.all)=d at*;show zn ((R.ok (jt (d.map T.int))).s λts=>(zo (zS 0 1) (zu mL (vB 1) (vB 2)) 04 2 [3] [.vl k.t,.vl (.lst (rs.map Ru.t)),.vl (.lst (d.map T.int)),.vl (.int _)] ts).s λvs=>RS.rf vs)=_;rw[ZZ,FB];unfold zo;rw[if_pos (by rw[ag,ba];omega)]
 show zn ((quiet (zq _ _ _ _ [.un,.un,.vl (.int _)])).s _)=_;rw[sU];rfl
def X2 (c:k.Ok 3)(j:k.all.length<=60)(hr:∀r∈rs,jq 3 r)(hn:rs.length<=1000){ρ:En}(e:vE 2 ρ=.ok (.lst (rs.map Ru.t)))(f:Jz 1 [1] ρ=[.un,.vl k.t]):zE (Zj (vE 2)) (zB 0) (Z2) (mM Zw (zE (Zj (zb 1 (nW 8) 05)) (zB 0) (jA (zb 2 (pS 8) (za (vE 1) (za 04 (ze))))) 02 1 [0])) 1 [1] ρ=.ok (.lst ((rs.map (nz k.all)).map T.int)):=by
 have i:mR=16777216:=rfl;rw[zF,ZF,e,i3];show ((zo _ _ _ _ _ _ (rs.map Ru.t)).bind _)=_;rw[ZK (g:=λr=>.int (nz k.all r)) rs 00 λr a=>?_,i3,aK]
 ·rfl
 ·rw[f];show mM Zw _ (mW r.t k.t)=_;rw[ZA,zF,ZF,zL,v1,i3,show nW 8 [k.t]=.ok (.lst k.all) from uL 3 8 00 00 k c 00,i3]
  show (((zo _ _ _ _ _ _ k.all).bind _).bind _)=_;unfold zo;rw[if_pos 00,Ze (p:=λx=>kp r x) (h:=λ_=>.int 1) k.all _ λt d=>⟨?_,λ_=>rfl⟩]
  ·show R.ok (T.int (((k.all.filter λx=>kp r x).map λ_=>T.int 1).length:Int))=_;rw[ag];rfl
  ·show jA _ (mW t r.t)=_;rw[Jq,zC,v1,i3,v0,i3,show pS 8 [r.t,t]=_ from j3 00 (vM c d) 8 3 00 r (hr r a)];rfl
end
def law_ok (ns:List Int)(h:ns.length<=63):pk [.fz (ns.map T.int)]=.ok (.bl true):=by
 obtain⟨k,o,F,hs⟩:=xQ ns 0 00 60 00
 obtain⟨p,hp,p0,p1⟩:=zN ns 1 5 01 01
 have hb:mR=16777216:=rfl;obtain⟨B,D⟩:∃B:Nat->Ru,∀i:Nat,jq 2 (B i)/\AU 8 [mU ns,.int (3000+200*(0+(i:Int))),.int 2]=.ok (B i).t:=⟨λi=>Classical.choose (JL ns 8 2 00 00 (3000+200*(0+(i:Int))) 00),λi=>by
  have:=Classical.choose_spec (JL ns 8 2 00 00 (3000+200*(0+(i:Int))) 00)
  exact⟨this.2,this.1⟩⟩
 obtain⟨rs,v⟩:∃rs,rs=(aV p.toNat).map B:=⟨_,rfl⟩;have hr:∀r∈rs,jq 3 r:=λr h=>by
  rw[v]at h;obtain⟨i,_,rfl⟩:=ay.mp h;exact(D i).1.up
 have hn:rs.length<=1000:=by rw[v,ag,ba];omega
 obtain⟨S,_,pl⟩:=WP .l o F hr hn;obtain⟨Q,_,_⟩:=WP .t o F hr hn;obtain⟨_,U⟩:=yL .l o 00 hr hn
 have hP:=V5 (kf:=wy rs) (P:=λy=>y.length=rs.length) (λw=>by unfold wy;rw[ag]) k.all [] (λy hy=>by cases hy)
 have L:=yN (kf:=wy rs) k.all [] (λe N=>by cases N)
 have hS:=yO (k:=k) (kf:=wy rs) k.all [];have hC:=yP (kf:=wy rs) k.all [];have C:nW 8 [k.t]=.ok (.lst k.all):=uL 3 8 00 00 k o 00
 have J:=gT (ns:=ns) o F hr hn;generalize Zv (wy rs) k.all []=es at*;obtain⟨fs,q,I⟩:=yQ (ZY (es.map (tl k)));rw[I]at S Q pl;have hel:=U.len;have X:(fs.map oi).sum=(k.all.length:Int):=by rw[X1 (q.map oi),hC];show (0:Int)+_=_;omega
 have sS:(0:Rat)+zP (fs.map (nL k))=1:=by
  rw[V9 (q.map (nL k)),hS];show (0:Rat)+(0+zP (k.all.map k.sh))=1;rw[f7,f7];exact Br 3 k o
 have hfl:=q.length_eq;obtain⟨a,b,c,O⟩:=XN (ns:=ns) (rs:=rs) (d:=.un) o fs 0 0 .un .un .un (λe N=>by
  have u:=q.mem_iff.mp N;refine⟨L e u,(U.mem e u).1,?_⟩;rw[hP e.1 (ay.mpr ⟨e,u,rfl⟩)];exact hn) Rat.le_refl bd0 (by
  have:=XO fs;rw[X]at this;omega)
 rw[sS]at O;show zn (tY nu (nW 8) rN pO (AU 8) (pS 8) o6 rJ jP AS [.vl (mU ns),.un,.un,.un,.un,.un,.un,.un,.un,.un,.un,.un])=_;unfold tY;rw[zc (ρ':=[.vl (mU ns),.vl k.t,.un,.un,.un,.un,.un,.un,.un,.un,.un,.un]) ?e0]
 case e0=>
  rw[zK (t:=k.t)]
  ·rfl
  ·rw[Zi,v0,i3,zU,i3,zU,i3];exact hs
 rw[zc (ρ':=[.vl (mU ns),.vl k.t,.vl (.lst (rs.map Ru.t)),.un,.un,.un,.un,.un,.un,.un,.un,.un]) ?e1]
 case e1=>
  rw[zK (t:=.lst (rs.map Ru.t))]
  ·rfl
  ·rw[zF,WH (j:=p) (by rw[Zi,v0,i3,zU,i3,zU,i3,hp]) 00,i3]
   show ((zo _ _ _ _ _ _ ((aV p.toNat).map λ(i:Nat)=>.int (0+(i:Int)))).bind _)=_;rw[ZK (g:=λi=>(B i).t) (aV p.toNat) (by rw[ba];omega) λi _=>?_,i3,v,aK]
   ·rfl
   ·show zb 3 _ _ (mW (.int (0+(i:Int))) (mU ns))=_;rw[Zi,v1,i3,zk,zU,i3,zk,zU,i3,v0,i3,Yr _ _ (.inl ⟨by decide,by decide⟩),i3,Z1,i3,zU,i3,(D i).2]
 rw[zc J,zc (ρ':=eW ns k rs 0 .un .un .un .un) ?e2]
 case e2=>rfl
 rw[zc (ρ':=eW ns k rs 1 a b c .un) ?e3]
 case e3=>
  unfold j5;rw[ZF,zC,v1,i3,show mM Y2 (vE 2) (eW ns k rs 0 .un .un .un .un)=.ok (.tup (rs.map Ru.t)) from rfl,i3,Q,i3];exact O
 rw[zc (ρ':=eW ns k rs 1 a b c (.vl (.lst ((rs.map (nz k.all)).map T.int)))) ?e4]
 case e4=>
  rw[zK (X2 o F hr hn rfl rfl)];rfl
 rw[zc (zm ?e5),wA]
 case e5=>
  rw[zM,zC,v1,i3,v2,i3,Ut o F hr hn,i3,zF,WH (j:=((rs.map Ru.t).length:Int)) rfl (by rw[ag];omega),i3]
  show ((zo _ _ _ _ _ _ ((aV ((rs.map Ru.t).length:Int).toNat).map λ(i:Nat)=>T.int (0+(i:Int)))).bind _).bind _=_;have G:(rs.map (nz k.all)).length=rs.length:=ag _;have M:(aV ((rs.map Ru.t).length:Int).toNat).map (λ(i:Nat)=>T.int (0+(i:Int)))=(aV (rs.map (nz k.all)).length).map λ(i:Nat)=>T.int (i:Int):=by
   rw[a_,ag,G];exact b5 λi _=>by rw[iG]
  rw[M];unfold zo;rw[if_pos (by rw[ag,ba,G];omega)]
  show ((quiet (zq _ _ _ _ [.un,.vl (.lst ((rs.map (nz k.all)).map T.int))])).bind _).bind _=_;have Z:zq (zB 0) (zu mL (zd i4 (vE 1) 04) (mM Ua (vB 1))) 04 ((aV (rs.map (nz k.all)).length).map λ(i:Nat)=>T.int (i:Int)) [.un,.vl (.lst ((rs.map (nz k.all)).map T.int))]=.ok (BJ (rs.map (nz k.all))):=by
   generalize rs.map (nz k.all)=cs;cases cs with
   |nil=>rfl
   |cons x xs=>
    refine Dl (x::xs) _ ?_ _ _ λi hi=>bu.mp hi;show (match zR ((x::xs).map T.int)with|some (i::l)=>R.ok (T.int (Zx (λa b=>decide (a<b)) i l))|_=>.bad)=_
    rw[Jb]
  rw[Z];refine vk (t:=.lst (BJ (rs.map (nz k.all)))) λy hy=>?_;obtain⟨i,_,rfl⟩:=ay.mp hy;trivial
 show ZW _ _ [.vl (mU ns),.vl k.t,.vl (.lst (rs.map Ru.t)),.un,.un,.un,.un,sj a,.vl (mP 1),sj b,sj c,.vl (.lst ((rs.map (nz k.all)).map T.int))]=_;refine gQ (XM (t:=mP 1) rfl rfl λy hy=>?_) (XM (t:=.int (k.all.length:Int)) ?_ ?_ trivial)
 ·simp only[au,bX,or_false]at hy;rcases hy with rfl|rfl<;>trivial
 ·rw[ZA,zF,ZF,zC,v1,i3,v2,i3,S,i3];show (((zo _ _ _ _ _ _ (fs.map (tl k))).bind _).bind _)=_;rw[ZK (f:=tl k) (g:=λe=>.int (oi e)) fs 00 λe _=>rfl,i3,i3]
  show VU (.lst (fs.map λe=>.int (oi e)))=_;show (match zR (fs.map λe=>T.int (oi e))with|some l=>R.ok (T.int l.sum)|none=>.bad)=_
  rw[show (fs.map λe=>T.int (oi e))=(fs.map oi).map T.int from (aK ..).symm▸rfl,Jb];dsimp only;rw[X]
 ·rw[ZA,zL,v1,i3,C];rfl
end G
namespace G
open PySem PySem.Spec PyProof.Rows L2 PV
noncomputable def mY (i:Nat):Stmt:=PySem.Challenge.pw_worthkinds_k43_whole_tallies.main.body.getD i (.Pass ⟨0,0,0,0⟩)
set_option genInjectivity false in
set_option genSizeOf false in
structure Tx (K:aj) (mg:Str->Option Value):Prop where
 C_1f:FE K mg "_law_cell" (mY 66) ["_law_script","_law_k"]
 C_2:FE K mg "_law_pick" (mY 67) ["_law_script","_law_k","_law_many"]
 C_10:FE K mg "_law_word_of" (mY 68) ["_law_script","_law_at"]
 C_12:FE K mg "_law_leaf_kind" (mY 69) ["_law_script","_law_at"]
 C_i:FE K mg "_law_kind" (mY 70) ["_law_script","_law_at","_law_deep"]
 C_j:FE K mg "_law_rows_of" (mY 72) ["_law_lists"]
 C_3:FE K mg "_law_all" (mY 71) ["_law_kind_here"]
 C_g:FE K mg "_law_size" (mY 73) ["_law_kind_here"]
 C_15:FE K mg "_law_small" (mY 74) ["_law_script","_law_at","_law_most"]
 C_m:FE K mg "_law_rule" (mY 75) ["_law_script","_law_at","_law_deep"]
 C_n:FE K mg "_law_leaves" (mY 76) ["_law_worth"]
 C_6:FE K mg "_law_keeps" (mY 77) ["_law_rule_here","_law_worth"]
 C_v:FE K mg "_law_plus" (mY 78) ["_law_one","_law_other"]
 C_b:FE K mg "is_whole" (mY 12) ["thing"]
 C_1i:FE K mg "is_span" (mY 15) ["low","high","least","most"]
 C_f:FE K mg "is_tuple_of" (mY 13) ["thing","least","most"]
 C_u:FE K mg "is_word" (mY 14) ["thing"]
 C_16:FE K mg "is_choice" (mY 18) ["thing"]
 C_14:FE K mg "are_choices" (mY 17) ["thing"]
 C_8:FE K mg "is_kind_within" (mY 16) ["thing","levels"]
 C_1o:FE K mg "are_kinds_within" (mY 19) ["thing","levels"]
 C_4:FE K mg "is_kind" (mY 8) ["thing"]
 C_w:FE K mg "need_kind" (mY 10) ["kind"]
 C_p:FE K mg "words_of_pick" (mY 20) ["kind"]
 C_e:FE K mg "has_worth" (mY 21) ["kind","thing"]
 C_1m:FE K mg "have_parts" (mY 22) ["kinds","parts"]
 C_1g:FE K mg "is_worth" (mY 9) ["kind","thing"]
 C_19:FE K mg "need_worth" (mY 11) ["kind","worth"]
 C_1:FE K mg "count_of" (mY 26) ["kind"]
 C_z:FE K mg "count_of_parts" (mY 27) ["kinds"]
 C_r:FE K mg "count_shorter" (mY 28) ["kind","length"]
 C_17:FE K mg "greatest_divisor" (mY 35) ["one","other"]
 C_q:FE K mg "fraction" (mY 34) ["up","down"]
 C_1e:FE K mg "share_of_word" (mY 41) ["kind","word"]
 C_t:FE K mg "times" (mY 36) ["one","other"]
 C_7:FE K mg "share_within" (mY 40) ["kind","worth"]
 C_1j:FE K mg "share_of_parts" (mY 42) ["kinds","parts"]
 C_5:FE K mg "share_of" (mY 33) ["kind","worth"]
 C_1b:FE K mg "is_bound" (mY 51) ["thing"]
 C_o:FE K mg "is_rule_within" (mY 50) ["thing","levels"]
 C_9:FE K mg "is_rule" (mY 46) ["thing"]
 C_a:FE K mg "need_rule" (mY 47) ["rule"]
 C_s:FE K mg "need_rules" (mY 48) ["rules"]
 C_h:FE K mg "worth_at" (mY 29) ["kind","number"]
 C_1n:FE K mg "many_at" (mY 30) ["kind","number"]
 C_11:FE K mg "parts_at" (mY 31) ["kinds","number"]
 C_y:FE K mg "all_worths" (mY 25) ["kind"]
 C_l:FE K mg "leaves_of" (mY 55) ["worth"]
 C_1a:FE K mg "numbers_in" (mY 56) ["worth"]
 C_1h:FE K mg "parts_of" (mY 54) ["worth"]
 C_1k:FE K mg "are_rising" (mY 57) ["numbers"]
 C_1l:FE K mg "are_unlike" (mY 58) ["parts"]
 C_13:FE K mg "is_single_kept" (mY 53) ["rule","worth"]
 C_d:FE K mg "is_kept" (mY 52) ["rule","worth"]
 C_1p:FE K mg "way_of" (mY 64) ["rules","worth"]
 C_worths_by_ways:FE K mg "worths_by_ways" (mY 63) ["kind","rules"]
 C_c:FE K mg "plus" (mY 37) ["one","other"]
 C_k:FE K mg "together" (mY 38) ["fractions"]
 C_1d:FE K mg "shares_together" (mY 39) ["kind","worths"]
 C_x:FE K mg "tally" (mY 60) ["kind","rules"]
 C_parted:FE K mg "parted" (mY 61) ["kind","rules"]
 C_18:FE K mg "counts_keeping" (mY 49) ["worths","rules"]
 C_1c:FE K mg "tightest" (mY 62) ["kind","rules"]
 C_0:FE K mg "law" (mY 79) ["_law_script"]
 z:∀x,(["abs","all","any","bool","dict","enumerate","int","isinstance","len","list","min","range","reversed","set","sorted","str","sum","tuple","zip"]:List Str).contains x=true->mg x=none
 c_DEEPEST:∃u,mg "DEEPEST"=some u/\∃t,u=Value.int 3 t
 c_DEEPEST_RULE:∃u,mg "DEEPEST_RULE"=some u/\∃t,u=Value.int 3 t
 c_FARTHEST_BOUND:∃u,mg "FARTHEST_BOUND"=some u/\∃t,u=Value.int 50 t
 c_MOST_TOLD:∃u,mg "MOST_TOLD"=some u/\∃t,u=Value.int 500 t
section
variable {Z:Zz}(tx:Tx Z.K Z.mg)
include tx
set_option hygiene false
local macro_rules| `(tactic|gp_on)=> `(tactic|first
  |(show UB _ _ _ _;first
   |refine GN ?_ ?_
   |exact LB)
  |(show Snd _ _ (.Name ..) _;first
   |exact Ic _ (pv _)
   |exact tx.c_FARTHEST_BOUND.elim λ_ h=>Wk 09 h.1 h.2
   |exact tx.c_DEEPEST.elim λ_ h=>Wk 09 h.1 h.2
   |exact tx.c_DEEPEST_RULE.elim λ_ h=>Wk 09 h.1 h.2
   |exact tx.c_MOST_TOLD.elim λ_ h=>Wk 09 h.1 h.2)
  |(show Snd _ _ (.Constant ..) _;first
   |exact Ir
   |exact LF
   |exact BK)
  |(show WS _ _ _ _;first
   |refine JU ?_ ?_
   |exact IM
   |refine xv (by assumption) hr nd 09 (.inl 09) ?_ (DN hy 06 06 09 ?_ (λ_ hy _ _ _ _ _ _=>?_) (λ_ hy _ _ _ _ _ _ _ hp=>?_)) (pv _) (tx.z _ 06)
   |refine F1 ?_)
  |(show jv _ _ _ _;first
   |exact GM _ (pv _)
   |refine Snd.b ?_)
  |(show Wg _ _ _ _;first
   |refine Fv ?_
   |refine E9 ?_ ?_ ?_
   |refine Ev nd 09 (.inl 09) ?_
   |refine DV dJ 09 ?_ ?_ ?_
   |refine HF ?_
   |refine Ev nd 09 (.inr 09) ?_
   |refine EN nd 09 (.inl 09) ?_
   |refine FU (BI hy 06 06 09 ?_ (λ_ hy _ _ _ _ _ _=>?_) (λ_ hy _ _ _ _ _ _ _ hp=>?_)) nd 09 (.inl 09) 09
   |exact EG
   |refine Ly (pv _) ?_
   |refine Fe 09 nd 09 09 01 09 09 ?_ 09
   |refine HU (pv _) ?_
   |refine qr (n:=_^_) dJ ?_ ?_
   |exact BU (pv _) nd 09 (.inl 09)
   |refine qr (n:=_) dJ ?_ ?_
   |refine Xl (BI hy 06 06 09 ?_ (λ_ hy _ _ _ _ _ _=>?_) (λ_ hy _ _ _ _ _ _ _ hp=>?_))
   |refine Xl (DN hy 06 06 09 ?_ (λ_ hy _ _ _ _ _ _=>?_) (λ_ hy _ _ _ _ _ _ _ hp=>?_)))
  |(show Snd _ _ (.Call ..) _;first
   |refine HK 09 (tx.z _ 06) ?_
   |refine VJ (n:="tuple") (ud _) 09 (tx.z _ 06) 09 (tx.z _ 06) PyProof.Rows.Boot.«tuple» ?_
   |refine kM 09 (tx.z _ 06) ?_
   |refine HJ hr.hd 09 (tx.z _ 06) ?_
   |refine IG 09 (tx.z _ 06) ?_
   |refine HC hr.hd 09 (tx.z _ 06) ?_
   |refine Fp 09 09 (tx.z _ 06) ?_ ?_
   |refine VJ (n:="int") (kN _) 09 (tx.z _ 06) 09 (tx.z _ 06) PyProof.Rows.Boot.«int» ?_
   |refine VJ (n:="bool") (VH _) 09 (tx.z _ 06) 09 (tx.z _ 06) PyProof.Rows.Boot.«bool» ?_
   |refine Ik ?_
   |refine K9 hr.hd 09 (tx.z _ 06) 09 (tx.z _ 06) ?_ ?_
   |refine Hx 09 (tx.z _ 06) ?_
   |refine VJ (n:="str") (kO _) 09 (tx.z _ 06) 09 (tx.z _ 06) PyProof.Rows.Boot.«str» ?_
   |refine FZ hr.hd 09 (tx.z _ 06) 09 (tx.z _ 06) ?_
   |refine Hu 09 (tx.z _ 06) ?_
   |refine EK (n:="list") (m:="tuple") (VI _) (ud _) 09 (tx.z _ 06) 09 (tx.z _ 06) PyProof.Rows.Boot.«list» 09 (tx.z _ 06) PyProof.Rows.Boot.«tuple» ?_
   |refine E5 hr.hd 09 (tx.z _ 06) 09 (tx.z _ 06) ?_
   |refine HD hr.hd 09 (tx.z _ 06) ?_
   |refine Iw hr.hd 09 (tx.z _ 06) ?_ ?_
   |refine Lh hr.hd 09 (tx.z _ 06) ?_
   |refine cZ hy (by assumption) hr ?_)
  |(show Snd _ _ (.Subscript ..) _;first
   |refine DA ?_ ?_
   |refine kS ?_ ?_ ?_)
  |(show Snd _ _ (.BinOp ..) _;first
   |refine Il ?_ ?_
   |refine LC ?_ ?_
   |refine Hl ?_ ?_
   |refine Lx ?_ ?_
   |refine Bw ?_ ?_
   |refine HV ?_ ?_
   |refine GP ?_ ?_)
  |(show ua _ _ _ _;first
   |refine U5 GQ (X8 hr.units) ?_ ?_ (jG _)
   |refine La ?_
   |refine U5 IE GS ?_ ?_ (jG _)
   |refine U5 Fg GT ?_ ?_ (jG _)
   |refine U5 GR (UC hr.units) ?_ ?_ (jG _)
   |refine U5 Wf jK ?_ ?_ (jG _)
   |refine U5 VE (X9 hr.units) ?_ ?_ 09
   |refine U5 GV (kH hr.units) ?_ ?_ 09
   |refine kK Wf Wf jK jK ?_ ?_ ?_
   |refine Iy ?_
   |refine Yy.t ?_)
  |(show Snd _ _ (.BoolOp ..) _;first
   |refine E7 ?_ ?_
   |refine Ci ?_ ?_
   |refine HN ?_)
  |(show Wh _ _ _ _ _;first
   |refine FG 09 (tx.z _ 06) ?_
   |refine FS 09 (tx.z _ 06) ?_ ?_
   |refine Iq 09 (tx.z _ 06) ?_
   |refine EL 09 (tx.z _ 06) ?_ ?_
   |refine FH 09 (tx.z _ 06) ?_
   |refine Kf 09 (tx.z _ 06) ?_
   |exact E8
   |refine IQ ?_)
  |(show Jw _ _ _ _;first
   |exact F2
   |refine Fk ?_)
  |(show Snd _ _ (.Compare ..) _;first
   |refine qe GQ (X8 hr.units) ?_ ?_ (jG _)
   |refine kJ Wf Wf jK jK ?_ ?_ ?_
   |refine qe Wf jK ?_ ?_ (jG _)
   |refine qe VE (X9 hr.units) ?_ ?_ 09
   |refine qe Fm GU ?_ ?_ (jG _)
   |refine qe GR (UC hr.units) ?_ ?_ (jG _)
   |refine VF Wf Wf Wf jK jK jK ?_ ?_ ?_ ?_)
  |(show Snd _ _ (.ListComp ..) _;first
   |refine Kt (IR 09 hy 06 06 09 ?_ (λ_ hy _ _ _ _ _ _ _=>?_) (λ_ hy _ _ _ _ _ _ _=>?_))
   |refine Xh (BI hy 06 06 09 ?_ (λ_ hy _ _ _ _ _ _=>?_) (λ_ hy _ _ _ _ _ _ _ hp=>?_))
   |refine Xh (DN hy 06 06 09 ?_ (λ_ hy _ _ _ _ _ _=>?_) (λ_ hy _ _ _ _ _ _ _ hp=>?_)))
  |(show Snd _ _ (.Tuple ..) _;first
   |refine Fz ?_)
  |(show Yy _ _ _ _;first
   |refine Du ?_ ?_
   |refine E6 ?_ ?_
   |refine FX ?_
   |refine GX ?_)
  |(show Snd _ _ (.List ..) _;first
   |refine Fu ?_)
  |(show rH _ _ _ _;first
   |exact Xf nd 09 (.inl 09)
   |exact Xf nd 09 (.inr 09)
   |exact LH 09 nd 09 09 (.inl 09) (.inl 09))
  |(show Snd _ _ (.UnaryOp ..) _;first
   |refine Fc ?_
   |refine IB ?_)
  |(show kQ _ _ _ _;first
   |exact GY
   |refine GZ ?_)
  |(show Snd _ _ (.IfExp ..) _;first
   |refine DQ ?_ ?_ ?_)
  )
local macro_rules| `(tactic|kd_all)=> `(tactic|(intro cdv A outer s H E Y hy hE hr nd hp;repeat' gp_on))
def Lv:qP Z "_law_cell" 2 1 (oP 2 sM):=by
 refine mZ tx.C_1f ["_law_script","_law_k"] λ_=>?_
 kd_all
def Dv (_:qP Z "_law_cell" 2 1 c_1f):qP Z "_law_pick" 3 2 (oP 4 (DW c_1f)):=by
 refine mZ tx.C_2 ["_law_script","_law_k","_law_many","_law_drawn"] λ_=>?_
 kd_all
def LD (_:qP Z "_law_pick" 3 2 c_2):qP Z "_law_word_of" 2 3 (oP 3 (tV c_2)):=by
 refine mZ tx.C_10 ["_law_script","_law_at","_law_letters"] λ_=>?_
 kd_all
def F6 (_:qP Z "_law_pick" 3 2 c_2)(_:qP Z "_law_word_of" 2 3 c_10):qP Z "_law_leaf_kind" 2 4 (oP 6 (Al c_2 c_10)):=by
 refine mZ tx.C_12 ["_law_script","_law_at","_law_low","_law_words","_law_k","_law_word"] λ_=>?_
 kd_all
def DD {j:Nat}(a:4<=j)(_:qP Z "_law_pick" 3 2 c_2)(_:qP Z "_law_leaf_kind" 2 4 c_12)(_:qP Z "_law_kind" 3 j c_i):qP Z "_law_kind" 3 (j+1) (oP 6 (AQ c_2 c_12 c_i)):=by
 refine mZ tx.C_i ["_law_script","_law_at","_law_deep","_law_way","_law_some","_law_low"] λ_=>?_
 kd_all
def Bz:qP Z "_law_rows_of" 1 1 (oP 5 AX):=by
 refine mZ tx.C_j ["_law_lists","_law_made","_law_some","_law_longer","_law_ahead"] λ_=>?_
 kd_all
def C2 {j:Nat}(a:1<=j)(_:qP Z "_law_all" 1 j c_3)(_:qP Z "_law_rows_of" 1 1 c_j):qP Z "_law_all" 1 (j+1) (oP 3 (nK c_3 c_j)):=by
 refine mZ tx.C_3 ["_law_kind_here","_law_made","_law_size_here"] λ_=>?_
 kd_all
def Dh {j:Nat}(a:9<=j)(_:qP Z "_law_all" 1 9 c_3)(_:qP Z "_law_size" 1 j c_g):qP Z "_law_size" 1 (j+1) (oP 5 (ox c_3 c_g)):=by
 refine mZ tx.C_g ["_law_kind_here","_law_sizes","_law_made","_law_size_here","_law_inner"] λ_=>?_
 kd_all
def Is (_:qP Z "_law_kind" 3 12 c_i)(_:qP Z "_law_size" 1 17 c_g):qP Z "_law_small" 3 18 (oP 5 (A8 c_i c_g)):=by
 refine mZ tx.C_15 ["_law_script","_law_at","_law_most","_law_kind_here","_law_k"] λ_=>?_
 kd_all
def BB {j:Nat}(a:2<=j)(_:qP Z "_law_pick" 3 2 c_2)(_:qP Z "_law_rule" 3 j c_m):qP Z "_law_rule" 3 (j+1) (oP 6 (Ac c_2 c_m)):=by
 refine mZ tx.C_m ["_law_script","_law_at","_law_deep","_law_way","_law_one","_law_low"] λ_=>?_
 kd_all
def BC {j:Nat}(a:0<=j)(_:qP Z "_law_leaves" 1 j c_n):qP Z "_law_leaves" 1 (j+1) (oP 3 (A2 c_n)):=by
 refine mZ tx.C_n ["_law_worth","_law_made","_law_part"] λ_=>?_
 kd_all
def Df {j:Nat}(a:8<=j)(_:qP Z "_law_leaves" 1 8 c_n)(_:qP Z "_law_keeps" 2 j c_6):qP Z "_law_keeps" 2 (j+1) (oP 7 (AB c_n c_6)):=by
 refine mZ tx.C_6 ["_law_rule_here","_law_worth","_law_numbers","_law_parts","_law_total","_law_number","_law_some"] λ_=>?_
 kd_all
def BV:qP Z "_law_plus" 2 1 (oP 6 tN):=by
 refine mZ tx.C_v ["_law_one","_law_other","_law_up","_law_down","_law_high","_law_low"] λ_=>?_
 kd_all
def Do:qP Z "is_whole" 1 1 (oP 1 D5):=by
 refine mZ tx.C_b ["thing"] λ_=>?_
 kd_all
def IH (_:qP Z "is_whole" 1 1 c_b):qP Z "is_span" 4 2 (oP 4 (sx c_b)):=by
 refine mZ tx.C_1i ["low","high","least","most"] λ_=>?_
 kd_all
def Bu:qP Z "is_tuple_of" 3 1 (oP 3 Eo):=by
 refine mZ tx.C_f ["thing","least","most"] λ_=>?_
 kd_all
def Ca:qP Z "is_word" 1 1 (oP 1 EB):=by
 refine mZ tx.C_u ["thing"] λ_=>?_
 kd_all
def LA (_:qP Z "is_whole" 1 1 c_b)(_:qP Z "is_tuple_of" 3 1 c_f)(_:qP Z "is_word" 1 1 c_u):qP Z "is_choice" 1 2 (oP 1 (Bn c_b c_f c_u)):=by
 refine mZ tx.C_16 ["thing"] λ_=>?_
 kd_all
def E2 (_:qP Z "is_tuple_of" 3 1 c_f)(_:qP Z "is_choice" 1 2 c_16):qP Z "are_choices" 1 3 (oP 2 (Bl c_f c_16)):=by
 refine mZ tx.C_14 ["thing","words"] λ_=>?_
 kd_all
def BO {j:Nat}(a:3<=j)(_:qP Z "is_span" 4 2 c_1i)(_:qP Z "is_kind_within" 2 j c_8)(_:qP Z "are_choices" 1 3 c_14)(_:qP Z "are_kinds_within" 2 j c_1o):qP Z "is_kind_within" 2 (j+1) (oP 2 (Ak c_1i c_8 c_14 c_1o)):=by
 refine mZ tx.C_8 ["thing","levels"] λ_=>?_
 kd_all
def Ft {j:Nat}(a:3<=j)(_:qP Z "is_tuple_of" 3 1 c_f)(_:qP Z "is_kind_within" 2 j c_8):qP Z "are_kinds_within" 2 (j+1) (oP 2 (Ba c_f c_8)):=by
 refine mZ tx.C_1o ["thing","levels"] λ_=>?_
 kd_all
def CK (_:qP Z "is_kind_within" 2 23 c_8):qP Z "is_kind" 1 24 (oP 1 (A5 c_8)):=by
 refine mZ tx.C_4 ["thing"] λ_=>?_
 kd_all
def Dy (_:qP Z "is_kind" 1 24 c_4):qP Z "need_kind" 1 25 (oP 1 (A4 c_4)):=by
 refine mZ tx.C_w ["kind"] λ_=>?_
 kd_all
def Bo:qP Z "words_of_pick" 1 1 (oP 1 Au):=by
 refine mZ tx.C_p ["kind"] λ_=>?_
 kd_all
def Cq {j:Nat}(a:1<=j)(_:qP Z "is_whole" 1 1 c_b)(_:qP Z "is_tuple_of" 3 1 c_f)(_:qP Z "words_of_pick" 1 1 c_p)(_:qP Z "have_parts" 2 j c_1m):qP Z "has_worth" 2 (j+1) (oP 2 (oK c_b c_f c_p c_1m)):=by
 refine mZ tx.C_e ["kind","thing"] λ_=>?_
 kd_all
def IY {j:Nat}(a:1<=j)(_:qP Z "has_worth" 2 j c_e):qP Z "have_parts" 2 (j+1) (oP 2 (Be c_e)):=by
 refine mZ tx.C_1m ["kinds","parts"] λ_=>?_
 kd_all
def HS (_:qP Z "need_kind" 1 25 c_w)(_:qP Z "has_worth" 2 21 c_e):qP Z "is_worth" 2 26 (oP 2 (Ae c_w c_e)):=by
 refine mZ tx.C_1g ["kind","thing"] λ_=>?_
 kd_all
def IF (_:qP Z "is_worth" 2 26 c_1g):qP Z "need_worth" 2 27 (oP 2 (tX c_1g)):=by
 refine mZ tx.C_19 ["kind","worth"] λ_=>?_
 kd_all
def BL {j:Nat}(a:0<=j)(_:qP Z "count_of_parts" 1 j c_z)(_:qP Z "count_shorter" 2 j c_r):qP Z "count_of" 1 (j+1) (oP 1 (tP c_z c_r)):=by
 refine mZ tx.C_1 ["kind"] λ_=>?_
 kd_all
def Dp {j:Nat}(a:0<=j)(_:qP Z "count_of" 1 j c_1):qP Z "count_of_parts" 1 (j+1) (oP 3 (tK c_1)):=by
 refine mZ tx.C_z ["kinds","count","kind"] λ_=>?_
 kd_all
def Dj {j:Nat}(a:0<=j)(_:qP Z "count_of_parts" 1 j c_z):qP Z "count_shorter" 2 (j+1) (oP 2 (rY c_z)):=by
 refine mZ tx.C_r ["kind","length"] λ_=>?_
 kd_all
def EU:qP Z "greatest_divisor" 2 1 (oP 3 tO):=by
 refine mZ tx.C_17 ["one","other","rest"] λ_=>?_
 kd_all
def CC (_:qP Z "greatest_divisor" 2 1 c_17):qP Z "fraction" 2 2 (oP 3 (Ab c_17)):=by
 refine mZ tx.C_q ["up","down","divisor"] λ_=>?_
 kd_all
def EY (_:qP Z "fraction" 2 2 c_q):qP Z "share_of_word" 2 3 (oP 3 (DJ c_q)):=by
 refine mZ tx.C_1e ["kind","word","weights"] λ_=>?_
 kd_all
 refine QQ.go (by assumption) λ_ _ _ _ C F=>Ko (i:=2) (j:=1) 01 hy F hr 00 09 C.m C.F.kp C.b nd 09 (.inl 09) 09 (tx.z _ 06) 09 (tx.z _ 06) (pv 2) (pv 1) ?_ (pi':=pv 2)
 repeat' gp_on
def BF (_:qP Z "fraction" 2 2 c_q):qP Z "times" 2 3 (oP 2 (Aa c_q)):=by
 refine mZ tx.C_t ["one","other"] λ_=>?_
 kd_all
def CO {j:Nat}(a:20<=j)(_:qP Z "count_of" 1 20 c_1)(_:qP Z "times" 2 3 c_t)(_:qP Z "share_of_word" 2 3 c_1e)(_:qP Z "share_of_parts" 2 j c_1j):qP Z "share_within" 2 (j+1) (oP 3 (pK c_1 c_t c_1e c_1j)):=by
 refine mZ tx.C_7 ["kind","worth","one_length"] λ_=>?_
 kd_all
def FK {j:Nat}(a:20<=j)(_:qP Z "times" 2 3 c_t)(_:qP Z "share_within" 2 j c_7):qP Z "share_of_parts" 2 (j+1) (oP 5 (Bf c_t c_7)):=by
 refine mZ tx.C_1j ["kinds","parts","share","kind","part"] λ_=>?_
 kd_all
def DH (_:qP Z "need_worth" 2 27 c_19)(_:qP Z "share_within" 2 40 c_7):qP Z "share_of" 2 41 (oP 2 (AZ c_19 c_7)):=by
 refine mZ tx.C_5 ["kind","worth"] λ_=>?_
 kd_all
def Im (_:qP Z "is_whole" 1 1 c_b):qP Z "is_bound" 1 2 (oP 1 (By c_b)):=by
 refine mZ tx.C_1b ["thing"] λ_=>?_
 kd_all
def CQ {j:Nat}(a:2<=j)(_:qP Z "is_word" 1 1 c_u)(_:qP Z "is_rule_within" 2 j c_o)(_:qP Z "is_bound" 1 2 c_1b):qP Z "is_rule_within" 2 (j+1) (oP 2 (AO c_u c_o c_1b)):=by
 refine mZ tx.C_o ["thing","levels"] λ_=>?_
 kd_all
def DO (_:qP Z "is_rule_within" 2 10 c_o):qP Z "is_rule" 1 11 (oP 1 (Ep c_o)):=by
 refine mZ tx.C_9 ["thing"] λ_=>?_
 kd_all
def Cs (_:qP Z "is_rule" 1 11 c_9):qP Z "need_rule" 1 12 (oP 1 (Bj c_9)):=by
 refine mZ tx.C_a ["rule"] λ_=>?_
 kd_all
def BN (_:qP Z "need_rule" 1 12 c_a):qP Z "need_rules" 1 13 (oP 2 (Ad c_a)):=by
 refine mZ tx.C_s ["rules","rule"] λ_=>?_
 kd_all
def Di {j:Nat}(a:20<=j)(_:qP Z "words_of_pick" 1 1 c_p)(_:qP Z "many_at" 2 j c_1n)(_:qP Z "parts_at" 2 j c_11):qP Z "worth_at" 2 (j+1) (oP 2 (AN c_p c_1n c_11)):=by
 refine mZ tx.C_h ["kind","number"] λ_=>?_
 kd_all
def Fo {j:Nat}(a:20<=j)(_:qP Z "count_shorter" 2 20 c_r)(_:qP Z "parts_at" 2 j c_11):qP Z "many_at" 2 (j+1) (oP 3 (tf c_r c_11)):=by
 refine mZ tx.C_1n ["kind","number","length"] λ_=>?_
 kd_all
def F9 {j:Nat}(a:20<=j)(_:qP Z "count_of" 1 20 c_1)(_:qP Z "worth_at" 2 j c_h):qP Z "parts_at" 2 (j+1) (oP 6 (rZ c_1 c_h)):=by
 refine mZ tx.C_11 ["kinds","number","parts","rest","kind","count"] λ_=>?_
 kd_all
def BP (_:qP Z "need_kind" 1 25 c_w)(_:qP Z "count_of" 1 20 c_1)(_:qP Z "worth_at" 2 40 c_h):qP Z "all_worths" 1 41 (oP 2 (Ar c_w c_1 c_h)):=by
 refine mZ tx.C_y ["kind","count"] λ_=>?_
 kd_all
def BY {j:Nat}(a:0<=j)(_:qP Z "leaves_of" 1 j c_l):qP Z "leaves_of" 1 (j+1) (oP 3 (Am c_l)):=by
 refine mZ tx.C_l ["worth","leaves","part"] λ_=>?_
 kd_all
def Hz (_:qP Z "is_whole" 1 1 c_b)(_:qP Z "leaves_of" 1 8 c_l):qP Z "numbers_in" 1 9 (oP 1 (BW c_b c_l)):=by
 refine mZ tx.C_1a ["worth"] λ_=>?_
 kd_all
def HH:qP Z "parts_of" 1 1 (oP 1 se):=by
 refine mZ tx.C_1h ["worth"] λ_=>?_
 kd_all
def Iu:qP Z "are_rising" 1 1 (oP 1 Co):=by
 refine mZ tx.C_1k ["numbers"] λ_=>?_
 kd_all
def Hy:qP Z "are_unlike" 1 1 (oP 1 CH):=by
 refine mZ tx.C_1l ["parts"] λ_=>?_
 kd_all
def ID (_:qP Z "parts_of" 1 1 c_1h)(_:qP Z "leaves_of" 1 8 c_l)(_:qP Z "numbers_in" 1 9 c_1a)(_:qP Z "are_rising" 1 1 c_1k)(_:qP Z "are_unlike" 1 1 c_1l):qP Z "is_single_kept" 2 10 (oP 2 (Bb c_1h c_l c_1a c_1k c_1l)):=by
 refine mZ tx.C_13 ["rule","worth"] λ_=>?_
 kd_all
def BD {j:Nat}(a:10<=j)(_:qP Z "is_kept" 2 j c_d)(_:qP Z "is_single_kept" 2 10 c_13):qP Z "is_kept" 2 (j+1) (oP 2 (AW c_d c_13)):=by
 refine mZ tx.C_d ["rule","worth"] λ_=>?_
 kd_all
def F7 (_:qP Z "is_kept" 2 18 c_d):qP Z "way_of" 2 19 (oP 2 (CT c_d)):=by
 refine mZ tx.C_1p ["rules","worth"] λ_=>?_
 kd_all
def Cm (_:qP Z "fraction" 2 2 c_q):qP Z "plus" 2 3 (oP 2 (A7 c_q)):=by
 refine mZ tx.C_c ["one","other"] λ_=>?_
 kd_all
def DF (_:qP Z "plus" 2 3 c_c):qP Z "together" 1 4 (oP 3 (Bg c_c)):=by
 refine mZ tx.C_k ["fractions","total","each"] λ_=>?_
 kd_all
def Hq (_:qP Z "together" 1 4 c_k)(_:qP Z "share_within" 2 40 c_7):qP Z "shares_together" 2 41 (oP 2 (Dc c_k c_7)):=by
 refine mZ tx.C_1d ["kind","worths"] λ_=>?_
 kd_all
def C5 (_:qP Z "shares_together" 2 41 c_1d)(_:qP Z "need_rules" 1 13 c_s)(_:QQ "worths_by_ways" nh 42 (rX c_worths_by_ways) Z ):qP Z "tally" 2 43 (oP 3 (Ao c_1d c_s c_worths_by_ways)):=by
 refine mZ tx.C_x ["kind","rules","ways"] λ_=>?_
 kd_all
def Io (_:qP Z "is_kept" 2 18 c_d):qP Z "counts_keeping" 2 19 (oP 2 (AD c_d)):=by
 refine mZ tx.C_18 ["worths","rules"] λ_=>?_
 kd_all
def Fb (_:qP Z "all_worths" 1 41 c_y)(_:qP Z "need_rules" 1 13 c_s)(_:qP Z "counts_keeping" 2 19 c_18):qP Z "tightest" 2 42 (oP 4 (AJ c_y c_s c_18)):=by
 refine mZ tx.C_1c ["kind","rules","counts","fewest"] λ_=>?_
 kd_all
def Cg {f:Addr}{a:FuncData}(C:Fn Z.K Z.mg "law" (mY 79) ["_law_script"] f a)(_:qP Z "_law_pick" 3 2 c_2)(_:qP Z "_law_all" 1 9 c_3)(_:qP Z "_law_small" 3 18 c_15)(_:qP Z "share_of" 2 41 c_5)(_:qP Z "_law_rule" 3 10 c_m)(_:qP Z "_law_keeps" 2 16 c_6)(_:qP Z "_law_plus" 2 1 c_v)(_:qP Z "tally" 2 43 c_x)(_:qP Z "parted" 2 43 c_parted)(_:qP Z "tightest" 2 42 c_1c):wQ Z.P Z.w Z.K Z.mg Z.base nh 44 f a ["_law_script"] (spP Z.cl 1 (oP 12 (tY c_2 c_3 c_15 c_5 c_m c_6 c_v c_x c_parted c_1c))):=by
 refine BQ C ["_law_script","_law_kind_here","_law_rules","_law_book","_law_shares","_law_first","_law_worth","_law_way","_law_whole","_law_many","_law_share_here","_law_counts"] ?_;intro cdv A outer s H E Y hy hE hr nd hp;refine JU ?_ (JU ?_ (HY 06 (Lr 09 nd 09 09 09 (by first|exact .inl rfl|exact .inr rfl) (by first|exact .inl rfl|exact .inr rfl) (by first|exact .inl rfl|exact .inr rfl) (λ_=>rfl) 09 09) (F0 dJ 09 nd hr (λ_=>rfl) (λ{_}=>pv 3) (λ{_}=>pv 4) (λ{_}=>pv 5) (λ{_}=>pv 6) (λ{_}=>pv 7) 09 09 (by first|exact .inl rfl|exact .inr rfl) (by first|exact .inl rfl|exact .inr rfl) ?_ ?_ ?_ (by assumption) 09 01 00 (by intro _;rfl) 09 (zz rfl) (zz rfl) (zY rfl) 09 09 09 09 09 09) (Lw 09 hr (λ{_}=>pv 3) ?_ rfl rfl 06 (λ_ _ _ _ _ _=>Z4 (show mJ (["_law_way","_law_book","_law_shares"]:List Str) by decide+kernel) rfl (.inl 09) (.inr 09)) (λ_ _ _ _ _ _ _ _=>KN (u1 hr) (λ{_}=>ZS rfl (by first|exact .inl rfl|exact .inr (.inl rfl)|exact .inr (.inr rfl))) (λ{_}=>ZS rfl (by first|exact .inl rfl|exact .inr (.inl rfl)|exact .inr (.inr rfl))) (λ{_}=>ZS rfl (by first|exact .inl rfl|exact .inr (.inl rfl)|exact .inr (.inr rfl))) 09 (tx.z _ 06)) 09 (tx.z _ 06)) (He 09 hr (λ{_}=>pv 5) ?_ rfl rfl 06 (λ_ _ _ _ _ _=>Z4 (show mJ (["_law_way","_law_book"]:List Str) by decide+kernel) rfl (.inl 09) (.inr 09)) (λ_ _ _ _ _ _ _ _=>KO (u1 hr) (λ{_}=>ZS rfl (by first|exact .inl rfl|exact .inr (.inl rfl)|exact .inr (.inr rfl))) (λ{_}=>ZS rfl (by first|exact .inl rfl|exact .inr (.inl rfl)|exact .inr (.inr rfl))))) (JU ?_ (JU (DV dJ 09 ?_ (IJ (i:=7) (j:=9) (l:=10) 09 nd 09 09 09 (.inl 09) (.inl 09) (.inl 09)) ?_) (JU ?_ (JU ?_ ?_))))))
 all_goals (repeat' gp_on)
end
section
variable {Z:Zz}(tx:Tx Z.K Z.mg)
include tx
def Hr {f:Addr}{fd:FuncData}(C:Fn Z.K Z.mg "law" (mY 79) ["_law_script"] f fd):wQ Z.P Z.w Z.K Z.mg Z.base nh 44 f fd ["_law_script"] (spP Z.cl 1 pk):=by
 have r:qP Z "_law_cell" 2 1 tz:=Lv tx;have g:qP Z "_law_pick" 3 2 nu:=Dv tx r;have v:qP Z "_law_word_of" 2 3 G8:=LD tx g;have F:qP Z "_law_leaf_kind" 2 4 sK:=F6 tx g v;have R_i:∀n:Nat,qP Z "_law_kind" 3 (4+n) (o4 n 0):=by
  intro n
  induction n with
  |zero=>exact nF tx.C_i
  |succ n c=>exact DD tx (aQ _ _) g F c
 have O_i:qP Z "_law_kind" 3 12 (o8 8):=(R_i 8);have O_j:qP Z "_law_rows_of" 1 1 nv:=Bz tx;have R_3:∀n:Nat,qP Z "_law_all" 1 (1+n) (pZ n 0):=by
  intro n
  induction n with
  |zero=>exact nF tx.C_3
  |succ n c=>exact C2 tx (aQ _ _) c O_j
 have O_3:qP Z "_law_all" 1 9 (nW 8):=(R_3 8);have R_g:∀n:Nat,qP Z "_law_size" 1 (9+n) (AL n 0):=by
  intro n
  induction n with
  |zero=>exact nF tx.C_g
  |succ n c=>exact Dh tx (aQ _ _) O_3 c
 have O_g:qP Z "_law_size" 1 17 (sE 8):=(R_g 8);have G:qP Z "_law_small" 3 18 rN:=Is tx O_i O_g;have R_m:∀n:Nat,qP Z "_law_rule" 3 (2+n) (ph n 0):=by
  intro n
  induction n with
  |zero=>exact nF tx.C_m
  |succ n c=>exact BB tx (aQ _ _) g c
 have O_m:qP Z "_law_rule" 3 10 (AU 8):=(R_m 8);have R_n:∀n:Nat,qP Z "_law_leaves" 1 (0+n) (r9 n 0):=by
  intro n
  induction n with
  |zero=>exact nF tx.C_n
  |succ n c=>exact BC tx (aQ _ _) c
 have O_n:qP Z "_law_leaves" 1 8 (sJ 8):=(R_n 8);have R_6:∀n:Nat,qP Z "_law_keeps" 2 (8+n) (nR n 0):=by
  intro n
  induction n with
  |zero=>exact nF tx.C_6
  |succ n c=>exact Df tx (aQ _ _) O_n c
 have O_6:qP Z "_law_keeps" 2 16 (pS 8):=(R_6 8);have O_v:qP Z "_law_plus" 2 1 o6:=BV tx;have e:qP Z "is_whole" 1 1 om:=Do tx;have M:qP Z "is_span" 4 2 tM:=IH tx e;have i:qP Z "is_tuple_of" 3 1 n6:=Bu tx;have q:qP Z "is_word" 1 1 pp:=Ca tx;have O:qP Z "is_choice" 1 2 rQ:=LA tx e i q;have u:qP Z "are_choices" 1 3 sZ:=E2 tx i O;have R_8:∀n:Nat,qP Z "is_kind_within" 2 (3+n) (nS n 0)/\qP Z "are_kinds_within" 2 (3+n) (nS n 1):=by
  intro n
  induction n with
  |zero=>exact⟨nF tx.C_8,nF tx.C_1o⟩
  |succ n c=>exact⟨BO tx (aQ _ _) M c.1 u c.2,Ft tx (aQ _ _) i c.1⟩
 have O_8:qP Z "is_kind_within" 2 23 (Ck 20):=(R_8 20).1;have O_1o:qP Z "are_kinds_within" 2 23 (Cr 20):=(R_8 20).2;have O_4:qP Z "is_kind" 1 24 t7:=CK tx O_8;have O_w:qP Z "need_kind" 1 25 Az:=Dy tx O_4;have Q:qP Z "words_of_pick" 1 1 oQ:=Bo tx;have X:∀n:Nat,qP Z "has_worth" 2 (1+n) (oG n 0)/\qP Z "have_parts" 2 (1+n) (oG n 1):=by
  intro n
  induction n with
  |zero=>exact⟨nF tx.C_e,nF tx.C_1m⟩
  |succ n c=>exact⟨Cq tx (aQ _ _) e i Q c.2,IY tx (aQ _ _) c.1⟩
 have O_e:qP Z "has_worth" 2 21 (EA 20):=(X 20).1;have O_1m:qP Z "have_parts" 2 21 (CU 20):=(X 20).2;have S:qP Z "is_worth" 2 26 Cy:=HS tx O_w O_e;have B:qP Z "need_worth" 2 27 Aq:=IF tx S;have j:∀n:Nat,qP Z "count_of" 1 (0+n) (oj n 0)/\qP Z "count_of_parts" 1 (0+n) (oj n 1)/\qP Z "count_shorter" 2 (0+n) (oj n 2):=by
  intro n
  induction n with
  |zero=>exact⟨nF tx.C_1,nF tx.C_z,nF tx.C_r⟩
  |succ n c=>exact⟨BL tx (aQ _ _) c.2.1 c.2.2,Dp tx (aQ _ _) c.1,Dj tx (aQ _ _) c.2.1⟩
 have k:qP Z "count_of" 1 20 (pD 20):=(j 20).1;have O_z:qP Z "count_of_parts" 1 20 (IK 20):=(j 20).2.1;have O_r:qP Z "count_shorter" 2 20 (ri 20):=(j 20).2.2;have D:qP Z "greatest_divisor" 2 1 AY:=EU tx;have p:qP Z "fraction" 2 2 sX:=CC tx D;have O_1e:qP Z "share_of_word" 2 3 Ag:=EY tx p;have O_t:qP Z "times" 2 3 pN:=BF tx p;have R_7:∀n:Nat,qP Z "share_within" 2 (20+n) (oF n 0)/\qP Z "share_of_parts" 2 (20+n) (oF n 1):=by
  intro n
  induction n with
  |zero=>exact⟨nF tx.C_7,nF tx.C_1j⟩
  |succ n c=>exact⟨CO tx (aQ _ _) k O_t O_1e c.2,FK tx (aQ _ _) O_t c.1⟩
 have I:qP Z "share_within" 2 40 (re 20):=(R_7 20).1;have O_1j:qP Z "share_of_parts" 2 40 (BS 20):=(R_7 20).2;have O_5:qP Z "share_of" 2 41 pO:=DH tx B I;have U:qP Z "is_bound" 1 2 tZ:=Im tx e;have R_o:∀n:Nat,qP Z "is_rule_within" 2 (2+n) (rS n 0):=by
  intro n
  induction n with
  |zero=>exact nF tx.C_o
  |succ n c=>exact CQ tx (aQ _ _) q c U
 have O_o:qP Z "is_rule_within" 2 10 (D9 8):=(R_o 8);have O_9:qP Z "is_rule" 1 11 Cw:=DO tx O_o;have O_a:qP Z "need_rule" 1 12 tT:=Cs tx O_9;have o:qP Z "need_rules" 1 13 pH:=BN tx O_a;have l:∀n:Nat,qP Z "worth_at" 2 (20+n) (oz n 0)/\qP Z "many_at" 2 (20+n) (oz n 1)/\qP Z "parts_at" 2 (20+n) (oz n 2):=by
  intro n
  induction n with
  |zero=>exact⟨nF tx.C_h,nF tx.C_1n,nF tx.C_11⟩
  |succ n c=>exact⟨Di tx (aQ _ _) Q c.2.1 c.2.2,Fo tx (aQ _ _) O_r c.2.2,F9 tx (aQ _ _) k c.1⟩
 have O_h:qP Z "worth_at" 2 40 (sQ 20):=(l 20).1;have O_1n:qP Z "many_at" 2 40 (B5 20):=(l 20).2.1;have O_11:qP Z "parts_at" 2 40 (DP 20):=(l 20).2.2;have O_y:qP Z "all_worths" 1 41 rc:=BP tx O_w k O_h;have R_l:∀n:Nat,qP Z "leaves_of" 1 (0+n) (sY n 0):=by
  intro n
  induction n with
  |zero=>exact nF tx.C_l
  |succ n c=>exact BY tx (aQ _ _) c
 have O_l:qP Z "leaves_of" 1 8 (pV 8):=(R_l 8);have L:qP Z "numbers_in" 1 9 Ah:=Hz tx e O_l;have O_1h:qP Z "parts_of" 1 1 AT:=HH tx;have N:qP Z "are_rising" 1 1 Bv:=Iu tx;have O_1l:qP Z "are_unlike" 1 1 Dq:=Hy tx;have J:qP Z "is_single_kept" 2 10 rM:=ID tx O_1h O_l L N O_1l;have R_d:∀n:Nat,qP Z "is_kept" 2 (10+n) (oU n 0):=by
  intro n
  induction n with
  |zero=>exact nF tx.C_d
  |succ n c=>exact BD tx (aQ _ _) c J
 have O_d:qP Z "is_kept" 2 18 (sk 8):=(R_d 8);have y:qP Z "way_of" 2 19 Ay:=F7 tx O_d;have a:QQ "worths_by_ways" nh 42 (rX zO) Z:=C7 tx.C_worths_by_ways O_y y (by refine⟨rfl,rfl,rfl,?_,rfl,?_,?_⟩<;>decide+kernel) rfl rfl rfl rfl rfl rfl rfl 09 09
 have O_c:qP Z "plus" 2 3 An:=Cm tx p;have O_k:qP Z "together" 1 4 Cp:=DF tx O_c;have x:qP Z "shares_together" 2 41 Ax:=Hq tx O_k I;have O_x:qP Z "tally" 2 43 rJ:=C5 tx x o a;have d:qP Z "parted" 2 43 jP:=IZ (BA tx.C_parted o a (tx.z _ 06) (by refine⟨rfl,rfl,rfl,?_,rfl,?_,?_⟩<;>decide+kernel) rfl rfl rfl rfl rfl rfl 09)
 have O_18:qP Z "counts_keeping" 2 19 A1:=Io tx O_d;have O_1c:qP Z "tightest" 2 42 AS:=Fb tx O_y o O_18;exact Cg tx C g O_3 G O_5 O_m O_6 O_v O_x d O_1c
end
def lz {c:List Value}{n:Nat}(h:c.length=n+1):∃a t,c=a::t/\t.length=n:=by
 cases c with
 |nil=>cases h
 |cons a t=>exact⟨a,t,rfl,Nat.succ.inj h⟩
def lz1 {e:FuncData}{d:Str}(c:List Value)(f:c.length=1)(h:∀a,bindArgs e ⟨[a],[]⟩=pure ([d].zip [a])):bindArgs e ⟨c,[]⟩=pure ([d].zip c):=by
 obtain⟨a,_,rfl,g⟩:=lz f;obtain rfl:=bc.mp g;exact h a
def lz2 {f:FuncData}{e p1:Str}(d:List Value)(g:d.length=2)(h:∀a c,bindArgs f ⟨[a,c],[]⟩=pure ([e,p1].zip [a,c])):bindArgs f ⟨d,[]⟩=pure ([e,p1].zip d):=by
 obtain⟨a,_,rfl,j⟩:=lz g;obtain⟨c,_,rfl,i⟩:=lz j;obtain rfl:=bc.mp i;exact h a c
def lz3 {g:FuncData}{f p1 p2:Str}(e:List Value)(j:e.length=3)(h:∀a c d,bindArgs g ⟨[a,c,d],[]⟩=pure ([f,p1,p2].zip [a,c,d])):bindArgs g ⟨e,[]⟩=pure ([f,p1,p2].zip e):=by
 obtain⟨a,_,rfl,l⟩:=lz j;obtain⟨c,_,rfl,k⟩:=lz l;obtain⟨d,_,rfl,i⟩:=lz k;obtain rfl:=bc.mp i;exact h a c d
def lz4 {j:FuncData}{g p1 p2 i:Str}(f:List Value)(o:f.length=4)(h:∀a c e d,bindArgs j ⟨[a,c,e,d],[]⟩=pure ([g,p1,p2,i].zip [a,c,e,d])):bindArgs j ⟨f,[]⟩=pure ([g,p1,p2,i].zip f):=by
 obtain⟨a,_,rfl,p⟩:=lz o;obtain⟨c,_,rfl,l⟩:=lz p;obtain⟨e,_,rfl,k⟩:=lz l;obtain⟨d,_,rfl,q⟩:=lz k;obtain rfl:=bc.mp q;exact h a c e d
def fn1 {K:aj}{h:Heap}{j:Str->Option Value}{f:Addr}{p c:Option Addr}{r:Array (Option Value)}{u kV d i a ct:Value}{x:Str}{st:Stmt}{o:List Str}(X:K.In h)(G:h.Ns mainGlobals j)(e:PySem.W.nsIn K mainGlobals x=some (some (.ref f)))(l:K.lookup f=some ⟨u,p,.func (cN x x (jb st) (Zf st) (zj st) .none kV d i c a ct),r⟩)(g:fS K a x=true)(k:dq K (.ref f)=true)
  (q:∀F:Fun K x x st f (cN x x (jb st) (Zf st) (zj st) .none kV d i c a ct),L2.Binds K (cN x x (jb st) (Zf st) (zj st) .none kV d i c a ct) o []):Fn K j x st o f (cN x x (jb st) (Zf st) (zj st) .none kV d i c a ct):=
 have F:=GK (st:=st) l g k
 ⟨F,q F,PySem.W.mg_of X G e⟩
def zs_of {K:aj}{h:Heap}{a:Str->Option Value}{c:List Str}(X:K.In h)(G:h.Ns mainGlobals a)(hz:(c.all λx=>PySem.W.nsIn K mainGlobals x==some none)=true):∀x,c.contains x=true->a x=none:=λx d=>PySem.W.mg_none_of X G (beq_iff_eq.mp (aR.mp hz x (List.contains_iff_mem.mp d)))
noncomputable abbrev Tx' {K:aj}{h:Heap}(_:K.In h)(mg:Str->Option Value):Prop:=Tx K mg
def fin_ {l:PySem.W.OpenLaw}{w:World}{K:aj}{h:Heap}{a:Str->Option Value}{g:Addr}(X:K.In h)(G:h.Ns mainGlobals a)(d:a "law"=some (.ref g))(tx:Tx K a):∃c:FuncData,(∀(s:Shared) (v:Value),BindsTo s c ⟨[v],[]⟩ [("_law_script",v)])/\∀base:Heap,K.In base->base.Ns mainGlobals a->wQ l.prog w K a base nh 44 g c ["_law_script"] (spP (λ_=>.none) 1 pk):=by
 obtain⟨f,c,C⟩:=tx.C_0;have e:=d.symm.trans C.m;cases e;obtain⟨u,p,kV,j,r,q,cdv,ct,i,rfl,lk,k⟩:=C.F.ex;exact⟨_,λs v=>.of_eq rfl,λbase o _=>Hr (Z:=⟨l.prog,w,K,a,base,(λ_=>.none)⟩) tx C⟩
def Uu (K:aj):Bool:=K.all λp=> !(p.2.cls==Value.type "list")
def gU {K:aj}(h:Uu K=true){a:Addr}{o:Obj}(e:K.lookup a=some o)(c:o.cls=Value.type "list"):False:=by
 have g:(a,o)∈K:=by
  clear h
  induction K with
  |nil=>cases e
  |cons p r i=>
   obtain⟨b,u⟩:=p
   by_cases f:a=b
   ·subst f;have d:some u=some o:=by simpa[aG]using e
    cases d;exact ae
   ·have d:r.lookup a=some o:=by rw[aG,(beq_eq_false_iff_ne.mpr f)]at e;exact e
    exact a9 _ (i d)
 have:=aR.mp h _ g;rw[c]at this;simp at this
def FO {cl:Nat->Value}{K:aj}{H:Hp}{a:Addr}{ns:List Int}(j:pk [.fz (ns.map T.int)]=.ok (.bl true))(k:Uu K=true)(f:AC H)(g:SqL K H a (ns.map V.int)):spP cl 1 pk [.ref a] H (λv _=>v=.bl true) λ_ _ _=>False:=by
 have d:∀ns:List Int,zr H (ns.map V.int) (ns.map T.int):=λns=>by
  induction ns with
  |nil=>exact .nil
  |cons n r l=>exact .cons (.int n) l
 rcases g with (h|⟨o,h⟩)|⟨o,i,n,e,c,_⟩
 ·rcases f a with z|⟨ob,xs,z⟩<;>(rw[h]at z;cases z)
 ·refine⟨H,[.fz (ns.map T.int)],rfl,zi.refl H,.cons (.fz h (d ns)) .nil,?_⟩;rw[j];intro v p _ r;cases r;rfl
 ·exact(gU k e c).elim
def walk {l:PySem.W.OpenLaw}{q:Program}{c:List Str}{XP:(Str->Option Value)->Heap->Prop}{i:World->Heap->Prop}{d:DefRec}{K:Params->aj}(hn:l.most=some 63)(g:d.params.defaults=[])
  (y:∀ns:List Int,ns.length<=63->pk [.fz (ns.map T.int)]=.ok (.bl true)) (B:∀p,Uu (K p)=true)
  (v:∀(w:World) (h:Heap),i w h->(K w.params).In h)
  (F:∀(w:World) (e:Str->Option Value) (j:Addr) (h:Heap),(K w.params).In h->h.Ns mainGlobals e->e d.name=some (.ref j)->
   ∃o:FuncData,(∀(s:Shared) (u:Value),BindsTo s o ⟨[u],[]⟩ [("_law_script",u)])/\∀base:Heap,(K w.params).In base->base.Ns mainGlobals e->wQ l.prog w (K w.params) e base nh 44 j o ["_law_script"] (spP (λ_=>.none) 1 pk)):
  PySem.W.WalkO q c XP i l.row.toRowW d [] (λf vs=>mI f vs):=
 L2.walk_of (n:=63) (k:=44) (x:="_law_script") (CX:=λw=>nh) (sp:=λw=>spP (λ_=>.none) 1 pk) hn 01 g ⟨rfl,by decide,by decide,rfl⟩ v F (λw H a ns D r C=>FO (y ns D) (B w.params) r C) λ_ _ _ _ _ z=>z
end G
namespace PySem.W.Fast
def tw1055915510264856821:=Nat
def tw12110242233142703078:=Nat
def tw9472370400663007407:=Nat
def tw11729064335785842749:=Nat
def tw3478871754111213675:=Nat
def tw9830377420495098527:=Nat
def tw5465701401224940826:=Nat
def tw6392506381946461875:=Nat
def tw14513143702886940263:=Nat
def tw17092332681165180286:=Nat
def tw11940100198232855100:=Nat
def tw16028386559259640949:=Nat
def tw12577183872292135047:=Nat
def tw3703951263582644603:=Nat
def tw11685333431480755843:=Nat
def tw979903288463568970:=Nat
def tw1089789984965121191:=Nat
def tw16136839436008490509:=Nat
def tw1355644928919008965:=Nat
def tw15199707609240167219:=Nat
def tw5776173728229862660:=Nat
def tw16139998601217699954:=Nat
def tw3361992330829048794:=Nat
def tw16208916352641547588:=Nat
def tw2458166640752480632:=Nat
def tw197204527469658207:=Nat
def tw15081665575887985678:=Nat
def tw5567717070401062403:=Nat
def tw13301514095585101969:=Nat
def tw8074569846031930756:=Nat
def tw13642267870965820280:=Nat
def tw6741572660423861998:=Nat
def tw15510926371737726963:=Nat
def tw13663987197808105837:=Nat
def tw14369092658191451333:=Nat
def tw11932850358212418120:=Nat
def tw15486602328785612003:=Nat
def tw10964738960944965752:=Nat
def tw12881418780706173866:=Nat
def tw11474677095072443163:=Nat
def tw8487042960733886262:=Nat
def tw8091502498108319228:=Nat
def tw6478628682190125735:=Nat
def tw14763205132636937436:=Nat
def tw9043403332168772347:=Nat
def tw3088617101627929275:=Nat
def tw11070521216417615353:=Nat
def tw3284591367437940968:=Nat
def tw1215998631041847473:=Nat
def tw14864871045867799982:=Nat
def tw4568558908395222500:=Nat
def tw287429922929156215:=Nat
def tw489101947438661252:=Nat
def tw440566058773035794:=Nat
def tw2515025246500521049:=Nat
def tw11226319432457944905:=Nat
def tw4251742244521511911:=Nat
def tw15637526349655524826:=Nat
def tw16253808566177771048:=Nat
def tw5285717450243533563:=Nat
def tw7130597290773467165:=Nat
def tw7693664464959728652:=Nat
def tw10728806423836302040:=Nat
def tw3700999901549593026:=Nat
def tw14429075867626899274:=Nat
def tw5881810064928995008:=Nat
def tw12056757870748326697:=Nat
def tw10437243915613254329:=Nat
def tw5418878678930908530:=Nat
def tw13750126918504311300:=Nat
def tw5675048180914868718:=Nat
def tw13508407950703426728:=Nat
def tw12586306184640685268:=Nat
def tw18006319217536520875:=Nat
def tw9473958392961392578:=Nat
def tw7115532111300304118:=Nat
def tw4268467402968284362:=Nat
def tw12102507111702305647:=Nat
def tw13875513027855059447:=Nat
def tw8345795427081221989:=Nat
def tw4227520098355195731:=Nat
def tw9827940538723537533:=Nat
def tw13058831807799535194:=Nat
def tw2601444623232442416:=Nat
def tw10945708438382442501:=Nat
def tw131226583036499687:=Nat
def tw184042832555753371:=Nat
def tw190621454339984931:=Nat
def tw2565828254331010482:=Nat
def tw3046513058109136085:=Nat
def tw8698439441468459043:=Nat
def tw9645071607772763661:=Nat
def tw14944351657932923499:=Nat
def tw11126770080672632674:=Nat
def tw2488984580470031011:=Nat
def tw15163922027583483262:=Nat
def tw13329634098024629620:=Nat
def tw6714698284192540891:=Nat
def tw14396843987262338104:=Nat
def tw13549507712769824701:=Nat
def tw17734308464142244648:=Nat
def tw17713425698253183629:=Nat
def tw5280011505764702865:=Nat
def tw10187581683932316806:=Nat
def tw12775877991344131414:=Nat
def tw6470486739957144853:=Nat
def tw14083970459193143653:=Nat
def tw11720877626976857795:=Nat
def tw12695875290468814397:=Nat
def tw11284488307030858619:=Nat
def tw11308442003421523298:=Nat
def tw8367211479097331097:=Nat
def tw2174686205785417388:=Nat
def tw17244603766873588423:=Nat
def tw13738866974655319523:=Nat
def tw13101812502774972125:=Nat
def tw4787444903299611636:=Nat
def tw17729222901190542401:=Nat
def tw762561129101815965:=Nat
def tw10254071785321598646:=Nat
def tw2162371571593671510:=Nat
def tw14605113544407124093:=Nat
def tw291275826830226187:=Nat
def tw11305788388471179404:=Nat
def tw3792153948590703723:=Nat
def tw3153946936365812141:=Nat
def tw7172492012175137064:=Nat
def tw13927063262265934859:=Nat
def tw9499158441237130449:=Nat
def tw2894390770347488379:=Nat
def tw12169981549485618341:=Nat
def tw13275843167575381561:=Nat
def tw10187254245606228699:=Nat
def tw1349985415237219790:=Nat
def tw7822872680505766489:=Nat
def tw3027662026357135989:=Nat
def tw2755446484960493587:=Nat
def tw4893380011270680461:=Nat
def tw16671982335144036754:=Nat
def tw10344351844983596227:=Nat
def tw8254502559777091674:=Nat
def tw7094832672507904631:=Nat
def tw18404864650488726837:=Nat
def tw5358900381839222908:=Nat
def tw7621394945516933694:=Nat
def tw5123776273241989398:=Nat
def tw7418583407903229142:=Nat
def tw4606757636368560844:=Nat
def tw8347982885416474281:=Nat
def tw1345098026734261693:=Nat
def tw8291478560643010338:=Nat
def tw17916411133447142892:=Nat
def tw171073035011485055:=Nat
def tw17647471867361355481:=Nat
def tw14286899428166640485:=Nat
def tw10253237273904493824:=Nat
def tw16685616886810481755:=Nat
def tw5276181827575595636:=Nat
def tw17758045834716019277:=Nat
def tw11809183361240124138:=Nat
def tw10164171919880135606:=Nat
def tw11717685977072885260:=Nat
def tw4317584732557823786:=Nat
def tw9637578673689798171:=Nat
def tw10644160002337265527:=Nat
def tw9398650597078784729:=Nat
def tw8788996602483641300:=Nat
def tw17279271271001068670:=Nat
def tw2177745205505971074:=Nat
def tw15012584916875167196:=Nat
def tw11146132015214366627:=Nat
def tw96648666279147414:=Nat
def tw12095101361536766672:=Nat
def tw4409820819157592333:=Nat
end PySem.W.Fast
open PySem PySem.W PyProof.Rows
set_option maxRecDepth 100000 in
set_option maxHeartbeats 0 in
theorem PySem.Challenge.cw_worthkinds_k43_whole_tallies_holds : PySem.Challenge.rw_worthkinds_k43_whole_tallies.Holds := by
 w_on; o_law; k_head; (case hw=>w_witness2)
 k_fill
 refine G.walk (l:=PySem.Challenge.rw_worthkinds_k43_whole_tallies) rfl rfl G.law_ok ?nl (fun w h Y=>PySem.W.kIn_of Y) ?F
 case nl=>intro p; kernel_rfl
 case F=>
  intro w mg fa h KX G0 hmg
  have tx:G.Tx' KX mg:=by
   constructor
   all_goals first
    | (refine' ⟨_,_,G.fn1 KX G0 ?e ?l ?g ?k (fun F=>F.binds fun _ _ _ _ _ _ us hl=>by first | exact G.lz1 us hl fun _=>rfl | exact G.lz2 us hl fun _ _=>rfl | exact G.lz3 us hl fun _ _ _=>rfl | exact G.lz4 us hl fun _ _ _ _=>rfl)⟩; (case e | l | g | k=>k_is))
    | exact ⟨_,PySem.W.mg_of KX G0 (by k_is),_,rfl⟩
    | exact G.zs_of KX G0 (by kernel_rfl)
  refine' G.fin_ KX G0 hmg tx
