import PyProof.Rows.All
import Wide.All
import OpenK.AllK
import Wide.FinOn
import Lean
import PyProof.EqAt
import PyProof.EqKinds
import PyProof.TupleCall
import PyProof.NeKinds
import PyProof.WalksEnum
import PyProof.StrWalks
import PyProof.ExcAttrAll.ValueError
import PyProof.ZipIter
import KE.KRevIter
import PyProof.ListNew
import PyProof.WalksMore
import PyProof.ReprLoop
import PyProof.FactsAll.list
import PyProof.CollectIter
import PyProof.TupleOfGen
import PyProof.Draws
import PyProof.EnumMake
import PyProof.SeqI3
import KE.KMinBuiltin
import PyProof.SetRoads
import PyProof.CollectWalk
import KE.KDictSum
import PyProof.AttrMiss
import PyProof.IsiH_tuple
import KE.KDictOf
import PyProof.FitsBits
import PyProof.SliceList
import PyProof.InstFacts
import PyProof.Rows.StrNews2
import PyProof.StrBlockH
import PyProof.CallStr
import KE.KIntText
import PyProof.Rows.RuleB_pow
import KE.KSortTup
import PyProof.ReprRoads
import KE.KLam
import PyProof.MaxThree
import PyProof.DictRoadsH
import PyProof.FactsAll.dict
import PyProof.DictItems
import PyProof.DictValues
import PySem.Challenge.RW_worthkinds_k54_whole_least_and_tallies
open PySem renaming wpAny_bind->a8,wpAny_pure->ac,wpAny_call_entry->aM,wpAny_newObj_type->aO,wpAny_callSpecial?_slot->aX,wpAny_field->ba,wpAny_setField_rec->bb,wpAny_truthy_bool->bh,wpAny_holding->bp,mem_of_lookup->bH,wpAny_seqItems->bM,codeAny_builtin->bQ,sizeLine_eq->bY,wpAny_specialOf->c7,wpAny_of_eq->c9,plainId_quiet->cf,wpAny_pyIter_list->ck,wpAny_dictEntries->cn,wpAny_attempt->cy,wpAny_isInstance->cA,wpAny_Call_Name_kw->cB,wpAny_pyIter_tuple->cC,wpAny_tryCatch->cD,wpAny_passesOwn->cJ,wpAny_mono->cV,wpAny_rule->du,wpAny_dictEpoch->dD,wpAny_letGo->dO,wpAny_typeOf->dS,codeAny_mono->eN,call_meets->fv,evalArgs_none->l8,seqSlot_of->m7,call->mr
open List renaming mem_cons_of_mem->a9,mem_cons_self->aa,length_map->ae,replicate->ag,getElem?_eq_getElem->ah,mem_cons->ak,getElem?_map->ao,mem_singleton->aq,map_cons->ar,length_cons->aw,getElem?_eq_some_iff->ay,length_append->az,mem_map->aA,getElem?_set_ne->aB,size_toArray->aD,mem_append_right->aG,all_eq_true->aJ,length_singleton->aK,range->aN,getElem?_eq_none->aP,lookup_cons->aQ,getElem?_append_right->aR,map_replicate->aS,mem_range->aT,getElem?_replicate->aU,length_replicate->aV,mem_append->aW,getElem?_append_left->aY,map_map->aZ,getElem?_set_self->be,mem_of_getElem?->bg,append_assoc->bi,replicate_succ->bv,append_nil->bw,length_set->bx,mem_filter->bA,eq_of_mem_replicate->bF,map_nil->bI,length_range->bJ,length_eq_zero_iff->bK,nil_append->bP,not_mem_nil->bR,flatMap_cons->bW,map_congr_left->c6,of_mem_zip->c8,filter_cons->ce,sum_cons->cg,eq_nil_of_length_eq_zero->cj,length_reverse->cu,getD_eq_getElem?_getD->cF,getElem?_zip_eq_some->cG,nodup_cons->cK,map_append->cM,length_nil->cN,reverse_cons->cR,mem_iff_getElem->cS,all_cons->cX,getElem?_range->c_,length_take->db,mem_flatMap->di,range_succ_eq_map->dq,pairwise_cons->dy,zip_cons_cons->dz,mem_replicate->dA,find?_cons->dC,length_zip->dE,mem_iff_getElem?->dJ,ext_getElem?->dL,mem_append_left->dM,drop_zero->dN,getElem_inj->dQ,length_drop->dR,drop_eq_getElem_cons->dX,pairwise_iff_getElem->dY,filterMap_cons->dZ,drop_succ_cons->d_,getElem?_take_of_lt->eA,take_of_length_le->eT,length_eq_one_iff->eY,filter_eq_nil_iff->f7,length_filter_le->fj,any_eq_true->fB,cons_append->fE,eq_nil_iff_forall_not_mem->fK,mem_filterMap->g7,foldl->hU,length->i6,flatten_cons->i7,nodup_append->i9,any_cons->ib,idxOf_lt_length_iff->ij,prefix_refl->iu,drop_length->ix,getElem_map->iA,getElem_mem->iD,getElem?_cons_succ->iE,range_succ->iN,getElem?_reverse->iR,getElem?_zipIdx->iV,getElem_toArray->iW,reverse_reverse->i_,mem_of_mem_take->j_,mergeSort_perm->lf,take_succ_cons->lg,getElem_idxOf->lu,map_inj_right->lx,length_zipIdx->lA,any_eq_false->lE,all_map->lK,filter_congr->lW,map_reverse->md,range'->me,forIn_cons->ml
open PySem.Heap renaming get?_push_of_some->ab,get?_push_size->af,lt_size->au,SameBut->bc,get?_update_other->bZ,size_push->ci,get?_update_self->fg,ExtBut->fM,get?_update_ne->lc,IsTuple->lN
open PySem.W renaming Frag->ai,kitOne->bL,kia_one->bO,fnOf->cx,kia_tup->cL,keepIn->d0,kitx_list->eM,kitAny->eV,tabObj->f8,codeHdIn->fF,codeIn->h9,cellsFrom_some->iH,instObj->iM,lookIn->iT,kitx_tuple->ll,kitx_none->lF,kitx_bool->lG,kitx_dict->lH,plainGet->lY,kitx_int->lZ,kitx_str->l_
open Bool renaming and_eq_true->aj,false_ne_true->ax,false_eq_true->aI,not_true->eD,or_eq_true->fS,eq_iff_iff->fV,true_and->lh,not_eq_true'->lQ
open Nat renaming le_refl->am,le_trans->av,le_add_right->aE,ne_of_lt->aF,lt_of_lt_of_le->aL,zero_le->bf,mul_le_mul->bo,lt_of_le_of_lt->bq,lt_irrefl->bE,pow_le_pow_right->bN,pos_of_ne_zero->bX,one_mul->cz,ne_of_gt->cO,le_succ->cP,lt_succ_of_lt->cQ,mul_le_mul_right->cU,le_mul_of_pos_right->dh,mul_pos->dj,mul_comm->dm,mul_assoc->dF,add_comm->dU,lt_succ_self->fA,add_mul->fO,pow_add->fP,min_eq_left->fU,add_le_add_left->fW,succ_mul->fX,lt_trans->fY,zero_add->fZ,le_of_lt->iG,pow_succ->iL,not_lt_zero->iP,pow_lt_pow_right->l6,gcd->l7,lt_succ_of_le->lR,gcd_comm->lS,gcd_one_right->lT,lt_of_succ_lt->lU,le_succ_of_le->lV,succ_ne_self->m9,min_le_left->mo,div_le_self->mq,mod_lt->mv
open PySem.Str renaming ofString->aC
open Option.some renaming inj->aH
open PyProof.Rows renaming callWith_type1->a_,slot_tuple_getitem->bu
open Int renaming toNat_natCast->b9,eq_ofNat_of_zero_le->dg,le_trans->eU,zero_add->f6,mul_le_mul_of_nonneg_right->fJ,natCast_mul->fR,fdiv_eq_ediv_of_nonneg->g_,le_refl->i8,natAbs_mul->k_,emod_lt_of_pos->ly,natAbs_natCast->lC,le_antisymm->mm,emod_nonneg->mn
open Ne renaming symm->bj
open PySem.F renaming slot_dict_itemiterator_next->bz,plain_min_loop->bS,slot_dict_valueiterator_next->bT,slot_bool_hash->cb,slot_tuple_getattribute->cH,plainAttrs_list->de,called_set->dw,slot_zip_next->dG,args_tuple_add_2->eB,slot_dict_values->eG,entry_tuple_add->eK,plainAttrs_dict->eL,slot_tuple_add->eO,slot_tuple_iterator_next->eS,entry_min_loop->eX,args_dict_valueiterator_next_1->e_,args_dict_itemiterator_next_1->f9,entry_dict_valueiterator_next->ff,entry_dict_itemiterator_next->fG,slot_dict_itemiterator_iter->fN,slot_int_rmul->fQ,slot_list_append->ie,type_list_append->ig,type_dict_values->io,slot_tuple_mul->iw,args_zip_next_1->iz,slot_list_index->iC,slot_dict_values_iter->iF,entry_zip_next->iJ,slot_dict_items_iter->iK,slot_tuple_lt->iS,called_tuple->iX,args_object_init_2->iY,args_int_hash_1->lD,args_int_rmul_2->lJ,slot_tuple_rmul->lL,plain_tuple_new->lO,slot_dict_items->lP,entry_int_hash->lX,slot_int_index->m4,entry_int_rmul->m5,fills_int_mul->mi
open PySem.Builtin.Dict_items renaming ownsTuple->bC,ownedTupleIsFree->eH,ownedTupleFields->eI,pairFromOwner->eZ,newIterator->fH,dictOf->i5
open Array renaming length_toList->bU,getElem?_eq_none->b_,getElem?_eq_getElem->cI,getElem?_toList->dH,perm_iff_toList_perm->hZ,append_assoc->h_,getD->lw
open PySem.Heap.SameBut renaming update->bV
open False renaming elim->cq
open PySem.Obj renaming mapSeq->cW,data_mapFields->eJ,mapFields->ii,isFreed_of_fields->iQ,data_mapDictKeys->iZ,cls_mapFields->lM
open PyProof.Rows.KeyOrd renaming klt_of_klt_of_kle->cY,kle_of_klt->eW
open PySem.AutoSeq1 renaming wpAny_loadPart'->df
open PySem.SeqAt renaming EqAt->dk,RcNeAt->eR,RcAt->iI
open PySem.Builtin.Dict renaming showsAll->dI,noArgs->la
open PySem.Around renaming under_plainId->dP,frames_deeper->iU
open PySem.Builtin.Slice renaming slicePlaces->dW,sliceAdjust->i4
open PySem.Paired renaming length->e9
open PySem.Builtin.List renaming listTooLong->eC,listSameRef->il
open PySem.Calls renaming callWith_builtin->eQ,Name_function_global->f_,spliced_cons->lm,spliced_nil->lI
open PySem.Shared renaming TypeIs->fL,heap->mh
open PySem.PassesOwn renaming never->fT
open PySem.Builtin.Tuple renaming tupleItemsOf->hJ,tupleTooMany->hV,tupleExact->im
open PySem.Walks renaming list->hW
open Option renaming isSome_iff_exists->ia,getD_none->m3
open Rat renaming num_mkRat->ip,den_mkRat->iq
open PySem.Builtin.Range renaming rangeSize->ir
open PyProof.Rows.F renaming entry_set_update_loop->iy
open List.cons renaming injEq->iO
open PySem.Builtin.Int renaming intBits->l9
open PySem.SeqAt.EqAt renaming of_refs->lq,same->mj
open PySem.WalksT renaming enumerate->m8
open Classical renaming skolem->ma
noncomputable section
set_option maxHeartbeats 4000000
set_option Elab.async false
set_option linter.all false
set_option compiler.extract_closed false
set_option maxRecDepth 100000
namespace L2
open PySem PySem.Spec PyProof.Rows
noncomputable abbrev mM:=Sum Bool Str
def V4:mM->Value->Bool
 | .inl k,.bool b=>b == k
 | .inl _,_=>false
 | .inr x,v=>Value.isStrOf x v
def DD (w:World):mM->Int
 | .inl k=>hashInt (if k then 1 else 0)
 | .inr x=>hashStr w x
theorem zS:∀{k:mM} {v:Value},V4 k v=true->(∃(i:Bool) (t:Tok),k=Sum.inl i/\v=Value.bool i)\/(∃x t,k=Sum.inr x/\v=Value.str x t)
 | .inl i,v,h=>by
  cases v <;> first | exact .inl ⟨i,0,rfl,congrArg _ (eq_of_beq h)⟩ | cases h
 | .inr x,v,h=>by
  obtain⟨t,e⟩:=Value.isStrOf_shape h;exact .inr ⟨x,t,rfl,e⟩
theorem Yf (x:Str)(t:Tok):V4 (.inr x) (.str x t)=true:=by simp[V4,Value.isStrOf]
theorem Gi (a b:Bool):decide ((Sum.inl a:mM)=Sum.inl b)=(a == b):=by
 by_cases e:a=b
 ·subst e;simp
 ·have h:¬ (Sum.inl a:mM)=Sum.inl b:=λq=>e (Sum.inl.inj q);rw[decide_eq_false h];exact(beq_eq_false_iff_ne.mpr e).symm
theorem Gj (a b:Str):decide ((Sum.inr a:mM)=Sum.inr b)=decide (a=b):=by
 by_cases e:a=b
 ·simp
 ·have h:¬ (Sum.inr a:mM)=Sum.inr b:=λq=>e (Sum.inr.inj q);rw[decide_eq_false h,decide_eq_false e]
theorem Gk (a:Bool)(b:Str):decide ((Sum.inl a:mM)=Sum.inr b)=false:=decide_eq_false (λq=>nomatch q)
theorem Gm (a:Str)(b:Bool):decide ((Sum.inr a:mM)=Sum.inl b)=false:=decide_eq_false (λq=>nomatch q)
theorem JN {Q:Int->Shared->Prop}(h:Q (hashInt (if b then 1 else 0)) { s with toks:=s.toks+1 }):wpAny (model prog w) A (pyHash (.bool b)) Q E s:=by
 have hT:s.TypeIs (.bool b) "bool":=rfl;unfold pyHash;have a:[Value.bool b].any Value.onHeap=false:=rfl;refine a8 ?_;rw[cRoomFor,if_neg (by rw[a];exact ax)];refine ac ?_
 refine a8 (c7 hT cb.lookup ?_);show wpAny _ _ (if (some (Value.builtin "int.__hash__") == some Value.none)=true then _ else _) Q E s
 rw[if_neg (by rw[beq_builtin_none];exact ax)]
 refine a8 (c7 hT cb.lookup ?_);show wpAny _ _ (callSpecialIfBoundUnlessNone? (.bool b) "__hash__" _ >>= _) Q E s;refine a8 (wpAny_callSpecialIfBoundUnlessNone?_slot hT cb
  (aM cb hT lX
   (show wpAny _ _ (do ret (← mkInt (rawHash (if b then 1 else 0)))) _ _ s from by cases b <;> refine wpAny_ret_mkInt ?_ <;> exact ac h) (lD _)))
def Z0 (prog:Program)(w:World):PySem.KeyKind prog w mM where
 is:=V4
 hash:=DD w
 inj:=λv a b g d=>by
  rcases zS g with ⟨i,t,rfl,rfl⟩ | ⟨x,t,rfl,rfl⟩
  ·rcases zS d with ⟨j,u,rfl,e⟩ | ⟨y,u,rfl,e⟩
   ·injection e with e1;rw[e1]
   ·exact nomatch e
  ·rcases zS d with ⟨j,u,rfl,e⟩ | ⟨y,u,rfl,e⟩
   ·exact nomatch e
   ·injection e with e1 _;rw[e1]
 byValue:=λk v h=>by
  rcases zS h with ⟨i,t,rfl,rfl⟩ | ⟨x,t,rfl,rfl⟩ <;> rfl
 pyHash:=λc h=>by
  rcases zS c with ⟨i,t,rfl,rfl⟩ | ⟨x,t,rfl,rfl⟩
  ·exact JN h
  ·exact wpAny_pyHash_str h
 eqBool:=λf c h=>by
  rcases zS f with ⟨i,t,rfl,rfl⟩ | ⟨x,t,rfl,rfl⟩
  ·rcases zS c with ⟨j,u,rfl,rfl⟩ | ⟨y,u,rfl,rfl⟩
   ·rw[Gi]at h;exact dk.bool_bool i j _ _ _ _ h
   ·rw[Gk]at h;exact dk.bool_str i y u _ _ _ _ h
  ·rcases zS c with ⟨j,u,rfl,rfl⟩ | ⟨y,u,rfl,rfl⟩
   ·rw[Gm]at h;exact dk.str_bool x t j _ _ _ _ h
   ·rw[Gj]at h;exact wpAny_eqBool_str h
 «strs»:=λk x t v h=>by
  rcases zS h with ⟨i,u,rfl,e⟩ | ⟨y,u,rfl,e⟩
  ·exact nomatch e
  ·injection e with e1 _;subst e1;cases v <;> rfl
theorem jH (prog:Program)(w:World)(x:Str)(t:Tok):(Z0 prog w).is (.inr x) (.str x t)=true:=Yf x t
end L2
namespace L2
open PySem PySem.Spec PyProof.Rows
inductive V where
 | non | bl (b:Bool) | int (i:Int) | str (x:Str) | byt (b:Array UInt8) | flt (b:UInt64) | ref (a:Addr) | ty (n:String)
 deriving DecidableEq
noncomputable def RelV:V->Value->Prop
 | .non,u=>u=Value.none
 | .bl b,u=>u=Value.bool b
 | .int i,u=>∃t,u=Value.int i t
 | .str x,u=>∃t,u=Value.str x t
 | .byt b,u=>∃t,u=Value.bytes b t
 | .flt b,u=>∃t,u=Value.float b t
 | .ref a,u=>u=Value.ref a
 | .ty n,u=>u=Value.type n
abbrev Vals:List V->List Value->Prop:=Paired RelV
theorem Vals.length (r:Vals xs us):xs.length=us.length:=e9 r
theorem Vals.get:∀{xs:List V} {a:List Value} {i:Nat} {x:V},Vals xs a->xs[i]? =some x->∃u,a[i]? =some u/\RelV x u
 | _,_,_,_,.nil,e=>by simp at e
 | _,_,0,_,.cons r _,e=>by simp at e;subst e;exact⟨_,rfl,r⟩
 | _,_,i+1,x,.cons _ t,e=>by
  obtain⟨u,d,c⟩:=Vals.get t (by simpa using e)
  exact⟨u,by simpa using d,c⟩
theorem Vals.append:∀{xs d:List V} {c a:List Value},Vals xs c->Vals d a->Vals (xs++d) (c++a)
 | _,_,_,_,.nil,s=>s
 | _,_,_,_,.cons r t,s=> .cons r (Vals.append t s)
theorem Vals.take:∀{xs:List V} {a:List Value} (n:Nat),Vals xs a->Vals (xs.take n) (a.take n)
 | _,_,0,_=> .nil
 | _,_,_+1,.nil=> .nil
 | _,_,n+1,.cons r t=> .cons r (Vals.take n t)
theorem Vals.drop:∀{xs:List V} {a:List Value} (n:Nat),Vals xs a->Vals (xs.drop n) (a.drop n)
 | _,_,0,r=>r
 | _,_,_+1,.nil=> .nil
 | _,_,n+1,.cons _ t=>Vals.drop n t
def AG:Option V->Option Value->Prop
 | some v,some u=>RelV v u
 | none,none=>True
 | _,_=>False
def KV {a:Type}:List (a×V)->List (a×Value)->Prop:=Paired λ(p:a×V) (q:a×Value)=>p.1=q.1/\RelV p.2 q.2
def kV:mM->V
 | .inl i=> .bl i
 | .inr x=> .str x
inductive HO where
 | lst (xs:List V)
 | tup (xs:List V)
 | dK (kvs:List (mM×V)) | dT (kvs:List (List mM×Addr×V))
 | set (S:Int->Bool) (n:Nat)
 | ins (C dx:Addr) (fs:List (Str×V))
 | own (x:Addr)
 | xd (fs:List (Str×V))
 | met (f x:Addr)
 | rng (lo hi:Int)
 | frz (o:Obj) (u:HO)
 | tbl (ps:Array Value) (q:Str)
 | ext (φ:Heap->Prop)
noncomputable abbrev Hp:=Addr->Option HO
def mz (H:Hp)(a:Addr)(o:HO):Hp:=λb=>if b=a then some o else H b
theorem zl:mz H a o a=some o:=by unfold mz;rw[if_pos rfl]
theorem zi (h:b ≠ a):mz H a o b=H b:=by unfold mz;rw[if_neg h]
theorem Yg {H:Hp}{a b:Addr}{o u:HO}(h:H a=some o)(h' :H b=some u)(d:o ≠ u):a ≠ b:=by
 intro e;subst e;rw[h]at h';exact d (aH h')
theorem zG {H:Hp}{a b:Addr}{o:HO}(h:H a=some o)(h' :H b=none):a ≠ b:=by
 intro e;subst e;rw[h]at h';cases h'
noncomputable def ITN (h:Heap)(a:Addr)(c:Array Value):Prop:=IsTup h a c/\((∃i t,c[0]? =some (Value.int i t))\/∃o,h.get? a=some o/\o.dict=none)
theorem ITN.new (h:Heap)(a:Array Value):ITN (h.push { cls:= .type "tuple",data:= .seq a }) h.objs.size a:=⟨IsTup.new h a,.inr ⟨_,af _ rfl,rfl⟩⟩
section
variable (P:Program)(w:World)
def zQ (H:Hp)(h:Heap)(a:Addr):HO->Prop
 | .lst xs=>xs.length<=sizeLine/\∃(d:List Value) (n:Nat),Vals xs d/\h.get? a=some { cls:= .type "list",data:= .seq d.toArray n }
 | .tup xs=>xs.length<=sizeLine/\∃d:List Value,Vals xs d/\ITN h a d.toArray
 | .dK kvs=>kvs.length<=sizeLine/\(a == sysModules)=false/\∃vs,KV kvs vs/\h.DictOf (Z0 P w) a vs
 | .dT kvs=>kvs.length<=sizeLine/\(a == sysModules)=false/\∃xs:List (List mM×Addr×Value),
   Paired (λ(p:List mM×Addr×V) (q:List mM×Addr×Value)=>p.1=q.1/\H q.2.1=some (.tup (p.1.map kV))/\RelV p.2.2 q.2.2/\p.2.1=q.2.1) kvs xs/\
   ∃o B ep,h.get? a=some o/\o.ExactDict/\o.data= .dict B ep/\B.toList=xs.map (entryOfKey (tupleKind (Z0 P w)))/\(xs.map (·.1)).Nodup
 | .set S n=>h.SetOf (intKind P w) a S n
 | .ins C i fs=>H i=some (.own a)/\fs.length<=1000/\i ≠ a/\h.get? a=some (iM C i)/\
   ∃g,h.Ns1 i g/\(∀f,AG (fs.lookup f) (g f))/\PySem.Within g (fs.map (·.1))
 | .own _=>∃o,h.get? a=some o
 | .xd fs=>∃g,h.Ns1 a g/\∀f,AG (fs.lookup f) (g f)
 | .rng lo hi=>∃t u v,h.get? a=some { cls:= .type "range",data:= .fields #[.int lo t,.int hi u,.int 1 v] }
 | .frz o u=>h.get? a=some o/\zQ H h a u
 | .tbl k q=>∃e:Array Value,h.get? a=some { cls:= .none,data:= .fields (k++e) }/\TriplesOk (k++e).toList/\∀p D,codeAmong p (k++e).toList=some D->∃c l vs t,D= .ref c/\H c=some (.frz l (.own c))/\l.data= .fields vs/\vs[1]? =some (.str q t)
 | .met f x=>h.get? a=some (PySem.W.methodObj (.ref f) (.ref x))
 | .ext j=>j h/\(∃o,h.get? a=some o)/\∀y r:Heap,j y->(∀o,y.get? a=some o->r.get? a=some o)->j r
def HOk (H:Hp)(h:Heap):Prop:=∀a o,H a=some o->zQ P w H h a o
end
section
variable {P:Program}{w:World}{H H' :Hp}{h h' :Heap}{a:Addr}{o:HO}
theorem zQ.lt (x:zQ P w H h a o):a < h.objs.size:=by
 cases o with
 | lst xs=>obtain⟨_,_,_,_,e⟩:=x;exact au e
 | tup xs=>obtain⟨_,_,_,p,_⟩:=x;exact p.lt
 | dK kvs=>obtain⟨_,_,_,_,o,_,_,e,_⟩:=x;exact au e
 | dT kvs=>obtain⟨_,_,_,_,o,_,_,e,_⟩:=x;exact au e
 | set S n=>obtain⟨o,_,_,_,e,_⟩:=x;exact au e
 | ins C d fs=>obtain⟨_,_,_,e,_⟩:=x;exact au e
 | own y=>obtain⟨_,e⟩:=x;exact au e
 | xd fs=>obtain⟨_,⟨_,_,_,e,_⟩,_⟩:=x;exact au e
 | rng lo hi=>obtain⟨_,_,_,e⟩:=x;exact au e
 | frz ob u=>obtain⟨e,_⟩:=x;exact au e
 | tbl g q=>obtain⟨_,e,_⟩:=x;exact au e
 | met f y=>exact au (x)
 | ext c=>obtain⟨_,⟨_,e⟩,_⟩:=x;exact au e
theorem Paired.mapP {e g:Type}{F G:e->g->Prop}:∀{d:List e} {c:List g},Paired F d c->(∀a b,F a b->G a b)->Paired G d c
 | _,_,.nil,_=> .nil
 | _,_,.cons r t,f=> .cons (f _ _ r) (Paired.mapP t f)
theorem zQ.stay (x:zQ P w H h a o)(k:∀b u,(b=a\/H b=some (.own a))->h.get? b=some u->h'.get? b=some u)
  (I:∀b,H b=some (.own a)->H' b=some (.own a)) (J:∀b xs,H b=some (.tup xs)->H' b=some (.tup xs)) (G:∀b o u,H b=some (.frz o u)->H' b=some (.frz o u):=by exact λ_ _ _ q=>q):zQ P w H' h' a o:=by
 induction o with
 | lst xs=>obtain⟨z,i,n,r,e⟩:=x;exact⟨z,i,n,r,k _ _ (.inl rfl) e⟩
 | tup xs=>obtain⟨z,i,r,⟨ob,e,c⟩,q⟩:=x;exact⟨z,i,r,⟨ob,k _ _ (.inl rfl) e,c⟩,q.imp id λ⟨N,j,D⟩=>⟨N,k _ _ (.inl rfl) j,D⟩⟩
 | dK kvs=>obtain⟨z,y,vs,r,ob,g,ep,e,c⟩:=x;exact⟨z,y,vs,r,ob,g,ep,k _ _ (.inl rfl) e,c⟩
 | dT kvs=>
  obtain⟨z,y,xs,r,ob,g,ep,e,c⟩:=x;exact⟨z,y,xs,Paired.mapP r λp q z=>⟨z.1,J _ _ z.2.1,z.2.2⟩,ob,g,ep,k _ _ (.inl rfl) e,c⟩
 | set S n=>obtain⟨ob,g,ep,t,e,c⟩:=x;exact⟨ob,g,ep,t,k _ _ (.inl rfl) e,c⟩
 | ins C U fs=>
  obtain⟨d,z,F,e,l,⟨B,g,ep,j,c⟩,r⟩:=x;exact⟨I _ d,z,F,k _ _ (.inl rfl) e,l,⟨B,g,ep,k _ _ (.inr d) j,c⟩,r⟩
 | own y=>obtain⟨ob,e⟩:=x;exact⟨ob,k _ _ (.inl rfl) e⟩
 | xd fs=>obtain⟨l,⟨B,g,ep,e,c⟩,r⟩:=x;exact⟨l,⟨B,g,ep,k _ _ (.inl rfl) e,c⟩,r⟩
 | rng lo hi=>obtain⟨t,u,v,e⟩:=x;exact⟨t,u,v,k _ _ (.inl rfl) e⟩
 | frz ob u M=>obtain⟨e,q⟩:=x;exact⟨k _ _ (.inl rfl) e,M q⟩
 | tbl X q=>
  obtain⟨m,e,tr,al⟩:=x;exact⟨m,k a _ (.inl rfl) e,tr,λp O z=>let ⟨c,oc,vs,t,e1,j,e3⟩:=al p O z;⟨c,oc,vs,t,e1,G _ _ _ j,e3⟩⟩
 | met f y=>
  have e:=x;exact k a _ (.inl rfl) e
 | ext Q=>obtain⟨p,⟨o,e⟩,st⟩:=x;exact⟨st _ _ p λo q=>k _ _ (.inl rfl) q,⟨o,k _ _ (.inl rfl) e⟩,st⟩
theorem HOk.lt (x:HOk P w H h)(e:H a=some o):a < h.objs.size:=(x a o e).lt
theorem HOk.fresh (x:HOk P w H h)(e:h.objs.size<=a):H a=none:=by
 cases q:H a with
 | none=>rfl
 | some u=>exact absurd (aL (x.lt q) e) (bE _)
theorem HOk.kept (x:HOk P w H h)(k:∀b u,h.get? b=some u->h'.get? b=some u):HOk P w H h' :=λa o e=>
 (x a o e).stay (λb u _ q=>k b u q) (λ_ q=>q) λ_ _ q=>q
theorem HOk.laid (x:HOk P w H h)(k:∀b u,h.get? b=some u->h'.get? b=some u)(hp:h.objs.size<=a)(new:zQ P w (mz H a o) h' a o):HOk P w (mz H a o) h' :=λb u e=>by
 have hn:=x.fresh hp
 by_cases d:b=a
 ·subst d;rw[zl]at e;cases e;exact new
 ·rw[zi d]at e;exact(x b u e).stay (λc v _ q=>k c v q) (λc q=>by rw[zi (zG q hn)];exact q) (λc xs q=>by rw[zi (zG q hn)];exact q) λc o u q=>by rw[zi (zG q hn)];exact q
end
def Rd (H:Hp)(a:Addr)(u:HO):Prop:=H a=some u\/∃o,H a=some (.frz o u)
theorem Rd.ok (r:Rd H a u)(x:HOk P w H h):zQ P w H h a u:=by
 rcases r with r | ⟨o,r⟩
 ·exact x a u r
 ·obtain⟨_,q⟩:=x a _ r;exact q
noncomputable def sC:Option HO->Prop
 | some (.lst _)=>True
 | some (.dK _)=>True
 | some (.dT _)=>True
 | some (.set _ _)=>True
 | some (.ins _ _ _)=>True
 | some (.ext _)=>True
 | _=>False
section
theorem HOk.write (ok:HOk P w H h)(f:sC (H x))(p:e=x\/H e=some (.own x))(k:∀b u,b ≠ e->h.get? b=some u->h'.get? b=some u)(l:∃u,h'.get? e=some u)
  (new:zQ P w (mz H x o') h' x o'):HOk P w (mz H x o') h' :=λb u q=>by
 have d:∀c y,H c=some (.own y)->c ≠ x:=λc y r z=>by subst z;rw[r]at f;exact f
 have g:∀c xs,H c=some (.tup xs)->c ≠ x:=λc xs r z=>by subst z;rw[r]at f;exact f
 by_cases j:b=x
 ·subst j;rw[zl]at q;cases q;exact new
 ·rw[zi j]at q
  by_cases a:b=e
  ·have B :H b=some (.own x):=by
    rcases p with z | z
    ·exact absurd (a.trans z) j
    ·rw[a];exact z
   rw[q]at B;cases B;obtain⟨v,C⟩:=l;exact⟨v,by rw[a];exact C⟩
  ·refine(ok b u q).stay (λc v i r=>k c v ?_ r) (λc r=>by rw[zi (d c b r)];exact r) (λc xs r=>by rw[zi (g c xs r)];exact r) λc o u r=>by rw[zi (λz=>by subst z;rw[r]at f;exact f)];exact r
   rcases i with rfl | i
   ·exact a
   ·rintro rfl
    rcases p with z | z
    ·exact d c b i z
    ·rw[i]at z;cases z;exact j rfl
end
structure Un (fs ex:List Addr) (H H' :Hp) (h h' :Heap):Prop where
 keep:∀b o,h.get? b=some o->H b=none->b ∉ fs->b ∉ ex->h'.get? b=some o
 slot:∀b o,h.get? b=some o->H b=none->b∈fs->b ∉ ex->∃sl,h'.get? b=some { o with slots:=sl }
 free:∀b o,h.get? b=some o->H b=none->b ∉ ex->H' b=none
 there:∀b o,h.get? b=some o->b ∉ ex->∃o',h'.get? b=some o'
 tups:∀b xs,H b=some (.tup xs)->H' b=some (.tup xs)
 frzs:∀b o u,H b=some (.frz o u)->H' b=some (.frz o u)
 tbls:∀b ps q,H b=some (.tbl ps q)->H' b=some (.tbl ps q)
section
variable {fs fs' ex ex' :List Addr}{H H1 H2:Hp}{h h1 h2 h' :Heap}{a x e:Addr}{o:HO}
theorem Un.any (u:Un fs ex H H1 h h1)(q:h.get? b=some ob)(n:H b=none)(c:b ∉ ex):∃f,h1.get? b=some { ob with slots:=f }:=by
 by_cases d:b∈fs
 ·exact u.slot b ob q n d c
 ·exact⟨ob.slots,u.keep b ob q n d c⟩
theorem Un.kept (k:∀b u,h.get? b=some u->h'.get? b=some u):Un fs ex H H h h' :=
 ⟨λb ob q _ _ _=>k b ob q,λb ob q _ _ _=>⟨ob.slots,k b ob q⟩,λ_ _ _ n _=>n,λb ob q _=>⟨ob,k b ob q⟩,λ_ _ q=>q,λ_ _ _ q=>q,λ_ _ _ q=>q⟩
theorem Un.refl:Un fs ex H H h h:=Un.kept λ_ _ q=>q
theorem Un.laid (k:∀b u,h.get? b=some u->h'.get? b=some u)(hp:h.objs.size<=a)(hn:H a=none):Un fs ex H (mz H a o) h h' where
 keep:=λb u q _ _ _=>k b u q
 slot:=λb u q _ _ _=>⟨u.slots,k b u q⟩
 free:=λb u q n _=>by rw[zi (aF (aL (au q) hp))];exact n
 there:=λb u q _=>⟨u,k b u q⟩
 tups:=λb xs q=>by rw[zi (zG q hn)];exact q
 frzs:=λb u xs q=>by rw[zi (zG q hn)];exact q
 tbls:=λb c q e=>by rw[zi (zG e hn)];exact e
theorem Un.write (d:sC (H x))(l:e=x\/H e=some (.own x))(k:∀b u,b ≠ e->h.get? b=some u->h'.get? b=some u)(g:∃u,h'.get? e=some u):Un fs ex H (mz H x o) h h' :=by
 have i:∀b,H b=none->b ≠ x:=λb n z=>by subst z;rw[n]at d;exact d
 have j:∀b,H b=none->b ≠ e:=λb n z=>by
  subst z;rcases l with r | r
  ·exact i b n r
  ·rw[n]at r;cases r
 have f:∀b u,H b=some u->¬ sC (some u)->b ≠ x:=λb u q nm z=>by subst z;rw[q]at d;exact nm d
 refine⟨λb u q n _ _=>k b u (j b n) q,λb u q n _ _=>⟨u.slots,k b u (j b n) q⟩,λb u q n _=>by rw[zi (i b n)];exact n,λb u q _=> ?_,
  λb xs q=>by rw[zi (f b _ q λz=>z)];exact q,λb u xs q=>by rw[zi (f b _ q λz=>z)];exact q,λb p q e=>by rw[zi (f b _ e λz=>z)];exact e⟩
 by_cases c:b=e
 ·subst c;exact g
 ·exact⟨u,k b u c q⟩
end
def Be (h:Heap)(H:Hp):List Addr:=(aN h.objs.size).filter λa=>(H a).isSome
def G5 (h:Heap)(H:Hp):Heap:=PySem.W.hideAll h (Be h H)
theorem Yh (h:Heap)(H:Hp):(G5 h H).objs.size=h.objs.size:=PySem.W.hideAll_size _ _
theorem W5 (e:h.get? b=some o)(n:H b=none):(G5 h H).get? b=some o:=
 PySem.W.hideAll_get _ e λa=>by
  have q:=(bA.mp a).2;rw[n]at q;simp at q
theorem k3 (e:(G5 h H).get? b=some o):h.get? b=some o/\H b=none:=by
 have a :=PySem.W.of_hideAll _ e;refine⟨a, ?_⟩;cases q:H b with
 | none=>rfl
 | some x=>
  have c:b∈Be h H:=bA.mpr ⟨aT.mpr (au a),by simp[q]⟩
  have z:(G5 h H).get? b=none:=PySem.W.hideAll_none _ c;rw[z]at e;cases e
end L2
namespace L2
open PySem PySem.Spec PyProof.Rows
structure Mod (K:ai) (mg:Str->Option Value) (base:Heap):Prop where
 kin:K.In base
 glob:base.Ns mainGlobals mg
 blt:∃mb,base.Ns builtinsNs mb/\∀x:Str,x ≠ "__name__"->mb x=bootBuiltins x
 nolimit:base.NoLimit
structure Cx where
 prog:Program
 w:World
 K:ai
 mg:Str->Option Value
 base:Heap
 A:Around
 N:List Str
 s₀:Shared
 H₀:Hp
 env:Env
 outer:List Env
 stack:List Env
 ex:List Addr
 fn:Str->Bool
 calm:Bool
 pn:List (Addr×Obj)
 xe:Value->Shared->Prop
noncomputable def ng (l:List Env):List Addr:=l.filterMap (·.frame)
abbrev Cx.fs (X:Cx):List Addr:=ng X.outer
noncomputable def pU (a:Scope)(x:Str):Prop:=a.names.lookup x=some .local\/a.names.lookup x=some .cell\/a.names.lookup x=some .free
noncomputable def Loc (a:Scope)(x:Str):Prop:=a.names.lookup x=some .local\/a.names.lookup x=some .cell
noncomputable def BZ (env:Env)(h:Heap)(m:Str->Option Value)(x:Str)(u:Value):Prop:=
 (env.kindOf x=some .local/\m x=some u)\/((env.kindOf x=some .cell\/env.kindOf x=some .free)/\∃c,env.cells.lookup x=some c/\h.IsCell c (some u))
structure Cx.Ok (X:Cx):Prop where
 mod:Mod X.K X.mg X.base
 kind:X.env.scope.kind= .function
 glob:X.env.globals=mainGlobals
 blt:X.env.builtins=builtinsNs
 above:X.s₀.heap.objs.size<=X.env.locals
 inj:∀x y c,X.env.cells.lookup x=some c->X.env.cells.lookup y=some c->x=y
 has:∀x,(X.env.kindOf x=some .cell\/X.env.kindOf x=some .free)->∃c,X.env.cells.lookup x=some c
 cab:∀x c,X.fn x=true->X.env.cells.lookup x=some c->X.s₀.heap.objs.size<=c
 hd:X.calm=true->X.A.handled=none
 frames:X.A.frames=some X.stack
 stk:X.stack=X.outer\/(X.stack=X.env :: X.outer/\X.env.frame=some X.env.locals)
 exf:∀b∈X.ex,b ≠ X.env.locals/\∀x c,X.env.cells.lookup x=some c->c ≠ b
 bs:∀b o,X.base.get? b=some o->X.s₀.heap.get? b=some o/\X.H₀ b=none
 bsz:X.base.objs.size<=X.s₀.heap.objs.size
 noex:∀b o,X.base.get? b=some o->b ∉ X.ex
 exfs:∀b∈X.ex,b ∉ X.fs
 funs:X.s₀.heap.FunFrames X.base X.outer
 frf:∀b∈X.fs,X.H₀ b=none
structure Inv (X:Cx) (pins:List (Addr×Obj)) (σ:List (Option V)) (H:Hp) (s:Shared):Prop where
 ok:X.Ok
 os:s.os=X.s₀.os
 bare:AllBare s.gens
 base:Un X.fs X.ex X.H₀ H X.s₀.heap s.heap
 loc:∃m,s.heap.Ns X.env.locals m/\∀(i:Nat) (x:Str) (v:V),X.N[i]? =some x->σ[i]? =some (some v)->pU X.env.scope x->∃u,RelV v u/\BZ X.env s.heap m x u
 cell:∀x c,X.env.cells.lookup x=some c->∃v,s.heap.IsCell c v
 free:H X.env.locals=none
 freeC:∀x c,X.env.cells.lookup x=some c->H c=none
 pin:∀p∈X.pn++pins,s.heap.get? p.1=some p.2/\H p.1=none/\p.1 ≠ X.env.locals/\p.1 ∉ X.fs/\∀v,p.2.data ≠ .cell v
 hok:HOk X.prog X.w H s.heap
 len:σ.length=X.N.length
section
variable {X:Cx}{pins:List (Addr×Obj)}{σ:List (Option V)}{H H' :Hp}{s:Shared}{h' :Heap}
theorem Cx.Ok.nofr (ok:X.Ok){b:Addr}{o:Obj}(e:X.base.get? b=some o):b ∉ X.fs:=λa=>by
 have:=(ok.funs.mem a).1;rw[e]at this;cases this
theorem Inv.bs (I:Inv X pins σ H s):∀b o,X.base.get? b=some o->s.heap.get? b=some o/\H b=none:=λb o e=>
 ⟨I.base.keep b o (I.ok.bs b o e).1 (I.ok.bs b o e).2 (I.ok.nofr e) (I.ok.noex b o e),I.base.free b o (I.ok.bs b o e).1 (I.ok.bs b o e).2 (I.ok.noex b o e)⟩
theorem Inv.bk (I:Inv X pins σ H s):∀b o,X.base.get? b=some o->s.heap.get? b=some o:=λb o e=>(I.bs b o e).1
theorem Inv.mod (I:Inv X pins σ H s):Mod X.K X.mg X.base:=I.ok.mod
theorem Inv.kIn (I:Inv X pins σ H s):X.K.In s.heap:=I.ok.mod.kin.keeps I.bk
theorem Inv.lt (I:Inv X pins σ H s):X.env.locals < s.heap.objs.size:=let ⟨_,hn,_⟩:=I.loc;hn.lt
theorem Inv.sz (I:Inv X pins σ H s):X.s₀.heap.objs.size<=s.heap.objs.size:=av I.ok.above (iG I.lt)
theorem Inv.nofs (I:Inv X pins σ H s)(h:s.heap.objs.size<=a):a ∉ X.fs:=λc=>by
 obtain⟨_,o,d,_⟩:=I.ok.funs.mem c;exact absurd (aL (au d) (av I.sz h)) (bE _)
theorem Inv.cne (I:Inv X pins σ H s):∀x c,X.env.cells.lookup x=some c->c ≠ X.env.locals:=λx c e z=>by
 obtain⟨v,o,f,hd⟩:=I.cell x c e;obtain⟨m,⟨i,g,ep,d,a,_⟩,_⟩:=I.loc;rw[z,d]at f;cases f;rw[a]at hd;cases hd
theorem Inv.funs (I:Inv X pins σ H s):s.heap.FunFrames X.base X.outer:=by
 have all:∀(l:List Env),(∀b∈ng l,b∈X.fs)->X.s₀.heap.FunFrames X.base l->s.heap.FunFrames X.base l:=by
  intro l
  induction l with
  | nil=>intro _ _;trivial
  | cons env r j=>
   intro f g;obtain⟨k,⟨L,o,a,hn,i,hd⟩,hr⟩:=g;have c:=f L (by unfold ng;rw[dZ,a];exact aa)
   obtain⟨p,e⟩:=I.base.slot L o i (I.ok.frf L c) c λz=>I.ok.exfs L z c;exact⟨k,⟨L,_,a,hn,e,hd⟩,j (λb d=>f b (by unfold ng;rw[dZ,a];exact a9 _ d)) hr⟩
 exact all _ (λ_ d=>d) I.ok.funs
theorem Inv.stack (I:Inv X pins σ H s):s.heap.FunFrames X.base X.stack:=by
 rcases I.ok.stk with e | ⟨e,a⟩
 ·rw[e];exact I.funs
 ·rw[e];obtain⟨m,hn,_⟩:=I.loc;refine .cons (by rw[I.ok.kind];decide) a hn ?_ I.funs
  exact Heap.get?_none_of_le (av I.ok.bsz I.ok.above)
theorem Inv.stkSub (I:Inv X pins σ H s):∀b∈ng X.stack,b∈X.env.locals :: X.fs:=λb a=>by
 rcases I.ok.stk with e | ⟨e,c⟩
 ·rw[e]at a;exact a9 _ a
 ·rw[e]at a;unfold ng at a;rw[dZ,c]at a;exact a
theorem Inv.stkFree (I:Inv X pins σ H s):∀b∈ng X.stack,H b=none:=λb a=>by
 rcases ak.mp (I.stkSub b a) with e | a
 ·rw[e];exact I.free
 ·obtain⟨_,o,c,_⟩:=I.ok.funs.mem a;exact I.base.free b o c (I.ok.frf b a) λz=>I.ok.exfs b z a
theorem Inv.step {g' :Array GenState}{t' :Nat}{d' :Drawn}{ch:List Addr}(I:Inv X pins σ H s)
  (g:∀b∈ch,(b∈X.ex\/X.s₀.heap.objs.size<=b)/\b ≠ X.env.locals/\(∀x c,X.env.cells.lookup x=some c->c ≠ b)/\∀p∈X.pn++pins,p.1 ≠ b)
  (keep:∀b o,b ≠ X.env.locals->b ∉ X.fs->b ∉ ch->s.heap.get? b=some o->H b=none->h'.get? b=some o)
  (y:∀b o,b ≠ X.env.locals->b∈X.fs->b ∉ ch->s.heap.get? b=some o->H b=none->∃Q,h'.get? b=some { o with slots:=Q }) (free:∀b o,b ∉ ch->s.heap.get? b=some o->H b=none->H' b=none)
  (C:∀b o,b ∉ ch->s.heap.get? b=some o->∃G,h'.get? b=some G)
  (O:∀b xs,H b=some (.tup xs)->H' b=some (.tup xs)) (M:∀b o u,H b=some (.frz o u)->H' b=some (.frz o u)) (J:∀b N q,H b=some (.tbl N q)->H' b=some (.tbl N q))
  (ns:∀m,s.heap.Ns X.env.locals m->h'.Ns X.env.locals m) (U:HOk X.prog X.w H' h') (hg:AllBare g'):
  Inv X pins σ H' { s with heap:=h',gens:=g',drawn:=d',toks:=t' }:=by
 have P:∀b o,X.s₀.heap.get? b=some o->b ≠ X.env.locals:=λb o e=>aF (aL (au e) I.ok.above);have mW:∀b o,X.s₀.heap.get? b=some o->b ∉ X.ex->b ∉ ch:=λb o e a D=>by
  rcases(g b D).1 with z | z
  ·exact a z
  ·exact absurd (aL (au e) z) (bE _)
 have f:∀x c,X.env.cells.lookup x=some c->∀v,s.heap.IsCell c v->h'.IsCell c v:=λx c e v ⟨o,F,hd⟩=>by
  have j:=λz=>(g c z).2.2.1 x c e rfl
  by_cases hc:c∈X.fs
  ·obtain⟨Q,q⟩:=y c o (I.cne x c e) hc j F (I.freeC x c e);exact⟨_,q,hd⟩
  ·exact⟨o,keep c o (I.cne x c e) hc j F (I.freeC x c e),hd⟩
 refine⟨I.ok,I.os,hg,⟨λb o e n D a=> ?_,λb o e n D a=> ?_,λb o e n a=> ?_,λb o e a=> ?_,λb xs e=>O b xs (I.base.tups b xs e),λb o xs e=>M b o xs (I.base.frzs b o xs e),λb N q e=>J b N q (I.base.tbls b N q e)⟩, ?_,λx c e=> ?_, ?_,λx c e=> ?_,λp hp=> ?_,U,I.len⟩
 ·exact keep b o (P b o e) D (mW b o e a) (I.base.keep b o e n D a) (I.base.free b o e n a)
 ·obtain⟨Q,B⟩:=I.base.slot b o e n D a;obtain⟨S,Z⟩:=y b _ (P b o e) D (mW b o e a) B (I.base.free b o e n a);exact⟨S,Z⟩
 ·obtain⟨G,B⟩:=I.base.there b o e a;exact free b G (mW b o e a) B (I.base.free b o e n a)
 ·obtain⟨G,B⟩:=I.base.there b o e a;exact C b G (mW b o e a) B
 ·obtain⟨m,hn,hl⟩:=I.loc;refine⟨m,ns m hn,λi x v B Z e3=> ?_⟩;obtain⟨u,r,l⟩:=hl i x v B Z e3;refine⟨u,r, ?_⟩;rcases l with l | ⟨k,c,e,z⟩
  ·exact .inl l
  ·exact .inr ⟨k,c,e,f x c e _ z⟩
 ·obtain⟨v,z⟩:=I.cell x c e;exact⟨v,f x c e v z⟩
 ·obtain⟨m,⟨o,_,_,F,_⟩,_⟩:=I.loc;exact free _ o (λz=>(g _ z).2.1 rfl) F I.free
 ·obtain⟨v,o,F,hd⟩:=I.cell x c e;exact free c o (λz=>(g c z).2.2.1 x c e rfl) F (I.freeC x c e)
 ·obtain⟨e,n,ne,nf,d⟩:=I.pin p hp;have j:=λz=>(g p.1 z).2.2.2 p hp rfl;exact⟨keep p.1 p.2 ne nf j e n,free p.1 p.2 j e n,ne,nf,d⟩
theorem Inv.un {t' :Nat}(I:Inv X pins σ H s)(u:Un X.fs [] H H' s.heap h')(c:HOk X.prog X.w H' h'):Inv X pins σ H' { s with heap:=h',toks:=t' }:=by
 obtain⟨m,⟨o,v,ep,i,r⟩,_⟩:=id I.loc;obtain⟨q,k⟩:=u.any i I.free (by simp)
 exact I.step (ch:=[]) (λ_ z=>nomatch z) (λb o _ d _ e n=>u.keep b o e n d (by simp)) (λb o _ d _ e n=>u.slot b o e n d (by simp)) (λb o _ e n=>u.free b o e n (by simp)) (λb o _ e=>u.there b o e (by simp)) u.tups u.frzs u.tbls (λp j=>by
  obtain⟨x,g,f,a,l⟩:=j;rw[i]at a;cases a;exact⟨_,g,f,k,l⟩) c I.bare
theorem Inv.call {q :Array GenState}{t' :Nat}{D :Drawn}{ch:List Addr}(I:Inv X pins σ H s)(u:Un (ng X.stack) ch H H' s.heap h')(j:HOk X.prog X.w H' h')(B:AllBare q)
  (d:∀b∈ch,(b∈X.ex\/X.s₀.heap.objs.size<=b)/\b ≠ X.env.locals/\(∀x c,X.env.cells.lookup x=some c->c ≠ b)/\∀p∈X.pn++pins,p.1 ≠ b):
  Inv X pins σ H' { s with heap:=h',gens:=q,drawn:=D,toks:=t' }:=by
 obtain⟨m,⟨o,M,ep,l,r⟩,_⟩:=id I.loc;obtain⟨F,g⟩:=u.any l I.free λz=>(d _ z).2.1 rfl;exact I.step d (λb o g C a e n=>u.keep b o e n (λz=>(ak.mp (I.stkSub b z)).elim g C) a) (λb o _ _ a e n=>u.any e n a) (λb o a e n=>u.free b o e n a) (λb o a e=>u.there b o e a) u.tups u.frzs u.tbls (λJ v=>by
  obtain⟨G,k,i,f,y⟩:=v;rw[l]at f;cases f;exact⟨_,k,i,g,y⟩) j B
theorem Inv.turned {t' :Nat}{it:Addr}(I:Inv X pins σ H s)(k:∀b o,b ≠ it->s.heap.get? b=some o->h'.get? b=some o)(hn:H it=none)(f:it ≠ X.env.locals)
  (j:it∈X.ex\/X.s₀.heap.objs.size<=it) (g:∀x c,X.env.cells.lookup x=some c->c ≠ it) (i:∀p∈X.pn++pins,p.1 ≠ it):Inv X pins σ H { s with heap:=h',toks:=t' }:=by
 have d:∀b u,H b=some u->b ≠ it:=λb u e z=>by rw[z,hn]at e;cases e
 refine I.step (ch:=[it]) (λb y=> ?_) (λb o _ _ a e _=>k b o (λz=>a (by simp[z])) e) (λb o _ _ a e _=>⟨o.slots,k b o (λz=>a (by simp[z])) e⟩) (λ_ _ _ _ n=>n)
  (λb o a e=>⟨o,k b o (λz=>a (by simp[z])) e⟩) (λ_ _ e=>e) (λ_ _ _ e=>e) (λ_ _ _ e=>e) (λm l=> ?_) (λb u e=> ?_) I.bare
 ·have e:=by simpa using y
  subst e;exact⟨j,f,g,i⟩
 ·obtain⟨o,B,ep,w,r⟩:=l;exact⟨o,B,ep,k _ o (bj f) w,r⟩
 ·refine(I.hok b u e).stay (λc v a q=>k c v ?_ q) (λ_ q=>q) λ_ _ q=>q;rcases a with z | z
  ·rw[z];exact d b u e
  ·exact d c _ z
theorem Inv.tok (I:Inv X pins σ H s)(t:Nat):Inv X pins σ H { s with toks:=t }:=I.un Un.refl I.hok
theorem Inv.kept (I:Inv X pins σ H s)(k:∀b u,s.heap.get? b=some u->h'.get? b=some u):Inv X pins σ H { s with heap:=h',toks:=t' }:=I.un (Un.kept k) (I.hok.kept k)
theorem Inv.laid (I:Inv X pins σ H s)(k:∀b u,s.heap.get? b=some u->h'.get? b=some u)(hp:s.heap.objs.size<=a)(new:zQ X.prog X.w (mz H a o) h' a o):
  Inv X pins σ (mz H a o) { s with heap:=h',toks:=t' }:=I.un (Un.laid k hp (I.hok.fresh hp)) (I.hok.laid k hp new)
theorem Inv.write (I:Inv X pins σ H s)(c:sC (H x))(d:e=x\/H e=some (.own x))(k:∀b u,b ≠ e->s.heap.get? b=some u->h'.get? b=some u)(a:∃u,h'.get? e=some u)
  (new:zQ X.prog X.w (mz H x o) h' x o):Inv X pins σ (mz H x o) { s with heap:=h',toks:=t' }:=I.un (Un.write c d k a) (I.hok.write c d k a new)
theorem Inv.pins_of (I:Inv X pins σ H s)(h:∀p∈pins',s.heap.get? p.1=some p.2/\H p.1=none/\p.1 ≠ X.env.locals/\p.1 ∉ X.fs/\∀v,p.2.data ≠ .cell v):Inv X pins' σ H s:=
 ⟨I.ok,I.os,I.bare,I.base,I.loc,I.cell,I.free,I.freeC,λp hp=>(aW.mp hp).elim (λz=>I.pin p (dM _ z)) (h p),I.hok,I.len⟩
theorem Uh {N:List Str}(c:N.Nodup){i j:Nat}{x:Str}(a:N[i]? =some x)(b:N[j]? =some x):i=j:=by
 obtain⟨g,d⟩:=ay.mp a;obtain⟨f,e⟩:=ay.mp b;exact(dQ c).mp (d.trans e.symm)
theorem WU {M:Model}{A:Around}{E:Value->Shared->Prop}{i:Nat}{x:Str}{v:V}{u:Value}{Q:Unit->Shared->Prop}(I:Inv X pins σ H s)(hN:X.N.Nodup)(hi:X.N[i]? =some x)(C:Loc X.env.scope x)(r:RelV v u)
  (h:∀s',Inv X pins (σ.set i (some v)) H s' ->(∃a,bc a s.heap s'.heap/\(a=X.env.locals\/X.env.cells.lookup x=some a))->Q () s') (hf:X.fn x=true\/X.env.scope.names.lookup x=some .local:=by first | exact .inl rfl | exact .inr rfl | assumption):wpAny M A (storeName X.env x u) Q E s:=by
 obtain⟨m,hn,hl⟩:=id I.loc;have hcls:(X.env.scope.kind == .class || (X.env.scope.kind == .module && X.env.locals != X.env.globals))=false:=by rw[I.ok.kind];rfl
 have G:i < σ.length:=by rw[I.len];exact(ay.mp hi).1
 have cne:=I.cne;have g:∀{a:Addr} {h' :Heap},(∃o,s.heap.get? a=some o/\H a=none)->bc a _ h' ->HOk _ X.w H h' :=λ{a h'} ha f b ob e=>by
  obtain⟨_,_,D⟩:=ha;refine(I.hok b ob e).stay (λc w' B q=>(f.2 c ?_).trans q) (λ_ q=>q) λ_ _ q=>q
  rintro rfl
  rcases B with rfl | B
  ·rw[D]at e;cases e
  ·rw[D]at B;cases B
 rcases C with J | J
 ·refine wpAny_storeName_local J hn (λh' hn' f=> ?_) hcls;obtain⟨oL,_,_,hoL,_⟩:=id hn;refine h _ ⟨I.ok,I.os,I.bare,⟨λb o e n P C=> ?_,λb o e n P C=> ?_,I.base.free,λb o e C=> ?_,I.base.tups,I.base.frzs,I.base.tbls⟩,⟨_,hn',λj y v' l F e3=> ?_⟩,λy c e=> ?_,I.free,I.freeC,λp hp=> ?_,g ⟨oL,hoL,I.free⟩ f,by simpa using I.len⟩ ⟨_,f,.inl rfl⟩
  ·exact(f.2 b (aF (aL (au e) I.ok.above))).trans (I.base.keep b o e n P C)
  ·obtain⟨sl,l⟩:=I.base.slot b o e n P C;exact⟨sl,(f.2 b (aF (aL (au e) I.ok.above))).trans l⟩
  ·obtain⟨o',l⟩:=I.base.there b o e C;exact⟨o',(f.2 b (aF (aL (au e) I.ok.above))).trans l⟩
  ·by_cases O:j=i
   ·subst O;rw[hi]at l;cases l;rw[be G]at F;cases F;exact⟨u,r,.inl ⟨J,by simp⟩⟩
   ·rw[aB (bj O)]at F;obtain⟨u',r',q⟩:=hl j y v' l F e3;refine⟨u',r', ?_⟩;rcases q with ⟨k,e⟩ | ⟨k,c,e,z⟩
    ·refine .inl ⟨k, ?_⟩;have:y ≠ x:=λe=>O (Uh hN l (e ▸ hi));simp[this,e]
    ·exact .inr ⟨k,c,e,z.sameBut f (cne y c e)⟩
  ·obtain⟨w',z⟩:=I.cell y c e;exact⟨w',z.sameBut f (cne y c e)⟩
  ·obtain⟨e,n,ne,nf,d⟩:=I.pin p hp;exact⟨(f.2 p.1 ne).trans e,n,ne,nf,d⟩
 ·have S:X.fn x=true:=by
   rcases hf with z | z
   ·exact z
   ·rw[z]at J;cases J
  obtain⟨c,B⟩:=I.ok.has x (.inl J);obtain⟨w',z⟩:=I.cell x c B;refine wpAny_storeName_cell I.ok.kind J B z (λh' hc' f=> ?_);obtain⟨oc,U,Z⟩:=id z;refine h _ ⟨I.ok,I.os,I.bare,⟨λb o e n P C=> ?_,λb o e n P C=> ?_,I.base.free,λb o e C=> ?_,I.base.tups,I.base.frzs,I.base.tbls⟩,⟨m,hn.sameBut f (bj (cne x c B)),λj y v' l F e3=> ?_⟩,λy c' e=> ?_,I.free,I.freeC,λp hp=> ?_,g ⟨oc,U,I.freeC x c B⟩ f,by simpa using I.len⟩ ⟨c,f,.inr B⟩
  ·exact(f.2 b (aF (aL (au e) (I.ok.cab x c S B)))).trans (I.base.keep b o e n P C)
  ·obtain⟨sl,l⟩:=I.base.slot b o e n P C;exact⟨sl,(f.2 b (aF (aL (au e) (I.ok.cab x c S B)))).trans l⟩
  ·obtain⟨o',l⟩:=I.base.there b o e C;exact⟨o',(f.2 b (aF (aL (au e) (I.ok.cab x c S B)))).trans l⟩
  ·by_cases O:j=i
   ·subst O;rw[hi]at l;cases l;rw[be G]at F;cases F;exact⟨u,r,.inr ⟨.inl J,c,B,hc'⟩⟩
   ·rw[aB (bj O)]at F;obtain⟨u',r',q⟩:=hl j y v' l F e3;refine⟨u',r', ?_⟩;rcases q with q | ⟨k,c',e,z'⟩
    ·exact .inl q
    ·refine .inr ⟨k,c',e,z'.sameBut f ?_⟩
     rintro rfl
     exact O (Uh hN l (I.ok.inj _ _ _ e B ▸ hi))
  ·by_cases hcc:c' =c
   ·subst hcc;exact⟨_,hc'⟩
   ·obtain⟨w2,z2⟩:=I.cell y c' e;exact⟨w2,z2.sameBut f hcc⟩
  ·obtain⟨e,n,ne,nf,d⟩:=I.pin p hp;refine⟨(f.2 p.1 ?_).trans e,n,ne,nf,d⟩;intro q;rw[q,U]at e;have q' :=aH e;exact d w' (by rw[← q'];exact Z)
theorem Ui {Q:Unit->Shared->Prop}(I:Inv X pins σ H s)(f:X.N.Nodup)(hi:X.N[i]? =some x)(e:Loc X.env.scope x)(r:RelV v u)
  (h:∀a,Inv X pins (σ.set i (some v)) H a ->Q () a) (d:X.fn x=true\/X.env.scope.names.lookup x=some .local:=by first | exact .inl rfl | exact .inr rfl | assumption):wpAny M A (storeName X.env x u) Q E s:=
 WU I f hi e r (λa c _=>h a c) d
theorem Inv.call' (I:Inv X pins σ H s)(f:s'.os=s.os)(u:Un (ng X.stack) ch H H' s.heap s'.heap)(d:HOk X.prog X.w H' s'.heap)(g:AllBare s'.gens)
  (a:∀b∈ch,(b∈X.ex\/X.s₀.heap.objs.size<=b)/\b ≠ X.env.locals/\(∀x c,X.env.cells.lookup x=some c->c ≠ b)/\∀p∈X.pn++pins,p.1 ≠ b):Inv X pins σ H' s' :=by
 obtain⟨h',j,k,t',i⟩:=s';have e:=f;subst e;exact I.call u d g a
end
abbrev XK:=Value->Option Addr->Hp->Prop
noncomputable abbrev St:=List (Option V)
abbrev VK:=V->Hp->Prop
abbrev TE:=St->Hp->VK->Prop
abbrev TT:=St->Hp->(Bool->Hp->Prop)->Prop
abbrev TA:=St->Hp->(List V->Hp->Prop)->Prop
structure xM where
 nx:St->Hp->Prop
 rt:VK
 bk:St->Hp->Prop:=λ_ _=>False
 ct:St->Hp->Prop:=λ_ _=>False
abbrev TS:=xM->St->Hp->Prop
def EP (X:Cx)(a:List (Addr×Obj))(e:St)(Q:VK)(u:Value)(d :Shared):Prop:=∃v c,Inv X a e c d /\RelV v u/\Q v c
def TP (X:Cx)(a:List (Addr×Obj))(d:St)(Q:Bool->Hp->Prop)(b:Bool)(e :Shared):Prop:=∃c,Inv X a d c e /\Q b c
def AP (X:Cx)(a:List (Addr×Obj))(f:St)(Q:List V->Hp->Prop)(e:List Value)(d :Shared):Prop:=∃vs c,Inv X a f c d /\Vals vs e/\Q vs c
def SP (X:Cx)(a:List (Addr×Obj))(D:xM)(f:Flow)(d :Shared):Prop:=
 match f with
 | .next=>∃σ' c,Inv X a σ' c d /\D.nx σ' c
 | .brk=>∃σ' c,Inv X a σ' c d /\D.bk σ' c
 | .cont=>∃σ' c,Inv X a σ' c d /\D.ct σ' c
 | .ret u=>∃v σ' c,Inv X a σ' c d /\RelV v u/\D.rt v c
def PE (X:Cx)(e:Expr)(t:TE):Prop:=
 ∀(a:List (Addr×Obj)) (s:Shared) (c:St) (H:Hp) (Q:VK),Inv X a c H s->t c H Q->wpAny (model X.prog X.w) X.A (eval e X.env) (EP X a c Q) X.xe s
def PT (X:Cx)(e:Expr)(t:TT):Prop:=
 ∀(a:List (Addr×Obj)) (s:Shared) (c:St) (H:Hp) (Q:Bool->Hp->Prop),Inv X a c H s->t c H Q->wpAny (model X.prog X.w) X.A (isTrue e X.env (eval e X.env)) (TP X a c Q) X.xe s
def PW (X:Cx)(e:Expr)(t:TT):Prop:=
 ∀(c:Sem Value) (a:List (Addr×Obj)) (s:Shared) (d:St) (H:Hp) (Q:Bool->Hp->Prop),Inv X a d H s->t d H Q->wpAny (model X.prog X.w) X.A (isTrue e X.env c) (TP X a d Q) X.xe s
theorem PW.pt (h:PW X e t):PT X e t:=h _
def PA (X:Cx)(d:List Expr)(t:TA):Prop:=
 ∀(pos:Pos) (a:List _) (s:Shared) (c:St) (H:Hp) (Q:List V->Hp->Prop),Inv X a c H s->t c H Q->wpAny (model X.prog X.w) X.A (spliced (backTo pos (starEach d X.env))) (AP X a c Q) X.xe s
def PS (X:Cx)(st:Stmt)(t:TS):Prop:=
 ∀(a:List (Addr×Obj)) (s:Shared) (c:St) (H:Hp) (D:xM),Inv X a c H s->t D c H->wpAny (model X.prog X.w) X.A (exec st X.env) (SP X a D) X.xe s
def PSs (X:Cx)(st:List Stmt)(t:TS):Prop:=
 ∀(a:List (Addr×Obj)) (s:Shared) (c:St) (H:Hp) (D:xM),Inv X a c H s->t D c H->wpAny (model X.prog X.w) X.A (execs st X.env) (SP X a D) X.xe s
theorem mH {d:Type}{t:Sem d}{Q c :d->Shared->Prop}(h:wpAny M A t Q E s)(e:∀a s,Q a s->c a s):wpAny M A t c E s:=cV h e λ_ _ x=>x
end L2
namespace L2
open PySem PySem.Spec PyProof.Rows
section
theorem bin (o:PE X a ta)(B:PE X b tb){R:V->V->Hp->Prop}(I:Inv X pins σ H s)(h:ta σ H λx i=>tb σ i λy c=>R x y c)
  {j:Type} {Q:j->Shared->Prop} {f:Value->Value->Sem j}
  (p:∀v u g x y c,Inv X pins σ c g->RelV x v->RelV y u->R x y c->wpAny (model X.prog X.w) X.A (f v u) Q X.xe g):
  wpAny (model X.prog X.w) X.A (eval a X.env) (λv e=>wpAny (model X.prog X.w) X.A (eval b X.env) (λu d=>wpAny (model X.prog X.w) X.A (f v u) Q X.xe d) X.xe e) X.xe s:=by
 refine mH (o _ s σ H _ I h) λv r ⟨x,i,D,F,C⟩=> ?_;refine mH (B _ r σ i _ D C) λu g ⟨y,c,k,l,q⟩=> ?_;exact p v u g x y c k F l q
def W6 (i:Nat):TE:=λa H Q=>∃v,a[i]? =some (some v)/\Q v H
def tC (v:V):TE:=λ_ H Q=>Q v H
theorem Jn (w:X.N[i]? =some x)(p:pU X.env.scope x)(hd:(x == ("__debug__":Str))=false:=by decide)(g:(x == ("__classdict__":Str))=false:=by decide):PE X (.Name x pos) (W6 i):=by
 intro j s y H Q I h;obtain⟨v,e,h⟩:=h;obtain⟨m,hn,o⟩:=I.loc;obtain⟨u,r,l⟩:=o i x v w e p;have d:EP X _ y Q u s:=⟨v,H,I,r,h⟩;rcases l with ⟨f,q⟩ | ⟨f,c,k,a⟩
 ·exact wpAny_Name (wpAny_loadName_local I.ok.kind f hn q d) hd
 ·rcases f with f | f
  ·exact wpAny_Name (wpAny_loadName_cell I.ok.kind f k a d) hd
  ·exact wpAny_Name (wpAny_loadName_free I.ok.kind f k a d g) hd
theorem Gn {i j pos}:PE X (.Constant (.int i) j pos) (tC (.int i)):=λ_ _ _ H _ I h=>wpAny_Constant_int ⟨.int i,H,I.tok _,⟨_,rfl⟩,h⟩
theorem Lx {b j pos}:PE X (.Constant (.bool b) j pos) (tC (.bl b)):=λ_ _ _ H _ I h=>Constant_bool ⟨.bl b,H,I,rfl,h⟩
theorem Go {j pos}:PE X (.Constant .none j pos) (tC .non):=λ_ _ _ H _ I h=>Constant_none ⟨.non,H,I,rfl,h⟩
theorem xN {x j pos}:PE X (.Constant (.str x) j pos) (tC (.str x)):=λ_ _ _ H _ I h=>Calls.Constant_str ⟨.str x,H,I.tok _,⟨_,rfl⟩,h⟩
noncomputable def Gl (X:Cx)(x:Str):Prop:=X.env.kindOf x=some .globalImplicit
theorem Yi (I:Inv X pins σ H s)(c:Gl X x)(a:X.mg x=some u)(h:Q u s)
  (hd:(x == ("__debug__":Str))=false:=by decide):wpAny (model X.prog X.w) X.A (eval (.Name x pos) X.env) Q E s:=
 f_ I.ok.kind c (Calls.loadGlobal_global (by rw[I.ok.glob];exact I.mod.glob.keeps I.bk) a h) hd
theorem j5 (I:Inv X pins σ H s)(f:Gl X x)(e:X.mg x=none)(a:bootBuiltins x=some u)(h:Q u s)
  (hn:x ≠ "__name__":=by decide) (hd:(x == ("__debug__":Str))=false:=by decide):wpAny (model X.prog X.w) X.A (eval (.Name x pos) X.env) Q E s:=by
 obtain⟨g,d,c⟩:=I.mod.blt;exact f_ I.ok.kind f (Calls.loadGlobal_builtin (by rw[I.ok.glob];exact I.mod.glob.keeps I.bk) e (by rw[I.ok.blt];exact d.keeps I.bk) ((c x hn).trans a) h) hd
theorem k7 (c:Gl X x)(a:X.mg x=some u)(r:RelV v u)(hd:(x == ("__debug__":Str))=false:=by decide):PE X (.Name x pos) (tC v):=
 λ_ _ _ H _ I h=>Yi I c a ⟨v,H,I,r,h⟩ hd
theorem uQ (d:Gl X x)(c:X.mg x=none)(a:bootBuiltins x=some u)(r:RelV v u)(hn:x ≠ "__name__":=by decide)(hd:(x == ("__debug__":Str))=false:=by decide):PE X (.Name x pos) (tC v):=
 λ_ _ _ H _ I h=>j5 I d c a ⟨v,H,I,r,h⟩ hn hd
variable {tA tB' :TT}{rest:List Expr}
def BF (t u:TT):TT:=λa H Q=>t a H λc d=>if c=true then u a d Q else Q false d
def E7 (t u:TT):TT:=λa H Q=>t a H λc d=>if c=true then Q true d else u a d Q
def Dk (t:TT):TT:=λa H Q=>t a H λc d=>Q (!c) d
theorem k8 (f:PT X a tA):PW X (.BoolOp .And [a] pos) tA:=by
 intro i d s g H Q I h;refine isTrue_and (mH (f _ s g H Q I h) λc j e=> ?_);cases c with
 | true=>exact isTrue_and_nil e
 | false=>exact e
theorem Gp (f:PT X a tA):PW X (.BoolOp .Or [a] pos) tA:=by
 intro i d s g H Q I h;refine isTrue_or (mH (f _ s g H Q I h) λc j e=> ?_);cases c with
 | false=>exact isTrue_or_nil e
 | true=>exact e
theorem Gq (j:PT X a tA)(l:PW X (.BoolOp .And (b :: rest) pos) tB'):PW X (.BoolOp .And (a :: b :: rest) pos) (BF tA tB'):=by
 intro o d s f H Q I h;refine isTrue_and (mH (j _ s f H _ I h) λc k ⟨g,i,e⟩=> ?_);cases c with
 | true=>exact l o _ k f g Q i e
 | false=>exact⟨g,i,e⟩
theorem Ld (j:PT X a tA)(l:PW X (.BoolOp .Or (b :: rest) pos) tB'):PW X (.BoolOp .Or (a :: b :: rest) pos) (E7 tA tB'):=by
 intro o d s f H Q I h;refine isTrue_or (mH (j _ s f H _ I h) λc k ⟨g,i,e⟩=> ?_);cases c with
 | true=>exact⟨g,i,e⟩
 | false=>exact l o _ k f g Q i e
theorem Gr (e:PT X a tA):PT X (.UnaryOp .Not a pos) (Dk tA):=by
 intro d s f H Q I h;exact isTrue_not (e _ s f H (λc g=>Q _ g) I h)
def Hj (e tb:TE):TE:=λa H Q=>e a H λx d=>∃c,x= .bl c/\if c=true then tb a d Q else Q (.bl false) d
def BY (e tb:TE):TE:=λa H Q=>e a H λx d=>∃c,x= .bl c/\if c=true then Q (.bl true) d else tb a d Q
def Fi (e:TE):TE:=λa H Q=>e a H λx d=>∃c,x= .bl c/\Q (.bl (!c)) d
theorem Gs {op}(h:PE X a t):PE X (.BoolOp op [a] pos) t:=λc s e H Q I d=>BoolOp_one (h _ s e H Q I d)
theorem Gu (j:PE X a ta)(l:PE X (.BoolOp .And (b :: rest) pos) tb):PE X (.BoolOp .And (a :: b :: rest) pos) (Hj ta tb):=by
 intro e s f H Q I h;refine BoolOp_and (mH (j _ s f H _ I h) λv k ⟨x,g,i,o,d⟩=> ?_);obtain⟨c,rfl,d⟩:=d;cases o;refine bh ?_;cases c with
 | true=>exact l _ k f g Q i d
 | false=>exact⟨.bl _,g,i,rfl,d⟩
theorem HC (j:PE X a ta)(l:PE X (.BoolOp .Or (b :: rest) pos) tb):PE X (.BoolOp .Or (a :: b :: rest) pos) (BY ta tb):=by
 intro e s f H Q I h;refine BoolOp_or (mH (j _ s f H _ I h) λv k ⟨x,g,i,o,d⟩=> ?_);obtain⟨c,rfl,d⟩:=d;cases o;refine bh ?_;cases c with
 | false=>exact l _ k f g Q i d
 | true=>exact⟨.bl _,g,i,rfl,d⟩
theorem Gv (f:PE X a ta):PE X (.UnaryOp .Not a pos) (Fi ta):=by
 intro e s g H Q I h;refine UnaryOp_ (mH (f _ s g H _ I h) λv l ⟨x,i,j,k,d⟩=> ?_);obtain⟨c,rfl,d⟩:=d;cases k;exact not_of (bh ⟨.bl _,i,j,rfl,d⟩)
def FO (t:TT)(e tb:TE):TE:=λa H Q=>t a H λc d=>if c=true then e a d Q else tb a d Q
theorem V5 (p:PT X c tA)(o:PE X a ta)(l:PE X b tb):PE X (.IfExp c a b pos) (FO tA ta tb):=by
 intro g s e H Q I h;refine wpAny_IfExp (mH (p _ s e H _ I h) λd k ⟨i,j,f⟩=> ?_);cases d with
 | true=>exact o _ k e i Q j f
 | false=>exact l _ k e i Q j f
end
end L2
namespace L2
open PySem PySem.Spec PyProof.Rows
def SqL (K:ai)(H:Hp)(a:Addr)(xs:List V):Prop:=
 Rd H a (.lst xs)\/
  ∃(o:Obj) (c:Array Value) (n:Nat),K.lookup a=some o/\o.cls= .type "list"/\o.dict=none/\o.data= .seq c n/\c.size<=sizeLine/\Vals xs c.toList
def SqT (K:ai)(H:Hp)(a:Addr)(xs:List V):Prop:=
 Rd H a (.tup xs)\/
  ∃(o:Obj) (c:Array Value) (n:Nat),K.lookup a=some o/\o.cls= .type "tuple"/\o.data= .seq c n/\c.size<=sizeLine/\Vals xs c.toList
noncomputable def Dv:Value->Option V
 | .none=>some .non
 | .bool b=>some (.bl b)
 | .int i _=>some (.int i)
 | .str x _=>some (.str x)
 | .bytes b _=>some (.byt b)
 | .float b _=>some (.flt b)
 | .ref a=>some (.ref a)
 | .type n=>some (.ty n)
 | _=>none
theorem RelV.abs (r:RelV x u):Dv u=some x:=by
 cases x with
 | non=>cases r;rfl
 | bl _=>cases r;rfl
 | int _=>obtain⟨t,rfl⟩:=r;rfl
 | str _=>obtain⟨t,rfl⟩:=r;rfl
 | byt _=>obtain⟨t,rfl⟩:=r;rfl
 | flt _=>obtain⟨t,rfl⟩:=r;rfl
 | ref _=>cases r;rfl
 | ty _=>cases r;rfl
theorem RelV.inj (r:RelV x u)(q:RelV y u):x=y:=aH (r.abs.symm.trans q.abs)
theorem Vals.inj:∀{xs c:List V} {a:List Value},Vals xs a->Vals c a->xs=c
 | _,_,_,.nil,.nil=>rfl
 | _,_,_,.cons r t,.cons d t' =>by rw[r.inj d,Vals.inj t t']
section
variable {X:Cx}{pins:List (Addr×Obj)}{σ:St}{H:Hp}{s:Shared}{a:Addr}{xs ys:List V}
theorem SqL.of {K:ai}(h:H a=some (.lst xs)):SqL K H a xs:= .inl (.inl h)
theorem SqT.of {K:ai}(h:H a=some (.tup xs)):SqT K H a xs:= .inl (.inl h)
theorem Inv.list (I:Inv X pins σ H s)(h:SqL X.K H a xs):∃c:List Value,Vals xs c/\PlainL s.heap a c.toArray/\xs.length<=sizeLine:=by
 rcases h with h | ⟨o,c,n,g,f,hd,d,hz,r⟩
 ·obtain⟨z,c,n,r,e⟩:=h.ok I.hok;exact⟨c,r,⟨_,n,e,rfl,rfl,rfl⟩,z⟩
 ·refine⟨c.toList,r,⟨o,n,I.kIn a o g,f,hd,by simpa using d⟩, ?_⟩
  have e:=r.length;simp only[bU]at e;omega
theorem Inv.tuple (I:Inv X pins σ H s)(h:SqT X.K H a xs):∃c:List Value,Vals xs c/\IsTup s.heap a c.toArray/\xs.length<=sizeLine:=by
 rcases h with h | ⟨o,c,n,g,f,d,hz,r⟩
 ·obtain⟨z,c,r,p,_⟩:=h.ok I.hok;exact⟨c,r,p,z⟩
 ·refine⟨c.toList,r,⟨o,I.kIn a o g,f,n,by simpa using d⟩, ?_⟩
  have e:=r.length;simp only[bU]at e;omega
theorem Inv.list_inj (I:Inv X pins σ H s)(h:SqL X.K H a xs)(h' :SqL X.K H a ys):xs=ys:=by
 obtain⟨i,r,⟨o,n,e,_,_,d⟩,_⟩:=I.list h;obtain⟨c,j,⟨l,k,f,_,_,g⟩,_⟩:=I.list h';rw[e]at f;cases f;rw[d]at g;injection g with d1 _;have:=by simpa using congrArg Array.toList d1
 subst this;exact r.inj j
theorem Inv.tuple_inj (I:Inv X pins σ H s)(h:SqT X.K H a xs)(h' :SqT X.K H a ys):xs=ys:=by
 obtain⟨i,r,⟨o,e,_,n,d⟩,_⟩:=I.tuple h;obtain⟨c,j,⟨l,f,_,k,g⟩,_⟩:=I.tuple h';rw[e]at f;cases f;rw[d]at g;injection g with d1 _;have:=by simpa using congrArg Array.toList d1
 subst this;exact r.inj j
end
noncomputable abbrev Cx.wish (X:Cx)(E:Value->Shared->Prop):Cx:={ X with xe:=E }
abbrev Cx.nox (X:Cx):Cx:=X.wish λ_ _=>False
theorem Cx.Ok.wish {X:Cx}(ok:X.Ok)(E:Value->Shared->Prop):(X.wish E).Ok:=
 ⟨ok.mod,ok.kind,ok.glob,ok.blt,ok.above,ok.inj,ok.has,ok.cab,ok.hd,ok.frames,ok.stk,ok.exf,ok.bs,ok.bsz,ok.noex,ok.exfs,ok.funs,ok.frf⟩
theorem Cx.Ok.unwish {X:Cx}{E:Value->Shared->Prop}(ok:(X.wish E).Ok):X.Ok:=
 ⟨ok.mod,ok.kind,ok.glob,ok.blt,ok.above,ok.inj,ok.has,ok.cab,ok.hd,ok.frames,ok.stk,ok.exf,ok.bs,ok.bsz,ok.noex,ok.exfs,ok.funs,ok.frf⟩
section
variable {X:Cx}{pins:List (Addr×Obj)}{σ:St}{H:Hp}{s:Shared}{E:Value->Shared->Prop}
theorem Inv.wish (I:Inv X pins σ H s)(E:Value->Shared->Prop):Inv (X.wish E) pins σ H s:=⟨I.ok.wish E,I.os,I.bare,I.base,I.loc,I.cell,I.free,I.freeC,I.pin,I.hok,I.len⟩
theorem Inv.unwish (I:Inv (X.wish E) pins σ H s):Inv X pins σ H s:=⟨I.ok.unwish,I.os,I.bare,I.base,I.loc,I.cell,I.free,I.freeC,I.pin,I.hok,I.len⟩
theorem SP.unwish {D:xM}{f:Flow}(h:SP (X.wish E) pins D f s'):SP X pins D f s' :=by
 cases f with
 | next=>obtain⟨σ',a,I,q⟩:=h;exact⟨σ',a,I.unwish,q⟩
 | brk=>obtain⟨σ',a,I,q⟩:=h;exact⟨σ',a,I.unwish,q⟩
 | cont=>obtain⟨σ',a,I,q⟩:=h;exact⟨σ',a,I.unwish,q⟩
 | ret u=>obtain⟨v,σ',a,I,r,q⟩:=h;exact⟨v,σ',a,I.unwish,r,q⟩
theorem PSs.nox {st:List Stmt}{t:TS}(h:PSs X.nox st t):PSs X st t:=λpins s σ H D I a=>
 cV (h _ s σ H D (I.wish _) a) (λ_ _ q=>q.unwish) λ_ _ z=>cq z
end
section
variable {X:Cx}{st:Stmt}{rest:List Stmt}{t u:TS}{e:Expr}{te:TE}{pos:Pos}
def IX:TS:=λD a H=>D.nx a H
def Bz (t u:TS):TS:=λD a H=>t { D with nx:=u D } a H
theorem k9:PSs X [] IX:=λ_ _ a H _ I h=>wpAny_execs_nil ⟨a,H,I,h⟩
theorem jr (i:PS X st t)(d:PSs X rest u):PSs X (st :: rest) (Bz t u):=by
 intro a s g H D I h;refine wpAny_execs_cons (mH (i _ s g H _ I h) λf k q=> ?_);cases f with
 | next=>
  obtain⟨σ',j,c,q⟩:=q;exact d _ k σ' j D c q
 | ret v=>exact q
 | brk=>exact q
 | cont=>exact q
theorem Jb (d:PS X st t):PSs X [st] t:=by
 intro a s c H D I h;refine wpAny_execs_cons (mH (d _ s c H D I h) λf g q=> ?_);cases f with
 | next=>exact wpAny_execs_nil q
 | ret v=>exact q
 | brk=>exact q
 | cont=>exact q
theorem Inv.quiet (I:Inv X pins σ H s):interactive X.env=false:=by simp[interactive,I.ok.kind]
def Lz (te:TE):TS:=λD a H=>te a H λ_ c=>D.nx a c
theorem JO (g:PE X e te)(d:swapsWith e none pos.line X.env=pure false:=by rfl):PS X (.Expr e pos) (Lz te):=by
 intro a s c H D I h;exact wpAny_Expr_any (mH (g _ s c H _ I h) λv k ⟨x,i,j,l,f⟩=>⟨c,i,j,f⟩) I.quiet d
def CY (te:TE):TS:=λD a H=>te a H D.rt
theorem wL (f:PE X e te):PS X (.Return (some e) pos) (CY te):=by
 intro a s c H D I h;exact wpAny_Return_some (mH (f _ s c H _ I h) λv k ⟨x,g,i,j,d⟩=>⟨x,c,g,i,j,d⟩)
def BQ (c:TT)(t u:TS):TS:=λD a H=>c a H λb d=>if b=true then t D a d else u D a d
theorem HD (q:PT X c tc)(p:PSs X a t)(o:PSs X b u):PS X (.If c a b pos) (BQ tc t u):=by
 intro i s f H D I h;refine wpAny_If (mH (q _ s f H _ I h) λd l ⟨j,k,g⟩=> ?_);cases d with
 | true=>exact p _ l f j D k g
 | false=>exact o _ l f j D k g
end
abbrev TG:=V->St->Hp->(St->Hp->Prop)->Prop
abbrev pq:=List V->St->Hp->(St->Hp->Prop)->Prop
def PG (X:Cx)(a:Expr)(t:TG):Prop:=
 ∀(c:List (Addr×Obj)) (s:Shared) (d:St) (H:Hp) (v:V) (u:Value) (Q:St->Hp->Prop),Inv X c d H s->RelV v u->t v d H Q->
  wpAny (model X.prog X.w) X.A (assign a X.env u) (λ_ f =>∃σ' e,Inv X c σ' e f /\Q σ' e) X.xe s
def AH (X:Cx)(ts:List Expr)(t:pq):Prop:=
 ∀(a:List (Addr×Obj)) (s:Shared) (d:St) (H:Hp) (vs:List V) (c:List Value) (Q:St->Hp->Prop),Inv X a d H s->Vals vs c->t vs d H Q->
  wpAny (model X.prog X.w) X.A (assignInOrder ((assignEach ts X.env).map (·.2)) c) (λ_ f =>∃σ' e,Inv X a σ' e f /\Q σ' e) X.xe s
section
def W7 (i:Nat):TG:=λv a H Q=>Q (a.set i (some v)) H
theorem jI (e:X.N.Nodup)(hi:X.N[i]? =some x)(d:Loc X.env.scope x)(c:X.fn x=true\/X.env.scope.names.lookup x=some .local:=by first | exact .inl rfl | exact .inr rfl | assumption):PG X (.Name x pos) (W7 i):=by
 intro a s j H v u Q I r h;exact wpAny_assign_Name (Ui I e hi d r (λg f =>⟨_,H,f,h⟩) c)
def Dg:pq:=λvs a H Q=>vs=[]/\Q a H
def Yj (t:TG)(u:pq):pq:=λvs a H Q=>∃v r,vs=v :: r/\t v a H λσ' c =>u r σ' c Q
theorem Yk:AH X [] Dg:=by
 intro a s c H vs d Q I r h;obtain⟨e,h⟩:=h;exact assignInOrder_nil ⟨c,H,I,h⟩
theorem JA {u:pq}(i:PG X e t)(f:AH X es u)
  (g:(assignEach (e :: es) X.env).map (·.2)=assign e X.env :: (assignEach es X.env).map (·.2):=by rfl):AH X (e :: es) (Yj t u):=by
 intro c s o H vs x Q I r h;obtain⟨v,w,d,h⟩:=h;subst d;cases r with
 | cons r j=>
  rw[g];refine assignInOrder_cons (mH (i _ s o H _ _ _ I r h) λ_ k ⟨a,p,q,l⟩=> ?_);exact f _ k a p _ _ Q q j l
def tz (K:ai)(n:Nat)(t:pq):TG:=λv c H Q=>∃a xs,v= .ref a/\SqT K H a xs/\xs.length=n/\t xs c H Q
theorem xO {t:pq}(p:X.calm=true)(h:AH X es t)
  (hn:(assignEach es X.env).length=n:=by rfl) (d:(assignEach es X.env).findIdx? (·.1)=none:=by rfl):PG X (.Tuple es k pos) (tz X.K n t):=by
 intro g s i H v u Q I r c;obtain⟨a,xs,l,x,j,c⟩:=c;subst l;cases r;obtain⟨q,f,y,hz⟩:=I.tuple x;refine assign_Tuple_tuple (I.ok.hd p) y (by simp[hn,← j,f.length]) d λh' w=> ?_
 have B:Inv X _ i H { s with heap:=h' }:=I.kept λb o e=>w b o (aF (au e)) e;exact h _ _ i H xs _ Q B (by simpa using f) c
def rV (te:TE)(g:TG):TS:=λD a H=>te a H λx c=>g x a c D.nx
theorem Gw (o:PE X e te)(k:PG X tg g)(f:swapsWithSole [tg] e pos.line X.env=pure false:=by rfl)(d:swappedStores [tg] e X.env=pure none:=by rfl)
  (i:(assignEach [tg] X.env).map (·.2)=[assign tg X.env]:=by rfl):PS X (.Assign [tg] e pos) (rV te g):=by
 intro a s c H D I h;refine wpAny_Assign_stores (mH (o _ s c H _ I h) λv j ⟨x,p,r,u,l⟩=> ?_) f d;rw[i];exact mH (k _ j c p x v _ r u l) λ_ w q=>q
theorem wM (q:X.N.Nodup)(hi:X.N[i]? =some x)(g:Loc X.env.scope x)(k:PE X e te)(d:swapsWith e (some (.Name x pos')) pos.line X.env=pure false:=by rfl)(f:X.fn x=true\/X.env.scope.names.lookup x=some .local:=by first | exact .inl rfl | exact .inr rfl | assumption):
  PS X (.Assign [.Name x pos'] e pos) (rV te (W7 i)):=by
 intro a s l H D I h;refine wpAny_Assign_Name (mH (k _ s l H _ I h) λv u ⟨y,o,p,r,j⟩=> ?_) d;exact Ui p q hi g r (λw c=>⟨_,o,c,j⟩) f
end
section
def Gx (c:TT)(tb:TS):TS:=λD a H=>∃W:Nat->St->Hp->Prop,(∃m,W m a H)/\∀m a H,W m a H->
 c a H λb e=>if b=true then ∃N:St->Hp->Prop,(∀σ' f,N σ' f ->∃d,d < m/\W d σ' f)/\tb { D with nx:=N,ct:=N,bk:=D.nx } a e else D.nx a e
theorem V6 (hp:PassesOwn (model X.prog X.w) X.A X.env X.xe)(F:PT X c tc)(J:PSs X body tb):PS X (.While c body [] pos) (Gx tc tb):=by
 intro p s B H D I h;obtain⟨W,⟨C,w0⟩,e⟩:=h;refine wpAny_While (codeAny_whileLoop (λn M =>∃σ' x,Inv X _ σ' x M /\W n σ' x) ?_ C ⟨B,H,I,w0⟩)
 rintro n G ⟨d,r,P,w1⟩
 refine cJ hp (mH (F _ G d r _ P (e n d r w1)) λb O ⟨q,u,i⟩=> ?_);cases b with
 | true=>
  obtain⟨N,y,i⟩:=i;refine cJ hp (mH (J _ O d q _ u i) λf Q g=> ?_);cases f with
  | next=>
   obtain⟨a,H3,k,o⟩:=g;obtain⟨l,j,w3⟩:=y a H3 o;exact⟨l,j,a,H3,k,w3⟩
  | cont=>
   obtain⟨a,H3,k,o⟩:=g;obtain⟨l,j,w3⟩:=y a H3 o;exact⟨l,j,a,H3,k,w3⟩
  | brk=>exact g
  | ret v=>exact g
 | false=>
  exact wpAny_execs_nil ⟨d,q,u,i⟩
end
structure It where
 go:Nat->Hp->Prop
 yld:Nat->Hp->V->Hp->Prop
 stop:Nat->Hp->Prop
def wC (X:Cx)(a:List (Addr×Obj))(H:Hp)(b:Addr):Prop:=
 H b=none/\b ≠ X.env.locals/\b ∉ X.fs/\(b∈X.ex\/X.s₀.heap.objs.size<=b)/\(∀x c,X.env.cells.lookup x=some c->c ≠ b)/\∀p∈X.pn++a,p.1 ≠ b
theorem Inv.fpOk (I:Inv X pins σ H s)(a:s.heap.objs.size<=b)(hn:H' b=none):wC X pins H' b:=by
 refine⟨hn,cO (aL I.lt a),I.nofs a,.inr (av I.sz a),λx c e z=> ?_,λp hp z=> ?_⟩
 ·obtain⟨v,q⟩:=I.cell x c e;exact absurd (aL q.lt (by rw[z];exact a)) (bE _)
 ·exact absurd (aL (au (I.pin p hp).1) (by rw[z];exact a)) (bE _)
structure yt (P:Program) (w:World) (K:ai) (tg:Expr) (J:It) (fp:List Addr) (it:Addr) (tn:Nat->Heap->Prop):Prop where
 mem:it∈fp
 obj:∀i h,tn i h->∀b∈fp,∃o,h.get? b=some o/\∀v,o.data ≠ .cell v
 keep:∀i h h',tn i h->(∀b∈fp,∀o,h.get? b=some o->h'.get? b=some o)->tn i h'
 item:∀(X:Cx),X.prog=P->X.w=w->X.K=K->X.calm=true->∀(i:Nat) (pins:List (Addr×Obj)) (s:Shared) (σ:St) (H:Hp) (E:Value->Shared->Prop),Inv X pins σ H s->(∀b∈fp,wC X pins H b)->tn i s.heap->J.go i H->
  wpAny (model P w) X.A (pyNext (.ref it)) (λr s1=>∃u,r=some u/\
   wpAny (model P w) X.A (letOwnedTupleGo tg (.ref it) u) (λ_ s2=>∃x H',Inv X pins σ H' s2/\RelV x u/\J.yld i H x H' /\tn (i+1) s2.heap/\∀b∈fp,H' b=none) E s1) E s
 done:∀(X:Cx),X.prog=P->X.w=w->X.K=K->X.calm=true->∀(i:Nat) (pins:List (Addr×Obj)) (s:Shared) (σ:St) (H:Hp) (E:Value->Shared->Prop),Inv X pins σ H s->(∀b∈fp,wC X pins H b)->tn i s.heap->J.stop i H->
  wpAny (model P w) X.A (pyNext (.ref it)) (λr s1=>r=none/\Inv X pins σ H s1) E s
 self:∀(A:Around) (i:Nat) (s:Shared) (Q:Value->Shared->Prop) (E:Value->Shared->Prop),tn i s.heap->Q (.ref it) s->wpAny (model P w) A (pyIter (.ref it)) Q E s
abbrev TI:=St->Hp->(It->Hp->Prop)->Prop
def Ej (X:Cx)(a:List (Addr×Obj))(g:St)(i:Expr)(R:It->Hp->Prop)(d:Value)(f:Shared):Prop:=
 ∃(it:Addr) (fp:List Addr) (e:Nat->Heap->Prop) (J:It) (c :Hp),d= .ref it/\Inv X a g c f/\yt X.prog X.w X.K i J fp it e/\e 0 f.heap/\(∀b∈fp,wC X a c b)/\R J c
def PI (X:Cx)(e iter:Expr)(d:TI):Prop:=
 ∀(a:List (Addr×Obj)) (s:Shared) (c:St) (H:Hp) (R:It->Hp->Prop),Inv X a c H s->d c H R->
  wpAny (model X.prog X.w) X.A (eval iter X.env) (λv f=>wpAny (model X.prog X.w) X.A (pyIter v) (Ej X a c e R) X.xe f) X.xe s
theorem yu {Q:Unit->Shared->Prop}(d:s.heap.get? it=some o)(c:o.cls= .type n)(hd:o.data= .fields vs)
  (hn:["enumerate","zip","dict_itemiterator","dict_reverseitemiterator","odict_iterator","itertools.zip_longest","itertools.pairwise"].contains n=false) (a:Q () s):wpAny M A (letOwnedTupleGo tg (.ref it) u) Q E s:=by
 cases tg <;> first
  | exact ac a
  | (cases u <;> first
    | exact ac a
    | (refine a8 (wpAny_load d ?_);rw[c,hd];show wpAny M A (if (["enumerate","zip","dict_itemiterator","dict_reverseitemiterator","odict_iterator","itertools.zip_longest","itertools.pairwise"].contains n && vs[0]? == some _)=true then _ else _) Q E s;rw[if_neg (by intro h;rw[hn]at h;cases h)];exact ac a))
def tV (K:ai)(a:Addr):It:=
 ⟨λi H=>∃xs x,SqL K H a xs/\xs[i]? =some x,λi H x c =>c =H/\∀xs,SqL K H a xs->xs[i]? =some x,λi H=>∃xs,SqL K H a xs/\xs.length<=i⟩
def Af (K:ai)(a:Addr):It:=
 ⟨λi H=>∃xs x,SqT K H a xs/\xs[i]? =some x,λi H x c =>c =H/\∀xs,SqT K H a xs->xs[i]? =some x,λi H=>∃xs,SqT K H a xs/\xs.length<=i⟩
noncomputable def rT (lo:Int)(n:Nat):It:=⟨λi _=>i < n,λi H x a =>a =H/\x= .int (lo+i),λi _=>n<=i⟩
theorem WV {P:Program}{w:World}{K:ai}{tg:Expr}(a it:Addr):yt P w K tg (tV K a) [it] it (λi h=>h.IsListIter it a i) where
 mem:=by simp
 obj:=λi h st b g=>by
  have e:b=it:=by simpa using g
  subst e;obtain⟨o,e,c,d⟩:=st;exact⟨o,e,λv z=>by rw[d]at z;cases z⟩
 keep:=λi h h' st k=>st.at λo e=>k it (by simp) o e
 item:=by
  intro X O C G U i f s S H E I q st J;subst O C G;obtain⟨xs,x,l,F⟩:=J;obtain⟨D,B,p,hz⟩:=I.list l;obtain⟨u,hu,ru⟩:=B.get F;obtain⟨M,Q,f2,y,r,N⟩:=q it (by simp)
  refine wpAny_pyNext_list_item st p.isList (x:=u) (by simpa using hu) λh' j sb=> ?_
  have I1:Inv X f S H { s with heap:=h' }:=I.turned (t' :=s.toks) (λb o g e=>(sb.2 b g).trans e) M Q y r N;obtain⟨o,e,c,d⟩:=id j;exact⟨u,rfl,yu (s:={ s with heap:=h' }) e c d (by decide) ⟨x,H,I1,ru,⟨rfl,λys hy=>by rw[I.list_inj hy l];exact F⟩,j,λb g=>(q b g).1⟩⟩
 done:=by
  intro X O C G U i f s S H E I q st J;subst O C G;obtain⟨xs,l,F⟩:=J;obtain⟨D,B,p,hz⟩:=I.list l;obtain⟨M,Q,f2,y,r,N⟩:=q it (by simp)
  have hl:=B.length;exact wpAny_pyNext_list_end (I.ok.hd U) st p.isList (by simp;omega) λh' Z=>⟨rfl,I.turned (t' :=s.toks) (λb o g e=>Z b o g e) M Q y r N⟩
 self:=λ_ _ _ _ _ st h=>wpAny_pyIter_listiter st h
theorem wN {P:Program}{w:World}{K:ai}{tg:Expr}(a it:Addr):yt P w K tg (Af K a) [it] it (λi h=>h.IsTupleIter it a i) where
 mem:=by simp
 obj:=λi h st b j=>by
  have e:b=it:=by simpa using j
  subst e;obtain⟨o,e,c,d⟩:=st;exact⟨o,e,λv z=>by rw[d]at z;cases z⟩
 keep:=λi h h' st k=>st.at λo e=>k it (by simp) o e
 item:=by
  intro X O D G U i f s S H E I r st J;subst O D G;obtain⟨xs,x,q,F⟩:=J;obtain⟨g,C,p,hz⟩:=I.tuple q;obtain⟨u,hu,ru⟩:=C.get F;obtain⟨M,Q,f2,B,y,N⟩:=r it (by simp)
  refine wpAny_pyNext_tuple_item st (show s.heap.IsTuple a g.toArray from p) (x:=u) (by simpa using hu) λh' l sb=> ?_
  have I1:Inv X f S H { s with heap:=h' }:=I.turned (t' :=s.toks) (λb o j e=>(sb.2 b j).trans e) M Q B y N;obtain⟨o,e,c,d⟩:=id l;exact⟨u,rfl,yu (s:={ s with heap:=h' }) e c d (by decide) ⟨x,H,I1,ru,⟨rfl,λys hy=>by rw[I.tuple_inj hy q];exact F⟩,l,λb j=>(r b j).1⟩⟩
 done:=by
  intro X O D G U i f s S H E I r st J;subst O D G;obtain⟨xs,q,F⟩:=J;obtain⟨g,C,p,hz⟩:=I.tuple q;obtain⟨M,Q,f2,B,y,N⟩:=r it (by simp)
  have hl:=C.length;exact wpAny_pyNext_tuple_end (I.ok.hd U) st (show s.heap.IsTuple a g.toArray from p) (by simp;omega) λh' Z=>⟨rfl,I.turned (t' :=s.toks) (λb o j e=>Z b o j e) M Q B y N⟩
 self:=λ_ _ _ _ _ st h=>wpAny_pyIter_tupleiter st h
theorem yv {P:Program}{w:World}{K:ai}{O:Expr}(it:Addr)(lo:Int)(n:Nat):yt P w K O (rT lo n) [it] it (λi h=>IsRangeIter h it (lo+(i:Nat)*1) ((n:Int) - (i:Nat)) 1) where
 mem:=by simp
 obj:=λi h st b c=>by
  have e:b=it:=by simpa using c
  subst e;exact⟨_,st,λv z=>by
   have J :Data.fields _=Data.cell v:=z;cases J⟩
 keep:=λi h h' st k=>k it (by simp) _ st
 item:=by
  intro X y l q p i a s C H E I f st r;subst y l q;obtain⟨u,B,M,j,g,x⟩:=f it (by simp)
  have W:=Walks.range (prog:=X.prog) (w:=X.w) (I.ok.hd p) it lo 1 n;refine W.item i s _ _ r st λv h' tk D d F=> ?_;obtain⟨t,rfl⟩:=D;have N:Inv X a C H { s with heap:=h',toks:=tk }:=I.turned (λb o c e=>F b o (by simpa using c) e) u B j g x
  refine⟨_,rfl,yu (s:={ s with heap:=h',toks:=tk }) (n:="range_iterator") d rfl rfl (by decide) ⟨.int (lo+i),H,N,⟨t, ?_⟩,⟨rfl,rfl⟩,d,λb c=>(f b c).1⟩⟩
  rw[Int.mul_one]
 done:=by
  intro X y l q p i a s C H E I f st r;subst y l q;obtain⟨u,B,M,j,g,x⟩:=f it (by simp)
  exact wpAny_pyNext_range_end (I.ok.hd p) st (by have:n<=i:=r;omega) λh' G=>⟨rfl,I.turned (t' :=s.toks) (λb o c e=>G b o c e) u B j g x⟩
 self:=λ_ _ _ _ _ st h=>wpAny_pyIter_rangeiter st h
end L2
namespace L2
open PySem PySem.Spec PyProof.Rows
section
theorem Uj {a:List (Addr×Obj)}{c:St}{H:Hp}{s:Shared}{R:It->Hp->Prop}{E:Value->Shared->Prop}{lo hi:Int}{t u v:Tok}{tk:Nat}(I:Inv X a c H s)(k: -(2 ^ 62)<=lo)(g:lo < 2 ^ 62)(i: -(2 ^ 62)<=hi)(j:hi < 2 ^ 62)
  (q:R (rT lo (hi - lo).toNat) H):wpAny (model X.prog X.w) X.A (pyIter (.ref s.heap.objs.size)) (Ej X a c tg R) E { s with heap:=s.heap.push { cls:= .type "range",data:= .fields #[.int lo t,.int hi u,.int 1 v] },toks:=tk }:=by
 refine wpAny_pyIter_range (IsRange.new ..) (small_one k g i j) ?_;have d:Inv X _ c H { s with heap:=s.heap.push { cls:= .type "range",data:= .fields #[.int lo t,.int hi u,.int 1 v] },toks:=tk }:=I.kept λb o e=>ab _ e;refine⟨(s.heap.push _).objs.size,[(s.heap.push _).objs.size],_,_,H,rfl,
  d.kept λb o e=>ab _ e,yv _ lo _, ?_,λb p=> ?_,q⟩
 ·have f:lo+((0:Nat))*1=lo:=by simp
  have l:(((hi - lo).toNat):Int) - ((0:Nat))=ir lo hi 1:=by rw[rangeSize_one];split <;> omega
  rw[f,l];exact af _ rfl
 ·have e:b=(s.heap.push { cls:= .type "range",data:= .fields #[.int lo t,.int hi u,.int 1 v] }).objs.size:=by simpa using p
  subst e;exact d.fpOk (am _) (d.hok.fresh (am _))
def Hl (d:TA):TI:=λa H R=>d a H λvs c=>∃j:Int,vs=[.int j]/\ -(2 ^ 62)<=j/\j < 2 ^ 62/\R (rT 0 j.toNat) c
def LR (a:TA):TI:=λc H R=>a c H λvs d=>∃i j:Int,vs=[.int i,.int j]/\(-(2 ^ 62)<=i/\i < 2 ^ 62/\ -(2 ^ 62)<=j/\j < 2 ^ 62)/\R (rT i (j - i).toNat) d
theorem Yl {a:Expr}{d:TA}{p pos:Pos}(o:Gl X "range")(l:X.mg "range"=none)(i:PA X [a] d)(g:starEach [a] X.env=[(false,eval a X.env)]:=by rfl):PI X tg (.Call (.Name "range" p) [a] [] pos) (Hl d):=by
 intro f s v H R I h;refine Call_ (j5 I o l boot_range (a_ (mH (i pos _ s v H _ I h) λy B ⟨vs,C,w,x,c⟩=> ?_) g rfl));obtain⟨j,e,c,u,q⟩:=c;subst e;cases x with
 | cons r k=>
  cases k;obtain⟨t,rfl⟩:=r;exact call_range_1 (Uj w (by omega) (by omega) c u (by simpa using q))
theorem Ym (y:Gl X "range")(o:X.mg "range"=none)(l:PA X [a,b] ta)(k:starEach [a,b] X.env=[(false,eval a X.env),(false,eval b X.env)]:=by rfl)(c:starEach [b] X.env=[(false,eval b X.env)]:=by rfl):
  PI X tg (.Call (.Name "range" p) [a,b] [] pos) (LR ta):=by
 intro g s u H R I h;refine Call_ (j5 I y o boot_range (a_ (mH (l pos _ s u H _ I h) λG J ⟨vs,F,B,v,f⟩=> ?_) (by rw[k,c]) (by rw[c];rfl)))
 obtain⟨i,j,e,⟨f,x,w,C⟩,q⟩:=f;subst e;cases v with
 | cons r d=>
  cases d with
  | cons D d=>
   cases d;obtain⟨t,rfl⟩:=r;obtain⟨t',rfl⟩:=D;exact call_range_2 (Uj B f x w C q)
def CD (j:TI)(g:TG)(tb:TS):TS:=λD a H=>j a H λJ k=>∃W:Nat->Nat->St->Hp->Prop,(∃m,W 0 m a k)/\∀i m a H,W i m a H->
 (J.stop i H/\D.nx a H)\/(J.go i H/\∃N:St->Hp->Prop,(∀σ' c,N σ' c ->∃e,e < m/\W (i+1) e σ' c)/\∀x c,J.yld i H x c ->g x a c λd f=>tb { D with nx:=N,ct:=N,bk:=D.nx } d f)
noncomputable def Uk (fp:List Addr)(h:Heap):List (Addr×Obj):=fp.filterMap λb=>(h.get? b).map λo=>(b,o)
theorem jt (a:b∈fp)(e:h.get? b=some o):(b,o)∈Uk fp h:=g7.mpr ⟨b,a,by rw[e];rfl⟩
theorem Yn {p:Addr×Obj}(hp:p∈Uk fp h):p.1∈fp/\h.get? p.1=some p.2:=by
 obtain⟨b,a,e⟩:=g7.mp hp;cases q:h.get? b with
 | none=>rw[q]at e;cases e
 | some o=>
  rw[q]at e;have c :=aH e;subst c;exact⟨a,q⟩
theorem Inv.pinned (I:Inv X pins σ H s)(f:∀b∈fp,wC X pins H b)(g:∀b∈fp,∃o,s.heap.get? b=some o/\∀v,o.data ≠ .cell v):Inv X (pins++Uk fp s.heap) σ H s:=
 I.pins_of λp hp=>(aW.mp hp).elim (λz=>I.pin p (aG _ z)) λz=>by
  obtain⟨a,e⟩:=Yn z;obtain⟨i,k,j,_⟩:=f p.1 a;obtain⟨o,c,d⟩:=g p.1 a;rw[e]at c;cases c;exact⟨e,i,k,j,d⟩
theorem Inv.unpinned (I:Inv X (pins++pl) σ H s):Inv X pins σ H s:=I.pins_of λp hp=>I.pin p (aG _ (dM _ hp))
theorem xP (hp:PassesOwn (model X.prog X.w) X.A X.env X.xe)(hc:X.calm=true)(hi:PI X tg iter wi)(hg:PG X tg g)(p:PSs X body tb)
  (hs:∀x,foldedSetIterable iter X.env x=pure x:=by intro _;rfl):PS X (.For tg iter body [] pos) (CD wi g tb):=by
 intro C s σ H D I h;refine wpAny_For (mH (hi _ s σ H _ I h) λv s1 h1=>mH h1 λitv s2 h2=> ?_) hs;obtain⟨it,fp,tn,J,H2,e,I2,T,nP,f2,W,⟨m0,w0⟩,O⟩:=h2;subst e;have l:∀{q :Hp},(∀b∈fp,q b=none)->∀b∈fp,wC X _ q b:=λhn b p=>⟨hn b p,(f2 b p).2⟩;refine codeAny_forLoop_any (λn s' =>∃i σ' q,Inv X _ σ' q s' /\tn i s'.heap/\(∀b∈fp,q b=none)/\W i n σ' q) ?_ m0 ⟨0,σ,H2,I2,nP,λb p=>(f2 b p).1,w0⟩
 rintro n Z ⟨i,c,H3,I3,F,P,w3⟩
 rcases O i n c H3 w3 with ⟨G,qn⟩ | ⟨go,N,hN,step⟩
 ·refine cJ hp (mH (T.done X rfl rfl rfl hc i _ Z c H3 _ I3 (l P) F G) λr s4 ⟨hr,I4⟩=> ?_);subst hr;exact wpAny_execs_nil ⟨c,H3,I4,qn⟩
 ·refine cJ hp (mH (T.item X rfl rfl rfl hc i _ Z c H3 _ I3 (l P) F go) λr s4 ⟨u,hr,h4⟩=> ?_);subst hr;refine cJ hp (mH h4 λ_ s5 ⟨x,H5,I5,r5,y5,B,Q⟩=> ?_);have S :=I5.pinned (l Q) (T.obj _ _ B);refine cJ hp (mH (hg _ s5 c H5 x u _ S r5 (step x H5 y5)) λ_ s6 ⟨U,H6,I6,q6⟩=> ?_);refine cJ hp (mH (p _ s6 U H6 _ I6 q6) λf s7 y=> ?_);have again:∀{a:St} {j:Hp},Inv X (C++Uk fp _) a j s7->N a j->∃m,m < n/\∃i σ' q,Inv X _ σ' q s7/\tn i _/\(∀b∈fp,q b=none)/\W i m σ' q :=λ{a j} k M=>by
   obtain⟨m',hm,w7⟩:=hN a j M;refine⟨m',hm,i+1,a,j,k.unpinned,T.keep _ _ _ B λb p o e=>(k.pin _ (aG _ (aG _ (jt p e)))).1,λb p=> ?_,w7⟩;obtain⟨o,e,d⟩:=T.obj _ _ B b p;exact(k.pin _ (aG _ (aG _ (jt p e)))).2.1
  cases f with
  | next=>obtain⟨a,j,k,M⟩:=y;exact again k M
  | cont=>obtain⟨a,j,k,M⟩:=y;exact again k M
  | brk=>obtain⟨a,j,k,y⟩:=y;exact⟨a,j,k.unpinned,y⟩
  | ret v=>obtain⟨x7,a,j,k,r7,y⟩:=y;exact⟨x7,a,j,k.unpinned,r7,y⟩
end
end L2
namespace L2
open PySem PySem.Spec PyProof.Rows
abbrev R2:=V->V->Hp->VK->Prop
def mO (X:Cx)(f:Value->Value->Sem Value)(r:R2):Prop:=
 ∀(a:List (Addr×Obj)) (s:Shared) (c:St) (H:Hp) (x y:V) (v u:Value) (Q:VK),Inv X a c H s->RelV x v->RelV y u->r x y H Q->
  wpAny (model X.prog X.w) X.A (f v u) (EP X a c Q) X.xe s
def Bo (X:Cx)(f:Value->Sem Value)(r:V->Hp->VK->Prop):Prop:=
 ∀(a:List (Addr×Obj)) (s:Shared) (c:St) (H:Hp) (x:V) (v:Value) (Q:VK),Inv X a c H s->RelV x v->r x H Q->
  wpAny (model X.prog X.w) X.A (f v) (EP X a c Q) X.xe s
def Z7 (X:Cx)(f:Value)(r:List V->Hp->VK->Prop):Prop:=
 ∀(a:List (Addr×Obj)) (s:Shared) (d:St) (H:Hp) (xs:List V) (c:List Value) (Q:VK),Inv X a d H s->Vals xs c->r xs H Q->
  wpAny (model X.prog X.w) X.A (call f c) (EP X a d Q) X.xe s
def BB (X:Cx)(r:V->Hp->(Bool->Hp->Prop)->Prop):Prop:=
 ∀(a:List _) (s:Shared) (c:St) (H:Hp) (x:V) (v:Value) (Q:Bool->Hp->Prop),Inv X a c H s->RelV x v->r x H Q->
  wpAny (model X.prog X.w) X.A (truthy v) (TP X a c Q) X.xe s
def Am (r:R2)(d tb:TE):TE:=λa H Q=>d a H λx e=>tb a e λy c=>r x y c Q
def E8 (r:V->Hp->VK->Prop)(d:TE):TE:=λa H Q=>d a H λx c=>r x c Q
def rI (C:Int->Int->Prop)(g:Int->Int->V):R2:=λx y H Q=>∃i j,x= .int i/\y= .int j/\C i j/\Q (g i j) H
def oR (g:Int->Int->V):R2:=λx y H Q=>∃i j,x= .int i/\y= .int j/\Q (g i j) H
def rU (g:Int->V):V->Hp->VK->Prop:=λx H Q=>∃i,x= .int i/\Q (g i) H
section
theorem CM (l:PE X a ta)(r:PE X b tb){R:V->V->Hp->Prop}(I:Inv X pins σ H s)
  (h:ta σ H λx i=>tb σ i λy c=>R x y c) {Q:Value->Shared->Prop} {f:Value->Value->Sem Value}
  (o:∀v u g x y c,Inv X pins σ c g->RelV x v->RelV y u->R x y c->wpAny (model X.prog X.w) X.A (f v u) Q X.xe g):
  wpAny (model X.prog X.w) X.A (eval a X.env) (λv e=>wpAny (model X.prog X.w) X.A (eval b X.env) (λu d=>wpAny (model X.prog X.w) X.A (f v u) Q X.xe d) X.xe e) X.xe s:=by
 refine mH (l _ s σ H _ I h) λv q ⟨x,i,C,D,B⟩=> ?_;refine mH (r _ q σ i _ C B) λu g ⟨y,c,j,k,p⟩=> ?_;exact o v u g x y c j D k p
theorem Ha (g:mO X (binaryOp op) r)(f:PE X a ta)(j:PE X b tb):PE X (.BinOp a op b pos) (Am r ta tb):=by
 intro c s k H Q I h;exact wpAny_BinOp (CM f j I h λv u l x y i e d o q=>g _ l k i x y v u Q e d o q)
theorem Fs {op:UnaryOp}{r:V->Hp->VK->Prop}(f:Bo X (unaryOp op) r)(e:PE X a ta):PE X (.UnaryOp op a pos) (E8 r ta):=by
 intro c s d H Q I h;exact UnaryOp_ (mH (e _ s d H _ I h) λv g ⟨x,j,k,l,i⟩=>f _ g d j x v Q k l i)
theorem sw {f:Value->Value->Sem Value}{C:Int->Int->Prop}{g:Int->Int->Int}
  (rule:∀(i j:Int) (t u:Tok) (s:Shared) (Q:Value->Shared->Prop) (E:Value->Shared->Prop),C i j->Q (.int (g i j) s.toks) { s with toks:=s.toks+1 }->wpAny (model X.prog X.w) X.A (f (.int i t) (.int j u)) Q E s):
  mO X f (rI C λi j=> .int (g i j)):=by
 intro a s k H x y v u Q I c e h;obtain⟨i,j,rfl,rfl,d,q⟩:=h;obtain⟨t,rfl⟩:=c;obtain⟨t',rfl⟩:=e;exact rule i j t t' s _ _ d ⟨.int _,H,I.tok _,⟨_,rfl⟩,q⟩
theorem sk {f:Value->Value->Sem Value}{g:Int->Int->Int}
  (rule:∀(i j:Int) (t u:Tok) (s:Shared) (Q:Value->Shared->Prop) (E:Value->Shared->Prop),Q (.int (g i j) s.toks) { s with toks:=s.toks+1 }->wpAny (model X.prog X.w) X.A (f (.int i t) (.int j u)) Q E s):
  mO X f (oR λi j=> .int (g i j)):=by
 intro a s e H x y v u Q I c d h;obtain⟨i,j,rfl,rfl,q⟩:=h;obtain⟨t,rfl⟩:=c;obtain⟨t',rfl⟩:=d;exact rule i j t t' s _ _ ⟨.int _,H,I.tok _,⟨_,rfl⟩,q⟩
theorem t9 {f:Value->Value->Sem Value}{g:Int->Int->Bool}
  (rule:∀(i j:Int) (t u:Tok) (s:Shared) (Q:Value->Shared->Prop) (E:Value->Shared->Prop),Q (.bool (g i j)) s->wpAny (model X.prog X.w) X.A (f (.int i t) (.int j u)) Q E s):
  mO X f (oR λi j=> .bl (g i j)):=by
 intro a s e H x y v u Q I c d h;obtain⟨i,j,rfl,rfl,q⟩:=h;obtain⟨t,rfl⟩:=c;obtain⟨t',rfl⟩:=d;exact rule i j t t' s _ _ ⟨.bl _,H,I,rfl,q⟩
noncomputable def Cz (i j:Int):Prop:=0 < j/\j < 1073741824
noncomputable def uN (i j:Int):Prop:=(-(2 ^ 64) < i/\i < 2 ^ 64)\/(-(2 ^ 64) < j/\j < 2 ^ 64)
theorem uN.ok (h:uN i j):IntMulOk i j:=by
 rcases h with ⟨c,a⟩ | ⟨c,a⟩
 ·exact .of_left (intBits_le_64 c a)
 ·exact .of_right (intBits_le_64 c a)
theorem Gy:mO X (binaryOp .Add) (oR λi j=> .int (i+j)):=sk λ_ _ _ _ _ _ _ q=>add_int q
theorem Gz:mO X (binaryOp .Sub) (oR λi j=> .int (i - j)):=sk λ_ _ _ _ _ _ _ q=>sub_int q
theorem GA:mO X (binaryOp .Mult) (rI uN λi j=> .int (i*j)):=sw λ_ _ _ _ _ _ _ a q=>mul_int q a.ok
theorem ke:mO X (binaryOp .FloorDiv) (rI Cz λi j=> .int (i / j)):=sw λi j _ _ _ _ _ a q=>by
 have d:=a.1;have c:=a.2;exact floordiv_int (by omega) (by rw[g_ i (by omega)];exact q) (.inl (PyProof.noPylong_small (by omega)))
theorem GB:mO X (binaryOp .Mod) (rI (λ_ j=>0 < j) λi j=> .int (i % j)):=sw λi j _ _ _ _ _ a q=>by
 exact mod_int' (by omega) (by rw[Int.fmod_eq_emod_of_nonneg i (by omega)];exact q)
theorem Fo {f:Value->Sem Value}{g:Int->Int}
  (rule:∀(i:Int) (t:Tok) (s:Shared) (Q:Value->Shared->Prop) (E:Value->Shared->Prop),Q (.int (g i) s.toks) { s with toks:=s.toks+1 }->wpAny (model X.prog X.w) X.A (f (.int i t)) Q E s):
  Bo X f (rU λi=> .int (g i)):=by
 intro a s d H x v Q I c h;obtain⟨i,rfl,q⟩:=h;obtain⟨t,rfl⟩:=c;exact rule i t s _ _ ⟨.int _,H,I.tok _,⟨_,rfl⟩,q⟩
theorem GC:Bo X (unaryOp .USub) (rU λi=> .int (-i)):=Fo λ_ _ _ _ _ q=>neg_int q
theorem Yo:mO X (binaryOp .Add) (λx y H Q=>∃i k,x= .int i/\y= .bl k/\Q (.int (i+b2i k)) H):=by
 intro a s e H x y v u Q I c d h;obtain⟨i,k,rfl,rfl,q⟩:=h;obtain⟨t,rfl⟩:=c;cases d;exact add_int_bool ⟨.int _,H,I.tok _,⟨_,rfl⟩,q⟩
end
section
theorem HS:mO X (compareOp .Lt) (oR λi j=> .bl (decide (i < j))):=t9 λ_ _ _ _ _ _ _ q=>lt_int q
theorem Mc:mO X (compareOp .LtE) (oR λi j=> .bl (decide (i<=j))):=t9 λ_ _ _ _ _ _ _ q=>le_int q
theorem Fq:mO X (compareOp .Gt) (oR λi j=> .bl (decide (j < i))):=t9 λ_ _ _ _ _ _ _ q=>gt_int q
theorem FQ:mO X (compareOp .GtE) (oR λi j=> .bl (decide (j<=i))):=t9 λ_ _ _ _ _ _ _ q=>ge_int q
theorem ZY (b:Expr)(h:op ≠ .In:=by decide)(d:op ≠ .NotIn:=by decide):behindInMarks op b=false:=by
 have c:(op == CmpOp.In)=false:=by cases op <;> first | rfl | exact absurd rfl h
 have a:(op == CmpOp.NotIn)=false:=by cases op <;> first | rfl | exact absurd rfl d
 cases b <;> simp[behindInMarks,c,a]
theorem kg (i:mO X (compareOp op) r)(f:PE X a ta)(k:PE X b tb)(g:behindInMarks op b=false):PE X (.Compare a [op] [b] pos) (Am r ta tb):=by
 intro c s l H Q I h;exact wpAny_Compare1 (CM f k I h λv u o x y j e d p q=>i _ o l j x y v u Q e d p q) g
def GD (t:TE):TT:=λa H Q=>t a H λx c =>∃k,x= .bl k/\Q k c
theorem kh (F:mO X (compareOp op) r)(g:PE X a ta)(J:PE X b tb)(j:behindInMarks op b=false):PT X (.Compare a [op] [b] pos) (GD (Am r ta tb)):=by
 intro f s d H Q I h;refine wpAny_isTrue_Compare1 (mH (g _ s d H _ I h) λv G ⟨x,p,O,q,o⟩=>mH (J _ G d p _ O o) λu N ⟨y,l,B,i,D⟩=>
  mH (F _ N d l x y v u _ B q i D) λc P ⟨z,H3,w,M,k,e,C⟩=> ?_) j
 subst e;cases M;exact bh ⟨H3,w,C⟩
def xQ (r f :R2)(c tb tc:TE):TE:=λa H Q=>c a H λx g=>tb a g λy e=>r x y e λz H3=>∃k,z= .bl k/\
 (if k=true then tc a H3 λi d=>f y i d Q else Q (.bl false) H3)
theorem V7 (Z:mO X (compareOp op) r)(g :mO X (compareOp op') r')(p:PE X a ta)(hb:PE X b tb)(S:PE X c tc)
  (q:lastMarks [op,op'] [b,c]=false:=by with_unfolding_all rfl):PE X (.Compare a [op,op'] [b,c] pos) (xQ r r' ta tb tc):=by
 intro i s f H Q I h;refine Compare_chain (mH (p _ s f H _ I h) λv s1 ⟨x,D,I1,G,B⟩=>chain_link (mH (hb _ s1 f D _ I1 B) λu s2 ⟨y,w,N,j,U⟩=>
  mH (Z _ s2 f w x y v u _ N G j U) λd C ⟨z,H3,l,r3,k,e,o⟩=> ?_)) q
 subst e;cases r3;refine bh ?_;cases k with
 | false=>exact ite_ff ⟨.bl _,H3,l,rfl,o⟩
 | true=>exact ite_tt (chain_last (mH (S _ C f H3 _ l o) λJ F ⟨O,P,M,r4,q4⟩=>g _ F f P y O u J Q M j r4 q4))
theorem V8 (ho:mO X (compareOp op) r)(g :mO X (compareOp op') r')(p:PE X a ta)(hb:PE X b tb)(hc:PE X c tc)
  (q:lastMarks [op,op'] [b,c]=false:=by with_unfolding_all rfl):PT X (.Compare a [op,op'] [b,c] pos) (GD (xQ r r' ta tb tc)):=by
 intro i s f H Q I h;refine isTrue_chain (mH (p _ s f H _ I h) λv s1 ⟨x,J,I1,O,D⟩=>test_link (mH (hb _ s1 f J _ I1 D) λu s2 ⟨y,B,Z,j,q2⟩=>
  mH (ho _ s2 f B x y v u _ Z O j q2) λd G ⟨z,H3,l,r3,k,e,o⟩=> ?_)) q
 subst e;cases r3;refine bh ?_;cases k with
 | false=>
  obtain⟨k',F,M⟩:=o;cases F;exact ite_ff ⟨H3,l,M⟩
 | true=>
  refine ite_tt (test_last (mH (hc _ G f H3 _ l o) λP N ⟨z',H4,U,r4,q4⟩=>mH (g _ N f H4 y z' u P _ U j r4 q4) λd' s5 ⟨z2,C,I5,S,k2,e2,w⟩=> ?_));subst e2;cases S;exact bh ⟨C,I5,w⟩
def rZ (K:ai)(x:V)(H:Hp)(k:Bool):Prop:=
 match x with
 | .non=>k=false
 | .bl b=>k=b
 | .int i=>k=(i != 0)
 | .str y=>y.length<=sizeLine/\k=((y.length:Int) != 0)
 | .byt y=>y.size<=sizeLine/\k=((y.size:Int) != 0)
 | .ref p=>(∃xs,SqL K H p xs/\k= !xs.isEmpty)\/(∃xs,SqT K H p xs/\k= !xs.isEmpty)\/∃kvs,H p=some (.dK kvs)/\k= !kvs.isEmpty
 | _=>False
theorem yw {a:Type}{kvs:List (a×V)}{vs:List (a×Value)}(r:KV kvs vs):(!vs.isEmpty)= !kvs.isEmpty:=by
 cases r <;> rfl
theorem wO (r:Vals xs its):(!its.toArray.isEmpty)= !xs.isEmpty:=by
 cases r <;> simp
theorem WW:(sizeLine:Nat) < 2 ^ 63:=by decide
theorem GE:BB X (λx H Q=>∃k,rZ X.K x H k/\Q k H):=by
 intro j s u H x v Q I d h;obtain⟨k,e,q⟩:=h;have o:=bY;cases x with
 | non=>
  cases d;have a :k=false:=e;subst a;exact truthy_none ⟨H,I,q⟩
 | bl b=>
  cases d;have a :k=b:=e;subst a;exact bh ⟨H,I,q⟩
 | int i=>
  obtain⟨t,rfl⟩:=d;have a :k=(i != 0):=e;subst a;exact PySem.P.truthy_int ⟨H,I,q⟩
 | str y=>
  obtain⟨t,rfl⟩:=d;obtain⟨hy,a⟩:y.length<=sizeLine/\k=((y.length:Int) != 0):=e;subst a;exact PySem.P.truthy_str (by omega) ⟨H,I.tok _,q⟩
 | byt y=>
  obtain⟨t,rfl⟩:=d;obtain⟨hy,a⟩:y.size<=sizeLine/\k=((y.size:Int) != 0):=e;subst a;exact PySem.W.truthy_bytes (by omega) ⟨H,I.tok _,q⟩
 | ref p=>
  cases d;have a :=e;rcases a with ⟨xs,f,a⟩ | ⟨xs,f,a⟩ | ⟨kvs,f,a⟩
  ·subst a;obtain⟨g,r,pl,hz⟩:=I.list f;have c:=r.length;exact wpAny_truthy_list pl.isList (by simp only[aD];omega) ⟨H,I.tok _,by rw[wO r];exact q⟩
  ·subst a;obtain⟨g,r,pl,hz⟩:=I.tuple f;have c:=r.length;exact truthy_tuple pl (by simp only[aD];omega) ⟨H,I.tok _,by rw[wO r];exact q⟩
  ·subst a;obtain⟨hz,l,vs,r,m⟩:kvs.length<=sizeLine/\(p == sysModules)=false/\∃vs,KV kvs vs/\s.heap.DictOf _ p vs:=I.hok p _ f;have c:=e9 r;exact wpAny_truthy_dict l m (by omega) ⟨H,I.tok _,by rw[yw r];exact q⟩
 | _=>exact(e).elim
theorem V9 (g:PE X a ta)(l:∀c,isTrue a X.env c=(do let v ← c;standAt a.pos;holding [v] (truthy v))):
  PT X a (λd H Q=>ta d H λx f =>∃k,rZ X.K x f k/\Q k f):=by
 intro e s d H Q I h;exact isTrue_plain (mH (g _ s d H _ I h) λv i ⟨x,o,p,q,j⟩=>GE _ i d o x v Q p q j) (l _)
theorem yx:mO X (binaryOp .Add) (λx y H Q=>∃i j,x= .str i/\y= .str j/\i.length+j.length<=sizeLine/\Q (.str (i++j)) H):=by
 intro a s e H x y v u Q I c d h;obtain⟨i,j,rfl,rfl,hz,q⟩:=h;obtain⟨t,rfl⟩:=c;obtain⟨t',rfl⟩:=d;exact add_str (λt' tk=>⟨.str _,H,I.tok _,⟨_,rfl⟩,q⟩) hz
theorem Zn (r:Vals [x] us):∃u,us=[u]/\RelV x u:=by
 cases r with
 | cons c a=>cases a;exact⟨_,rfl,c⟩
theorem uR (r:Vals [x,y] us):∃u a,us=[u,a]/\RelV x u/\RelV y a :=by
 cases r with
 | cons f d=>
  cases d with
  | cons c e=>cases e;exact⟨_,_,rfl,f,c⟩
theorem Va:Z7 X (.builtin "abs") (λxs H Q=>∃i,xs=[.int i]/\Q (.int (if i < 0 then -i else i)) H):=by
 intro a s d H xs c Q I r h;obtain⟨i,rfl,q⟩:=h;obtain⟨u,rfl,t,rfl⟩:=Zn r;exact call_abs_int λu tk=>⟨.int _,H,I.tok _,⟨_,rfl⟩,q⟩
theorem Yp (d:X.calm=true):Z7 X (.builtin "max") (λxs H Q=>∃i j,xs=[.int i,.int j]/\Q (.int (if j > i then j else i)) H):=by
 intro c s f H xs e Q I r h;obtain⟨i,j,rfl,q⟩:=h;obtain⟨u,g,rfl,⟨t,rfl⟩,⟨t',rfl⟩⟩:=uR r;refine max_two_ints (I.ok.hd d) λh' tk k=>⟨_,H,I.kept k, ?_,q⟩
 by_cases a:j > i
 ·rw[if_pos a,if_pos a];exact⟨_,rfl⟩
 ·rw[if_neg a,if_neg a];exact⟨_,rfl⟩
theorem Yq (d:X.calm=true):Z7 X (.builtin "min") (λxs H Q=>∃i j,xs=[.int i,.int j]/\Q (.int (if j < i then j else i)) H):=by
 intro c s f H xs e Q I r h;obtain⟨i,j,rfl,q⟩:=h;obtain⟨u,g,rfl,⟨t,rfl⟩,⟨t',rfl⟩⟩:=uR r;refine min_two_ints (I.ok.hd d) λh' tk k=>⟨_,H,I.kept k, ?_,q⟩
 by_cases a:j < i
 ·rw[if_pos a,if_pos a];exact⟨_,rfl⟩
 ·rw[if_neg a,if_neg a];exact⟨_,rfl⟩
theorem Yr:Z7 X (.type "int") (λxs H Q=>(∃i,xs=[.int i]/\Q (.int i) H)\/∃k,xs=[.bl k]/\Q (.int (if k then 1 else 0)) H):=by
 intro a s e H xs d Q I r h;rcases h with ⟨i,rfl,q⟩ | ⟨k,rfl,q⟩
 ·obtain⟨u,rfl,t,rfl⟩:=Zn r;exact call_int_int ⟨.int i,H,I,⟨_,rfl⟩,q⟩
 ·obtain⟨u,rfl,c⟩:=Zn r;cases c;exact call_int_bool ⟨.int _,H,I.tok _,⟨_,rfl⟩,q⟩
end
end L2
namespace L2
open PySem PySem.Spec PyProof.Rows
structure z3i (h:Heap) (x dx C:Addr) (mA:Str->Option Value):Prop where
 obj:h.get? x=some (iM C dx)
 ns:h.Ns1 dx mA
 ne:dx ≠ x
theorem Ys {h:Heap}{d:Addr}{i:Str->Option Value}(n:h.Ns1 d i):∃g,h.get? d=some g/\∀name,iT name g=some (i name):=by
 obtain⟨o,f,ep,k,hd,p,_,j⟩:=n;refine⟨o,k,λname=> ?_⟩;have e:=j name;unfold nsFind findBy at e;rw[← Array.find?_toList]at e;unfold iT;rw[hd];dsimp only;split
 ·rename_i y q;rw[q]at e;exact congrArg _ e
 ·rename_i q;rw[q]at e;have a:f.toList.any (·.refKey)=false:=by
   rw[lE];intro y hy;obtain⟨z,t,c⟩:=p y (Array.mem_toList_iff.mp hy);simp[DictEntry.refKey,c]
  have l :¬ f.toList.any (·.refKey)=true:=by rw[a];exact ax
  rw[if_neg l];exact congrArg _ e
theorem z3i.look (I:z3i h x dx C mA):∃a,PySem.W.InstAt h x (iM C dx) C (some a)/\∀name,iT name a=some (mA name):=
 let ⟨a,ho,hl⟩:=Ys I.ns
 ⟨a,⟨I.obj,rfl,rfl,ho⟩,hl⟩
section
theorem ki (g:HOk P w H h)(e:H a=some (.ins C dx fs)):∃c,z3i h a dx C c/\(∀f,AG (fs.lookup f) (c f))/\PySem.Within c (fs.map (·.1))/\fs.length<=1000/\H dx=some (.own a):=by
 obtain⟨d,z,i,ob,c,n,r,q⟩:=(show zQ P w H h a _ from g a _ e);exact⟨c,⟨ob,n,i⟩,r,q,z,d⟩
end
structure Cls (K:ai) (C:Addr):Prop where
 pg:lY K C Str.empty=true
 hd:PySem.W.hasDictIn K C=true
 po:PySem.W.plainOver K C=true
 sa:PySem.W.findIn K (.ref C) "__setattr__"=some (some (.builtin "object.__setattr__"))
theorem Cls.get {K:ai}{C:Addr}(c:Cls K C)(f:Str):lY K C f=true:=c.pg
section
end
section
end
section
inductive yy (K:ai) (H:Hp):V->Value->Prop where
 | non:yy K H .non (.type "NoneType")
 | bl (x:Bool):yy K H (.bl x) (.type "bool")
 | int (i:Int):yy K H (.int i) (.type "int")
 | str (x:Str):yy K H (.str x) (.type "str")
 | flt (x:UInt64):yy K H (.flt x) (.type "float")
 | lst {a:Addr} {xs:List V} (e:H a=some (.lst xs)):yy K H (.ref a) (.type "list")
 | frz {a:Addr} {o:Obj} {xs:List V} (e:H a=some (.frz o (.lst xs))):yy K H (.ref a) (.type "list")
 | tup {a:Addr} {xs:List V} (e:H a=some (.tup xs)):yy K H (.ref a) (.type "tuple")
 | dK {a:Addr} {kvs:List (mM×V)} (e:H a=some (.dK kvs)):yy K H (.ref a) (.type "dict")
 | dT {a:Addr} {kvs:List (List mM×Addr×V)} (e:H a=some (.dT kvs)):yy K H (.ref a) (.type "dict")
 | ins {a C dx:Addr} {fs:List (Str×V)} (e:H a=some (.ins C dx fs)) (cl:Cls K C) (ha:PySem.W.findIn K (.ref C) "__class__"=some (some (.builtin "object.__class__")))
   (hn:PySem.W.specialIn K (.builtin "object.__class__") "__get__"=some (some (.builtin "getset_descriptor.__get__"))) (htk:PySem.W.takesIn K (.builtin "object.__class__")=some true)
   (hm:PySem.W.mroIn K C (.type "object")=some true):yy K H (.ref a) (.ref C)
theorem Yt (I:Inv X pins σ H s)(d:RelV x u)(v:yy X.K H x t)(e:bL X.K t c=some b)(h:∀tk,Q (.bool b) { s with toks:=tk }):
  wpAny (model X.prog X.w) A (call (.builtin "isinstance") [u,c]) Q E s:=by
 cases v with
 | non=>cases (d);exact bO lF I.kIn True.intro e (λz=>nomatch z) h
 | bl y=>cases (d);exact bO lG I.kIn True.intro e (λz=>nomatch z) h
 | int i=>obtain⟨t,q⟩:=(d);cases q;exact bO lZ I.kIn True.intro e (λz=>nomatch z) h
 | str y=>obtain⟨t,q⟩:=(d);cases q;exact bO l_ I.kIn True.intro e (λz=>nomatch z) h
 | flt y=>obtain⟨t,q⟩:=(d);cases q;exact bO PySem.W.kitx_float I.kIn True.intro e (λz=>nomatch z) h
 | @lst a xs f=>
  cases (d);obtain⟨_,_,n,_,g⟩:=(show zQ _ X.w H _ a _ from I.hok a _ f);exact bO eM I.kIn ⟨_,g,rfl⟩ e (λz=>nomatch z) h
 | @frz a ob xs f=>
  cases (d);obtain⟨_,_,_,n,_,g⟩:=(show zQ _ X.w H _ a _ from I.hok a _ f);exact bO eM I.kIn ⟨_,g,rfl⟩ e (λz=>nomatch z) h
 | @tup a xs f=>
  cases (d);obtain⟨_,_,_,p,_⟩:=(show zQ _ X.w H _ a _ from I.hok a _ f);obtain⟨o,g,j,_⟩:=p;exact bO ll I.kIn ⟨o,g,j⟩ e (λz=>nomatch z) h
 | @dK a kvs f=>
  cases (d);obtain⟨_,_,vs,_,p⟩:=(show zQ _ X.w H _ a _ from I.hok a _ f);obtain⟨o,B,ep,g,j,_⟩:=p;exact bO lH I.kIn ⟨o,g,j.1⟩ e (λz=>nomatch z) h
 | @dT a kvs f=>
  cases (d);obtain⟨_,_,xs,_,o,B,ep,g,j,_⟩:=(show zQ _ X.w H _ a _ from I.hok a _ f);exact bO lH I.kIn ⟨o,g,j.1⟩ e (λz=>nomatch z) h
 | @ins a C F fs f cl l hn k r=>
  cases (d);obtain⟨D,O,_⟩:=ki I.hok f;obtain⟨G,J,_⟩:=O.look;exact bO (PySem.W.kitx_own (cl.get _) cl.hd l hn k r) I.kIn J e (λz=>nomatch z) h
end
end L2
namespace L2
open PySem PySem.Spec PyProof.Rows
structure ja (k:Nat) (A:Around):Prop where
 hd:A.handled=none
 dp:A.depth+3*k+5 < recursionLimit
 un:A.units+16*k+200 < cLine
 gd:A.guards=some []
theorem ja.mono (r:ja k A)(h:j<=k):ja j A:=⟨r.hd,by have:=r.dp;omega,by have:=r.un;omega,r.gd⟩
theorem ja.deeper (r:ja (k+1) A)(env:Env):ja k (A.deeper env):=
 ⟨r.hd,by have:=r.dp;show A.depth+1+3*k+5 < _;omega,by have:=r.un;show A.units+3+16*k+200 < _;omega,r.gd⟩
theorem ja.depth (r:ja k A):A.depth < recursionLimit:=by have:=r.dp;omega
theorem ja.units (r:ja k A):A.units+64 < cLine:=by have:=r.un;omega
def sr:TA:=λ_ H Q=>Q [] H
def GF (d:TE)(tr:TA):TA:=λa H Q=>d a H λx e=>tr a e λxs c=>Q (x :: xs) c
section
theorem zH:PA X [] sr:=λ_ _ _ _ H Q I h=>lI ⟨[],H,I,.nil,h⟩
theorem zm (g:PE X e te)(hr:PA X es t)(f:starEach (e :: es) X.env=(false,eval e X.env) :: starEach es X.env:=by rfl):PA X (e :: es) (GF te t):=by
 intro pos a s c H Q I h;rw[f];refine lm (mH (g _ s c H _ I h) λu k ⟨x,p,q,r,o⟩=> ?_);exact mH (hr pos _ k c p _ q o) λv w ⟨xs,l,d,i,j⟩=>⟨x :: xs,l,d,.cons r i,j⟩
def BO (t:TA):TE:=λc H Q=>t c H λxs a=>xs.length<=sizeLine/\∀p,a p=none->Q (.ref p) (mz a p (.tup xs))
def Bk (t:TA):TE:=λc H Q=>t c H λxs a=>xs.length<=sizeLine/\∀p,a p=none->Q (.ref p) (mz a p (.lst xs))
theorem xR {x1}(h:PA X es t):PE X (.Tuple es x1 pos) (BO t):=by
 intro a s i H Q I g;refine wpAny_Tuple_spliced (mH (h pos _ s i H _ I g) λd k ⟨xs,j,c,r,z,q⟩=>⟨by rw[← r.length];exact z, ?_⟩)
 have f:=c.hok.fresh (am _);refine⟨.ref _,mz j _ _,c.laid (λb u e=>ab _ e) (am _) ?_,rfl,q _ f⟩;exact⟨z,d,r,⟨_,af _ rfl,rfl,_,rfl⟩,.inr ⟨_,af _ rfl,rfl⟩⟩
theorem Yu (h:PA X es t):PE X (.List es pos) (Bk t):=by
 intro a s i H Q I g;refine wpAny_List_spliced (mH (h pos _ s i H _ I g) λd k ⟨xs,j,c,r,z,q⟩=>⟨by rw[← r.length];exact z, ?_⟩)
 have f:=c.hok.fresh (am _);refine⟨.ref _,mz j _ _,c.laid (λb u e=>ab _ e) (am _) ?_,rfl,q _ f⟩;exact⟨z,d,0,r,af _ rfl⟩
end
abbrev Sp:=List V->Hp->VK->XK->Prop
abbrev nX:=List Env->Hp->Shared->XK->Value->Shared->Prop
structure xS (P:Program) (w:World) (K:ai) (mg:Str->Option Value) (base:Heap) (A:Around) (outer:List Env) (s:Shared) (H:Hp):Prop where
 frames:A.frames=some outer
 mod:Mod K mg base
 bs:∀b o,base.get? b=some o->s.heap.get? b=some o/\H b=none
 bsz:base.objs.size<=s.heap.objs.size
 funs:s.heap.FunFrames base outer
 frf:∀b∈ng outer,H b=none
 hok:HOk P w H s.heap
 bare:AllBare s.gens
def CE (outer:List Env)(P:Program)(w:World)(H:Hp)(s:Shared)(Q:VK)(u:Value)(a :Shared):Prop:=
 ∃v c,a.os=s.os/\AllBare a.gens/\Un (ng outer) [] H c s.heap a.heap/\HOk P w c a.heap/\RelV v u/\Q v c
def CR (CX:nX)(outer:List Env)(P:Program)(w:World)(H:Hp)(s:Shared)(Q:VK)(E:XK)(r:Result)(a :Shared):Prop:=
 match r with
 | .ok (.ret u)=>CE outer P w H s Q u a
 | .ok _=>False
 | .error e=>CX outer H s E e a
structure wD (P:Program) (w:World) (K:ai) (mg:Str->Option Value) (base:Heap) (CX:nX) (k:Nat) (f:Addr) (fd:FuncData) (ps:List Str) (sp:Sp):Prop where
 len:∀vs H Q E,sp vs H Q E->vs.length=ps.length
 run:∀(A:Around) (outer:List Env) (s:Shared) (H:Hp) (args:Args) (us:List Value) (vs:List V) (Q:VK) (E:XK),ja k A->xS P w K mg base A outer s H->BindsTo s fd args (ps.zip us)->Vals vs us->sp vs H Q E->
  codeAny (model P w) A (.call (.ref f) args) (CR CX outer P w H s Q E) s
theorem wD.imp {P:Program}{w:World}{K:ai}{d:Str->Option Value}{base:Heap}{CX:nX}{k:Nat}{f:Addr}{c:FuncData}{e:List Str}{sp a :Sp}(F:wD P w K d base CX k f c e sp)
  (h:∀vs H Q E,a vs H Q E->sp vs H Q E):wD P w K d base CX k f c e a :=
 ⟨λvs H Q E q=>F.len vs H Q E (h _ _ _ _ q),λA outer s H args i vs Q E hr o l g j=>F.run A _ s H _ i vs Q E hr o l g (h _ _ _ _ j)⟩
section
theorem Inv.env0 (I:Inv X pins σ H s):xS X.prog X.w X.K X.mg X.base X.A X.stack s H:=
 ⟨I.ok.frames,I.ok.mod,I.bs,av I.ok.bsz I.sz,I.stack,I.stkFree,I.hok,I.bare⟩
theorem Inv.after (I:Inv X pins σ H s)(h:CE X.stack X.prog X.w H s Q u s'):EP X pins σ Q u s' :=by
 obtain⟨v,f,os,a,un,c,r,q⟩:=h;obtain⟨i,g,d,t,e⟩:=s';obtain rfl:e =s.os:=os;exact⟨v,f,I.call un c a (λb z=>absurd z (by simp)),r,q⟩
end
def LY (sp:Sp)(a:List V)(E:XK)(t:TA):TE:=λc H Q=>t c H λvs d=>sp (vs++a) d Q E
noncomputable def Binds (K:ai)(e:FuncData)(d:List Str)(c:List Value):Prop:=
 ∀(s:Shared) (a:List Value),K.In s.heap->(a++c).length=d.length->BindsTo s e ⟨a,[]⟩ (d.zip (a++c))
theorem Binds.all {K:ai}{e:FuncData}{c:List Str}(h:∀a:List Value,a.length=c.length->bindArgs e ⟨a,[]⟩=pure (c.zip a)):Binds K e c []:=λs a _ d=>by
 rw[bw]at d ⊢;exact .of_eq (h a d)
def jB (CX:nX)(X:Cx)(E:XK):Prop:=∀(a:List (Addr×Obj)) (d:St) (H:Hp) (s:Shared) (e:Value) (c :Shared),Inv X a d H s->CX X.stack H s E e c ->X.xe e c
section
theorem GG (F:wD X.prog X.w X.K X.mg X.base CX k f fd ps sp)(hr:ja k X.A)(g:Binds X.K fd ps ds)(hd:Vals dvs ds)(j:jB CX X E)
  (I:Inv X pins σ H s) (r:Vals vs us) (h:sp (vs++dvs) H Q E):wpAny (model X.prog X.w) X.A (call (.ref f) us) (EP X pins σ Q) X.xe s:=by
 have c:=r.append hd;have d:(us++ds).length=ps.length:=by rw[← c.length];exact F.len _ _ _ _ h
 refine wpAny_call (eN (F.run X.A _ s H _ _ _ Q E hr I.env0 (g s us I.kIn d) c h) λr i a=> ?_);cases r with
 | error e=>exact j _ σ H s e i I a
 | ok fl=>
  cases fl with
  | ret u=>exact I.after a
  | next=>exact cq a
  | brk=>exact cq a
  | cont=>exact cq a
theorem jb (F:wD X.prog X.w X.K X.mg X.base CX k f fd ps sp)(hr:ja k X.A)(o:Gl X x)(j:X.mg x=some (.ref f))(B:d0 X.K (.ref f)=true)(u:Binds X.K fd ps ds)(hd:Vals dvs ds)(l:jB CX X E)
  (i:PA X (e :: es) t) (a:(x == ("__debug__":Str))=false:=by decide) (v:starEach (e :: es) X.env=(false,eval e X.env) :: starEach es X.env:=by rfl) (c:(backTo pos (starEach es X.env)).any (·.1)=false:=by rfl):
  PE X (.Call (.Name x p) (e :: es) [] pos) (LY sp dvs E t):=by
 intro d s y H Q I h;refine cB (Yi I o j ?_ a);refine PySem.W.callWith_K I.ok.mod.kin B (mH (i pos _ s y H _ I h) λC D ⟨vs,G,g,r,q⟩=>⟨g.kIn, ?_⟩) v c;exact GG F hr u hd l g r q
end
def PK (X:Cx)(d:List Keyword)(t:TA):Prop:=
 ∀(pos:Pos) (a:List (Addr×Obj)) (s:Shared) (c:St) (H:Hp) (Q:List V->Hp->Prop),Inv X a c H s->t c H Q->wpAny (model X.prog X.w) X.A (evalAll ((backToKw pos (keywordEach d X.env)).map (·.2))) (AP X a c Q) X.xe s
section
variable {kws:List Keyword}{nm:Option Str}
theorem GH:PK X [] sr:=λ_ _ _ _ H Q I h=>wpAny_evalAll_nil ⟨[],H,I,.nil,h⟩
theorem Yv (f:PE X e te)(hr:PK X kws t):PK X (⟨nm,e,kpos⟩ :: kws) (GF te t):=by
 intro pos a s c H Q I h;refine wpAny_evalAll_cons (a8 (mH (f _ s c H _ I h) λu j ⟨x,o,p,q,l⟩=>a8 (wpAny_standAt (ac ?_))));exact mH (hr pos _ j c o _ p l) λr v ⟨xs,k,d,g,i⟩=>⟨x :: xs,k,d,.cons q g,i⟩
variable {g:List Value->List Value->List Value}{gV:List V->List V->List V}
end
structure jJ (N P:List Str) (sc:Scope):Prop where
 kind:sc.kind= .function
 co:sc.isCoroutine=false
 gen:sc.isGenerator=false
 nd:N.Nodup
 pre:N.take P.length=P
 par:∀x∈P,sc.names.lookup x=some .local\/sc.names.lookup x=some .cell
 nofree:∀y∈sc.names,y.2 ≠ .free
theorem WX {kindOf:Str->Option NameKind}{x:Str}:∀{binds:List (Str×Value)} {m:Str->Option Value},(∀v,(x,v) ∉ binds)->bindL kindOf binds m x=m x
 | [],_,_=>rfl
 | (n,v) :: r,m,h=>by
  unfold bindL;rw[WX λw a=>h w (a9 _ a)];split
  ·have:x ≠ n:=by rintro rfl;exact h v aa
   simp[this]
  ·rfl
theorem WY {kindOf:Str->Option NameKind}{x:Str}:∀{binds:List (Str×Value)} {m:Str->Option Value},(∀v,(x,v) ∉ binds)->bindC kindOf binds m x=m x
 | [],_,_=>rfl
 | (n,v) :: r,m,h=>by
  unfold bindC;rw[WY λw a=>h w (a9 _ a)];split
  ·rfl
  ·have:x ≠ n:=by rintro rfl;exact h v aa
   simp[this]
theorem WZ {kindOf:Str->Option NameKind}{x:Str}{v:Value}:∀{P:List Str} {vs:List Value} {i:Nat} {m:Str->Option Value},P.Nodup->P[i]? =some x->vs[i]? =some v->kindOf x=some .local->
  bindL kindOf (P.zip vs) m x=some v
 | [],_,_,_,_,h,_,_=>by simp at h
 | _ :: _,[],_,_,_,_,h,_=>by simp at h
 | p :: P,w :: vs,0,m,nd,c,a,d=>by
  simp at c a;subst c;subst a;show bindL _ ((p,w) :: P.zip vs) m p=_;unfold bindL;rw[WX λv e=>(cK.mp nd).1 (c8 e).1,if_pos d];simp
 | p :: P,w :: vs,i+1,m,nd,c,a,d=>by
  show bindL _ ((p,w) :: P.zip vs) m x=_;exact WZ (cK.mp nd).2 (by simpa using c) (by simpa using a) d
theorem u3 {kindOf:Str->Option NameKind}{x:Str}{v:Value}:∀{P:List Str} {vs:List Value} {i:Nat} {m:Str->Option Value},P.Nodup->P[i]? =some x->vs[i]? =some v->kindOf x ≠ some .local->
  bindC kindOf (P.zip vs) m x=some v
 | [],_,_,_,_,h,_,_=>by simp at h
 | _ :: _,[],_,_,_,_,h,_=>by simp at h
 | p :: P,w :: vs,0,m,nd,c,a,d=>by
  simp at c a;subst c;subst a;show bindC _ ((p,w) :: P.zip vs) m p=_;unfold bindC;rw[WY λv e=>(cK.mp nd).1 (c8 e).1,if_neg d];simp
 | p :: P,w :: vs,i+1,m,nd,c,a,d=>by
  show bindC _ ((p,w) :: P.zip vs) m x=_;exact u3 (cK.mp nd).2 (by simpa using c) (by simpa using a) d
def start (N:List Str)(vs:List V):St:=vs.map some++ag (N.length - vs.length) none
def jC (CX:nX)(P:Program)(w:World)(K:ai)(mg:Str->Option Value)(base:Heap)(N:List Str)(a:Str)(scope:Scope)(f:Addr)(cd:Value)(A:Around)(outer:List Env)(s:Shared)(H:Hp)(E:XK):Cx where
 prog:=P
 w:=w
 K:=K
 mg:=mg
 base:=base
 A:=A.deeper (envOfC a scope s.heap.objs.size f cd)
 N:=N
 s₀:=s
 H₀:=H
 env:=envOfC a scope s.heap.objs.size f cd
 outer:=outer
 stack:=envOfC a scope s.heap.objs.size f cd :: outer
 ex:=[]
 calm:=true
 fn:=λ_=>true
 pn:=[]
 xe:=λe d =>wpAny (model P w) (A.deeper (envOfC a scope s.heap.objs.size f cd)) (leaving (envOfC a scope s.heap.objs.size f cd) e) (λ_ c =>CX outer H s E e c) (λg c =>CX outer H s E g c) d
theorem Ul {a:Scope}{n:Nat}{x:Str}(h:a.names.lookup x=some .cell):∃c,(cellsFrom n a.names []).lookup x=some c:=by
 have q:=iH _ n [] (.inl h);exact ia.mp q
theorem Yw {CX:nX}{P:Program}{w:World}{K:ai}{D:Str->Option Value}{base:Heap}{N o:List Str}{d:Str}{scope:Scope}{f:Addr}{cd:Value}{A:Around}{outer:List Env}{s J:Shared}{H:Hp}{E:XK}{F:List Value}{vs:List V}
  (S:jJ N o scope) (hd:A.handled=none) (j:xS P w K D base A outer s H) (U:vs.length=o.length) (r:Vals vs F)
  (x:InCallC s s.heap.objs.size (bindL (envOfC d scope s.heap.objs.size f cd).kindOf (o.zip F) λ_=>none) (cellsFrom (s.heap.objs.size+1) scope.names []) (bindC (envOfC d scope s.heap.objs.size f cd).kindOf (o.zip F) λ_=>none) J):
  Inv (jC CX P w K D base N d scope f cd A outer s H E) [] (start N vs) H J:=by
 have O:=by have:=congrArg i6 S.pre;rw[db]at this;omega
 obtain⟨C,tk,rfl,G⟩:=x.done;have l:∀b,b ∉ (jC CX P w K D base N d scope f cd A outer s H E).ex:=λb z=>absurd (show b∈([]:List _) from z) (by simp)
 refine⟨⟨j.mod,S.kind,rfl,rfl,am _,λy z c C g=> ?_,λy hy=> ?_,λy c _ h=> ?_,λ_=>hd,iU j.frames,.inr ⟨rfl,rfl⟩,λb z=>absurd z (l b),j.bs,j.bsz,λb _ _=>l b,λb z=>absurd z (l b),j.funs,j.frf⟩,
  rfl,j.bare,Un.kept G,⟨_,x.toInCall.ns,λi y v C g X=> ?_⟩,λy c h=>⟨_,x.cell y c h⟩,j.hok.fresh (am _),λy c h=> ?_,λp hp=>absurd (show p∈([]:List _) from hp) (by simp),j.hok.kept G, ?_⟩
 ·exact name_of_addr x.apart (bH C) (bH g)
 ·rcases hy with hy | hy
  ·exact Ul hy
  ·exact absurd rfl (S.nofree _ (bH hy))
 ·exact iG (x.above y c (bH h))
 ·have hi:i < vs.length:=by
   unfold start at g
   by_cases hi:i < vs.length
   ·exact hi
   ·rw[aR (by simpa using hi)]at g
    rw[aU]at g;split at g <;> cases g
  have M:vs[i]? =some v:=by
   unfold start at g;rw[aY (by simpa using hi),ao]at g
   cases e:vs[i]? with
   | none=>rw[e]at g;cases g
   | some a=>rw[e]at g;cases g;rfl
  obtain⟨u,I,Q⟩:=r.get M;have hp:o[i]? =some y:=by
   rw[← S.pre,eA (by omega)];exact C
  have B:o.Nodup:=by rw[← S.pre];exact S.nd.sublist (List.take_sublist _ _)
  refine⟨u,Q, ?_⟩;rcases S.par y (bg hp) with k | k
  ·exact .inl ⟨k,WZ B hp I k⟩
  ·obtain⟨c,e⟩:=Ul k;refine .inr ⟨.inl k,c,e, ?_⟩;have q:=x.cell y c e;rw[u3 B hp I (by show scope.names.lookup y ≠ _;rw[k];decide)]at q
   exact q
 ·exact j.hok.fresh (iG (x.above y c (bH h)))
 ·unfold start;show _=N.length;rw[az,ae,aV];omega
theorem kl {CX:nX}{P:Program}{w:World}{K:ai}{D:Str->Option Value}{base:Heap}{k:Nat}{f:Addr}{name a:Str}{c:Arguments}{body:List Stmt}{scope:Scope}{dV kV l Z cdv ct oc:Value}{an od:Option Addr}
  {G:Array (Option Value)} {N F:List Str} {sp:Sp} (lk:K.lookup f=some ⟨oc,od,.func (cx name a c body scope dV kV l Z an cdv ct),G⟩) (U:h9 K cdv a=true) (S:jJ N F scope)
  (len:∀vs H Q E,sp vs H Q E->vs.length=F.length)
  (i:∀(A:Around) (outer:List Env) (s:Shared) (H:Hp) (vs:List V) (Q:VK) (E:XK),ja k (A.deeper (envOfC a scope s.heap.objs.size f cdv))->sp vs H Q E->
   ∃t,PSs (jC CX P w K D base N a scope f cdv A outer s H E) body t/\t { nx:=λ_ d =>Q .non d,rt:=Q } (start N vs) H):
  wD P w K D base CX (k+1) f (cx name a c body scope dV kV l Z an cdv ct) F sp:=by
 refine⟨len,λA outer s H args us vs Q E hr B hb r p=> ?_⟩;have hl:=len _ _ _ _ p;have KX:=B.mod.kin.keeps λb o e=>(B.bs b o e).1;have M:=B.mod.nolimit.keeps λb o e=>(B.bs b o e).1;have g:∀y∈F.zip us,scope.names.lookup y.1=some _\/(scope.names.lookup y.1=some _/\((cellsFrom (s.heap.objs.size+1) _ []).lookup y.1).isSome=true):=λ⟨n,v⟩ hy=>by
  rcases S.par n (c8 hy).1 with q | q
  ·exact .inl q
  ·exact .inr ⟨q,iH _ _ _ (.inl q)⟩
 refine codeAny_call_function hr.depth (KX _ _ lk) rfl S.co S.gen rfl (PySem.W.codeRec_of KX U) (hb _ _ _ _ ?_);refine wpAny_newFunctionEnv_cells S.kind g λenv he s1 x=> ?_;subst he;refine⟨M.keeps x.toInCall.keep,codeAny_func ?_⟩;obtain⟨t,ht,hq⟩:=i A _ s H vs Q E (hr.deeper _) p;have I:Inv (jC CX P w K D _ N _ _ f cdv A _ s H E) [] _ H s1:=Yw S hr.hd B hl r x;refine cV (ht [] s1 _ H _ I hq) (λfl O j=> ?_) λe O j=>j;have C:∀{σ' :St} {d :Hp} {v:V} {u:Value},Inv (jC CX P w K D base N a scope f cdv A outer s H E) [] σ' d O ->RelV v u->Q v d ->CE _ P w H s Q u O :=
  λ{σ' d v u} J X q=>⟨v,d,J.os,J.bare,J.base,J.hok,X,q⟩
 cases fl with
 | ret u=>
  obtain⟨v,σ',d,J,X,q⟩:=j;exact C J X q
 | next=>
  obtain⟨σ',d,J,q⟩:=j;exact C (v:=V.non) J rfl q
 | brk=>
  obtain⟨_,_,_,q⟩:=j;exact cq q
 | cont=>
  obtain⟨_,_,_,q⟩:=j;exact cq q
end L2
namespace L2
open PySem PySem.Spec PyProof.Rows
section
variable {X:Cx}{x:Str}{p pos:Pos}{e:Expr}{es:List Expr}{t:TA}{id T:String}{r:List V->Hp->VK->Prop}
def Eb (r:List V->Hp->VK->Prop)(t:TA):TE:=λa H Q=>t a H λvs c=>r vs c Q
theorem ZM (k:Z7 X (.builtin id) r)(q:Gl X x)(l:X.mg x=none)(g:bootBuiltins x=some (.builtin id))(j:PA X (e :: es) t)(hn:x ≠ "__name__":=by decide)(a:(x == ("__debug__":Str))=false:=by decide)
  (v:starEach (e :: es) X.env=(false,eval e X.env) :: starEach es X.env:=by rfl) (c:(backTo pos (starEach es X.env)).any (·.1)=false:=by rfl):PE X (.Call (.Name x p) (e :: es) [] pos) (Eb r t):=by
 intro d s f H Q I h;refine cB (j5 I q l g ?_ hn a);exact PyProof.Rows.callWith_builtin1 (mH (j pos _ s f H _ I h) λi o ⟨vs,y,w,B,u⟩=>k _ o f y vs i Q w B u) v c
theorem ZZ (k:Z7 X (.type T) r)(q:Gl X x)(l:X.mg x=none)(g:bootBuiltins x=some (.type T))(j:PA X (e :: es) t)(hn:x ≠ "__name__":=by decide)(a:(x == ("__debug__":Str))=false:=by decide)
  (v:starEach (e :: es) X.env=(false,eval e X.env) :: starEach es X.env:=by rfl) (c:(backTo pos (starEach es X.env)).any (·.1)=false:=by rfl):PE X (.Call (.Name x p) (e :: es) [] pos) (Eb r t):=by
 intro d s f H Q I h;refine cB (j5 I q l g ?_ hn a);exact a_ (mH (j pos _ s f H _ I h) λi o ⟨vs,y,w,B,u⟩=>k _ o f y vs i Q w B u) v c
end
end L2
namespace HT
open PySem PyProof.Rows
section
open PySem.SeqAt
open PySem.AutoSeq1 (wpAny_loadPart')
open PySem.MeetsSeq PySem.MeetsSeq2 PySem.MeetsSeq3
end
section
theorem cat_tup (v:IsTup s.heap t vs.toArray)(x:IsTup s.heap b ws.toArray)(k:vs ≠ [])
  (u:ws=[]->Q (.ref t) s) (q:ws ≠ []->Q (.ref s.heap.objs.size) { s with heap:=s.heap.push { cls:= .type "tuple",data:= .seq (vs++ws).toArray } })
  (hsz:vs.length+ws.length<=sizeLine):wpAny (model prog w) A (binaryOp .Add (.ref t) (.ref b)) Q E s:=by
 obtain⟨⟨cls,dd,data,l⟩,g,r,n,hd⟩:=id v;obtain⟨⟨p,c,data2,d⟩,a,j,o,i⟩:=id x;subst r hd j i;have e:vs.toArray++ws.toArray=(vs++ws).toArray:=by simp
 by_cases f:ws=[]
 ·exact concat_meets ⟨_,g,rfl⟩ ⟨_,a,rfl⟩ noFill_tuple_add seq_tuple_add eO eK (eB _ _)
   (tuple_addW1 t b _ _ n o dd c l d (by simpa using k) (by simp[f])) ⟨g,a,u f⟩
 ·refine concat_meets ⟨_,g,rfl⟩ ⟨_,a,rfl⟩ noFill_tuple_add seq_tuple_add eO eK (eB _ _)
   (tuple_addW2 t b _ _ n o dd c l d (by simpa using k) (by simpa using f) (by exact hsz)) ⟨g,a, ?_⟩
  rw[e];exact q f
noncomputable def sIx (n d:Nat):Option Int->Nat
 | none=>d
 | some v=>if v < 0 then (v+(n:Int)).toNat else min v.toNat n
theorem sIx_none (n d:Nat):sIx n d none=d:=rfl
theorem sIx_nat (n d k:Nat):sIx n d (some (k:Int))=min k n:=by
 show (if (k) < 0 then ((k:Int)+(n)).toNat else min _ n)=min k n
 rw[if_neg (by omega),b9]
theorem Yx (v:Int)(n d:Nat):(if v < 0 then max (v+(n:Int)) 0 else min v (n:Int))=((sIx n d (some v):Nat):Int):=by
 show (if v < 0 then max _ 0 else min v (n))=(((if v < 0 then (v+(n)).toNat else min _ n):Nat):Int)
 by_cases a:v < 0
 ·simp only[if_pos a];omega
 ·simp only[if_neg a];omega
theorem yz (lo hi:Option Int)(n:Nat):i4 lo hi 1 (n:Int)=(((sIx n 0 lo:Nat):Int),((sIx n n hi:Nat):Int)):=by
 refine Prod.ext ?_ ?_
 ·cases lo with
  | none=>rfl
  | some v=>exact Yx v n 0
 ·cases hi with
  | none=>rfl
  | some v=>exact Yx v n n
theorem yA (i j:Nat):dW (i:Int) (j:Int) 1=j - i:=by
 unfold dW;split <;> omega
theorem wP {o:Option Int}{Q:Option Int->Shared->Prop}(p:IsPart v o)(h:Q o s):wpAny (model prog w) A (Builtin.Slice.slicePartIndex v) Q E s:=by
 cases p with
 | none=>exact slicePart_none h
 | int i t=>exact slicePart_int h
theorem sliceApplied_gen {lo hi:Option Int}{Q:Int×Int×Nat->Shared->Prop}(e:s.heap.IsSliceOf sl vl vu .none)(pl:IsPart vl lo)(d:IsPart vu hi)
  (h:Q (((sIx n 0 lo:Nat):Int),1,sIx n n hi - sIx n 0 lo) s):wpAny (model prog w) A (Builtin.Slice.sliceApplied (.ref sl) (pure (n:Int))) Q E s:=by
 obtain⟨os,a,f,c⟩:=id e;refine a8 (a8 (ba a c rfl (a8 (ba a c rfl (a8 (ba a c rfl (ac ?_)))))));refine a8 (slicePart_none ?_);refine a8 (wP pl (a8 (wP d (a8 (ac ?_)))));show wpAny _ _ (match i4 lo hi 1 _ with | (lo,hi)=>pure (lo,(1:Int),dW lo hi 1)) _ _ s
 rw[yz lo hi n];show wpAny _ _ (pure _) _ _ s;rw[yA];exact ac h
theorem Vb (xs:Array Value)(i k:Nat):((aN k).filterMap λ(m:Nat)=>xs[((i:Int)+(m:Int)*1).toNat]?).toArray=((xs.toList.drop i).take k).toArray:=by
 have e:(λ(m:Nat)=>xs[((i:Int)+(m)*1).toNat]?)=λm=>xs[i+m]? :=by
  funext m
  have:((i:Int)+(m)*1).toNat=i+m:=by omega
  rw[this]
 rw[e];have:=pick_run xs i k;rw[List.filterMap_map]at this;have a:((λx=>xs[x]?) ∘ λx=>i+x)=λm=>xs[i+m]? :=rfl;rw[a]at this;rw[this]
theorem getItem_tuple_cut {lo hi:Option Int}(c:IsTup s.heap t items)(i:s.heap.IsSliceOf sl vl vu .none)(pl:IsPart vl lo)(k:IsPart vu hi)
  (j:¬ (sIx items.size 0 lo=0/\sIx items.size items.size hi=items.size))
  (h:Q (.ref s.heap.objs.size) { s with heap:=s.heap.push { cls:= .type "tuple",data:= .seq ((items.toList.drop (sIx items.size 0 lo)).take (sIx items.size items.size hi - sIx items.size 0 lo)).toArray } })
  (hsz:items.size<=sizeLine):wpAny (model prog w) A (getItem (.ref t) (.ref sl)) Q E s:=by
 have a:sizeOk (.seq ((items.toList.drop (sIx items.size 0 lo)).take (sIx items.size items.size hi - sIx items.size 0 lo)).toArray):=by
  show ((items.toList.drop _).take _).toArray.size<=sizeLine;rw[aD,db,dR,bU];omega
 obtain⟨os,e,g,l⟩:=id i;have d:s.TypeIs (.ref sl) _:=⟨os,e,g⟩;unfold getItem
 try with_reducible refine bp ?_
 refine a8 (wpAny_sequenceKey c.typeIs (by decide) ?_)
 refine a8 (aX c.typeIs bu
  (aM bu c.typeIs entry_tuple_getitem ?_ (args_tuple_getitem _ _)))
 show wpAny _ _ (hJ _ >>= _) _ _ s;refine a8 (tupleItemsOf_ c ?_);refine a8 (dS d ?_);refine a8 (sliceApplied_gen i pl k ?_);have f:¬ ((((sIx items.size 0 lo):Int) == 0 && (1:Int) == 1 && (sIx items.size items.size hi - sIx items.size 0 lo) == items.size)=true):=by
  intro q;rw[aj,aj]at q;have p:=eq_of_beq q.1.1;have o:=eq_of_beq q.2;exact j ⟨by omega,by omega⟩
 show wpAny _ _ (if (((sIx _ 0 lo:Nat):Int) == 0 && (1) == 1 && (sIx _ _ hi - sIx _ 0 lo) == items.size)=true then _ else _) _ _ s
 rw[if_neg f,Vb]
 first
  | exact a8 (aO (ac ⟨_,rfl,ac h⟩) a)
  | exact a8 _
  | exact a8 _
  | exact a8 _
end
end HT
namespace L2
open PySem PySem.Spec PyProof.Rows
abbrev TO:=St->Hp->(Option Int->Hp->Prop)->Prop
def PO (X:Cx)(e:Option Expr)(t:TO):Prop:=
 ∀(a:List (Addr×Obj)) (s:Shared) (c:St) (H:Hp) (Q:Option Int->Hp->Prop),Inv X a c H s->t c H Q->
  wpAny (model X.prog X.w) X.A (evalPart e X.env) (λu f =>∃o d,Inv X a c d f /\IsPart u o/\Q o d) X.xe s
def km:TO:=λ_ H Q=>Q none H
def Ii (t:TE):TO:=λa H Q=>t a H λx c=>∃i,x= .int i/\Q (some i) c
section
variable {X:Cx}{e:Expr}{te:TE}{lo hi:Option Expr}{tl th:TO}{pos p2:Pos}
theorem ko:PO X none km:=by
 intro a s c H Q I h;exact ac ⟨none,H,I,.none,h⟩
theorem ku (h:PE X e te):PO X (some e) (Ii te):=by
 intro a s f H Q I c;refine mH (h _ s f H _ I c) λu l ⟨x,g,j,k,d⟩=> ?_;obtain⟨i,rfl,q⟩:=d;obtain⟨t,rfl⟩:=k;exact⟨some i,g,j,.int i t,q⟩
def SlR (X:Cx)(r:V->Option Int->Option Int->Hp->VK->Prop):Prop:=
 ∀(a:List (Addr×Obj)) (s:Shared) (f:St) (H:Hp) (x:V) (v vl c:Value) (lo hi:Option Int) (d:Addr) (Q:VK),Inv X a f H s->RelV x v->s.heap.IsSliceOf d vl c .none->IsPart vl lo->IsPart c hi->r x lo hi H Q->
  ∃T id,typeLookup (.type T) "__getitem__"=pure (some (.builtin id))/\s.TypeIs v T/\wpAny (model X.prog X.w) X.A (getItem v (.ref d)) (EP X a f Q) X.xe s
theorem SlR.or {r j :V->Option Int->Option Int->Hp->VK->Prop}(h:SlR X r)(h' :SlR X j):SlR X (λx lo hi H Q=>r x lo hi H Q\/j x lo hi H Q):=by
 intro i s k H x v vl a lo hi c Q I d g pl f q;rcases q with q | q
 ·exact h _ s k H x v vl a lo hi c Q I d g pl f q
 ·exact h' _ s k H x v vl a lo hi c Q I d g pl f q
def IY (r:V->Option Int->Option Int->Hp->VK->Prop)(te:TE)(tl th:TO):TE:=λa H Q=>te a H λx d=>tl a d λl c=>th a c λu H3=>r x l u H3 Q
theorem Vc {r:V->Option Int->Option Int->Hp->VK->Prop}(hr:SlR X r)(k:PE X e te)(g:PO X lo tl)(B:PO X hi th):PE X (.Subscript e (.Slice lo hi none p2) pos) (IY r te tl th):=by
 intro d s a H Q I h;refine Subscript_ (mH (k _ s a H _ I h) λv J ⟨x,o,P,p,j⟩=> ?_);refine wpAny_Slice (mH (g _ J a o _ P j) λvl O ⟨l,i,D,pl,G⟩=>mH (B _ O a i _ D G) λc f ⟨u,H3,w,C,F⟩=> ?_);refine ac ?_;have y:Inv X _ a H3 { f with heap:=f.heap.push { cls:= .type "slice",data:= .fields #[vl,c,.none] } }:=w.kept λb ob q=>ab _ q;obtain⟨T,id,hT,N,M⟩:=hr _ _ a H3 x v vl c l u _ Q y p (Heap.IsSliceOf.new ..) pl C F;exact tail_any N hT M (by with_unfolding_all rfl)
noncomputable def G6 (xs:List V)(lo hi:Option Int):List V:=(xs.drop (HT.sIx xs.length 0 lo)).take (HT.sIx xs.length xs.length hi - HT.sIx xs.length 0 lo)
theorem JP (xs:List V)(lo hi:Option Int):(G6 xs lo hi).length<=xs.length:=by
 unfold G6;rw[db,dR];omega
def Bx (K:ai):V->Option Int->Option Int->Hp->VK->Prop:=λx lo hi H Q=>∃a xs,x= .ref a/\SqT K H a xs/\
 ¬ (HT.sIx xs.length 0 lo=0/\HT.sIx xs.length xs.length hi=xs.length)/\∀p,H p=none->Q (.ref p) (mz H p (.tup (G6 xs lo hi)))
theorem GI:SlR X (Bx X.K):=by
 intro f s w H x v vl p lo hi u Q I i l pl k h;obtain⟨a,xs,rfl,o,j,q⟩:=h;cases i;obtain⟨d,r,g,hz⟩:=I.tuple o;have c:d.toArray.size=xs.length:=by exact r.length.symm
 refine⟨"tuple",_,bu.lookup,g.typeIs, ?_⟩;refine HT.getItem_tuple_cut g l pl k (by rw[c];exact j) ?_ (by rw[c];exact hz)
 rw[c];refine⟨.ref _,_,I.laid (λb ob q=>ab _ q) (am _) ?_,rfl,q _ (I.hok.fresh (am _))⟩;exact⟨av (JP xs lo hi) hz,_,(r.drop _).take _,ITN.new _ _⟩
def F4 (K:ai):R2:=λx y H Q=>∃a b xs c,x= .ref a/\y= .ref b/\SqT K H a xs/\SqT K H b c/\xs ≠ []/\xs.length+c.length<=sizeLine/\
 (c=[]->Q (.ref a) H)/\(c ≠ []->∀p,H p=none->Q (.ref p) (mz H p (.tup (xs++c))))
theorem Vals.nil_iff (r:Vals xs us):us=[]↔xs=[]:=by
 cases r with
 | nil=>simp
 | cons _ _=>simp
theorem kx:mO X (binaryOp .Add) (F4 X.K):=by
 intro f s F H x y v u Q I i C h;obtain⟨a,b,xs,D,rfl,rfl,j,B,r,hz,l,p⟩:=h;cases i;cases C;obtain⟨o,d,k,_⟩:=I.tuple j;obtain⟨g,c,p2,_⟩:=I.tuple B;refine HT.cat_tup k p2 (λz=>r (d.nil_iff.mp z)) (λz=>⟨.ref a,H,I,rfl,l (c.nil_iff.mp z)⟩) (λz=> ?_) (by rw[← d.length,← c.length];exact hz)
 refine⟨.ref _,_,I.laid (λb ob q=>ab _ q) (am _) ?_,rfl,p (λw=>z (c.nil_iff.mpr w)) _ (I.hok.fresh (am _))⟩;exact⟨by rw[az];exact hz,_,d.append c,ITN.new _ _⟩
end
end L2
namespace L2
open PySem PySem.Spec PyProof.Rows
noncomputable def oD (n:Nat)(i:Int):Option Nat:=if 0<=i then (if i < n then some i.toNat else none) else if -(n:Int)<=i then some (i+n).toNat else none
def nw {a:Type}(xs:List a)(i:Int):Option a:=(oD xs.length i).bind λj=>xs[j]?
theorem ky (h:oD n i=some j):seqIndex? i n=some j/\j < n/\ -(n:Int)<=i/\i < n:=by
 unfold oD at h
 by_cases c:0<=i
 ·rw[if_pos c]at h
  by_cases a:i < n
  ·rw[if_pos a]at h;have e:=aH h;exact⟨by rw[seqIndex_of c a,e],by omega,by omega,a⟩
  ·rw[if_neg a]at h;cases h
 ·rw[if_neg c]at h
  by_cases a: -(n)<=i
  ·rw[if_pos a]at h;have e:=aH h;exact⟨by rw[seqIndex_neg (by omega) a,e],by omega,a,by omega⟩
  ·rw[if_neg a]at h;cases h
theorem uS {a:Type}{xs:List a}{v:a}(h:nw xs i=some v):∃j,seqIndex? i xs.length=some j/\xs[j]? =some v/\j < xs.length/\ -(xs.length:Int)<=i/\i < xs.length:=by
 unfold nw at h;cases e:oD _ i with
 | none=>rw[e]at h;cases h
 | some j=>
  rw[e]at h;obtain⟨d,c,f,g⟩:=ky e;exact⟨j,d,h,c,f,g⟩
theorem Zv {a:Type}{xs:List a}{j:Nat}{v:a}(h:xs[j]? =some v):nw xs (j:Int)=some v:=by
 have c:=(ay.mp h).1;have e:oD xs.length (j)=some j:=by
  unfold oD;rw[if_pos (by omega),if_pos (by omega)];simp
 unfold nw;rw[e];exact h
noncomputable def Yy (b:Expr):Prop:=∀o i,subscripted b false o i=operate [o,i] (getItem o i)
def IxR (X:Cx)(r:R2):Prop:=
 ∀(d a:Expr) (c:List (Addr×Obj)) (s:Shared) (e:St) (H:Hp) (x y:V) (v u:Value) (Q:VK),Inv X c e H s->RelV x v->RelV y u->r x y H Q->
  subscripted a false v u=operate [v,u] (getItem v u)->wpAny (model X.prog X.w) X.A (subscriptTail d a v u) (EP X c e Q) X.xe s
def pC (X:Cx)(id:String)(r:V->List V->Hp->VK->Prop):Prop:=
 ∀(a:List (Addr×Obj)) (s:Shared) (d:St) (H:Hp) (x:V) (xs:List V) (v:Value) (c:List Value) (Q:VK),Inv X a d H s->RelV x v->Vals xs c->r x xs H Q->
  wpAny (model X.prog X.w) X.A (call (.builtin id) (v :: c)) (EP X a d Q) X.xe s
section
variable {X:Cx}{a b:Expr}{ta tb:TE}{pos:Pos}
theorem IxR.or (h:IxR X r)(h' :IxR X r'):IxR X (λx y H Q=>r x y H Q\/r' x y H Q):=by
 intro c d g s i H x y v u Q I e j q f;rcases q with q | q
 ·exact h _ _ _ s i H x y v u Q I e j q f
 ·exact h' _ _ _ s i H x y v u Q I e j q f
theorem GJ (hr:IxR X r)(g:PE X a ta)(j:PE X b tb)(f:Yy b):PE X (.Subscript a b pos) (Am r ta tb):=by
 intro c s k H Q I h;exact Subscript_ (CM g j I h λv u l x y i e d o q=>hr a b _ l k i x y v u Q e d o q (f _ _))
def si (K:ai):R2:=λx y H Q=>∃p xs i v,x= .ref p/\y= .int i/\SqL K H p xs/\nw xs i=some v/\Q v H
def sU (K:ai):R2:=λx y H Q=>∃p xs i v,x= .ref p/\y= .int i/\SqT K H p xs/\nw xs i=some v/\Q v H
def re:R2:=λx y H Q=>∃z i c,x= .str z/\y= .int i/\z.length<=sizeLine/\nw z.cps.toList i=some c/\Q (.str ⟨#[c]⟩) H
theorem kz:IxR X (si X.K):=by
 intro f g B s O H x y v u Q I G U h o;obtain⟨p,xs,i,z,rfl,rfl,M,N,q⟩:=h;cases G;obtain⟨t,rfl⟩:=U;obtain⟨k,r,pl,hz⟩:=I.list M;obtain⟨j,d,P,Z,J,S⟩:=uS N;obtain⟨w,D,e⟩:=r.get P;have F:=r.length;have hn:=WW;have c:EP X _ O Q w s:=⟨z,H,I,e,q⟩
 by_cases C:0<=i
 ·have l:=by
   rw[seqIndex_of C S]at d;exact aH d
  exact item_listR pl.isList C (by omega) (by rw[l];simpa using D) c o
 ·have l:(i+(k.toArray.size)).toNat=j:=by
   rw[seqIndex_neg (by omega) J]at d
   rw[aD,← F];exact aH d
  exact subscriptTail_builtinR pl.isList.typeIs slot_list_getitem.lookup
   (wpAny_getItem_list_neg pl.isList (by omega) (by rw[aD] <;> omega) (by omega) (by rw[l];simpa using D) ⟨rfl,c⟩) o
theorem GK:IxR X (sU X.K):=by
 intro d e g s D H x y v u Q I l N h o;obtain⟨p,xs,i,z,rfl,rfl,B,C,q⟩:=h;cases l;obtain⟨t,rfl⟩:=N;obtain⟨J,r,pl,hz⟩:=I.tuple B;obtain⟨j,M,F,P,O,S⟩:=uS C;obtain⟨w,G,c⟩:=r.get F;have k:=r.length;have hn:=WW;have f:EP X _ D Q w s:=⟨z,H,I,c,q⟩;exact subscriptTail_builtinR pl.typeIs slot_tuple_getitem.lookup
  (getItem_tuple pl (by omega) (by omega) (by rw[aD,← k];exact M) (by simpa using G) ⟨rfl,f⟩) o
theorem GL:IxR X re:=by
 intro d e f s G H x y v u Q I o F h p;obtain⟨z,i,c,rfl,rfl,hz,w,q⟩:=h;obtain⟨t,rfl⟩:=o;obtain⟨t',rfl⟩:=F;obtain⟨j,g,B,J,r,D⟩:=uS w;have k:z.cps.toList.length=z.length:=by simp[Str.length]
 rw[k]at g r D;have hn:=WW;exact tail_any (typeIs_str s z t) slot_str_getitem.lookup (getItem_str (by
  have l:decide (i < -(2 ^ 63))=false:=decide_eq_false (by omega)
  have C:decide (i ≥ 2 ^ 63)=false:=decide_eq_false (by omega)
  rw[l,C,Bool.or_false]) (by rw[g];simpa using B) ⟨.str _,H,I.tok _,⟨_,rfl⟩,q⟩) p
def EG (K:ai):R2:=λx y H Q=>si K x y H Q\/sU K x y H Q\/re x y H Q
theorem GM:IxR X (EG X.K):=kz.or (GK.or GL)
theorem u6 (lo hi:Option Int)(n:Nat):(sliceBounds lo hi none n).1=((HT.sIx n 0 lo:Nat):Int)/\(sliceBounds lo hi none n).2.1=((HT.sIx n n hi:Nat):Int)/\(sliceBounds lo hi none n).2.2=1:=by
 refine⟨?_, ?_,rfl⟩
 ·cases lo with
  | none=>simp[sliceBounds,HT.sIx]
  | some i=>
   simp only[sliceBounds,HT.sIx,m3,show (1) > 0 by decide,if_true]
   by_cases h:i < 0
   ·simp only[h,if_true] <;> omega
   ·simp only[h,if_false] <;> omega
 ·cases hi with
  | none=>simp[sliceBounds,HT.sIx]
  | some i=>
   simp only[sliceBounds,HT.sIx,m3,show (1) > 0 by decide,if_true]
   by_cases h:i < 0
   ·simp only[h,if_true] <;> omega
   ·simp only[h,if_false] <;> omega
theorem W8 (c:List Value)(lo hi:Option Int):slicePick c.toArray lo hi none=((c.drop (HT.sIx c.length 0 lo)).take (HT.sIx c.length c.length hi - HT.sIx c.length 0 lo)).toArray:=by
 obtain⟨e,f,d⟩:=u6 lo hi _;unfold slicePick;rw[e,f,d];simp only[sliceRange_one,pick_run,aD] <;> rfl
def BE (K:ai):V->Option Int->Option Int->Hp->VK->Prop:=λx lo hi H Q=>∃a xs,x= .ref a/\SqL K H a xs/\∀p,H p=none->Q (.ref p) (mz H p (.lst (G6 xs lo hi)))
theorem kA:SlR X (BE X.K):=by
 intro d s p H x v vl l lo hi o Q I f i pl g h;obtain⟨a,xs,rfl,k,q⟩:=h;cases f;obtain⟨j,r,e,hz⟩:=I.list k;have c:=r.length;refine⟨"list",_,slot_list_getitem.lookup,e.isList.typeIs, ?_⟩;refine wpAny_getItem_list_slice e.isList i pl g .none (by simp) ?_ (by rw[aD] <;> omega)
 rw[W8,← c];refine⟨.ref _,_,I.laid (λb ob q=>ab _ q) (am _) ?_,rfl,q _ (I.hok.fresh (am _))⟩;exact⟨av (JP xs lo hi) hz,_,0,(r.drop _).take _,af _ rfl⟩
theorem u7:Z7 X (.builtin "len") (λxs H Q=>∃p e,xs=[.ref p]/\(SqL X.K H p e\/SqT X.K H p e)/\Q (.int e.length) H):=by
 intro i s l H xs k Q I r h;obtain⟨p,e,rfl,d,q⟩:=h;obtain⟨u,rfl,j⟩:=Zn r;cases j;have hn:=WW;rcases d with d | d
 ·obtain⟨f,g,pl,hz⟩:=I.list d;have c:=g.length;exact Calls.call_len_list pl.isList (by simp only[aD] <;> omega) ⟨.int _,H,I.tok _,⟨s.toks+1,by rw[aD,c]⟩,q⟩
 ·obtain⟨f,g,pl,hz⟩:=I.tuple d;have c:=g.length;exact len_tuple pl (by simp only[aD] <;> omega) ⟨.int _,H,I.tok _,⟨s.toks+1,by rw[aD,c]⟩,q⟩
theorem u8:Z7 X (.builtin "len") (λxs H Q=>∃z,xs=[.str z]/\z.length<=sizeLine/\Q (.int z.length) H):=by
 intro c s e H xs d Q I r h;obtain⟨z,rfl,hz,q⟩:=h;obtain⟨u,rfl,t,rfl⟩:=Zn r;have hn:=WW;exact len_str (by omega) ⟨.int _,H,I.tok _,⟨_,rfl⟩,q⟩
theorem Z7.or {r c :List V->Hp->VK->Prop}(h:Z7 X f r)(h' :Z7 X f c):Z7 X f (λxs H Q=>r xs H Q\/c xs H Q):=by
 intro e s g H xs d Q I rs q;rcases q with q | q
 ·exact h _ s g H xs d Q I rs q
 ·exact h' _ s g H xs d Q I rs q
theorem W9:Z7 X (.type "tuple") (λxs H Q=>∃p c,xs=[.ref p]/\((SqL X.K H p c/\∀l,H l=none->Q (.ref l) (mz H l (.tup c)))\/(SqT X.K H p c/\Q (.ref p) H))):=by
 intro j s k H xs B Q I r h;obtain⟨p,c,rfl,h⟩:=h;obtain⟨u,rfl,x⟩:=Zn r;cases x;rcases h with ⟨f,q⟩ | ⟨f,q⟩
 ·obtain⟨d,g,pl,hz⟩:=I.list f;have i:=g.length;refine call_tuple_list pl.isList (λh' kp=> ?_) (by simp only[aD] <;> omega)
  have v:Inv X _ k H { s with heap:=h' }:=I.kept kp;have y:Inv X _ k (mz H _ (.tup c)) { s with heap:=h'.push _ }:=
   v.laid (λb o e=>ab _ e) (am _) (show zQ _ X.w _ _ _ _ from ⟨hz,d,g,ITN.new _ _⟩)
  exact⟨.ref _,_,y,rfl,q _ (v.hok.fresh (am _))⟩
 ·obtain⟨d,g,pl,hz⟩:=I.tuple f;exact call_tuple_same pl ⟨.ref p,H,I,rfl,q⟩
def BS (K:ai)(T:String)(x:V)(H:Hp):Prop:=match x with
 | .str _=>T="str"
 | .int _=>T="int"
 | .ref p=>(T="list"/\∃xs,SqL K H p xs)\/(T="tuple"/\∃o,K.lookup p=some o/\o.cls= .type "tuple"/\o.dict=none)\/
   (T="dict"/\((∃kvs,H p=some (.dK kvs))\/∃kvs,H p=some (.dT kvs)))\/(T="set"/\∃S n,H p=some (.set S n))
 | _=>False
theorem xT (I:Inv X pins σ H s)(r:RelV x v)(f:BS X.K T x H):
  s.TypeIs v T/\∀a,v= .ref a->∃ob,s.heap.get? a=some ob/\ob.dict=none:=by
 cases x with
 | str z=>
  obtain⟨t,rfl⟩:=r;cases (f);exact⟨typeIs_str s z t,λ_ e=>nomatch e⟩
 | int i=>
  obtain⟨t,rfl⟩:=r;cases (f);exact⟨typeIs_int s i t,λ_ e=>nomatch e⟩
 | ref p=>
  cases r;rcases f with ⟨rfl,xs,l⟩ | ⟨rfl,o,d,j,hd⟩ | ⟨rfl,d⟩ | ⟨rfl,S,n,d⟩
  ·obtain⟨k,_,pl,_⟩:=I.list l;refine⟨pl.isList.typeIs,λa e=> ?_⟩;cases e;obtain⟨o,n,e,c,hd,_⟩:=pl;exact⟨o,e,hd⟩
  ·refine⟨⟨o,I.kIn p o d,j⟩,λa e=> ?_⟩;cases e;exact⟨o,I.kIn _ o d,hd⟩
  ·have z:∃o,s.heap.get? p=some o/\o.ExactDict:=by
    rcases d with ⟨kvs,d⟩ | ⟨kvs,d⟩
    ·obtain⟨_,_,_,_,o,_,_,e,ex,_⟩:=I.hok p _ d;exact⟨o,e,ex⟩
    ·obtain⟨_,_,_,_,o,_,_,e,ex,_⟩:=I.hok p _ d;exact⟨o,e,ex⟩
   obtain⟨o,e,ex⟩:=z;refine⟨⟨o,e,ex.1⟩,λa g=> ?_⟩;cases g;exact⟨o,e,ex.2.1⟩
  ·obtain⟨o,_,_,_,e,ex,_⟩:=I.hok p _ d;refine⟨⟨o,e,ex.1⟩,λa g=> ?_⟩;cases g;exact⟨o,e,ex.2.1⟩
 | _=>exact cq f
def DJ (K:ai)(T:String)(r:V->List V->Hp->VK->Prop)(d:TE):TE:=λe H Q=>d e H λx c=>BS K T x c/\r x [] c Q
def Lk (K:ai)(T:String)(r:V->List V->Hp->VK->Prop)(f:TE)(t:TA):TE:=λc H Q=>f c H λx d=>BS K T x d/\t c d λxs e=>r x xs e Q
variable {o e:Expr}{es:List Expr}{to:TE}{t:TA}{name:Str}{apos cpos:Pos}{T id:String}{r:V->List V->Hp->VK->Prop}
theorem xU (u:PlainAttrs T)(f:Slot T name id)(g:typeOf (.builtin id)=pure (.type "method_descriptor"))(y:pC X id r)(w:PE X o to)
  (c:attributeBase o name X.env (eval o X.env)=eval o X.env:=by rfl) (d:(apos.endLine == cpos.line)=true:=by rfl):PE X (.Call (.Attribute o name apos) [] [] cpos) (DJ X.K T r to):=by
 intro i s j H Q I h;refine wpAny_Call_method0_late c d (mH (w _ s j H _ I h) λv B ⟨x,F,k,l,D,C⟩=> ?_);obtain⟨q,p⟩:=xT k l D;exact⟨T,id,u,f,g,q,p,eQ rfl (l8 (y _ B j F x [] v [] Q k l .nil C))⟩
theorem yB (S:PlainAttrs T)(i:Slot T name id)(j:typeOf (.builtin id)=pure (.type "method_descriptor"))(C:pC X id r)(U:PE X o to)(y:PA X (e :: es) t)
  (d:attributeBase o name X.env (eval o X.env)=eval o X.env:=by rfl)
  (g:((backTo cpos (starEach (e :: es) X.env)).all (λx=> !x.1) && (backToKw cpos (keywordEach [] X.env)).all (λx=>x.1.isSome)
   && decide ((e :: es).length+([]:List Keyword).length+(if ([]:List Keyword).isEmpty then 0 else 1) < 30))=true:=by rfl)
  (f:(apos.endLine == cpos.line)=true:=by rfl) (w:starEach (e :: es) X.env=(false,eval e X.env) :: starEach es X.env:=by rfl) (c:(backTo cpos (starEach es X.env)).any (·.1)=false:=by rfl):
  PE X (.Call (.Attribute o name apos) (e :: es) [] cpos) (Lk X.K T r to t):=by
 intro p s k H Q I h;refine wpAny_Call_method_late d g f rfl (mH (U _ s k H _ I h) λv s1 ⟨x,J,u,q,G,F⟩=> ?_);obtain⟨P,M⟩:=xT u q G;refine⟨T,id,S,i,j,P,M, ?_⟩;have l:=y cpos _ s1 k J _ u F;rw[w]at l ⊢;refine eQ (by show (false || (backTo _ _).any _)=false;rw[c] <;> rfl) (Calls.evalArgs_plain ?_)
 exact mH l λO s2 ⟨vs,D,N,B,Z⟩=>C _ s2 k D x vs v O Q N q B Z
end
end L2
namespace L2
open PySem PySem.Spec PyProof.Rows
def D5 (X:Cx)(id:String)(r:V->List V->Hp->VK->Prop):Prop:=
 ∀(a:List (Addr×Obj)) (s:Shared) (d:St) (H:Hp) (x:V) (xs:List V) (v:Value) (c:List Value) (Q:VK),Inv X a d H s->RelV x v->Vals xs c->r x xs H Q->
  wpAny (model X.prog X.w) X.A (call (.builtin id) (v :: c)) (EP X a d Q) X.xe s
theorem Vals.one:∀{x:V} {a:List Value},Vals [x] a->∃u,a=[u]/\RelV x u
 | _,_,.cons r .nil=>⟨_,rfl,r⟩
theorem Vals.rep (h:Vals xs us):∀k:Nat,Vals (ag k xs).flatten (ag k us).flatten
 | 0=> .nil
 | k+1=>by
  exact Vals.append h (Vals.rep h k)
theorem jS (a:List Value):∀(k:Nat) (acc:List Value),
  hU (λd c=>d++c) acc.toArray (ag k a.toArray)=(acc++(ag k a).flatten).toArray
 | 0,acc=>by simp
 | k+1,acc=>by
  have e:acc.toArray++a.toArray=(acc++a).toArray:=by simp
  have f:(acc++a)++(ag k a).flatten=acc++(ag (k+1) a).flatten:=by
   rw[bv,i7,bi]
  rw[← f,← jS a k _,← e,bv,List.foldl_cons]
section
theorem Inv.lset {c a :List Value}{n:Nat}{f:Array Value->Array Value}{t' :Nat}(I:Inv X pins σ H s)(j:H l=some (.lst xs))
  (e:s.heap.get? l=some { cls:= .type "list",data:= .seq c.toArray n }) (i:f c.toArray=a.toArray) (d:Vals ys a) (hz:ys.length<=sizeLine):
  Inv X pins σ (mz H l (.lst ys)) { s with heap:=s.heap.update l (cW f),toks:=t' }:=by
 have q:=PySem.IsL.update e f;rw[i]at q;refine I.write (by rw[j];exact trivial) (.inl rfl) (λo u k g=>(bZ _ _ (bj k)).trans g) ⟨_,q⟩ ?_
 exact⟨hz,a,_,d,q⟩
theorem Inv.lnew (I:Inv X pins σ H s)(a:Vals ys its)(hz:ys.length<=sizeLine):
  Inv X pins σ (mz H s.heap.objs.size (.lst ys)) { s with heap:=s.heap.push { cls:= .type "list",data:= .seq its.toArray },toks:=t' }:=
 I.laid (λ_ _ q=>ab _ q) (am _) ⟨hz,its,0,a,af _ rfl⟩
theorem Inv.fresh (I:Inv X pins σ H s):H s.heap.objs.size=none:=I.hok.fresh (am _)
theorem Inv.lstM (I:Inv X pins σ H s)(c:H l=some (.lst xs)):xs.length<=sizeLine/\∃(a:List Value) (n:Nat),Vals xs a/\xs.length=a.length/\s.heap.get? l=some { cls:= .type "list",data:= .seq a.toArray n }:=by
 obtain⟨z,a,n,r,e⟩:=I.hok l _ c;exact⟨z,a,n,r,r.length,e⟩
theorem Um (h:n<=sizeLine):eC n=false:=by
 exact decide_eq_false (by omega)
end
section
variable {X:Cx}
def kB:V->List V->Hp->VK->Prop:=λx vs H Q=>∃l xs y,x= .ref l/\vs=[y]/\H l=some (.lst xs)/\xs.length < sizeLine/\Q .non (mz H l (.lst (xs++[y])))
theorem JQ:D5 X "list.append" kB:=by
 intro a s o H x vs v k Q I f d h;obtain⟨l,xs,y,rfl,rfl,c,hz,q⟩:=h;cases f;obtain⟨u,rfl,i⟩:=d.one;obtain⟨z,g,n,r,j,e⟩:=I.lstM c;refine fv F.slot_list_append ⟨_,e,rfl⟩ F.entry_list_append (F.args_list_append_2 _ _) (PySem.list_append l _ n u (by rw[aD];omega)) ⟨e, ?_⟩
 refine⟨.non,_,I.lset c e (by simp) (r.append (.cons i .nil)) ?_,rfl,q⟩
 rw[az,aK];omega
def kC:V->List V->Hp->VK->Prop:=λx vs H Q=>∃l b xs a,x= .ref l/\vs=[.ref b]/\H l=some (.lst xs)/\H b=some (.lst a)/\xs.length+a.length<=sizeLine/\Q .non (mz H l (.lst (xs++a)))
theorem Yz:D5 X "list.extend" kC:=by
 intro f s G H x vs v J Q I i w h;obtain⟨l,b,xs,D,rfl,rfl,g,o,hz,q⟩:=h;cases i;obtain⟨u,rfl,y⟩:=w.one;cases y;obtain⟨z,d,n,r,C,e⟩:=I.lstM g;obtain⟨M,a,j,k,p,B⟩:=I.lstM o;have hsz:d.toArray.size+a.toArray.size<=sizeLine:=by rw[aD,aD];omega
 have c:¬ (!d.toArray.isEmpty && eC (d.toArray.size+a.toArray.size))=true:=by
  rw[Um hsz,Bool.and_false];exact ax
 refine fv F.slot_list_extend ⟨_,e,rfl⟩ F.entry_list_extend (F.args_list_extend_2 _ _)
  (AutoSeq1.list_extend_list_list_0 l _ n b _ j c (by omega) (by omega)) ⟨e,B, ?_⟩
 refine⟨.non,_,I.lset g e (by simp) (r.append k) ?_,rfl,q⟩
 rw[az];omega
def CG:R2:=λx y H Q=>∃l b xs a,x= .ref l/\y= .ref b/\H l=some (.lst xs)/\H b=some (.lst a)/\xs.length+a.length<=sizeLine/\∀p,H p=none->Q (.ref p) (mz H p (.lst (xs++a)))
theorem GN:mO X (binaryOp .Add) CG:=by
 intro d s F H x y v u Q I f w h;obtain⟨l,b,xs,C,rfl,rfl,k,i,hz,q⟩:=h;cases f;cases w;obtain⟨z,c,n,r,B,e⟩:=I.lstM k;obtain⟨G,a,D,g,j,o⟩:=I.lstM i;refine PySem.P.add_list e o ?_ (by rw[aD,aD];omega)
 have p:c.toArray++a.toArray=(c++a).toArray:=by simp
 rw[p];exact⟨.ref _,_,I.lnew (r.append g) (by rw[az];omega),rfl,q _ I.fresh⟩
def BL:R2:=λx y H Q=>∃l k xs,x= .ref l/\y= .int k/\H l=some (.lst xs)/\ -(2 ^ 63)<=k/\k < 2 ^ 63/\xs.length*k.toNat<=sizeLine/\
 ∀p,H p=none->Q (.ref p) (mz H p (.lst (ag k.toNat xs).flatten))
theorem Jc {c:Type}(xs:List c)(k:Nat):(ag k xs).flatten.length=k*xs.length:=by
 induction k with
 | zero=>simp
 | succ k a=>rw[bv,i7,az,a,fX,dU]
theorem GO:mO X (binaryOp .Mult) BL:=by
 intro w s P H x y v u Q I C O h;obtain⟨l,k,xs,rfl,rfl,J,G,D,hz,q⟩:=h;cases C;obtain⟨t,rfl⟩:=O;obtain⟨z,c,n,r,B,e⟩:=I.lstM J;have f:c.toArray.size*k.toNat<=sizeLine:=by rw[aD,← B];exact hz
 have j:¬ c.toArray.size*k.toNat > (2 ^ 63 - 1) / 8:=by
  have:(sizeLine)<=(2 ^ 63 - 1) / 8:=by decide
  omega
 have i:¬ (!Builtin.List.listFitsIndex k)=true:=by
  rw[fitsIndex_both G D];exact ax
 have d:¬ eC (c.toArray.size*k.toNat)=true:=by
  rw[Um f];exact ax
 have g:hU (λp o=>p++o) #[] (ag (if c.toArray.isEmpty=true then 0 else k.toNat) c.toArray)=(ag k.toNat c).flatten.toArray:=by
  have M:∀m,hU (λp o=>p++o) #[] _=(ag m c).flatten.toArray:=λm=>by
   have:=jS c m [];exact this
  rw[M];cases c with
  | nil=>simp
  | cons a S =>rw[if_neg (by simp)]
 refine wpAny_binaryOp_repeat_ref (by decide) ⟨_,e,rfl⟩ (λN =>typeIs_int N k t) noFill_list_mul mi fQ repeat_list m4.lookup
  (fv fQ (typeIs_int s k t) m5 (lJ _ _) (int___rmul___int_list k t l _ n)
   ⟨e,rfl,⟨_,e,rfl⟩,fv F.slot_list_mul ⟨_,e,rfl⟩ F.entry_list_mul (F.args_list_mul_2 _ _) (AutoListH.list___mul___list_int_3 l _ n k t i j d) ⟨e, ?_⟩⟩)
 rw[g];exact⟨.ref _,_,I.lnew (r.rep _) (by rw[Jc,dm];exact hz),rfl,q _ I.fresh⟩
end
section
end
section
end
end L2
namespace Att
open PySem PySem.W PySem.Calls PyProof.Rows
theorem JR {P:Params}:∀(c:List Int) (vs:List Value),WellAll P h vs (c.map WData.int)->IntsAre vs c:=by
 intro c
 induction c with
 | nil=>
  intro vs w;cases w;exact .nil
 | cons n c d=>
  intro vs w;cases w with
  | cons a b=>
   cases a;exact .cons _ _ (d _ b)
theorem YA {l:OpenLaw}(hn:l.most=some n){P:Params}{args:List WData}
  (c:l.row.toRowW.claim.pre args=true) (k:WellAll P h vals args):
  ∃a vs e,vals=[Value.ref a]/\args=[WData.list (e.map WData.int)]/\h.get? a=some { cls:= .type "list",data:= .seq vs.toArray }/\IntsAre vs e/\e.length<=n:=by
 have o:=(pre_splitW c).1;have u:=(pre_splitW c).2;obtain⟨d,r,rfl,v,p⟩:=hasAllW_cons o;obtain rfl:=hasAllW_nil p;obtain⟨xs,rfl,w⟩:=hasW_list v;obtain⟨e,rfl⟩:=items_int w;have f:e.length<=n:=by
  have i:=by
   have i:=(holds_andW u).1;rw[hn]at i;exact i
  have j:=condW_of i (w_not (w_lt w_lit (w_len_list (w_arg rfl))));rw[ae]at j;refine Nat.le_of_not_lt λq=> ?_;have y :(n) < ((e.length):Int):=by omega
  first
   | (rw[decide_eq_true y]at j;exact absurd j (by decide))
   | (simp at j)
 cases k with
 | cons w1 w2=>
  cases w2;cases w1 with
  | list x g=>exact⟨_,_,e,rfl,rfl,x,JR e _ g,f⟩
theorem YB (l:OpenLaw)(args:List WData):l.row.toRowW.claim.post args (.bool true) args=true:=
 postW_of
  (show WShape.has [] _ _=true by first | rfl | decide | simp[WShape.has,WShape.arms,WShape.armsAll])
  (show (WTm.eq _ _).value [] _=some _ from w_eq_bool (w_res rfl) w_lit) rfl
theorem attach_call {l:OpenLaw}{XP:(Str->Option Value)->Heap->Prop}{O:World->Heap->Prop}{d:DefRec}
  (hn:l.most=some n) (y:d.params.defaults=[])
  (call:∀(w:World) (s₀ c:Shared) (v F:Str->Option Value) (p:Addr) (o:Obj) (B cd g:Value) (a:Addr) (vs:List Value) (u:List Int),
   Ground q loose [] XP w s₀ v F c.heap->O w c.heap->
   c.heap.get? p=some o->o.data= .func (docDef d.name d.params d.body d.scope B cd g)->c.heap.CodeRec cd d.name->v d.name=some (.ref p)->
   c.heap.get? a=some { cls:= .type "list",data:= .seq vs.toArray }->IntsAre vs u->u.length<=n->c.gens= #[]->
   codeAny (model l.prog w) callerA (.call (.ref p) ⟨[.ref a],[]⟩) (λr x =>r= .ok (.ret (.bool true))/\OldK c.heap x.heap/\x.os=c.os/\AllBare x.gens) c):
  WalkO q loose XP O l.row.toRowW d [] (λf vs=>mr f vs):=by
 intro w s₀ c v F G Y p o B cd g dV kV ho hd I J D hg args N as j M hrd C U;obtain rfl:dV= .none:=Dflts.none J y;obtain rfl:kV= .none:=Dflts.noKw J;obtain⟨a,vs,u,rfl,rfl,k,e,i⟩:=YA hn j C;refine enter_call (eN (call w _ _ v F p o B cd g a vs u G Y ho (fd_plain hd) I D k e i hg) λr x S=> ?_);obtain⟨rfl,X,Z,Q⟩:=S;exact⟨.inl ⟨.bool _,.bool _,[],rfl,λ_=>rfl,.bool _,YB l _,λ_=>⟨List.Pairwise.nil,λ_ P=>(nomatch P)⟩⟩,X,Z,Q⟩
end Att
namespace L2
open PySem PySem.Spec PyProof.Rows
theorem jT:∀{vs:List Value} {a:List Int},IntsAre vs a->Vals (a.map V.int) vs
 | _,_,.nil=> .nil
 | _,_,.cons n t h=> .cons ⟨t,rfl⟩ (jT h)
end L2
namespace L2
open PySem PySem.Spec PyProof.Rows
end L2
namespace L2
open PySem PySem.Spec PyProof.Rows
noncomputable def jc (s:Stmt):Arguments:=match s with
 | .FunctionDef _ a _ _ _ _ _ _ _ _=>a
 | _=>{ posonlyargs:=[],args:=[],vararg:=none,kwonlyargs:=[],kw_defaults:=[],kwarg:=none,defaults:=[] }
noncomputable def Z1 (s:Stmt):List Stmt:=match s with
 | .FunctionDef _ _ b _ _ _ _ _ _ _=>b
 | _=>[]
noncomputable def zf (s:Stmt):Scope:=match s with
 | .FunctionDef _ _ _ _ _ _ a _ _ _=>a
 | _=>{ kind:= .function,names:=[],isGenerator:=false,isCoroutine:=false }
abbrev mT:nX:=λ_ _ _ _ _ _=>False
structure Fun (K:ai) (x qual:Str) (st:Stmt) (f:Addr) (fd:FuncData):Prop where
 ex:∃(oc:Value) (od:Option Addr) (kV doc pm:Value) (an:Option Addr) (cdv ct:Value) (osl:Array (Option Value)),
  fd=cx x qual (jc st) (Z1 st) (zf st) .none kV doc pm an cdv ct/\K.lookup f=some ⟨oc,od,.func fd,osl⟩/\h9 K cdv qual=true
 kp:d0 K (.ref f)=true
section
variable {P:Program}{w:World}{K:ai}{mg:Str->Option Value}{base:Heap}
theorem Fun.ok {x a:Str}{st:Stmt}{f:Addr}{i:FuncData}{N e:List Str}{k:Nat}{sp:Sp}(F:Fun K x a st f i)(S:jJ N e (zf st))(len:∀vs H Q E,sp vs H Q E->vs.length=e.length)
  (c:∀(cdv:Value) (A:Around) (outer:List Env) (s:Shared) (H:Hp) (vs:List V) (Q:VK) (E:XK),ja k (A.deeper (envOfC a (zf st) s.heap.objs.size f cdv))->sp vs H Q E->
   ∃t,PSs (jC mT P w K mg base N a (zf st) f cdv A outer s H E).nox (Z1 st) t/\t { nx:=λ_ l =>Q .non l,rt:=Q } (start N vs) H):wD P w K mg base mT (k+1) f i e sp:=by
 obtain⟨p,v,kV,j,r,u,cdv,ct,o,rfl,lk,g⟩:=F.ex;refine kl lk g S len λA outer s H vs Q E hr d=> ?_;obtain⟨t,h,q⟩:=c cdv A _ s H vs Q E hr d;exact⟨t,h.nox,q⟩
theorem Fun.binds {x a:Str}{st:Stmt}{f:Addr}{j:FuncData}{i:List Str}(F:Fun K x a st f j)
  (h:∀(kV c g:Value) (d:Option Addr) (cdv ct:Value) (e:List Value),e.length=i.length->bindArgs (cx x a (jc st) (Z1 st) (zf st) .none kV c g d cdv ct) ⟨e,[]⟩=pure (i.zip e)):Binds K j i []:=by
 obtain⟨o,p,kV,c,g,d,cdv,ct,l,rfl,lk,k⟩:=F.ex;exact .all (h kV c g d cdv ct)
theorem GP {x a:Str}{st:Stmt}{f:Addr}{j:Value}{o g:Option Addr}{e:Array (Option Value)}{kV d i cdv ct:Value}(l:K.lookup f=some ⟨j,o,.func (cx x a (jc st) (Z1 st) (zf st) .none kV d i g cdv ct),e⟩)
  (c:h9 K cdv a=true) (k:d0 K (.ref f)=true):Fun K x a st f (cx x a (jc st) (Z1 st) (zf st) .none kV d i g cdv ct):=⟨⟨j,o,kV,d,i,g,cdv,ct,e,rfl,l,c⟩,k⟩
end
section
theorem pv (i:Nat)(d:X.N[i]? =some x:=by rfl)(c:pU X.env.scope x:=by first | exact Or.inl rfl | exact Or.inr (Or.inl rfl) | exact Or.inr (Or.inr rfl))(hd:(x == ("__debug__":Str))=false:=by decide)
  (a:(x == ("__classdict__":Str))=false:=by decide):PE X (.Name x pos) (W6 i):=Jn d c hd a
end
def zo (H a :Hp):Prop:=∀b o,H b=some o->a b=some o
theorem zo.refl (H:Hp):zo H H:=λ_ _ h=>h
theorem zo.trans (a:zo H H1)(b:zo H1 H2):zo H H2:=λc o h=>b c o (a c o h)
theorem zo.free (e:zo H H')(h:H' l=Option.none):H l=Option.none:=by
 cases q:H l with
 | none=>rfl
 | some o=>
  rw[e l o q]at h;cases h
end L2
namespace L2
open PySem PySem.Spec PyProof.Rows PySem.W
theorem Uo (h:env.frame=some L):ng (env :: outer)=L :: ng outer:=by
 unfold ng;rw[dZ,h]
structure z2f (P:Program) (w:World) (outer:List Env) (H:Hp) (s s' :Shared) (ea:Addr) (cls a0:Value) (B:Heap) (H' :Hp):Prop where
 os:s'.os=s.os
 bare:AllBare s'.gens
 fly:Heap.FlyingW B outer ea cls a0 s'.heap
 hok:HOk P w H' B
 un:Un (ng outer) [] H H' s.heap s'.heap
 inB:∀b o,s.heap.get? b=some o->b ∉ ng outer->(H b=none->B.get? b=some o)/\∃o',B.get? b=some o'
def nc (P:Program)(w:World):nX:=λouter H s E e d =>∃c cls f B a,e= .ref c/\z2f P w outer H s d c cls f B a /\E cls none a
section
variable {X:Cx}{pins:List (Addr×Obj)}{σ:St}{H H' :Hp}{s s' :Shared}{ea:Addr}{cls a0:Value}{B:Heap}{h' h'' :Heap}
theorem Inv.frNf (I:Inv X pins σ H s):∀b∈ng X.stack,H b=none/\∃o,s.heap.get? b=some o/\∀vs,o.data ≠ .fields vs:=λb a=>⟨I.stkFree b a,(I.stack.mem a).2⟩
theorem Inv.old (I:Inv X pins σ H s)(a:X.stack=X.env :: X.outer)(d:X.env.frame=some X.env.locals)(e:X.s₀.heap.get? b=some o)(c:b ∉ ng X.outer):b ∉ ng X.stack:=by
 rw[a,Uo d];intro z;rcases ak.mp z with z | z
 ·exact absurd (aL (au e) I.ok.above) (by rw[z];exact bE _)
 ·exact c z
theorem YC {X:Cx}(a:X.stack=X.env :: X.outer)(d:X.env.frame=some X.env.locals){b:Addr}(c:b∈ng X.outer):b∈ng X.stack:=by
 rw[a,Uo d];exact a9 _ c
theorem z2f.out (I:Inv X pins σ H s)(f:X.stack=X.env :: X.outer)(i:X.env.frame=some X.env.locals)(hex:X.ex=[])(L:z2f X.prog X.w X.stack H s s' ea cls a0 B H')
  (fl:Heap.FlyingW B X.outer ea cls a0 h') (k:s'.heap.UpToSlots h'):z2f X.prog X.w X.outer X.H₀ X.s₀ { s' with heap:=h' } ea cls a0 B H' where
 os:=L.os.trans I.os
 bare:=L.bare
 fly:=fl
 hok:=L.hok
 inB:=λb o e a=>by
  have nx:b ∉ X.ex:=by rw[hex];simp
  obtain⟨j,c⟩:=I.base.there b o e nx;have g :=I.old f i e a;exact⟨λn=>(L.inB b o (I.base.keep b o e n a nx) g).1 (I.base.free b o e n nx),(L.inB b j c g).2⟩
 un:=by
  have nx:∀b,b ∉ X.ex:=λb=>by rw[hex];simp
  have d:∀b o,X.s₀.heap.get? b=some o->X.H₀ b=none->b∈ng X.outer->∃k,h'.get? b=some { o with slots:=k }:=λb o e n a=>by
   obtain⟨l,c⟩:=I.base.slot b o e n a (nx b);have C:=I.base.free b o e n (nx b);obtain⟨F,y⟩:=L.un.slot b _ c C (YC f i a) (by simp)
   obtain⟨_,J,u,x⟩:=I.frNf b (YC f i a);rw[c]at u;cases u;obtain⟨p,D⟩:=k b _ y x;exact⟨p,D⟩
  refine⟨λb o e n a _=> ?_,λb o e n a _=>d b o e n a,λb o e n _=> ?_,λb o e _=> ?_,λb xs e=>L.un.tups b xs (I.base.tups b xs e),λb o xs e=>L.un.frzs b o xs (I.base.frzs b o xs e),λb v q e=>L.un.tbls b v q (I.base.tbls b v q e)⟩
  ·exact fl.1 b o ((L.inB b o (I.base.keep b o e n a (nx b)) (I.old f i e a)).1 (I.base.free b o e n (nx b)))
  ·obtain⟨j,c⟩:=I.base.there b o e (nx b);exact L.un.free b j c (I.base.free b o e n (nx b)) (by simp)
  ·by_cases a:b∈ng X.outer
   ·obtain⟨l,c⟩:=d b o e (I.ok.frf b a) a;exact⟨_,c⟩
   ·obtain⟨j,c⟩:=I.base.there b o e (nx b);obtain⟨r,G⟩:=(L.inB b j c (I.old f i e a)).2;exact⟨r,fl.1 b r G⟩
end
section
variable {P:Program}{w:World}{K:Frag}{mg:Str->Option Value}{base:Heap}{N:List Str}{qual:Str}{scope:Scope}{f:Addr}{cd:Value}{A:Around}{outer:List Env}{s:Shared}{H:Hp}{E:XK}
theorem GQ:jB (nc P w) (jC (nc P w) P w K mg base N qual scope f cd A outer s H E) E:=by
 intro a p o k e l I ⟨j,cls,g,B,d,i,L,hE⟩;subst i;exact wpAny_leaves_onW I.ok.frames rfl L.fly λh' fl c=>⟨j,cls,g,B,d,rfl,L.out I rfl rfl rfl fl c,hE⟩
end
end L2
namespace L2
open PySem PySem.Spec PyProof.Rows PySem.W
noncomputable def CU (cls:Value)(a:Addr)(h:Heap):Prop:=∃o,h.get? a=some o/\o.cls=cls
section
end
end L2
namespace L2
open PySem PySem.Spec PyProof.Rows PySem.W
section
end
end L2
namespace PySem
open PySem.W
section
end
end PySem
namespace L2
open PySem PySem.Spec PyProof.Rows PySem.W
section
def GR (X:Cx)(E:XK):Prop:=∀(d:List (Addr×Obj)) (i:St) (H:Hp) (s:Shared) (e:Value) (f :Shared) (C:Addr) (m:Str->Option Value) (g :Value->Shared->Prop) (a:Env),Inv X d i H s->s.heap.Ns C m->H C=none->X.s₀.heap.objs.size<=C->C ∉ ng X.stack->a.frame=X.env.frame->nc X.prog X.w X.stack H s E e f ->
 wpAny (model X.prog X.w) X.A (noteFrame e a) (λ_ c =>∃m,c.heap.Ns C m/\∀h',bc C c.heap h' ->∀env:Env,env.locals=C->wpAny (model X.prog X.w) X.A (passOn "comprehension.variables-let-go" e env:Sem Value) (λ_ _=>False) X.xe { c with heap:=h' }) g f
theorem ju (h:E=λ_ _ _=>False):GR X E:=λc g H s e f C m d a I _ _ _ _ _ ⟨_,_,_,_,_,_,_,z⟩=>by subst h;exact z.elim
end
end L2
namespace L2
open PySem PySem.Spec PyProof.Rows
theorem PE.imp (h:PE X e t)(i:∀a H Q,t' a H Q->t a H Q):PE X e t' :=λc s a H Q I q=>h _ s a H Q I (i a H Q q)
theorem PT.imp (h:PT X e t)(i:∀a H Q,t' a H Q->t a H Q):PT X e t' :=λc s a H Q I q=>h _ s a H Q I (i a H Q q)
theorem PA.imp (h:PA X e t)(i:∀a H Q,t' a H Q->t a H Q):PA X e t' :=λpos c s a H Q I q=>h pos _ s a H Q I (i a H Q q)
theorem PS.imp (h:PS X e t)(i:∀D a H,t' D a H->t D a H):PS X e t' :=λc s a H D I q=>h _ s a H D I (i D a H q)
theorem PSs.imp (h:PSs X e t)(i:∀D a H,t' D a H->t D a H):PSs X e t' :=λc s a H D I q=>h _ s a H D I (i D a H q)
end L2
namespace PV
open PySem
noncomputable def u9:Expr->Bool
 | .Starred _ _=>false
 | _=>true
theorem zD (h:u9 e=true):starEach (e :: rest) env=(false,eval e env) :: starEach rest env:=by
 cases e <;> first | rfl | cases h
theorem nP (h:u9 a=true)(h' :u9 b=true):starEach [a,b] env=[(false,eval a env),(false,eval b env)]:=by
 rw[zD h,zD h'];rfl
theorem mQ (h:u9 a=true):starEach [a] env=[(false,eval a env)]:=by
 rw[zD h];rfl
theorem zT {pos:Pos}{env:Env}:∀{a:List Expr},a.all u9=true->((backTo pos (starEach a env)).any λx=>x.fst)=false
 | [],_=>rfl
 | e :: a,h=>by
  rw[cX,aj]at h;rw[zD h.1];have:=zT (pos:=pos) (env:=env) h.2;show (false || ((backTo pos _).any λx=>x.fst))=false
  rw[this];rfl
open PySem PySem.Spec PyProof.Rows L2
noncomputable abbrev Sg:=L2.St
inductive T where
 | non | bl (b:Bool) | int (i:Int) | str (x:Str) | tup (xs:List T) | lst (xs:List T) | fz (xs:List T)
inductive R (α:Type) where
 | ok (a:α) | ex (c:Nat) | bad
noncomputable def R.bind {d e:Type}(r:R d)(f:d->R e):R e:=match r with
 | .ok a=>f a
 | .ex c=> .ex c
 | .bad=> .bad
mutual
inductive Rep (H:Hp):V->T->Prop where
 | non:Rep H .non .non
 | bl (b:Bool):Rep H (.bl b) (.bl b)
 | int (i:Int):Rep H (.int i) (.int i)
 | str (x:Str):Rep H (.str x) (.str x)
 | tup {a:Addr} {xs:List V} {ts:List T}:H a=some (.tup xs)->zy H xs ts->Rep H (.ref a) (.tup ts)
 | lst {a:Addr} {xs:List V} {ts:List T}:H a=some (.lst xs)->zy H xs ts->Rep H (.ref a) (.lst ts)
 | fz {a:Addr} {o:Obj} {xs:List V} {ts:List T}:H a=some (.frz o (.lst xs))->zy H xs ts->Rep H (.ref a) (.fz ts)
inductive zy (H:Hp):List V->List T->Prop where
 | nil:zy H [] []
 | cons {v:V} {t:T} {vs:List V} {ts:List T}:Rep H v t->zy H vs ts->zy H (v :: vs) (t :: ts)
end
mutual
theorem Rep.mono {H a :Hp}(s:zo H a):∀{v:V} {t:T},Rep H v t->Rep a v t
 | _,_,.non=> .non
 | _,_,.bl b=> .bl b
 | _,_,.int i=> .int i
 | _,_,.str x=> .str x
 | _,_,.tup h r=> .tup (s _ _ h) (zy.mono s r)
 | _,_,.lst h r=> .lst (s _ _ h) (zy.mono s r)
 | _,_,.fz h r=> .fz (s _ _ h) (zy.mono s r)
theorem zy.mono {H a :Hp}(s:zo H a):∀{v:List V} {t:List T},zy H v t->zy a v t
 | _,_,.nil=> .nil
 | _,_,.cons h r=> .cons (Rep.mono s h) (zy.mono s r)
end
theorem zy.length {H:Hp}:∀{vs:List V} {ts:List T},zy H vs ts->vs.length=ts.length
 | _,_,.nil=>rfl
 | _,_,.cons _ r=>congrArg _ (zy.length r)
theorem zy.get {H:Hp}:∀{vs:List V} {ts:List T} {i:Nat} {t:T},zy H vs ts->ts[i]? =some t->∃v,vs[i]? =some v/\Rep H v t
 | _,_,_,_,.nil,e=>by simp at e
 | _,_,0,_,.cons r _,e=>by simp at e;subst e;exact⟨_,rfl,r⟩
 | _,_,i+1,t,.cons _ q,e=>by
  obtain⟨v,c,a⟩:=zy.get q (by simpa using e)
  exact⟨v,by simpa using c,a⟩
theorem zy.getV {H:Hp}:∀{vs:List V} {ts:List T} {i:Nat} {v:V},zy H vs ts->vs[i]? =some v->∃t,ts[i]? =some t/\Rep H v t
 | _,_,_,_,.nil,e=>by simp at e
 | _,_,0,_,.cons r _,e=>by simp at e;subst e;exact⟨_,rfl,r⟩
 | _,_,i+1,v,.cons _ q,e=>by
  obtain⟨t,c,a⟩:=zy.getV q (by simpa using e)
  exact⟨t,by simpa using c,a⟩
theorem zy.append {H:Hp}:∀{vs a:List V} {ts c:List T},zy H vs ts->zy H a c->zy H (vs++a) (ts++c)
 | _,_,_,_,.nil,q=>q
 | _,_,_,_,.cons r t,q=> .cons r (zy.append t q)
theorem zy.take {H:Hp}:∀{vs:List V} {ts:List T} (n:Nat),zy H vs ts->zy H (vs.take n) (ts.take n)
 | _,_,0,_=> .nil
 | _,_,_+1,.nil=> .nil
 | _,_,n+1,.cons r t=> .cons r (zy.take n t)
theorem zy.drop {H:Hp}:∀{vs:List V} {ts:List T} (n:Nat),zy H vs ts->zy H (vs.drop n) (ts.drop n)
 | _,_,0,r=>r
 | _,_,_+1,.nil=> .nil
 | _,_,n+1,.cons _ t=>zy.drop n t
theorem zy.rep {H:Hp}{vs:List V}{ts:List T}(h:zy H vs ts):∀n:Nat,zy H (ag n vs).flatten (ag n ts).flatten
 | 0=> .nil
 | n+1=>by
  exact h.append (zy.rep h n)
theorem zy.nil_iff (h:zy H vs ts):vs=[]↔ts=[]:=by
 cases h <;> simp
def zF (B H a :Hp):Hp:=λb=>match H b with
 | none=>a b
 | some _=>B b
theorem zM (h:H b=none):zF B H H' b=H' b:=by unfold zF;rw[h]
theorem zR (h:H b=some o):zF B H H' b=B b:=by unfold zF;rw[h]
theorem zF.ge (s:zo B H)(a :zo H H'):zo B (zF B H H'):=λb o h=>by
 rw[zR (s b o h)];exact h
theorem zF.le (s:zo B H)(a :zo H H'):zo (zF B H H') H' :=λb o h=>by
 cases q:H b with
 | none=>rw[zM q]at h;exact h
 | some u=>rw[zR q]at h;exact a b o (s b o h)
theorem zF.self (B H:Hp)(s:zo B H):zF B H H=B:=by
 funext b
 cases q:H b with
 | none=>
  rw[zM q,q];cases z:B b with
  | none=>rfl
  | some o=>rw[s b o z]at q;cases q
 | some u=>rw[zR q]
theorem zF.trans (c:zo H H1)(a:zo H1 H2):zF (zF B H H1) H1 H2=zF B H H2:=by
 funext b
 cases q:H b with
 | none=>
  rw[zM q];cases z:H1 b with
  | none=>rw[zM z]
  | some o=>rw[zR z,zM q,z,a b o z]
 | some u=>rw[zR q,zR (c b u q),zR q]
inductive Fd where
 | tv (t:T) | tl (ts:List T)
noncomputable abbrev Ob:=Nat×List (Str×Fd)
noncomputable def BN:List Str:=["kind","remaining","done","undone","first","last","answered"]
def Bh (vs:List (Str×V)):Prop:=∀f,f ∉ BN->vs.lookup f=none
inductive Sl where
 | un | vl (t:T) | ow (ts:List T) | xc (c:Nat) | ob (k n:Nat) | oc (k:Nat) (fs:List (Str×Fd)) | st (os:List Ob)
noncomputable def Sl.isS:Sl->Bool
 | .ob _ _=>true
 | .st _=>true
 | _=>false
noncomputable def Sl.isO:Sl->Bool
 | .ob _ _=>true
 | .oc _ _=>true
 | .st _=>true
 | _=>false
noncomputable abbrev En:=List Sl
structure Fx where
 B0:Hp
 H0:Hp
 E:XK
 cl:Nat->Value
 as:List Addr
def Ar (ρ:En)(a:Sg)(l:Addr):Prop:=∀(j:Nat) (c:List T),ρ[j]? =some (Sl.ow c)->a[j]? ≠ some (some (V.ref l))
def Fm (Y:Fx)(B:Hp)(ρ:En)(a:Sg)(H:Hp)(o:Addr->Prop)(v:V):Fd->Prop
 | .tv t=>Rep B v t
 | .tl ts=>∃l xs,v= .ref l/\B l=none/\Y.H0 l=none/\H l=some (.lst xs)/\zy B xs ts/\Ar ρ a l/\o l
def FsO (B H:Hp)(vs:List (Str×V))(fs:List (Str×Fd)):Prop:=∀(m:Nat) (f:Str) (d:Fd),fs[m]? =some (f,d)->∃v,vs[m]? =some (f,v)/\match d with
 | .tv t=>Rep B v t
 | .tl ts=>∃l xs,v= .ref l/\H l=some (.lst xs)/\zy B xs ts
theorem FsO.mono {B i H g :Hp}{vs:List (Str×V)}{fs:List (Str×Fd)}(h:FsO B H vs fs)(s:zo B i)(k :zo H g):FsO i g vs fs:=λm f d e=>by
 obtain⟨v,j,r⟩:=h m f d e;refine⟨v,j, ?_⟩;cases d with
 | tv t=>exact Rep.mono s r
 | tl ts=>obtain⟨l,xs,a,b,c⟩:=r;exact⟨l,xs,a,k _ _ b,c.mono s⟩
structure StI (Y:Fx) (B:Hp) (ρ:En) (σ:Sg) (H:Hp) (as:List Addr) (O:Addr->Option (Nat×Nat)):Prop where
 pre:Y.as <+:as
 len:∀(i:Nat) (os:List Ob),ρ[i]? =some (Sl.st os)->as.length=os.length
 one:∀(i j:Nat) (os os' :List Ob),ρ[i]? =some (Sl.st os)->ρ[j]? =some (Sl.st os')->i=j
 ob:∀(i k n:Nat),ρ[i]? =some (Sl.ob k n)->∃a C dx vs,as[n]? =some a/\σ[i]? =some (some (V.ref a))/\Y.cl k= .ref C/\H a=some (.ins C dx vs)/\B a=none/\Y.H0 a=none/\Bh vs
 oc:∀(i k:Nat) (fs:List (Str×Fd)),ρ[i]? =some (Sl.oc k fs)->∃a C dx vs,σ[i]? =some (some (V.ref a))/\Y.cl k= .ref C/\Y.H0 a=some (.ins C dx vs)/\Bh vs/\FsO B Y.H0 vs fs
 st:∀(i:Nat) (os:List Ob),ρ[i]? =some (Sl.st os)->∀(n k:Nat) (fs:List (Str×Fd)),os[n]? =some (k,fs)->∃a C dx vs,as[n]? =some a/\Y.cl k= .ref C/\H a=some (.ins C dx vs)/\B a=none/\Y.H0 a=none/\O a=some (n,0)/\(vs.length=fs.length/\Bh vs)/\
  ∀(m:Nat) (f:Str) (d:Fd),fs[m]? =some (f,d)->∃v,vs[m]? =some (f,v)/\Fm Y B ρ σ H (λl=>O l=some (n,m+1)) v d
structure SI (Y:Fx) (B:Hp) (ρ:En) (σ:Sg) (H:Hp):Prop where
 s0:zo Y.B0 Y.H0
 sH:zo Y.H0 H
 sB:zo B H
 old:∀b o,Y.H0 b=some o->B b=Y.B0 b
 len:ρ.length=σ.length
 vl:∀(i:Nat) (t:T),ρ[i]? =some (Sl.vl t)->∃v:V,σ[i]? =some (some v)/\Rep B v t
 ow:∀(i:Nat) (ts:List T),ρ[i]? =some (Sl.ow ts)->∃(a:Addr) (xs:List V),σ[i]? =some (some (V.ref a))/\B a=none/\Y.H0 a=none/\H a=some (.lst xs)/\zy B xs ts/\
  ∀(j:Nat) (us:List T),j ≠ i->ρ[j]? =some (Sl.ow us)->σ[j]? ≠ some (some (V.ref a))
 xc:∀(i:Nat) (c:Nat),ρ[i]? =some (Sl.xc c)->∃a:Addr,σ[i]? =some (some (V.ref a))/\B a=some (.ext (CU (Y.cl c) a))
 st:∃as O,StI Y B ρ σ H as O
theorem StI.on {Y y :Fx}{B P :Hp}{ρ ρ' :En}{J σ' :Sg}{H Z :Hp}{as:List Addr}{O:Addr->Option (Nat×Nat)}(x:StI Y B ρ J H as O)(g:∀(i:Nat) (s:Sl),s.isO=true->ρ'[i]? =some s->ρ[i]? =some s/\σ'[i]? =J[i]?)(N:zo B P)(Q:y.cl=Y.cl)(hA:y.as=Y.as)(h0:zo Y.H0 y.H0)
  (S:∀b o,H b=some o->B b=none->Y.H0 b=none->((∃C c vs,o= .ins C c vs)\/Ar ρ J b)->Z b=some o/\P b=none/\y.H0 b=none/\(Ar ρ J b->Ar ρ' σ' b)):StI y P ρ' σ' Z as O where
 pre:=by rw[hA];exact x.pre
 len:=λi os h=>x.len i os (g i _ rfl h).1
 one:=λi j os U D q=>x.one i j os U (g i _ rfl D).1 (g j _ rfl q).1
 ob:=λi k n h=>by
  obtain⟨D,q⟩:=g i _ rfl h;obtain⟨a,C,c,vs,w,F,I,u,e5,M⟩:=x.ob i k n D;obtain⟨p,G,r,_⟩:=S a _ u e5 M.1 (.inl ⟨_,_,_,rfl⟩);rw[q,Q];exact⟨a,C,c,vs,w,F,I,p,G,r,M.2⟩
 oc:=λi k fs h=>by
  obtain⟨D,q⟩:=g i _ rfl h;obtain⟨a,C,c,vs,w,F,I,u,e5⟩:=x.oc i k fs D;rw[q,Q];exact⟨a,C,c,vs,w,F,h0 _ _ I,u,e5.mono N h0⟩
 st:=λi os h n k fs e=>by
  obtain⟨a,C,c,vs,w,F,I,u,e5,M,e7,e8⟩:=x.st i os (g i _ rfl h).1 n k fs e;obtain⟨p,G,r,_⟩:=S a _ I u e5 (.inl ⟨_,_,_,rfl⟩);refine⟨a,C,c,vs,w,by rw[Q];exact F,p,G,r,M,e7,λm f d z=> ?_⟩
  obtain⟨v,z1,z2⟩:=e8 m f d z;refine⟨v,z1, ?_⟩;cases d with
  | tv t=>exact Rep.mono N z2
  | tl ts=>
   obtain⟨l,xs,p1,p2,p3,p4,p5,X,p7⟩:=z2;obtain⟨p,G,r,g4⟩:=S l _ p4 p2 p3 (.inr X);exact⟨l,xs,p1,G,r,p,p5.mono N,g4 X,p7⟩
theorem StI.no (h:∀(i:Nat) (s:Sl),s.isO=true->ρ[i]? ≠ some s):∃c O,StI Y B ρ σ H c O:=⟨Y.as,λ_=>none,iu _,λi os e=>(h i _ rfl e).elim,λi j os a e=>(h i _ rfl e).elim,λi k n e=>(h i _ rfl e).elim,λi k fs e=>(h i _ rfl e).elim,λi os e=>(h i _ rfl e).elim⟩
theorem SI.grow {Y:Fx}{B:Hp}{ρ:En}{j:Sg}{H g :Hp}(I:SI Y B ρ j H)(s:zo H g):SI Y (zF B H g) ρ j g where
 s0:=I.s0
 sH:=I.sH.trans s
 sB:=zF.le I.sB s
 old:=λb o h=>by rw[zR (I.sH b o h)];exact I.old b o h
 len:=I.len
 vl:=λi t h=>let ⟨v,e,r⟩:=I.vl i t h;⟨v,e,r.mono (zF.ge I.sB s)⟩
 ow:=λi ts h=>let ⟨a,xs,e,b,f,hh,r,d⟩:=I.ow i ts h;⟨a,xs,e,by rw[zR hh];exact b,f,s _ _ hh,r.mono (zF.ge I.sB s),d⟩
 xc:=λi c h=>let ⟨a,e,r⟩:=I.xc i c h;⟨a,e,zF.ge I.sB s a _ r⟩
 st:=let ⟨as,O,x⟩:=I.st;⟨as,O,x.on (λ_ _ _ h=>⟨h,rfl⟩) (zF.ge I.sB s) rfl rfl (zo.refl _) λb o h k f _=>⟨s _ _ h,by rw[zR h];exact k,f,id⟩⟩
def XP (Y:Fx)(B:Hp)(c:Nat):Prop:=∀(d:Option Addr) (a :Hp),zo Y.H0 a ->zo B a ->Y.E (Y.cl c) d a
def Po {f g:Type}(Y:Fx)(e:Hp->Hp->g->f->Prop)(B H:Hp)(r:R f)(Q:g->Hp->Prop):Prop:=match r with
 | .ok a=>∀b d,zo H d ->e (zF B H d) d b a->Q b d
 | .ex c=>XP Y B c
 | .bad=>False
abbrev rC:Hp->Hp->V->T->Prop:=λB _ v t=>Rep B v t
abbrev rB:Hp->Hp->V->T->Prop:=λ_ H v t=>Rep H v t
abbrev Ex:Hp->Hp->List V->List T->Prop:=λB _ v t=>zy B v t
abbrev rE {α:Type}:Hp->Hp->α->α->Prop:=λ_ _ a b=>a=b
def tS {c d:Type}(Y:Fx)(a:Hp->Hp->d->c->Prop)(f:En->R c)(ρ:En):Sg->Hp->(d->Hp->Prop)->Prop:=λe H Q=>∃B,SI Y B ρ e H/\Po Y a B H (f ρ) Q
structure Snd (X:Cx) (Y:Fx) (e:Expr) (f:En->R T):Prop where
 mk ::
 go:∀ρ,PE X e (tS Y rC f ρ)
instance {X:Cx}{Y:Fx}{e:Expr}{f:En->R T}:CoeFun (Snd X Y e f) λ_=>∀ρ,PE X e (tS Y rC f ρ):=⟨Snd.go⟩
structure jz (X:Cx) (Y:Fx) (e:Expr) (f:En->R T):Prop where
 mk ::
 go:∀ρ,PE X e (tS Y rB f ρ)
instance {X:Cx}{Y:Fx}{e:Expr}{f:En->R T}:CoeFun (jz X Y e f) λ_=>∀ρ,PE X e (tS Y rB f ρ):=⟨jz.go⟩
structure ua (X:Cx) (Y:Fx) (e:Expr) (f:En->R Bool):Prop where
 mk ::
 go:∀ρ,PT X e (tS Y rE f ρ)
instance {X:Cx}{Y:Fx}{e:Expr}{f:En->R Bool}:CoeFun (ua X Y e f) λ_=>∀ρ,PT X e (tS Y rE f ρ):=⟨ua.go⟩
structure Up (X:Cx) (Y:Fx) (es:List Expr) (f:En->R (List T)):Prop where
 mk ::
 go:∀ρ,PA X es (tS Y Ex f ρ)
instance {X:Cx}{Y:Fx}{es:List Expr}{f:En->R (List T)}:CoeFun (Up X Y es f) λ_=>∀ρ,PA X es (tS Y Ex f ρ):=⟨Up.go⟩
theorem step {p o u j :Type}{l:Hp->Hp->u->p->Prop}{i :Hp->Hp->j ->o ->Prop}{f:En->R p}{k:p->R o}{Q:j ->Hp->Prop}{K:u->Hp->Prop}
  (I:SI Y B ρ σ H) (h:Po Y i B H ((f ρ).bind k) Q)
  (n:∀a b g,f ρ= .ok a->zo H g->l (zF B H g) g b a->SI Y (zF B H g) ρ σ g->Po Y i (zF B H g) g (k a) Q->K b g):tS Y l f ρ σ H K:=by
 refine⟨B,I, ?_⟩;cases e:f ρ with
 | bad=>rw[e]at h;exact h
 | ex c=>rw[e]at h;exact h
 | ok a=>
  rw[e]at h;intro b g s r;refine n a b g e s r (I.grow s) ?_;have h' :Po Y _ B H (k a) Q:=h;revert h';cases k a with
  | bad=>exact λh' =>h'
  | ex c=>exact λh' d y D q =>h' d y D ((zF.ge I.sB s).trans q)
  | ok F =>exact λh' w C v x=>h' w C (s.trans v) (by rw[← zF.trans s v];exact x)
theorem ZN {e d:Type}{c:Hp->Hp->d->e->Prop}{a:e}{b:d}{Q:d->Hp->Prop}(I:SI Y B ρ σ H)(h:Po Y c B H (.ok a) Q)(r:c B H b a):Q b H:=h b H (zo.refl H) (by rw[zF.self B H I.sB];exact r)
theorem Snd.b {X:Cx}{Y:Fx}{e:Expr}{f:En->R T}(h:Snd X Y e f):jz X Y e f:= .mk λρ=>PE.imp (h ρ) λg H Q ⟨B,I,q⟩=>⟨B,I,by
 revert q;cases f ρ with
 | bad=>exact λq=>q
 | ex c=>exact λq=>q
 | ok a=>exact λq b d s r=>q b d s (r.mono (zF.le I.sB s))⟩
section
def vE (i:Nat):En->R T:=λρ=>match ρ[i]? with
 | some (.vl t)=> .ok t
 | _=> .bad
def vB (i:Nat):En->R T:=λρ=>match ρ[i]? with
 | some (.vl t)=> .ok t
 | some (.ow ts)=> .ok (.lst ts)
 | _=> .bad
def cE (t:T):En->R T:=λ_=> .ok t
theorem LP (i:Nat)(h:PE X (.Name x pos) (W6 i)):Snd X Y (.Name x pos) (vE i):= .mk λρ=>PE.imp h λc H Q ⟨B,I,q⟩=>by
 unfold vE at q;split at q
 ·rename_i t e;obtain⟨v,a,r⟩:=I.vl i t e;exact⟨v,a,ZN I q r⟩
 ·exact q.elim
theorem GS (i:Nat){x:Str}(h:PE X (.Name x pos) (W6 i)):jz X Y (.Name x pos) (vB i):= .mk λρ=>PE.imp h λf H Q ⟨B,I,q⟩=>by
 unfold vB at q;split at q
 ·rename_i t e;obtain⟨v,c,r⟩:=I.vl i t e;exact⟨v,c,ZN I q (r.mono I.sB)⟩
 ·rename_i ts e;obtain⟨a,xs,c,_,_,d,r,_⟩:=I.ow i ts e;exact⟨.ref a,c,ZN I q (.lst d (r.mono I.sB))⟩
 ·exact q.elim
theorem ID {i j}:Snd X Y (.Constant (.int i) j pos) (cE (.int i)):= .mk λρ=>PE.imp Gn λa H Q ⟨B,I,q⟩=>ZN I q (.int i)
theorem C8 {i j}:Snd X Y (.Constant (.bool i) j pos) (cE (.bl i)):= .mk λρ=>PE.imp Lx λa H Q ⟨B,I,q⟩=>ZN I q (.bl i)
theorem EH {j}:Snd X Y (.Constant .none j pos) (cE .non):= .mk λρ=>PE.imp Go λa H Q ⟨B,I,q⟩=>ZN I q .non
theorem EW {i j}:Snd X Y (.Constant (.str i) j pos) (cE (.str i)):= .mk λρ=>PE.imp xN λa H Q ⟨B,I,q⟩=>ZN I q (.str i)
def ze:En->R (List T):=λ_=> .ok []
def za (f:En->R T)(g:En->R (List T)):En->R (List T):=λρ=>(f ρ).bind λt=>(g ρ).bind λts=> .ok (t :: ts)
theorem Iw:Up X Y [] ze:= .mk λρ=>PA.imp zH λa H Q ⟨B,I,q⟩=>ZN I q .nil
theorem GT {c:List Expr}{g:En->R (List T)}(h:Snd X Y a fa)(f:Up X Y c g)(k:starEach (a :: c) X.env=(false,eval a X.env) :: starEach c X.env:=by exact zD rfl):Up X Y (a :: c) (za fa g):= .mk λρ=>
 PA.imp (zm (h ρ) (f ρ) k) λw H Q ⟨B,I,q⟩=>step I q λt v x _ r p d l=>step d l λts vs u _ o i e j=>ZN e j (.cons (p.mono (zF.ge d.sB o)) i)
theorem zo.new (h:H p=none)(o:HO):zo H (mz H p o):=λb u q=>by rw[zi (zG q h)];exact q
theorem jd (h:H p=none)(o:HO):zF B H (mz H p o) p=some o:=by rw[zM h,zl]
noncomputable def mF:Nat:=16777216
theorem ZF (h:n<=mF):n<=sizeLine:=by exact h
def Za (g:En->R (List T)):En->R T:=λρ=>(g ρ).bind λts=>if ts.length<=mF then .ok (.tup ts) else .bad
def Zc (g:En->R (List T)):En->R T:=λρ=>(g ρ).bind λts=>if ts.length<=mF then .ok (.lst ts) else .bad
theorem kD {ρ:En}{a:Sg}{B H:Hp}{xs:List V}{ts:List T}(I:SI Y B ρ a H)(r:zy B xs ts){p:Addr}(h:H p=none):Rep (zF B H (mz H p (.tup xs))) (.ref p) (.tup ts):=
 .tup (jd h _) (r.mono (zF.ge I.sB (zo.new h _)))
theorem kG {ρ:En}{a:Sg}{B H:Hp}{xs:List V}{ts:List T}(I:SI Y B ρ a H)(r:zy B xs ts){p:Addr}(h:H p=none):Rep (zF B H (mz H p (.lst xs))) (.ref p) (.lst ts):=
 .lst (jd h _) (r.mono (zF.ge I.sB (zo.new h _)))
theorem ER {c:List Expr}{g:En->R (List T)}{x1}(h:Up X Y c g):Snd X Y (.Tuple c x1 pos) (Za g):= .mk λρ=>PE.imp (xR (h ρ)) λj H Q ⟨B,I,q⟩=>
 step I q λts vs k _ i d f a=>by
  split at a
  ·rename_i e;refine⟨by rw[d.length];exact ZF e,λp hp=>a _ _ (zo.new hp _) (kD f d hp)⟩
  ·exact a.elim
theorem IQ {c:List Expr}{g:En->R (List T)}(h:Up X Y c g):Snd X Y (.List c pos) (Zc g):= .mk λρ=>PE.imp (Yu (h ρ)) λj H Q ⟨B,I,q⟩=>
 step I q λts vs k _ i d f a=>by
  split at a
  ·rename_i e;refine⟨by rw[d.length];exact ZF e,λp hp=>a _ _ (zo.new hp _) (kG f d hp)⟩
  ·exact a.elim
end
end PV
namespace PV
open PySem PySem.Spec PyProof.Rows L2
noncomputable def nu (f:T->T->Option Bool):List T->List T->Option Bool
 | [],[]=>some true
 | [],_ :: _=>some false
 | _ :: _,[]=>some false
 | x :: xs,y :: a=>match f x y with
  | none=>none
  | some b=>match nu f xs a with
   | none=>none
   | some c=>some (b && c)
noncomputable def b2 (b:Bool):Int:=if b then 1 else 0
def mE:Nat->T->T->Option Bool
 | _,.non,.non=>some true
 | _,.bl a,.bl b=>some (a == b)
 | _,.bl a,.int j=>some (b2 a == j)
 | _,.int i,.bl b=>some (i == b2 b)
 | _,.int i,.int j=>some (i == j)
 | _,.str x,.str y=>some (x == y)
 | n+1,.tup xs,.tup c=>nu (mE n) xs c
 | n+1,.lst xs,.lst c=>nu (mE n) xs c
 | n+1,.fz xs,.lst c=>nu (mE n) xs c
 | n+1,.lst xs,.fz c=>nu (mE n) xs c
 | n+1,.fz xs,.fz c=>nu (mE n) xs c
 | 0,.tup _,.tup _=>none
 | 0,.lst _,.lst _=>none
 | 0,.fz _,.lst _=>none
 | 0,.lst _,.fz _=>none
 | 0,.fz _,.fz _=>none
 | _,.non,_=>some false
 | _,.bl _,_=>some false
 | _,.int _,_=>some false
 | _,.str _,_=>some false
 | _,.tup _,_=>some false
 | _,.lst _,_=>some false
 | _,.fz _,_=>some false
mutual
theorem Rep.fn {H:Hp}:∀{v:V} {t t' :T},Rep H v t->Rep H v t' ->t=t'
 | _,_,_,.non,q=>by cases q;rfl
 | _,_,_,.bl _,q=>by cases q;rfl
 | _,_,_,.int _,q=>by cases q;rfl
 | _,_,_,.str _,q=>by cases q;rfl
 | _,_,_,.tup h r,q=>by cases q <;> rename_i a h' <;> rw[h]at h' <;> cases h';rw[zy.fn r a]
 | _,_,_,.lst h r,q=>by cases q <;> rename_i a h' <;> rw[h]at h' <;> cases h';rw[zy.fn r a]
 | _,_,_,.fz h r,q=>by cases q <;> rename_i a h' <;> rw[h]at h' <;> cases h';rw[zy.fn r a]
theorem zy.fn {H:Hp}:∀{v:List V} {t t' :List T},zy H v t->zy H v t' ->t=t'
 | _,_,_,.nil,q=>by cases q;rfl
 | _,_,_,.cons h r,q=>by
  cases q with
  | cons h' a =>rw[Rep.fn h h',zy.fn r a]
end
theorem Zl {f:T->T->Option Bool}(g:∀x b,f x x=some b->b=true):∀(xs:List T) (b:Bool),nu f xs xs=some b->b=true
 | [],b,h=>by
  have h' :=h;cases h';rfl
 | x :: xs,b,h=>by
  unfold nu at h;cases e:f x x with
  | none=>rw[e]at h;cases h
  | some c=>
   rw[e]at h;cases a :nu f xs xs with
   | none=>rw[a]at h;cases h
   | some d=>
    rw[a]at h;cases h;rw[g x c e,Zl g xs d a];rfl
theorem Z3:∀(n:Nat) (t:T) (b:Bool),mE n t t=some b->b=true
 | n,.non,b,h=>by unfold mE at h;cases h;rfl
 | n,.bl x,b,h=>by unfold mE at h;cases h;simp
 | n,.int x,b,h=>by unfold mE at h;cases h;simp
 | n,.str x,b,h=>by unfold mE at h;cases h;simp
 | 0,.tup x,b,h=>by cases h
 | 0,.lst x,b,h=>by cases h
 | 0,.fz x,b,h=>by cases h
 | n+1,.tup x,b,h=>by exact Zl (Z3 n) x b h
 | n+1,.lst x,b,h=>by exact Zl (Z3 n) x b h
 | n+1,.fz x,b,h=>by exact Zl (Z3 n) x b h
theorem YD {f:T->T->Option Bool}:∀{xs a:List T} {b:Bool},nu f xs a=some b->
  ∃e:Nat->Bool,(∀j x y,xs[j]? =some x->a[j]? =some y->f x y=some (e j))/\((aN (min xs.length a.length)).all e && xs.length == a.length)=b
 | [],[],b,h=>by
  have h' :=h;cases h';exact⟨λ_=>true,λj x y h=>by simp at h,by simp⟩
 | [],y :: a,b,h=>by
  have h' :=h;cases h';exact⟨λ_=>true,λj x y h=>by simp at h,by simp⟩
 | x :: xs,[],b,h=>by
  have h' :=h;cases h';exact⟨λ_=>true,λj x y h h' =>by simp at h',by simp⟩
 | x :: xs,y :: a,b,h=>by
  unfold nu at h;cases e:f x y with
  | none=>rw[e]at h;cases h
  | some c=>
   rw[e]at h;cases l :nu f xs a with
   | none=>rw[l]at h;cases h
   | some d=>
    rw[l]at h;cases h;obtain⟨g,p,o⟩:=YD l;refine⟨λj=>match j with | 0=>c | j+1=>g j,λj u v k i=> ?_, ?_⟩
    ·cases j with
     | zero=>simp at k i;subst k i;exact e
     | succ j=>exact p j u v (by simpa using k) (by simpa using i)
    ·have z:min (x :: xs).length (y :: a).length=min xs.length a.length+1:=by simp only[aw];omega
     rw[z,dq,cX,lK];have q:((x :: xs).length == (y :: a).length)=(xs.length == a.length):=by simp
     rw[q,← o,Bool.and_assoc];rfl
section
theorem ZR (I:L2.Inv X pins σ H s)(h:H a=some (.tup xs))(r:zy H xs ts):∃c:List Value,Vals xs c/\s.heap.IsTuple a c.toArray/\ts.length=c.length/\xs.length<=sizeLine:=by
 obtain⟨c,d,p,z⟩:=I.tuple (SqT.of h);exact⟨c,d,p,by rw[← r.length];exact d.length,z⟩
theorem zL (I:L2.Inv X pins σ H s)(h:Rd H a (.lst xs))(r:zy H xs ts):∃c:List Value,Vals xs c/\s.heap.IsList a c.toArray/\ts.length=c.length/\xs.length<=sizeLine:=by
 obtain⟨c,d,p,z⟩:=I.list (.inl h);exact⟨c,d,p.isList,by rw[← r.length];exact d.length,z⟩
end
noncomputable abbrev pk (A:Around)(s:Shared)(u u' :Value)(b:Bool):Prop:=dk A s u u' b/\iI A s u u' b/\eR A s u u' (!b)
section
theorem YE {f:T->T->Option Bool}{e:Nat->Bool}(r:zy H xs ts)(O :zy H ys us)(v:Vals xs its)(i :Vals ys its')
  (F:∀(j:Nat) (x y:T),ts[j]? =some x->us[j]? =some y->f x y=some (e j))
  (N:∀(x y:T) (b:Bool) (p q:V) (u w:Value),f x y=some b->Rep H p x->Rep H q y->RelV p u->RelV q w->pk A s u w b) (j:Nat) (l:j < its.toArray.size) (k:j < its'.toArray.size):
  dk A s its.toArray[j] its'.toArray[j] (e j):=by
 have P:=v.length;have Q:=i.length;have B:j < xs.length:=by simp at l;omega
 have o:j < ys.length:=by simp at k;omega
 obtain⟨t,I,rt⟩:=r.getV (ah B);obtain⟨t',c,d⟩:=O.getV (ah o);obtain⟨u,G,M⟩:=v.get (ah B);obtain⟨C,a,g⟩:=i.get (ah o);have D:=by
  have:its[j]? =some its.toArray[j]:=by simp at l ⊢
  rw[G]at this;exact(aH this).symm
 have J:=by
  have:its'[j]? =some its'.toArray[j]:=by simp at k ⊢
  rw[a]at this;exact(aH this).symm
 rw[D,J];exact(N t t' _ _ _ u C (F j t t' I c) rt d M g).1
theorem kH {A:Around}{a c:Addr}{xs B:List V}{ts G:List T}{b:Bool}{f:T->T->Option Bool}(I:L2.Inv X pins σ H s)(F:A.units < cLine)(C:H a=some (.tup xs))(k:H c=some (.tup B))(r:zy H xs ts)(o :zy H B G)
  (J:nu f ts G=some b) (hr:∀x b,f x x=some b->b=true)
  (Q:∀(x y:T) (b:Bool) (p q:V) (u w:Value),f x y=some b->Rep H p x->Rep H q y->RelV p u->RelV q w->pk A.in1 s u w b):pk A s (.ref a) (.ref c) b:=by
 obtain⟨g,v,p,l,_⟩:=ZR I C r;obtain⟨d,M,D,P,_⟩:=ZR I k o;obtain⟨e,O,j⟩:=YD J;have hp:=YE r o v M O Q;have z:((aN (min g.toArray.size d.toArray.size)).all e && g.toArray.size == d.toArray.size)=b:=by
  rw[← j];simp[l,P]
 have R:=iI.tuples p D F hp;have N:=eR.tuples p D F hp;rw[z]at R;have N' :eR A s (.ref a) (.ref c) (!b):=by
  rw[← z];exact N
 refine⟨?_,R,N'⟩
 by_cases i:a=c
 ·subst i;rw[C]at k;cases k;have:=r.fn o;subst this;rw[Zl hr ts b J];exact mj _
 ·exact lq i R
theorem Wa {A:Around}{a c:Addr}{xs O:List V}{ts D:List T}{b:Bool}{f:T->T->Option Bool}(I:L2.Inv X pins σ H s)(M:A.units < cLine)(B:Rd H a (.lst xs))(i:Rd H c (.lst O))(r:zy H xs ts)(S :zy H O D)
  (U:nu f ts D=some b) (hr:∀x b,f x x=some b->b=true)
  (ih:∀(x y:T) (b:Bool) (p q:V) (u w:Value),f x y=some b->Rep H p x->Rep H q y->RelV p u->RelV q w->pk A.in1 s u w b):pk A s (.ref a) (.ref c) b:=by
 obtain⟨d,v,p,l,_⟩:=zL I B r;obtain⟨g,Z,J,l',_⟩:=zL I i S;obtain⟨e,he,C⟩:=YD U;have hp:=YE r S v Z he ih;have P:iI A s (.ref a) (.ref c) b/\eR A s (.ref a) (.ref c) (!b):=by
  by_cases j:d.toArray.size=g.toArray.size
  ·have z:(aN d.toArray.size).all e=b:=by
    rw[← C];have:ts.length=D.length:=by simp at j;omega
    rw[this];have k:d.toArray.size=D.length:=by simp;omega
    rw[k];simp
   have R:=iI.lists p J j M hp;have N:=eR.lists p J j M hp;rw[z]at R;refine⟨R, ?_⟩;rw[← z];exact N
  ·have G :(d.toArray.size != g.toArray.size)=true:=by simpa using j
   have z:b=false:=by
    rw[← C];have:¬ ts.length=D.length:=by simp at j;omega
    simp[this]
   subst z;exact⟨iI.lists_lengths p J G M,eR.lists_lengths p J G M⟩
 refine⟨?_,P.1,P.2⟩
 by_cases F:a=c
 ·subst F;have Q:xs=O:=by
   rcases B with B | ⟨o,B⟩ <;> rcases i with i | ⟨o',i⟩ <;> (rw[B]at i;cases i) <;> rfl
  subst Q;have:=r.fn S;subst this;rw[Zl hr ts b U];exact mj _
 ·exact lq F P.1
end
section
variable {X:Cx}{pins:List (Addr×Obj)}{σ:Sg}{H:Hp}{s:Shared}
theorem JS {A:Around}:A.in1.units=A.units+1:=rfl
set_option maxHeartbeats 2000000 in
theorem YF (I:L2.Inv X pins σ H s):∀(A:Around),A.units < cLine->∀(x y:T) (b:Bool) (p q:V) (u w:Value),mE 0 x y=some b->Rep H p x->Rep H q y->RelV p u->RelV q w->pk A s u w b:=by
 intro A C x y b p q u w h D k l e;have a :=C;cases D with
 | non=>
  obtain rfl:u=Value.none:=l;cases k with
  | non=>obtain rfl:w=Value.none:=e;unfold mE at h;cases h;exact⟨.same _,.none_none,.none_none⟩
  | bl c=>obtain rfl:w=Value.bool c:=e;unfold mE at h;cases h;exact⟨.none_bool _,.none_bool _,.none_bool _⟩
  | int c=>obtain⟨t,rfl⟩:=e;unfold mE at h;cases h;exact⟨.none_int _ _,.none_int _ _,.none_int _ _⟩
  | str c=>obtain⟨t,rfl⟩:=e;unfold mE at h;cases h;exact⟨.none_str _ _,.none_str _ _,.none_str _ _⟩
  | tup j g=>obtain rfl:w=Value.ref _:=e;unfold mE at h;cases h;obtain⟨i,_,p,_⟩:=ZR I j g;exact⟨.none_tuple p a,.none_tuple p a,.none_tuple p a⟩
  | lst j g=>obtain rfl:w=Value.ref _:=e;unfold mE at h;cases h;obtain⟨i,_,p,_⟩:=zL I (.inl j) g;exact⟨.none_list p a,.none_list p a,.none_list p a⟩
  | fz j g=>obtain rfl:w=Value.ref _:=e;unfold mE at h;cases h;obtain⟨i,_,p,_⟩:=zL I (.inr ⟨_,j⟩) g;exact⟨.none_list p a,.none_list p a,.none_list p a⟩
 | bl d=>
  obtain rfl:u=Value.bool d:=l;cases k with
  | non=>obtain rfl:w=Value.none:=e;unfold mE at h;cases h;exact⟨.bool_none _,.bool_none _,.bool_none _⟩
  | bl c=>obtain rfl:w=Value.bool c:=e;unfold mE at h;cases h;exact⟨.bool_bool _ _,.bool_bool _ _,.bool_bool _ _⟩
  | int c=>obtain⟨t,rfl⟩:=e;unfold mE at h;cases h;exact⟨.bool_int _ _ _,.bool_int _ _ _,.bool_int _ _ _⟩
  | str c=>obtain⟨t,rfl⟩:=e;unfold mE at h;cases h;exact⟨.bool_str _ _ _,.bool_str _ _ _,.bool_str _ _ _⟩
  | tup j g=>obtain rfl:w=Value.ref _:=e;unfold mE at h;cases h;obtain⟨i,_,p,_⟩:=ZR I j g;exact⟨.bool_tuple _ p a,.bool_tuple _ p a,.bool_tuple _ p a⟩
  | lst j g=>obtain rfl:w=Value.ref _:=e;unfold mE at h;cases h;obtain⟨i,_,p,_⟩:=zL I (.inl j) g;exact⟨.bool_list _ p a,.bool_list _ p a,.bool_list _ p a⟩
  | fz j g=>obtain rfl:w=Value.ref _:=e;unfold mE at h;cases h;obtain⟨i,_,p,_⟩:=zL I (.inr ⟨_,j⟩) g;exact⟨.bool_list _ p a,.bool_list _ p a,.bool_list _ p a⟩
 | int d=>
  obtain⟨B,rfl⟩:=l;cases k with
  | non=>obtain rfl:w=Value.none:=e;unfold mE at h;cases h;exact⟨.int_none _ _,.int_none _ _,.int_none _ _⟩
  | bl c=>obtain rfl:w=Value.bool c:=e;unfold mE at h;cases h;exact⟨.int_bool _ _ _,.int_bool _ _ _,.int_bool _ _ _⟩
  | int c=>obtain⟨t,rfl⟩:=e;unfold mE at h;cases h;exact⟨.int_int _ _ _ _,.int_int _ _ _ _,.int_int _ _ _ _⟩
  | str c=>obtain⟨t,rfl⟩:=e;unfold mE at h;cases h;exact⟨.int_str _ _ _ _,.int_str _ _ _ _,.int_str _ _ _ _⟩
  | tup j g=>obtain rfl:w=Value.ref _:=e;unfold mE at h;cases h;obtain⟨i,_,p,_⟩:=ZR I j g;exact⟨.int_tuple _ _ p a,.int_tuple _ _ p a,.int_tuple _ _ p a⟩
  | lst j g=>obtain rfl:w=Value.ref _:=e;unfold mE at h;cases h;obtain⟨i,_,p,_⟩:=zL I (.inl j) g;exact⟨.int_list _ _ p a,.int_list _ _ p a,.int_list _ _ p a⟩
  | fz j g=>obtain rfl:w=Value.ref _:=e;unfold mE at h;cases h;obtain⟨i,_,p,_⟩:=zL I (.inr ⟨_,j⟩) g;exact⟨.int_list _ _ p a,.int_list _ _ p a,.int_list _ _ p a⟩
 | str d=>
  obtain⟨B,rfl⟩:=l;cases k with
  | non=>obtain rfl:w=Value.none:=e;unfold mE at h;cases h;exact⟨.str_none _ _,.str_none _ _,.str_none _ _⟩
  | bl c=>obtain rfl:w=Value.bool c:=e;unfold mE at h;cases h;exact⟨.str_bool _ _ _,.str_bool _ _ _,.str_bool _ _ _⟩
  | int c=>obtain⟨t,rfl⟩:=e;unfold mE at h;cases h;exact⟨.str_int _ _ _ _,.str_int _ _ _ _,.str_int _ _ _ _⟩
  | str c=>obtain⟨t,rfl⟩:=e;unfold mE at h;cases h;exact⟨.str_str _ _ _ _,.str_str _ _ _ _,.str_str _ _ _ _⟩
  | tup j g=>obtain rfl:w=Value.ref _:=e;unfold mE at h;cases h;obtain⟨i,_,p,_⟩:=ZR I j g;exact⟨.str_tuple _ _ p a,.str_tuple _ _ p a,.str_tuple _ _ p a⟩
  | lst j g=>obtain rfl:w=Value.ref _:=e;unfold mE at h;cases h;obtain⟨i,_,p,_⟩:=zL I (.inl j) g;exact⟨.str_list _ _ p a,.str_list _ _ p a,.str_list _ _ p a⟩
  | fz j g=>obtain rfl:w=Value.ref _:=e;unfold mE at h;cases h;obtain⟨i,_,p,_⟩:=zL I (.inr ⟨_,j⟩) g;exact⟨.str_list _ _ p a,.str_list _ _ p a,.str_list _ _ p a⟩
 | tup r o=>
  obtain rfl:u=Value.ref _:=l;obtain⟨v,_,f,_⟩:=ZR I r o;cases k with
  | non=>obtain rfl:w=Value.none:=e;unfold mE at h;cases h;exact⟨.tuple_none f a,.tuple_none f a,.tuple_none f a⟩
  | bl c=>obtain rfl:w=Value.bool c:=e;unfold mE at h;cases h;exact⟨.tuple_bool _ f a,.tuple_bool _ f a,.tuple_bool _ f a⟩
  | int c=>obtain⟨t,rfl⟩:=e;unfold mE at h;cases h;exact⟨.tuple_int _ _ f a,.tuple_int _ _ f a,.tuple_int _ _ f a⟩
  | str c=>obtain⟨t,rfl⟩:=e;unfold mE at h;cases h;exact⟨.tuple_str _ _ f a,.tuple_str _ _ f a,.tuple_str _ _ f a⟩
  | tup j g=>unfold mE at h;cases h
  | lst j g=>obtain rfl:w=Value.ref _:=e;unfold mE at h;cases h;obtain⟨i,_,p,_⟩:=zL I (.inl j) g;exact⟨.tuple_list f p a,.tuple_list f p a,.tuple_list f p a⟩
  | fz j g=>obtain rfl:w=Value.ref _:=e;unfold mE at h;cases h;obtain⟨i,_,p,_⟩:=zL I (.inr ⟨_,j⟩) g;exact⟨.tuple_list f p a,.tuple_list f p a,.tuple_list f p a⟩
 | lst r o=>
  obtain rfl:u=Value.ref _:=l;obtain⟨v,_,f,_⟩:=zL I (.inl r) o;cases k with
  | non=>obtain rfl:w=Value.none:=e;unfold mE at h;cases h;exact⟨.list_none f a,.list_none f a,.list_none f a⟩
  | bl c=>obtain rfl:w=Value.bool c:=e;unfold mE at h;cases h;exact⟨.list_bool _ f a,.list_bool _ f a,.list_bool _ f a⟩
  | int c=>obtain⟨t,rfl⟩:=e;unfold mE at h;cases h;exact⟨.list_int _ _ f a,.list_int _ _ f a,.list_int _ _ f a⟩
  | str c=>obtain⟨t,rfl⟩:=e;unfold mE at h;cases h;exact⟨.list_str _ _ f a,.list_str _ _ f a,.list_str _ _ f a⟩
  | tup j g=>obtain rfl:w=Value.ref _:=e;unfold mE at h;cases h;obtain⟨i,_,p,_⟩:=ZR I j g;exact⟨.list_tuple f p a,.list_tuple f p a,.list_tuple f p a⟩
  | lst j g=>unfold mE at h;cases h
  | fz j g=>unfold mE at h;cases h
 | fz r o=>
  obtain rfl:u=Value.ref _:=l;obtain⟨v,_,f,_⟩:=zL I (.inr ⟨_,r⟩) o;cases k with
  | non=>obtain rfl:w=Value.none:=e;unfold mE at h;cases h;exact⟨.list_none f a,.list_none f a,.list_none f a⟩
  | bl c=>obtain rfl:w=Value.bool c:=e;unfold mE at h;cases h;exact⟨.list_bool _ f a,.list_bool _ f a,.list_bool _ f a⟩
  | int c=>obtain⟨t,rfl⟩:=e;unfold mE at h;cases h;exact⟨.list_int _ _ f a,.list_int _ _ f a,.list_int _ _ f a⟩
  | str c=>obtain⟨t,rfl⟩:=e;unfold mE at h;cases h;exact⟨.list_str _ _ f a,.list_str _ _ f a,.list_str _ _ f a⟩
  | tup j g=>obtain rfl:w=Value.ref _:=e;unfold mE at h;cases h;obtain⟨i,_,p,_⟩:=ZR I j g;exact⟨.list_tuple f p a,.list_tuple f p a,.list_tuple f p a⟩
  | lst j g=>unfold mE at h;cases h
  | fz j g=>unfold mE at h;cases h
set_option maxHeartbeats 2000000 in
theorem Vd (I:L2.Inv X pins σ H s):∀(n:Nat) (A:Around),A.units+n < cLine->∀(x y:T) (b:Bool) (p q:V) (u w:Value),mE n x y=some b->Rep H p x->Rep H q y->RelV p u->RelV q w->pk A s u w b:=by
 intro n
 induction n with
 | zero=>exact λA r x y b p q u w h=>YF I A (by omega) x y b p q u w h
 | succ n v=>
  intro A r x y b p q u w h o l k a;have e:=λh=>YF I A (by omega) x y b p q u w h o l k a
  have c :A.units < cLine:=by omega
  have d :=v A.in1 (by rw[JS];omega)
  cases o with
  | tup j i=>
   cases l with
   | tup g f=>
    obtain rfl:u=Value.ref _:=k;obtain rfl:w=Value.ref _:=a;exact kH I c j g i f h (Z3 n) d
   | _=>exact e (by exact h)
  | lst j i=>
   cases l with
   | lst g f=>
    obtain rfl:u=Value.ref _:=k;obtain rfl:w=Value.ref _:=a;exact Wa I c (.inl j) (.inl g) i f h (Z3 n) d
   | fz g f=>
    obtain rfl:u=Value.ref _:=k;obtain rfl:w=Value.ref _:=a;exact Wa I c (.inl j) (.inr ⟨_,g⟩) i f h (Z3 n) d
   | _=>exact e (by exact h)
  | fz j i=>
   cases l with
   | lst g f=>
    obtain rfl:u=Value.ref _:=k;obtain rfl:w=Value.ref _:=a;exact Wa I c (.inr ⟨_,j⟩) (.inl g) i f h (Z3 n) d
   | fz g f=>
    obtain rfl:u=Value.ref _:=k;obtain rfl:w=Value.ref _:=a;exact Wa I c (.inr ⟨_,j⟩) (.inr ⟨_,g⟩) i f h (Z3 n) d
   | _=>exact e (by exact h)
  | _=>exact e (by cases l <;> (exact h))
end
section
def rG (Y:Fx)(g:T->T->R T):R2:=λx y H Q=>∃B t t',zo B H/\Rep B x t/\Rep B y t' /\Po Y rC B H (g t t') Q
def zd (g:T->T->R T)(a c:En->R T):En->R T:=λρ=>(a ρ).bind λx=>(c ρ).bind λy=>g x y
theorem uT (j:mO X (binaryOp op) (rG Y g))(f:Snd X Y a fa)(k:Snd X Y b fb):Snd X Y (.BinOp a op b pos) (zd g fa fb):= .mk λρ=>
 PE.imp (Ha j (f ρ) (k ρ)) λx H Q ⟨B,I,q⟩=>step I q λt v y _ u p c l=>step c l λt' r w _ o e d i=>
  ⟨_,t,t',d.sB,p.mono (zF.ge c.sB o),e,i⟩
theorem mV (a:zo B H)(q:Po Y rC B H g Q)(e:g= .ok t)(r:Rep B v t):Q v H:=by
 subst e;exact q v H (zo.refl H) (by rw[zF.self B H a];exact r)
theorem GU (a:zo B H)(q:Po Y rC B H g Q)(e:g= .ok (.tup ts))(r:zy B xs ts)(h:H p=none):Q (.ref p) (mz H p (.tup xs)):=by
 subst e;exact q _ _ (zo.new h _) (.tup (jd h _) (r.mono (zF.ge a (zo.new h _))))
theorem BH (a:zo B H)(q:Po Y rC B H g Q)(e:g= .ok (.lst ts))(r:zy B xs ts)(h:H p=none):Q (.ref p) (mz H p (.lst xs)):=by
 subst e;exact q _ _ (zo.new h _) (.lst (jd h _) (r.mono (zF.ge a (zo.new h _))))
def zv:T->T->R T
 | .int i,.int j=> .ok (.int (i+j))
 | .bl x,.int j=> .ok (.int (b2 x+j))
 | .int i,.bl y=> .ok (.int (i+b2 y))
 | .str x,.str y=>if x.length+y.length<=mF then .ok (.str (x++y)) else .bad
 | .tup xs,.tup a=>if xs.length+a.length<=mF then .ok (.tup (xs++a)) else .bad
 | .lst xs,.lst a=>if xs.length+a.length<=mF then .ok (.lst (xs++a)) else .bad
 | _,_=> .bad
theorem Ve {prog:Program}{w:World}{A:Around}{E:Value->Shared->Prop}{s:Shared}{t b:Addr}{vs k:List Value}{Q:Value->Shared->Prop}(r:IsTup s.heap t vs.toArray)(u:IsTup s.heap b k.toArray)(j:vs=[])
  (q:Q (.ref b) s):wpAny (model prog w) A (binaryOp .Add (.ref t) (.ref b)) Q E s:=by
 obtain⟨⟨cls,dd,data,l⟩,g,p,n,hd⟩:=id r;obtain⟨⟨i,d,data2,f⟩,a,e,o,c⟩:=id u;subst p hd e c;exact concat_meets ⟨_,g,rfl⟩ ⟨_,a,rfl⟩ noFill_tuple_add seq_tuple_add eO eK (eB _ _)
   (tuple_addW0 t b _ _ n o dd d l f (by simp[j])) ⟨g,a,q⟩
theorem kJ:mO X (binaryOp .Add) (rG Y zv):=by
 intro d s F H x y v u Q I f o h;obtain⟨B,t,t',c,r,w,q⟩:=h;cases r with
 | int i=>
  cases w with
  | int j=>exact Gy d s F H _ _ v u Q I f o ⟨i,j,rfl,rfl,mV c q rfl (.int _)⟩
  | bl y=>exact Yo d s F H _ _ v u Q I f o ⟨i,y,rfl,rfl,mV c q rfl (.int _)⟩
  | _=>exact q.elim
 | bl x=>
  cases w with
  | int j=>
   obtain rfl:v=Value.bool x:=f;obtain⟨tk,rfl⟩:=o;exact IntBool.add_bool_int (⟨.int _,H,I.tok _,⟨_,rfl⟩,mV c q rfl (.int _)⟩)
  | _=>exact q.elim
 | str x=>
  cases w with
  | str y=>
   by_cases e:x.length+y.length<=mF
   ·exact yx d s F H _ _ v u Q I f o ⟨x,y,rfl,rfl,ZF e,mV c q (if_pos e) (.str _)⟩
   ·rw[show zv (.str x) (.str y)= .bad from if_neg e]at q;exact q.elim
  | _=>exact q.elim
 | @tup a xs ts J k=>
  cases w with
  | @tup D C l G g=>
   by_cases e:ts.length+l.length<=mF
   ·have M:zv (.tup ts) (.tup l)= .ok _:=if_pos e;have hz:xs.length+C.length<=sizeLine:=by rw[k.length,g.length];exact ZF e
    by_cases N:xs=[]
    ·obtain rfl:v=Value.ref a:=f;obtain rfl:u=Value.ref D :=o;obtain⟨Z,U,p,_⟩:=I.tuple (SqT.of (c _ _ J));obtain⟨O,P,S,_⟩:=I.tuple (SqT.of (c _ _ G));have et:=k.nil_iff.mp N;refine Ve p S (U.nil_iff.mpr N) ⟨.ref D,H,I,rfl,mV c q M ?_⟩;rw[et];exact .tup G g
    ·refine kx _ s F H _ _ v u Q I f o ⟨a,D,xs,C,rfl,rfl,SqT.of (c _ _ J),SqT.of (c _ _ G),N,hz,λhy=> ?_,λhy p hp=> ?_⟩
     ·refine mV c q M ?_;rw[g.nil_iff.mp hy,bw];exact .tup J k
     ·exact GU c q M (k.append g) hp
   ·rw[show zv (.tup ts) (.tup l)= .bad from if_neg e]at q;exact q.elim
  | _=>exact q.elim
 | @lst a xs ts J k=>
  cases w with
  | @lst D C l G g=>
   by_cases e:ts.length+l.length<=mF
   ·have M:zv (.lst ts) (.lst l)= .ok _:=if_pos e;have hz:xs.length+C.length<=sizeLine:=by rw[k.length,g.length];exact ZF e
    exact GN _ s F H _ _ v u Q I f o ⟨a,D,xs,C,rfl,rfl,c _ _ J,c _ _ G,hz,λp hp=>BH c q M (k.append g) hp⟩
   ·rw[show zv (.lst ts) (.lst l)= .bad from if_neg e]at q;exact q.elim
  | _=>exact q.elim
 | _=>cases w <;> exact q.elim
theorem Lb (d:Snd X Y a fa)(c:Snd X Y b fb):Snd X Y (.BinOp a .Add b pos) (zd zv fa fb):=uT kJ d c
noncomputable def jK:T->T->R T
 | .int i,.int j=> .ok (.int (i - j))
 | _,_=> .bad
noncomputable def jL:T->T->R T
 | .int i,.int j=>if 0 < j then .ok (.int (i % j)) else .bad
 | _,_=> .bad
noncomputable def Wb:T->T->R T
 | .int i,.int j=>if 0 < j/\j < 1073741824 then .ok (.int (i / j)) else .bad
 | _,_=> .bad
instance (i j:Int):Decidable (uN i j):=by unfold uN;infer_instance
def zU:T->T->R T
 | .int i,.int j=>if uN i j then .ok (.int (i*j)) else .bad
 | .lst xs,.int k=>if 0<=k/\k < 1000000/\xs.length*k.toNat<=mF then .ok (.lst (ag k.toNat xs).flatten) else .bad
 | .tup xs,.int k=>if 2<=k/\k < 1000000/\xs ≠ []/\xs.length*k.toNat<=mF then .ok (.tup (ag k.toNat xs).flatten) else .bad
 | _,_=> .bad
theorem kK:mO X (binaryOp .Sub) (rG Y jK):=by
 intro a s f H x y v u Q I e g h;obtain⟨B,t,t',d,r,c,q⟩:=h;cases r with
 | int i=>
  cases c with
  | int j=>exact Gz _ s f H _ _ v u Q I e g ⟨i,j,rfl,rfl,mV d q rfl (.int _)⟩
  | _=>exact q.elim
 | _=>cases c <;> exact q.elim
theorem kL:mO X (binaryOp .Mod) (rG Y jL):=by
 intro c s g H x y v u Q I f k h;obtain⟨B,t,t',e,r,d,q⟩:=h;cases r with
 | int i=>
  cases d with
  | int j=>
   by_cases a:0 < j
   ·exact GB _ s g H _ _ v u Q I f k ⟨i,j,rfl,rfl,a,mV e q (if_pos a) (.int _)⟩
   ·rw[show jL (.int i) (.int j)= .bad from if_neg a]at q;exact q.elim
  | _=>exact q.elim
 | _=>cases d <;> exact q.elim
theorem Vf:mO X (binaryOp .FloorDiv) (rG Y Wb):=by
 intro c s g H x y v u Q I f k h;obtain⟨B,t,t',e,r,d,q⟩:=h;cases r with
 | int i=>
  cases d with
  | int j=>
   by_cases a:0 < j/\j < 1073741824
   ·exact ke _ s g H _ _ v u Q I f k ⟨i,j,rfl,rfl,a,mV e q (if_pos a) (.int _)⟩
   ·rw[show Wb (.int i) (.int j)= .bad from if_neg a]at q;exact q.elim
  | _=>exact q.elim
 | _=>cases d <;> exact q.elim
theorem yC (l:Addr)(a:Array Value)(n:Nat)(dd:Option Addr)(j:Array (Option Value))(x:Int)(u:Tok)(C:2<=x)(B:x < 1000000)(e:a.isEmpty=false)(hsz:a.size*x.toNat<=sizeLine):
  Meets (Builtin.«tuple.__mul__» ⟨[.ref l,.int x u],[]⟩) (λ_ R s=>s.heap.get? l=some { cls:= .type "tuple",dict:=dd,data:= .seq a n,slots:=j }/\
   R (.ok (.ret (Value.ref s.heap.objs.size))) { s with heap:=s.heap.push { cls:=Value.type "tuple",data:=Data.seq (hU (λf c=>f++c) #[] (ag x.toNat a)) },toks:=s.toks }):=
 .of_wp λprog w A R s h=>by
  obtain⟨g,h⟩:=h;have i:(a.size:Int)*x=((a.size*x.toNat:Nat):Int):=by
   have:x=((x.toNat:Nat):Int):=by omega
   rw[fR,← this]
  have r:(sizeLine:Nat)=16777216:=bY;have v:¬ (decide (x < -(2 ^ 63)) || decide (x ≥ 2 ^ 63))=true:=by simp;omega
  have o:¬ (a.isEmpty || x == 1)=true:=by simp[e];omega
  have k:¬ (decide (x<=0) || a.isEmpty)=true:=by simp[e];omega
  have y:¬ ((a.size:Int)*x > (2 ^ 63 - 1) / 8):=by rw[i];omega
  have p:¬ hV ((a.size:Int)*x)=true:=by
   unfold hV;rw[i];intro z;have:=of_decide_eq_true z;omega
  unfold Builtin.«tuple.__mul__»
  wp_walk using wpAny_loadPart' g
  rw[if_neg v]
  wp_walk using wpAny_loadPart' g
  rw[if_neg o]
  try dsimp only
  rw[if_neg k]
  try dsimp only
  rw[if_neg y]
  try dsimp only
  rw[if_neg p]
  try dsimp only
  have d :sizeOk (.seq (hU (λf c=>f++c) #[] (ag x.toNat a))):=by
   show (hU (λf c=>f++c) #[] _).size<=sizeLine;have:=jS a.toList x.toNat [];have q:=by
    simpa using this
   rw[q,aD,Jc,dm];exact hsz
  exact a8 (aO (ac ⟨_,rfl,h⟩) d)
theorem ub:seqRepeat? (.type "tuple")=pure (some (.builtin "tuple.__mul__")):=by
 unfold seqRepeat?;rw[m7 (name:="__mul__") iw.lookup (by decide+kernel),m7 (name:="__rmul__") lL.lookup (by decide+kernel)]
 rfl
theorem Jx:fillsNumberSlot (.type "tuple") "mul"=pure false:=
 PySem.fillsNumberSlot_seq iw.lookup (by decide+kernel) lL.lookup (by decide+kernel)
theorem wE (a:Int)(t:Tok)(l:Addr)(c:Array Value)(n:Nat)(dd:Option Addr)(d:Array (Option Value)):
  Meets (Builtin.«int.__rmul__» ⟨[.int a t,.ref l],[]⟩) (λ_ R s=>s.heap.get? l=some { cls:= .type "tuple",dict:=dd,data:= .seq c n,slots:=d }/\R (.ok (.ret Value.notImplemented)) s):=
 .of_wp λprog w A R s h=>by obtain⟨e,h⟩:=h;wp_walk;exact⟨_,rfl,h⟩
theorem kM {t:Tok}(p:IsTup s.heap l its.toArray)(c:its ≠ [])(g:2<=k)(e:k < 1000000)
  (hsz:its.length*k.toNat<=sizeLine) (q:Q (.ref s.heap.objs.size) { s with heap:=s.heap.push { cls:= .type "tuple",data:= .seq (ag k.toNat its).flatten.toArray } }):
  wpAny (model prog w) A (binaryOp .Mult (.ref l) (.int k t)) Q E s:=by
 obtain⟨⟨cls,dd,data,d⟩,a,f,n,hd⟩:=id p;subst f hd;refine wpAny_binaryOp_repeat_ref (by decide) ⟨_,a,rfl⟩ (λi =>typeIs_int i k t) Jx mi fQ ub m4.lookup
  (fv fQ (typeIs_int s k t) m5 (lJ _ _) (wE k t l _ n dd d)
   ⟨a,rfl,⟨_,a,rfl⟩,fv iw ⟨_,a,rfl⟩ F.entry_tuple_mul (F.args_tuple_mul_2 _ _) (yC l _ n dd d k t g e (by simpa using c) (by simpa using hsz)) ⟨a, ?_⟩⟩)
 have:=jS its k.toNat [];rw[this];exact q
theorem kN:mO X (binaryOp .Mult) (rG Y zU):=by
 intro M s N H x y v u Q I o J h;obtain⟨B,t,t',d,r,g,q⟩:=h;cases r with
 | int i=>
  cases g with
  | int j=>
   by_cases D:uN i j
   ·exact GA _ s N H _ _ v u Q I o J ⟨i,j,rfl,rfl,D,mV d q (if_pos D) (.int _)⟩
   ·rw[show zU (.int i) (.int j)= .bad from if_neg D]at q;exact q.elim
  | _=>exact q.elim
 | @lst l xs ts F c=>
  cases g with
  | int k=>
   by_cases a:0<=k/\k < 1000000/\ts.length*k.toNat<=mF
   ·have G:zU (.lst ts) (.int k)= .ok _:=if_pos a;exact GO _ s N H _ _ v u Q I o J ⟨l,k,xs,rfl,rfl,d _ _ F,by omega,by omega,by rw[c.length];exact ZF a.2.2,λp hp=>BH d q G (c.rep _) hp⟩
   ·rw[show zU (.lst ts) (.int k)= .bad from if_neg a]at q;exact q.elim
  | _=>exact q.elim
 | @tup l xs ts F c=>
  cases g with
  | int k=>
   by_cases a:2<=k/\k < 1000000/\ts ≠ []/\ts.length*k.toNat<=mF
   ·have G:zU (.tup ts) (.int k)= .ok _:=if_pos a;obtain rfl:v=Value.ref l:=o;obtain⟨tk,rfl⟩:=J;obtain⟨f,O,p,_⟩:=I.tuple (SqT.of (d _ _ F));have w:=c.length.symm.trans O.length;have C:f ≠ []:=λz=>a.2.2.1 (by rw[z]at w;exact bK.mp w)
    refine kM p C a.1 a.2.1 (by rw[← w];exact ZF a.2.2.2) ⟨.ref _,mz H _ (.tup (ag k.toNat xs).flatten),I.laid (λb u e=>ab _ e) (am _) ?_,rfl, ?_⟩
    ·exact⟨by rw[Jc,c.length,dm];exact ZF a.2.2.2,(ag _ f).flatten,O.rep _,⟨_,af _ rfl,rfl,_,rfl⟩,.inr ⟨_,af _ rfl,rfl⟩⟩
    ·exact GU d q G (c.rep _) (I.hok.fresh (am _))
   ·rw[show zU (.tup ts) (.int k)= .bad from if_neg a]at q;exact q.elim
  | _=>exact q.elim
 | _=>cases g <;> exact q.elim
theorem EJ (d:Snd X Y a fa)(c:Snd X Y b fb):Snd X Y (.BinOp a .Sub b pos) (zd jK fa fb):=uT kK d c
theorem Lq (d:Snd X Y a fa)(c:Snd X Y b fb):Snd X Y (.BinOp a .Mod b pos) (zd jL fa fb):=uT kL d c
theorem GV (d:Snd X Y a fa)(c:Snd X Y b fb):Snd X Y (.BinOp a .FloorDiv b pos) (zd Wb fa fb):=uT Vf d c
theorem EF (d:Snd X Y a fa)(c:Snd X Y b fb):Snd X Y (.BinOp a .Mult b pos) (zd zU fa fb):=uT kN d c
def YG (a:En->R T):En->R T:=λρ=>(a ρ).bind λx=>match x with
 | .int i=> .ok (.int (-i))
 | _=> .bad
theorem L4 (d:Snd X Y a fa):Snd X Y (.UnaryOp .USub a pos) (YG fa):= .mk λρ=>PE.imp (Fs GC (d ρ)) λj H Q ⟨B,I,q⟩=>step I q λt v k _ g f e c=>by
 cases f with
 | int i=>exact⟨i,rfl,mV e.sB c rfl (.int _)⟩
 | _=>exact c.elim
def wF (g:T->T->R Bool):R2:=λx y H Q=>∃t t' b,Rep H x t/\Rep H y t' /\g t t' = .ok b/\Q (.bl b) H
def ZL (g:T->T->R Bool)(a c:En->R T):En->R T:=λρ=>(a ρ).bind λx=>(c ρ).bind λy=>(g x y).bind λb=> .ok (.bl b)
def zp (g:T->T->R Bool)(a c:En->R T):En->R Bool:=λρ=>(a ρ).bind λx=>(c ρ).bind λy=>g x y
noncomputable def Nx (g:T->T->R Bool):Prop:=∀t t' c,g t t' ≠ .ex c
theorem yD (nx:Nx g)(l:mO X (compareOp op) (wF g))(j:jz X Y a fa)(o:jz X Y b fb)(k:behindInMarks op b=false):Snd X Y (.Compare a [op] [b] pos) (ZL g fa fb):= .mk λρ=>
 PE.imp (kg l (j ρ) (o ρ) k) λD H Q ⟨B,I,q⟩=>step I q λt v F _ y w u p=>step u p λt' x C _ r i f d=>by
  cases e:g t t' with
  | bad=>rw[e]at d;exact d.elim
  | ex c=>exact absurd e (nx _ _ _)
  | ok b=>rw[e]at d;exact⟨t,t',b,w.mono r,i,e,ZN f d (.bl b)⟩
theorem wG (nx:Nx g)(l:mO X (compareOp op) (wF g))(j:jz X Y a fa)(o:jz X Y b fb)(k:behindInMarks op b=false):ua X Y (.Compare a [op] [b] pos) (zp g fa fb):= .mk λρ=>
 PT.imp (kh l (j ρ) (o ρ) k) λD H Q ⟨B,I,q⟩=>step I q λt v F _ y w u p=>step u p λt' x C _ r i f d=>by
  cases e:g t t' with
  | bad=>rw[e]at d;exact d.elim
  | ex c=>exact absurd e (nx _ _ _)
  | ok b=>rw[e]at d;exact⟨t,t',b,w.mono r,i,e,b,rfl,ZN f d rfl⟩
def my (t t' :T):R Bool:=match mE 30 t t' with
 | some b=> .ok b
 | none=> .bad
def mW (t t' :T):R Bool:=match mE 30 t t' with
 | some b=> .ok (!b)
 | none=> .bad
theorem GW:Nx my:=λt t' c h=>by unfold my at h;split at h <;> cases h
theorem GX:Nx mW:=λt t' c h=>by unfold mW at h;split at h <;> cases h
theorem xV (j:X.A.units+64 < cLine):mO X (compareOp .Eq) (wF my):=by
 intro a s l H x y v u Q I c i h;obtain⟨t,t',b,r,d,e,q⟩:=h;unfold my at e;split at e
 ·rename_i k f;have g :=by injection e
  subst g;exact(Vd I 30 X.A (by omega) t t' k x y v u f r d c i).2.1 _ _ _ _ ⟨.bl k,H,I,rfl,q⟩
 ·cases e
theorem xW (i:X.A.units+64 < cLine):mO X (compareOp .NotEq) (wF mW):=by
 intro a s j H x y v u Q I c g h;obtain⟨t,t',b,r,d,e,q⟩:=h;unfold mW at e;split at e
 ·rename_i k f;cases e;exact(Vd I 30 X.A (by omega) t t' k x y v u f r d c g).2.2 _ _ _ _ ⟨.bl _,H,I,rfl,q⟩
 ·cases e
noncomputable def om:T->T->R Bool
 | .int i,.int j=> .ok (decide (i < j))
 | _,_=> .bad
noncomputable def mL:T->T->R Bool
 | .int i,.int j=> .ok (decide (i<=j))
 | .str x,.str y=> .ok (!decide (y.cps.toList < x.cps.toList))
 | _,_=> .bad
noncomputable def nt:T->T->R Bool
 | .int i,.int j=> .ok (decide (j < i))
 | _,_=> .bad
noncomputable def oy:T->T->R Bool
 | .int i,.int j=> .ok (decide (j<=i))
 | _,_=> .bad
theorem Fv:Nx om:=λt t' c h=>by unfold om at h;split at h <;> cases h
theorem Wc:Nx mL:=λt t' c h=>by unfold mL at h;split at h <;> cases h
theorem LQ:Nx nt:=λt t' c h=>by unfold nt at h;split at h <;> cases h
theorem GY:Nx oy:=λt t' c h=>by unfold oy at h;split at h <;> cases h
theorem GZ:mO X (compareOp .Lt) (wF om):=by
 intro a s f H x y v u Q I c g h;obtain⟨t,t',b,r,d,e,q⟩:=h;unfold om at e;split at e
 ·rename_i i j;cases e;cases r;cases d;exact HS _ s f H _ _ v u Q I c g ⟨i,j,rfl,rfl,q⟩
 ·cases e
theorem F7:mO X (compareOp .Gt) (wF nt):=by
 intro a s f H x y v u Q I c g h;obtain⟨t,t',b,r,d,e,q⟩:=h;unfold nt at e;split at e
 ·rename_i i j;cases e;cases r;cases d;exact Fq _ s f H _ _ v u Q I c g ⟨i,j,rfl,rfl,q⟩
 ·cases e
theorem xX:mO X (compareOp .GtE) (wF oy):=by
 intro a s f H x y v u Q I c g h;obtain⟨t,t',b,r,d,e,q⟩:=h;unfold oy at e;split at e
 ·rename_i i j;cases e;cases r;cases d;exact FQ _ s f H _ _ v u Q I c g ⟨i,j,rfl,rfl,q⟩
 ·cases e
theorem jU:mO X (compareOp .LtE) (wF mL):=by
 intro c s g H x y v u Q I a f h;obtain⟨t,t',b,r,d,e,q⟩:=h;unfold mL at e;split at e
 ·rename_i i j;cases e;cases r;cases d;exact Mc _ s g H _ _ v u Q I a f ⟨i,j,rfl,rfl,q⟩
 ·cases e;cases r;cases d;obtain⟨k,rfl⟩:=a;obtain⟨l,rfl⟩:=f;exact PySem.P.le_str ⟨.bl _,H,I,rfl,q⟩
 ·cases e
end
section
variable {X:Cx}{Y:Fx}{a b c d:Expr}{fa fb fc fd:En->R T}{pos:Pos}
noncomputable def Jo (f:T->Option Bool):List T->Option Bool
 | []=>some false
 | t :: r=>match f t with
  | none=>none
  | some b=>match Jo f r with
   | none=>none
   | some c=>some (b || c)
def nv (t t' :T):R Bool:=match t' with
 | .tup e=>match Jo (λy=>mE 30 y t) e with | some b=> .ok b | none=> .bad
 | .lst e=>match Jo (λy=>mE 30 y t) e with | some b=> .ok b | none=> .bad
 | _=> .bad
def Y8 (t t' :T):R Bool:=(nv t t').bind λb=> .ok (!b)
theorem Vg:Nx nv:=λt t' c h=>by
 unfold nv at h;split at h
 ·split at h <;> cases h
 ·split at h <;> cases h
 ·cases h
theorem HH:Nx Y8:=λt t' c h=>by
 unfold Y8 at h;cases e:nv t t' with
 | bad=>rw[e]at h;cases h
 | ex k=>exact absurd e (Vg _ _ _)
 | ok k=>rw[e]at h;cases h
open Classical in
theorem YH (f:T->Option Bool):∃e:Value->Bool,∀(v:V) (t:T) (u:Value) (b:Bool),RelV v u->Rep H v t->f t=some b->e u=b:=by
 refine⟨λu=>decide (∃v t,RelV v u/\Rep H v t/\f t=some true),λv t u b i r e=> ?_⟩;cases b with
 | true=>exact decide_eq_true ⟨v,t,i,r,e⟩
 | false=>
  refine decide_eq_false ?_
  rintro⟨l,t',g,k,j⟩
  have:=i.inj g;subst this;have:=r.fn k;subst this;rw[e]at j;cases j
theorem YI {H:Hp}{f:T->Option Bool}{e:Value->Bool}(p:∀(v:V) (t:T) (u:Value) (b:Bool),RelV v u->Rep H v t->f t=some b->e u=b):∀{xs:List V} {ts:List T} {g:List Value} {b:Bool},
  Vals xs g->zy H xs ts->Jo f ts=some b->g.any e=b/\∀u∈g,∃v t k,RelV v u/\Rep H v t/\f t=some k
 | _,_,_,b,.nil,.nil,h=>by
  have h' :=h;cases h';exact⟨rfl,λu y=>by simp at y⟩
 | _,_,_,b,.cons l vs,.cons r rs,h=>by
  rename_i v u o C t ts;unfold Jo at h;cases q:f t with
  | none=>rw[q]at h;cases h
  | some k=>
   rw[q]at h;cases j :Jo f ts with
   | none=>rw[j]at h;cases h
   | some D =>
    rw[j]at h;cases h;obtain⟨B,x⟩:=YI p vs rs j;refine⟨by rw[ib,B,p v t u k l r q],λw i=> ?_⟩
    rcases ak.mp i with rfl | i
    ·exact⟨v,t,k,l,r,q⟩
    ·exact x w i
theorem YJ (hu:X.A.units+64 < cLine)(g:Bool):mO X (compareOp (if g then .NotIn else .In)) (wF (if g then Y8 else nv)):=by
 intro S s σ H x y v u Q I rx ry h;obtain⟨t,t',b,r,r',e,q⟩:=h;have hs:∃k,nv t t' = .ok k/\b=(if g then !k else k):=by
  cases g with
  | false=>exact⟨b,e,rfl⟩
  | true=>
   have F :Y8 t t' = .ok b:=e;unfold Y8 at F;cases z:nv t t' with
   | bad=>rw[z]at F;cases F
   | ex k=>exact absurd z (Vg _ _ _)
   | ok k=>rw[z]at F;cases F;exact⟨k,rfl,rfl⟩
 obtain⟨k,i,rfl⟩:=hs;unfold nv at i;obtain⟨f,P⟩:=YH λy=>mE 30 y t;have j:∀w,(∃v t' k,RelV v w/\Rep H v t' /\mE 30 t' t=some k)->dk X.A.in1 s w v (f w):=λw ⟨Z,t',k,C,U,ee⟩=>by
  rw[P Z t' w k C U ee];exact(Vd I 30 _ (by rw[JS];omega) t' t k Z x w v ee U r C rx).1
 split at i
 ·split at i
  ·rename_i k' M;cases i;cases r' with
   | @tup l xs _ O G=>
    obtain rfl:u=Value.ref l:=ry;obtain⟨B,C,p,_⟩:=ZR I O G;obtain⟨N,J⟩:=YI P C G M;have D:B.toArray.any f=k:=by simpa using N
    cases g with
    | false=>exact SeqAt.in_tupleAt f p (λw o=>j w (J w (by simpa using o))) (by rw[D];exact⟨.bl k,H,I,rfl,q⟩)
    | true=>exact SeqAt.notIn_tupleAt f p (λw o=>j w (J w (by simpa using o))) (by rw[D];exact⟨.bl _,H,I,rfl,q⟩)
  ·cases i
 ·split at i
  ·rename_i k' M;cases i;cases r' with
   | @lst l xs _ O G=>
    obtain rfl:u=Value.ref l:=ry;obtain⟨B,C,p,_⟩:=zL I (.inl O) G;obtain⟨N,J⟩:=YI P C G M;have D:B.toArray.any f=k:=by simpa using N
    cases g with
    | false=>exact SeqAt.in_listAt f p (λw o=>j w (J w (by simpa using o))) (by rw[D];exact⟨.bl k,H,I,rfl,q⟩)
    | true=>exact SeqAt.notIn_listAt f p (λw o=>j w (J w (by simpa using o))) (by rw[D];exact⟨.bl _,H,I,rfl,q⟩)
  ·cases i
 ·cases i
theorem xY (e:X.A.units+64 < cLine):mO X (compareOp .In) (wF nv):=YJ e false
theorem kO (e:X.A.units+64 < cLine):mO X (compareOp .NotIn) (wF Y8):=YJ e true
noncomputable def uU (t t' :T):R Bool:=match t' with
 | .non=>match t with | .non=> .ok true | _=> .ok false
 | .bl k=>match t with | .bl j=> .ok (j == k) | _=> .ok false
 | _=> .bad
def jV (t t' :T):R Bool:=(uU t t').bind λb=> .ok (!b)
theorem Vh:Nx uU:=λt t' c h=>by
 unfold uU at h;split at h
 ·split at h <;> cases h
 ·split at h <;> cases h
 ·cases h
theorem F6:Nx jV:=λt t' c h=>by
 unfold jV at h;cases e:uU t t' with
 | bad=>rw[e]at h;cases h
 | ex k=>exact absurd e (Vh _ _ _)
 | ok k=>rw[e]at h;cases h
theorem YK (i:Bool):mO X (compareOp (if i then .IsNot else .Is)) (wF (if i then jV else uU)):=by
 intro o s D H x y v u Q I g w h;obtain⟨t,t',b,r,C,e,q⟩:=h;have B:∃k,uU t t' = .ok k/\b=(if i then !k else k):=by
  cases i with
  | false=>exact⟨b,e,rfl⟩
  | true=>
   have l :jV t t' = .ok b:=e;unfold jV at l;cases z:uU t t' with
   | bad=>rw[z]at l;cases l
   | ex k=>exact absurd z (Vh _ _ _)
   | ok k=>rw[z]at l;cases l;exact⟨k,rfl,rfl⟩
 obtain⟨k,f,rfl⟩:=B;have go:plainIs v u=true/\(v == u)=k:=by
  cases C with
  | non=>
   obtain rfl:u=Value.none:=w;cases r with
   | non=>obtain rfl:v=Value.none:=g;cases f;exact⟨rfl,rfl⟩
   | bl j=>obtain rfl:v=Value.bool j:=g;cases f;exact⟨rfl,rfl⟩
   | int j=>obtain⟨t,rfl⟩:=g;cases f;exact⟨rfl,rfl⟩
   | str j=>obtain⟨t,rfl⟩:=g;cases f;exact⟨rfl,rfl⟩
   | tup _ _=>obtain rfl:v=Value.ref _:=g;cases f;exact⟨rfl,rfl⟩
   | lst _ _=>obtain rfl:v=Value.ref _:=g;cases f;exact⟨rfl,rfl⟩
   | fz _ _=>obtain rfl:v=Value.ref _:=g;cases f;exact⟨rfl,rfl⟩
  | bl p =>
   obtain rfl:u=Value.bool p :=w;cases r with
   | non=>obtain rfl:v=Value.none:=g;cases f;exact⟨rfl,rfl⟩
   | bl j=>obtain rfl:v=Value.bool j:=g;cases f;exact⟨rfl,by cases j <;> cases p <;> rfl⟩
   | int j=>obtain⟨t,rfl⟩:=g;cases f;exact⟨rfl,rfl⟩
   | str j=>obtain⟨t,rfl⟩:=g;cases f;exact⟨rfl,rfl⟩
   | tup _ _=>obtain rfl:v=Value.ref _:=g;cases f;exact⟨rfl,rfl⟩
   | lst _ _=>obtain rfl:v=Value.ref _:=g;cases f;exact⟨rfl,rfl⟩
   | fz _ _=>obtain rfl:v=Value.ref _:=g;cases f;exact⟨rfl,rfl⟩
  | _=>cases f
 cases i with
 | false=>exact wpAny_is_plain go.1 (by rw[go.2];exact⟨.bl k,H,I,rfl,q⟩)
 | true=>exact wpAny_isNot_plain go.1 (by rw[go.2];exact⟨.bl _,H,I,rfl,q⟩)
theorem xZ:mO X (compareOp .Is) (wF uU):=YK false
theorem kP:mO X (compareOp .IsNot) (wF jV):=YK true
def ny (g f :T->T->R Bool)(fa fb fc:En->R T):En->R T:=λρ=>(fa ρ).bind λx=>(fb ρ).bind λy=>(g x y).bind λk=>if k=true then (fc ρ).bind λz=>(f y z).bind λe => .ok (.bl e) else .ok (.bl false)
def Ea (g e :T->T->R Bool)(fa fb fc:En->R T):En->R Bool:=λρ=>(fa ρ).bind λx=>(fb ρ).bind λy=>(g x y).bind λk=>if k=true then (fc ρ).bind λz=>e y z else .ok false
theorem kQ (nx:Nx g)(j :Nx g')(G:mO X (compareOp op) (wF g))(l :mO X (compareOp op') (wF g'))(u:jz X Y a fa)(J:jz X Y b fb)(F:jz X Y c fc)
  (w:lastMarks [op,op'] [b,c]=false:=by with_unfolding_all rfl):Snd X Y (.Compare a [op,op'] [b,c] pos) (ny g g' fa fb fc):= .mk λρ=>
 PE.imp (V7 G l (u ρ) (J ρ) (F ρ) w) λU H Q ⟨B,I,q⟩=>step I q λt v Z _ s1 C O x=>step O x λt' P S _ N o r f=>by
  cases e:g t t' with
  | bad=>rw[e]at f;exact f.elim
  | ex c=>exact absurd e (nx _ _ _)
  | ok k=>
   rw[e]at f;refine⟨t,t',k,C.mono N,o,e,k,rfl, ?_⟩;cases k with
   | false=>exact ZN r f (.bl _)
   | true=>
    refine step r f λp v3 H3 _ y M D i=> ?_
    ·cases e:g' t' p with
     | bad=>rw[e]at i;exact i.elim
     | ex c=>exact absurd e (j _ _ _)
     | ok k=>rw[e]at i;exact⟨t',p,k,o.mono y,M,e,ZN D i (.bl k)⟩
theorem kR (nx:Nx g)(j :Nx g')(G:mO X (compareOp op) (wF g))(l :mO X (compareOp op') (wF g'))(u:jz X Y a fa)(J:jz X Y b fb)(F:jz X Y c fc)
  (w:lastMarks [op,op'] [b,c]=false:=by with_unfolding_all rfl):ua X Y (.Compare a [op,op'] [b,c] pos) (Ea g g' fa fb fc):= .mk λρ=>
 PT.imp (V8 G l (u ρ) (J ρ) (F ρ) w) λU H Q ⟨B,I,q⟩=>step I q λt v Z _ s1 C O x=>step O x λt' P S _ N o r f=>by
  cases e:g t t' with
  | bad=>rw[e]at f;exact f.elim
  | ex c=>exact absurd e (nx _ _ _)
  | ok k=>
   rw[e]at f;refine⟨t,t',k,C.mono N,o,e,k,rfl, ?_⟩;cases k with
   | false=>exact⟨false,rfl,ZN r f rfl⟩
   | true=>
    refine step r f λp v3 H3 _ y M D i=> ?_
    ·cases e:g' t' p with
     | bad=>rw[e]at i;exact i.elim
     | ex c=>exact absurd e (j _ _ _)
     | ok k=>rw[e]at i;exact⟨t',p,k,o.mono y,M,e,k,rfl,ZN D i rfl⟩
def kS (r B f :R2)(l tb tc u:TE):TE:=λe H Q=>l e H λx w=>tb e w λy q=>r x y q λz H3=>∃k,z= .bl k/\
 (if k=true then tc e H3 λj o=>B y j o λp g=>∃i,p = .bl i /\(if i =true then u e g λw2 v=>f j w2 v Q else Q (.bl false) g) else Q (.bl false) H3)
theorem YL (ho:mO X (compareOp op) r)(i :mO X (compareOp op') r')(g :mO X (compareOp op'') r'')(J:PE X a ta)(hb:PE X b tb)(hc:PE X c tc)(hd:PE X d td)
  (N:lastMarks [op,op',op''] [b,c,d]=false:=by with_unfolding_all rfl):PE X (.Compare a [op,op',op''] [b,c,d] pos) (kS r r' r'' ta tb tc td):=by
 intro j s f H Q I h;refine Compare_chain (mH (J _ s f H _ I h) λv s1 ⟨x,H1,I1,r1,U⟩=>chain_link (mH (hb _ s1 f H1 _ I1 U) λu s2 ⟨y,P,I2,l,q2⟩=>
  mH (ho _ s2 f P x y v u _ I2 r1 l q2) λd' s3 ⟨z,H3,w,r3,k,e,C⟩=> ?_)) N
 subst e;cases r3;refine bh ?_;cases k with
 | false=>exact ite_ff ⟨.bl _,H3,w,rfl,C⟩
 | true=>
  refine ite_tt (chain_link (mH (hc _ s3 f H3 _ w C) λq s4 ⟨B,H4,I4,F,q4⟩=>mH (i _ s4 f H4 y B u q _ I4 l F q4) λd2 S ⟨z5,p,D,r5,M,e5,o⟩=> ?_));subst e5;cases r5;refine bh ?_;cases M with
  | false=>exact ite_ff ⟨.bl _,p,D,rfl,o⟩
  | true=>exact ite_tt (chain_last (mH (hd _ S f p _ D o) λO G ⟨z6,Z,I6,r6,q6⟩=>g _ G f Z B z6 q O Q I6 F r6 q6))
def rk (g j f :T->T->R Bool)(fa fb fc fd:En->R T):En->R T:=λρ=>(fa ρ).bind λx=>(fb ρ).bind λy=>(g x y).bind λk=>if k=true then (fc ρ).bind λz=>(j y z).bind λi =>
 if i =true then (fd ρ).bind λw=>(f z w).bind λe => .ok (.bl e) else .ok (.bl false) else .ok (.bl false)
theorem Vi (nx:Nx g)(r :Nx g')(i :Nx g'')(U:mO X (compareOp op) (wF g))(u :mO X (compareOp op') (wF g'))(f :mO X (compareOp op'') (wF g''))
  (F:jz X Y a fa) (Z:jz X Y b fb) (S:jz X Y c fc) (hd:jz X Y d fd)
  (G:lastMarks [op,op',op''] [b,c,d]=false:=by with_unfolding_all rfl):Snd X Y (.Compare a [op,op',op''] [b,c,d] pos) (rk g g' g'' fa fb fc fd):= .mk λρ=>
 PE.imp (YL U u f (F ρ) (Z ρ) (S ρ) (hd ρ) G) λσ H Q ⟨B,I,q⟩=>step I q λt v H1 _ s1 O I1 J=>step I1 J λt' v' H2 _ s2 w y l=>by
  cases e:g t t' with
  | bad=>rw[e]at l;exact l.elim
  | ex c=>exact absurd e (nx _ _ _)
  | ok k=>
   rw[e]at l;refine⟨t,t',k,O.mono s2,w,e,k,rfl, ?_⟩;cases k with
   | false=>exact ZN y l (.bl _)
   | true=>
    refine step y l λo v3 H3 _ M C x j=> ?_
    ·cases e:g' t' o with
     | bad=>rw[e]at j;exact j.elim
     | ex c=>exact absurd e (r _ _ _)
     | ok k=>
      rw[e]at j;refine⟨t',o,k,w.mono M,C,e,k,rfl, ?_⟩;cases k with
      | false=>exact ZN x j (.bl _)
      | true=>
       refine step x j λD v4 H4 _ N r4 P p=> ?_
       ·cases e:g'' o D with
        | bad=>rw[e]at p;exact p.elim
        | ex c=>exact absurd e (i _ _ _)
        | ok k=>rw[e]at p;exact⟨o,D,k,C.mono N,r4,e,ZN P p (.bl k)⟩
variable {rest:List Expr}{ga gb:En->R Bool}
def j8 (fa fb:En->R T):En->R T:=λρ=>(fa ρ).bind λx=>match x with
 | .bl true=>fb ρ
 | .bl false=> .ok (.bl false)
 | _=> .bad
def pR (fa fb:En->R T):En->R T:=λρ=>(fa ρ).bind λx=>match x with
 | .bl true=> .ok (.bl true)
 | .bl false=>fb ρ
 | _=> .bad
def vX (fa:En->R T):En->R T:=λρ=>(fa ρ).bind λx=>match x with
 | .bl k=> .ok (.bl (!k))
 | _=> .bad
theorem LU {op}(h:Snd X Y a fa):Snd X Y (.BoolOp op [a] pos) fa:= .mk λρ=>Gs (h ρ)
theorem Fw (g:Snd X Y a fa)(i:Snd X Y (.BoolOp .And (b :: rest) pos) fb):Snd X Y (.BoolOp .And (a :: b :: rest) pos) (j8 fa fb):= .mk λρ=>
 PE.imp (Gu (g ρ) (i ρ)) λo H Q ⟨B,I,q⟩=>step I q λt v p _ l j f e=>by
  cases j with
  | bl k=>
   refine⟨k,rfl, ?_⟩;cases k with
   | true=>exact⟨_,f,e⟩
   | false=>exact ZN f e (.bl _)
  | _=>exact e.elim
theorem B5 (g:Snd X Y a fa)(i:Snd X Y (.BoolOp .Or (b :: rest) pos) fb):Snd X Y (.BoolOp .Or (a :: b :: rest) pos) (pR fa fb):= .mk λρ=>
 PE.imp (HC (g ρ) (i ρ)) λo H Q ⟨B,I,q⟩=>step I q λt v p _ l j f e=>by
  cases j with
  | bl k=>
   refine⟨k,rfl, ?_⟩;cases k with
   | false=>exact⟨_,f,e⟩
   | true=>exact ZN f e (.bl _)
  | _=>exact e.elim
theorem Ix (f:Snd X Y a fa):Snd X Y (.UnaryOp .Not a pos) (vX fa):= .mk λρ=>
 PE.imp (Gv (f ρ)) λl H Q ⟨B,I,q⟩=>step I q λt v o _ j i g e=>by
  cases i with
  | bl k=>exact⟨k,rfl,ZN g e (.bl _)⟩
  | _=>exact e.elim
structure Y9 (X:Cx) (Y:Fx) (e:Expr) (f:En->R Bool):Prop where
 mk ::
 go:∀ρ,PW X e (tS Y rE f ρ)
instance {X:Cx}{Y:Fx}{e:Expr}{f:En->R Bool}:CoeFun (Y9 X Y e f) λ_=>∀ρ,PW X e (tS Y rE f ρ):=⟨Y9.go⟩
theorem Y9.t (h:Y9 X Y e f):ua X Y e f:= .mk λρ=>(h ρ).pt
theorem PW.imp (h:PW X e t)(i:∀f H Q,t' f H Q->t f H Q):PW X e t' :=λj g s f H Q I q=>h j _ s f H Q I (i f H Q q)
def X0 (fa fb:En->R Bool):En->R Bool:=λρ=>(fa ρ).bind λx=>if x=true then fb ρ else .ok false
def nz (fa fb:En->R Bool):En->R Bool:=λρ=>(fa ρ).bind λx=>if x=true then .ok true else fb ρ
def jW (fa:En->R Bool):En->R Bool:=λρ=>(fa ρ).bind λx=> .ok (!x)
theorem L5 (h:ua X Y a ga):Y9 X Y (.BoolOp .And [a] pos) ga:= .mk λρ=>k8 (h ρ)
theorem Hz (h:ua X Y a ga):Y9 X Y (.BoolOp .Or [a] pos) ga:= .mk λρ=>Gp (h ρ)
theorem IN (i:ua X Y a ga)(j:Y9 X Y (.BoolOp .And (b :: rest) pos) gb):Y9 X Y (.BoolOp .And (a :: b :: rest) pos) (X0 ga gb):= .mk λρ=>
 PW.imp (Gq (i ρ) (j ρ)) λo H Q ⟨B,I,q⟩=>step I q λt v p _ l k g f=>by
  have e :=k;subst e;cases v with
  | true=>exact⟨_,g,f⟩
  | false=>exact ZN g f rfl
theorem CI (i:ua X Y a ga)(j:Y9 X Y (.BoolOp .Or (b :: rest) pos) gb):Y9 X Y (.BoolOp .Or (a :: b :: rest) pos) (nz ga gb):= .mk λρ=>
 PW.imp (Ld (i ρ) (j ρ)) λo H Q ⟨B,I,q⟩=>step I q λt v p _ l k g f=>by
  have e :=k;subst e;cases v with
  | false=>exact⟨_,g,f⟩
  | true=>exact ZN g f rfl
theorem Ik (f:ua X Y a ga):ua X Y (.UnaryOp .Not a pos) (jW ga):= .mk λρ=>
 PT.imp (Gr (f ρ)) λl H Q ⟨B,I,q⟩=>step I q λt v o _ k j i g=>by
  have e :=j;subst e;exact ZN i g rfl
noncomputable def Ch:T->R Bool
 | .bl k=> .ok k
 | .non=> .ok false
 | .int i=> .ok (i != 0)
 | .tup xs=> .ok (!xs.isEmpty)
 | .lst xs=> .ok (!xs.isEmpty)
 | _=> .bad
def ZX (fa:En->R T):En->R Bool:=λρ=>(fa ρ).bind Ch
theorem Em (r:zy H xs ts):(!xs.isEmpty)= !ts.isEmpty:=by cases r <;> rfl
theorem Ho (j:jz X Y a fa)(l:∀e,isTrue a X.env e=(do let v ← e;standAt a.pos;holding [v] (truthy v)):=by intro _;rfl):ua X Y a (ZX fa):= .mk λρ=>
 PT.imp (V9 (j ρ) l) λp H Q ⟨B,I,q⟩=>step I q λt v u _ w o g f=>by
  cases o with
  | bl k=>exact⟨k,rfl,ZN g f rfl⟩
  | non=>exact⟨false,rfl,ZN g f rfl⟩
  | int i=>exact⟨_,rfl,ZN g f rfl⟩
  | tup h r=>exact⟨_,.inr (.inl ⟨_,SqT.of h,rfl⟩),ZN g f (Em r)⟩
  | lst h r=>exact⟨_,.inl ⟨_,SqL.of h,rfl⟩,ZN g f (Em r)⟩
  | _=>exact f.elim
def mZ (g:En->R Bool)(fa fb:En->R T):En->R T:=λρ=>(g ρ).bind λk=>if k=true then fa ρ else fb ρ
theorem B4 (j:ua X Y c ga)(i:Snd X Y a fa)(k:Snd X Y b fb):Snd X Y (.IfExp c a b pos) (mZ ga fa fb):= .mk λρ=>
 PE.imp (V5 (j ρ) (i ρ) (k ρ)) λp H Q ⟨B,I,q⟩=>step I q λt v r _ o l g f=>by
  have e :=l;subst e;cases v with
  | true=>exact⟨_,g,f⟩
  | false=>exact⟨_,g,f⟩
end
end PV
namespace PV
open PySem PySem.Spec PyProof.Rows L2
section
variable {X:Cx}{Y:Fx}{a b c d:Expr}{fa fb fc fd:En->R T}{pos p:Pos}
def mw (g:T->R T)(fa:En->R T):En->R T:=λρ=>(fa ρ).bind g
noncomputable abbrev mY (X:Cx)(a:Expr):Prop:=starEach [a] X.env=[(false,eval a X.env)]
theorem JT {id:String}{x:Str}{r:List V->Hp->VK->Prop}{g:T->R T}(i:Z7 X (.builtin id) r)(hr:∀v t B H Q,Rep H v t->zo B H->Po Y rC B H (g t) Q->r [v] H Q)
  (l:Gl X x) (f:X.mg x=none) (w:bootBuiltins x=some (.builtin id)) (j:jz X Y a fa) (e:mY X a:=by exact mQ rfl) (hn:x ≠ "__name__":=by decide) (hd:(x == ("__debug__":Str))=false:=by decide):Snd X Y (.Call (.Name x p) [a] [] pos) (mw g fa):= .mk λρ=>
 PE.imp (ZM i l f w (zm (j ρ) zH e) hn hd e rfl) λD H Q ⟨B,I,q⟩=>step I q λt v u _ C y o k=>hr v t _ u Q y o.sB k
theorem X1 {id:String}{x:Str}{r:List V->Hp->VK->Prop}{g:T->R T}(i:Z7 X (.type id) r)(hr:∀v t B H Q,Rep B v t->zo B H->Po Y rC B H (g t) Q->r [v] H Q)
  (l:Gl X x) (f:X.mg x=none) (w:bootBuiltins x=some (.type id)) (j:Snd X Y a fa) (e:mY X a:=by exact mQ rfl) (hn:x ≠ "__name__":=by decide) (hd:(x == ("__debug__":Str))=false:=by decide):Snd X Y (.Call (.Name x p) [a] [] pos) (mw g fa):= .mk λρ=>
 PE.imp (ZZ i l f w (zm (j ρ) zH e) hn hd e rfl) λD H Q ⟨B,I,q⟩=>step I q λt v u _ C y o k=>hr v t _ u Q y o.sB k
def Z6:T->R T
 | .tup xs=> .ok (.int xs.length)
 | .lst xs=> .ok (.int xs.length)
 | .fz xs=> .ok (.int xs.length)
 | .str x=>if x.length<=mF then .ok (.int x.length) else .bad
 | _=> .bad
theorem Il (v:V)(t:T)(B H:Hp)(Q:VK)(r:Rep H v t)(e:zo B H)(q:Po Y rC B H (Z6 t) Q):
  (∃p g,[v]=[V.ref p]/\(SqL X.K H p g\/SqT X.K H p g)/\Q (V.int g.length) H)\/(∃z,[v]=[V.str z]/\z.length<=sizeLine/\Q (V.int z.length) H):=by
 cases r with
 | tup h r=>exact .inl ⟨_,_,rfl,.inr (SqT.of h),mV e q rfl (by rw[r.length];exact .int _)⟩
 | lst h r=>exact .inl ⟨_,_,rfl,.inl (SqL.of h),mV e q rfl (by rw[r.length];exact .int _)⟩
 | fz h r=>exact .inl ⟨_,_,rfl,.inl (.inl (.inr ⟨_,h⟩)),mV e q rfl (by rw[r.length];exact .int _)⟩
 | str x=>
  by_cases f:x.length<=mF
  ·exact .inr ⟨x,rfl,ZF f,mV e q (if_pos f) (.int _)⟩
  ·rw[show Z6 (.str x)= .bad from if_neg f]at q;exact q.elim
 | _=>exact q.elim
theorem II (f:Gl X "len")(e:X.mg "len"=none)(i:jz X Y a fa)(g:mY X a:=by exact mQ rfl):Snd X Y (.Call (.Name "len" p) [a] [] pos) (mw Z6 fa):=
 JT (u7.or u8) Il f e PySem.boot_len i g
noncomputable def sD:T->R T
 | .tup xs=> .ok (.tup xs)
 | .lst xs=> .ok (.tup xs)
 | _=> .bad
theorem L0 (v:V)(t:T)(B H:Hp)(Q:VK)(r:Rep B v t)(e:zo B H)(q:Po Y rC B H (sD t) Q):
  ∃p f,[v]=[V.ref p]/\((SqL X.K H p f/\∀l,H l=none->Q (.ref l) (mz H l (.tup f)))\/(SqT X.K H p f/\Q (.ref p) H)):=by
 cases r with
 | tup h r=>exact⟨_,_,rfl,.inr ⟨SqT.of (e _ _ h),mV e q rfl (.tup h r)⟩⟩
 | lst h r=>exact⟨_,_,rfl,.inl ⟨SqL.of (e _ _ h),λl g=>GU e q rfl r g⟩⟩
 | _=>exact q.elim
theorem kT (f:Gl X "tuple")(e:X.mg "tuple"=none)(i:Snd X Y a fa)(g:mY X a:=by exact mQ rfl):Snd X Y (.Call (.Name "tuple" p) [a] [] pos) (mw sD fa):=
 X1 W9 L0 f e (PyProof.Rows.Boot.«tuple») i g
noncomputable def nH:T->String
 | .non=>"NoneType"
 | .bl _=>"bool"
 | .int _=>"int"
 | .str _=>"str"
 | .tup _=>"tuple"
 | .lst _=>"list"
 | .fz _=>"list"
def nD (n:String)(t:T):Bool:=nH t == n || (n == "int" && nH t == "bool")
theorem IM (K:ai)(r:Rep H v t):yy K H v (.type (nH t)):=by
 cases r with
 | non=>exact .non
 | bl b=>exact .bl b
 | int b=>exact .int b
 | str b=>exact .str b
 | tup h _=>exact .tup h
 | lst h _=>exact .lst h
 | fz h _=>exact .frz h
theorem Vj:Z7 X (.builtin "isinstance") (λxs H Q=>∃v n t,xs=[v,.ty n]/\Rep H v t/\bL X.K (.type (nH t)) (.type n)=some (nD n t)/\Q (.bl (nD n t)) H):=by
 intro f s l H xs k Q I g h;obtain⟨v,n,t,rfl,r,j,q⟩:=h;obtain⟨u,w,rfl,i,e⟩:=uR g;obtain rfl:w=Value.type n:=e;exact Yt I i (IM X.K r) j λtk=>⟨.bl _,H,I.tok tk,rfl,q⟩
def WS (n:String)(t:T):R T:= .ok (.bl (nD n t))
theorem kU (K:ai)(t:T):bL K (.type (nH t)) (.type "int")=some (nD "int" t):=by cases t <;> rfl
theorem Vk (K:ai)(t:T):bL K (.type (nH t)) (.type "bool")=some (nD "bool" t):=by cases t <;> rfl
theorem kX (K:ai)(t:T):bL K (.type (nH t)) (.type "str")=some (nD "str" t):=by cases t <;> rfl
theorem uc (K:ai)(t:T):bL K (.type (nH t)) (.type "tuple")=some (nD "tuple" t):=by cases t <;> rfl
theorem Vl (K:ai)(t:T):bL K (.type (nH t)) (.type "list")=some (nD "list" t):=by cases t <;> rfl
theorem Vm (u:∀t,bL X.K (.type (nH t)) (.type n)=some (nD n t))(o:Gl X "isinstance")(j:X.mg "isinstance"=none)(g :Gl X (aC n))(f :X.mg (aC n)=none)(y:bootBuiltins (aC n)=some (.type n))(k:jz X Y a fa)
  (i:starEach [a,.Name (aC n) p'] X.env=[(false,eval a X.env),(false,eval (.Name (aC n) p') X.env)]:=by exact nP rfl rfl) (e:starEach [.Name (aC n) p'] X.env=[(false,eval (.Name (aC n) p') X.env)]:=by exact mQ rfl)
  (hn:aC n ≠ "__name__":=by decide) (hd:(aC n == ("__debug__":Str))=false:=by decide) (hz:((backTo pos (starEach [.Name (aC n) p'] X.env)).any λx=>x.fst)=false:=by exact zT rfl):
  Snd X Y (.Call (.Name "isinstance" p) [a,.Name (aC n) p'] [] pos) (mw (WS n) fa):= .mk λρ=>
 PE.imp (ZM Vj o j PyProof.Rows.Boot.«isinstance» (zm (k ρ) (zm (uQ (v:= .ty n) g f y rfl hn hd) zH e) (by rw[i,e])) (by decide) (by decide) (by rw[i,e]) hz) λD H Q ⟨B,I,q⟩=>
  step I q λt v F _ C w r l=>⟨v,n,t,rfl,w,u t,mV r.sB l rfl (.bl _)⟩
def mS (xs:List T)(i:Int):R T:=match nw xs i with
 | some t=> .ok t
 | none=> .bad
def kj:T->T->R T
 | .tup xs,.int i=>mS xs i
 | .lst xs,.int i=>mS xs i
 | .fz xs,.int i=>mS xs i
 | .str z,.int i=>if z.length<=mF then match nw z.cps.toList i with | some c=> .ok (.str ⟨#[c]⟩) | none=> .bad else .bad
 | _,_=> .bad
theorem YM (r:zy H xs ts)(h:nw ts i=some t):∃v,nw xs i=some v/\Rep H v t:=by
 unfold nw at h ⊢;rw[r.length];cases e:oD _ i with
 | none=>rw[e]at h;cases h
 | some j=>
  rw[e]at h;obtain⟨v,g,f⟩:=r.get (h);exact⟨v,g,f⟩
theorem Cr (D:Snd X Y a fa)(u:Snd X Y b fb)(y:Yy b:=by exact λ_ _=>rfl):Snd X Y (.Subscript a b pos) (zd kj fa fb):= .mk λρ=>
 PE.imp (GJ GM (D ρ) (u ρ) y) λM H Q ⟨B,I,q⟩=>step I q λt v N _ O o x F=>step x F λt' J l _ G C g f=>by
  have o:=o.mono (zF.ge x.sB G);cases C with
  | int i=>
   cases o with
   | @tup _ xs ts h r=>
    have f:Po Y rC _ l (mS ts i) Q:=f;unfold mS at f;split at f
    ·rename_i t' e;obtain⟨w,j,k⟩:=YM r e;exact .inr (.inl ⟨_,xs,i,w,rfl,rfl,SqT.of (g.sB _ _ h),j,mV g.sB f rfl k⟩)
    ·exact f.elim
   | @lst _ xs ts h r=>
    have f:Po Y rC _ l (mS ts i) Q:=f;unfold mS at f;split at f
    ·rename_i t' e;obtain⟨w,j,k⟩:=YM r e;exact .inl ⟨_,xs,i,w,rfl,rfl,SqL.of (g.sB _ _ h),j,mV g.sB f rfl k⟩
    ·exact f.elim
   | @fz _ _ xs ts h r=>
    have f:Po Y rC _ l (mS ts i) Q:=f;unfold mS at f;split at f
    ·rename_i t' e;obtain⟨w,j,k⟩:=YM r e;exact .inl ⟨_,xs,i,w,rfl,rfl,.inl (.inr ⟨_,g.sB _ _ h⟩),j,mV g.sB f rfl k⟩
    ·exact f.elim
   | str z=>
    have f:Po Y rC _ l (if z.length<=mF then match nw z.cps.toList i with | some c=> .ok _ | none=> .bad else .bad) Q:=f
    split at f
    ·rename_i u;split at f
     ·rename_i c e;exact .inr (.inr ⟨z,i,c,rfl,rfl,ZF u,e,mV g.sB f rfl (.str _)⟩)
     ·exact f.elim
    ·exact f.elim
   | _=>exact f.elim
  | _=>cases o <;> exact f.elim
structure kY (X:Cx) (Y:Fx) (e:Option Expr) (f:En->R (Option Int)):Prop where
 mk ::
 go:∀ρ,PO X e (tS Y rE f ρ)
instance {X:Cx}{Y:Fx}{e:Option Expr}{f:En->R (Option Int)}:CoeFun (kY X Y e f) λ_=>∀ρ,PO X e (tS Y rE f ρ):=⟨kY.go⟩
def nr:En->R (Option Int):=λ_=> .ok none
def Zj (fa:En->R T):En->R (Option Int):=λρ=>(fa ρ).bind λt=>match t with
 | .int i=> .ok (some i)
 | _=> .bad
theorem PO.imp {e:Option Expr}{t t' :TO}(h:PO X e t)(i:∀f H Q,t' f H Q->t f H Q):PO X e t' :=λg s f H Q I q=>h _ s f H Q I (i f H Q q)
theorem HW:kY X Y none nr:= .mk λρ=>PO.imp ko λe H Q ⟨B,I,q⟩=>ZN I q rfl
theorem F0 (f:Snd X Y a fa):kY X Y (some a) (Zj fa):= .mk λρ=>PO.imp (ku (f ρ)) λl H Q ⟨B,I,q⟩=>step I q λt v o _ k j g e=>by
 cases j with
 | int i=>exact⟨i,rfl,ZN g e rfl⟩
 | _=>exact e.elim
noncomputable def nJ (xs:List T)(lo hi:Option Int):List T:=(xs.drop (HT.sIx xs.length 0 lo)).take (HT.sIx xs.length xs.length hi - HT.sIx xs.length 0 lo)
def oZ (t:T)(lo hi:Option Int):R T:=match t with
 | .tup xs=> .ok (.tup (nJ xs lo hi))
 | .lst xs=> .ok (.lst (nJ xs lo hi))
 | _=> .bad
def nj (fa:En->R T)(fl e:En->R (Option Int)):En->R T:=λρ=>(fa ρ).bind λt=>(fl ρ).bind λlo=>(e ρ).bind λhi=>oZ t lo hi
theorem YN {lo hi:Option Int}(r:zy H xs ts):zy H (G6 xs lo hi) (nJ ts lo hi):=by
 unfold G6 nJ;rw[r.length];exact(r.drop _).take _
theorem Jd {lo hi:Option Int}(e:IsTup s.heap t items)(l:s.heap.IsSliceOf sl vl vu .none)(pl:IsPart vl lo)(o:IsPart vu hi)
  (k:HT.sIx items.size 0 lo=0/\HT.sIx items.size items.size hi=items.size) (h:Q (.ref t) s):wpAny (model prog w) A (getItem (.ref t) (.ref sl)) Q E s:=by
 obtain⟨os,i,j,q⟩:=id l;have g:s.TypeIs (.ref sl) _:=⟨os,i,j⟩;unfold getItem
 try with_reducible refine bp ?_
 refine a8 (wpAny_sequenceKey e.typeIs (by decide) ?_)
 refine a8 (aX e.typeIs bu
  (aM bu e.typeIs entry_tuple_getitem ?_ (args_tuple_getitem _ _)))
 show wpAny _ _ (hJ _ >>= _) _ _ s;refine a8 (tupleItemsOf_ e ?_);refine a8 (dS g ?_);refine a8 (HT.sliceApplied_gen l pl o ?_);have f:(((HT.sIx items.size 0 lo):Int) == 0 && (1:Int) == 1 && (HT.sIx items.size items.size hi - HT.sIx items.size 0 lo) == items.size)=true:=by
  rw[k.1,k.2];simp
 show wpAny _ _ (if (((HT.sIx _ 0 lo:Nat):Int) == 0 && (1) == 1 && (HT.sIx _ _ hi - HT.sIx _ 0 lo) == items.size)=true then _ else _) _ _ s
 rw[if_pos f];refine a8 (a8 (dS e.typeIs (ac ?_)));exact a8 (du (ac ⟨_,rfl,ac h⟩))
theorem yE:SlR X (λx lo hi H Q=>∃a xs,x= .ref a/\SqT X.K H a xs/\(HT.sIx xs.length 0 lo=0/\HT.sIx xs.length xs.length hi=xs.length)/\Q (.ref a) H):=by
 intro g s B H x v vl w lo hi y Q I j o pl l h;obtain⟨a,xs,rfl,u,k,q⟩:=h;obtain rfl:v=Value.ref a:=j;obtain⟨f,r,i,hz⟩:=I.tuple u;have e:f.toArray.size=xs.length:=by exact r.length.symm
 refine⟨"tuple",_,bu.lookup,i.typeIs, ?_⟩;exact Jd i o pl l (by rw[e];exact k) ⟨.ref a,H,I,rfl,q⟩
theorem kZ {lo hi:Option Int}(f:HT.sIx xs.length 0 lo=0)(e:HT.sIx xs.length xs.length hi=xs.length):nJ xs lo hi=xs:=by
 unfold nJ;rw[f,e];simp
theorem K0 {lo hi:Option Expr}{fl u:En->R (Option Int)}(D:Snd X Y a fa)(y:kY X Y lo fl)(P:kY X Y hi u):Snd X Y (.Subscript a (.Slice lo hi none p2) pos) (nj fa fl u):= .mk λρ=>
 PE.imp (Vc (GI.or (yE.or kA)) (D ρ) (y ρ) (P ρ)) λU H Q ⟨B,I,q⟩=>step I q λt v Z _ s1 k x G=>step x G λl M S _ O F w N=>step w N λh h' H3 _ J C e i=>by
  have j :=F;have o :=C;subst j o;have k:=k.mono ((zF.ge x.sB O).trans (zF.ge w.sB J));cases k with
  | @tup _ xs ts g r=>
   by_cases f:HT.sIx xs.length 0 M =0/\HT.sIx xs.length xs.length h' =xs.length
   ·refine .inr (.inl ⟨_,xs,rfl,SqT.of (e.sB _ _ g),f,mV e.sB i rfl ?_⟩);rw[r.length]at f;rw[kZ f.1 f.2];exact .tup g r
   ·exact .inl ⟨_,xs,rfl,SqT.of (e.sB _ _ g),f,λp hp=>GU e.sB i rfl (YN r) hp⟩
  | @lst _ xs ts g r=>
   exact .inr (.inr ⟨_,xs,rfl,SqL.of (e.sB _ _ g),λp hp=>BH e.sB i rfl (YN r) hp⟩)
  | _=>exact i.elim
noncomputable def wH (t t' :T):R T:=match t,t' with
 | .int i,.int j=> .ok (.int (if j < i then j else i))
 | _,_=> .bad
theorem FK (u:X.calm=true)(y:Gl X "min")(l:X.mg "min"=none)(r:Snd X Y a fa)(w:Snd X Y b fb)
  (g:starEach [a,b] X.env=[(false,eval a X.env),(false,eval b X.env)]:=by exact nP rfl rfl) (e:starEach [b] X.env=[(false,eval b X.env)]:=by exact mQ rfl):
  Snd X Y (.Call (.Name "min" p) [a,b] [] pos) (zd wH fa fb):= .mk λρ=>
 PE.imp (ZM (Yq u) y l PyProof.Rows.Boot.«min» (zm (r ρ) (zm (w ρ) zH e) (by rw[g,e])) (by decide) (by decide) (by rw[g,e]) (by rw[e];rfl)) λN H Q ⟨B,I,q⟩=>
  step I q λt v O _ G D C x=>step C x λt' F J _ M k o f=>by
   cases D with
   | int i=>
    cases k with
    | int j=>exact⟨i,j,rfl,mV o.sB f rfl (.int _)⟩
    | _=>exact f.elim
   | _=>cases k <;> exact f.elim
noncomputable def WT:List T->Option Bool
 | []=>some true
 | .bl k :: r=>match WT r with | some j=>some (k && j) | none=>none
 | _ :: _=>none
def Vn:T->R T
 | .lst ts=>match WT ts with | some k=> .ok (.bl k) | none=> .bad
 | _=> .bad
theorem YO:∀{H:Hp} {xs:List V} {ts:List T} {f:List Value} {k:Bool},zy H xs ts->Vals xs f->WT ts=some k->∃tr:Nat->Bool,(∀i v,f[i]? =some v->v=Value.bool (tr i))/\(aN f.length).all tr=k
 | _,_,_,_,k,.nil,.nil,h=>by
  have h' :=h;cases h';exact⟨λ_=>true,λi v e=>by simp at e,rfl⟩
 | H,_,_,_,k,.cons r rs,.cons (b:=u) rv vs,h=>by
  cases r with
  | bl b=>
   unfold WT at h;split at h
   ·rename_i j e;cases h;obtain⟨tr,l,g⟩:=YO rs vs e;obtain rfl:u=Value.bool b:=rv;refine⟨λi=>match i with | 0=>b | i+1=>tr i,λi v e=> ?_, ?_⟩
    ·cases i with
     | zero=>simp at e;exact e.symm
     | succ i=>exact l i v (by simpa using e)
    ·rw[aw,dq,cX,lK,← g];rfl
   ·cases h
  | _=>cases h
theorem YQ (J:X.A.handled=none):Z7 X (.builtin "all") (λvs H Q=>∃l xs ts k,vs=[.ref l]/\H l=some (.lst xs)/\zy H xs ts/\WT ts=some k/\Q (.bl k) H):=by
 intro y s O H vs P Q I g h;obtain⟨l,xs,ts,k,rfl,x,r,C,q⟩:=h;obtain⟨u,rfl,G⟩:=Zn g;obtain rfl:u=Value.ref l:=G;obtain⟨w,g,p,_⟩:=zL I (.inl x) r;obtain⟨tr,F,D⟩:=YO r g C;refine call_all_walk (ck p ?_);have f:=I.hok.lt x;have old:∀b o,s.heap.get? b=some o->(s.heap.push { cls:= .type "list_iterator",data:= .fields #[.ref l,.int 0 0] }).get? b=some o:=λb o e=>ab _ e;refine⟨s.heap.objs.size,_,_,_,_,_,tr,rfl,hW (A:=X.A.in1) J _ l (aF f) w.toArray, ?_, ?_,λh' tk j => ?_⟩
 ·refine⟨?_,p.at λo e=>old _ o e⟩;exact⟨_,af _ rfl,rfl,rfl⟩
 ·intro i v S M N hi B;rw[F i v (by simpa using hi)]
  exact bh B
 ·rw[aD,D];refine⟨.bl k,H,I.kept (λb o e=>j b o ?_ (old b o e)),rfl,q⟩;simp;exact aF (au e)
theorem HE (u:X.A.handled=none)(o:Gl X "all")(j:X.mg "all"=none)(i:jz X Y a fa)(g:mY X a:=by exact mQ rfl):Snd X Y (.Call (.Name "all" p) [a] [] pos) (mw Vn fa):=
 JT (YQ u) (λv t B H Q r f q=>by
  cases r with
  | @lst l xs ts h r=>
   have q:Po Y rC B H (match WT ts with | some k=> .ok _ | none=> .bad) Q:=q
   split at q
   ·rename_i k e;exact⟨l,xs,ts,k,rfl,h,r,e,mV f q rfl (.bl k)⟩
   ·exact q.elim
  | _=>exact q.elim) o j PyProof.Rows.Boot.«all» i g
end
inductive RS where
 | nx (ρ:En) | rt (t:T) | bk (ρ:En) | ct (ρ:En) | ex (c:Nat) | bad | rf (ts:List T)
noncomputable def R.s {d:Type}(r:R d)(k:d->RS):RS:=match r with
 | .ok a=>k a
 | .ex c=> .ex c
 | .bad=> .bad
def PoS (Y:Fx)(B:Hp)(r:RS)(D:xM):Prop:=match r with
 | .nx ρ' =>∀σ' d e,zo B e ->SI Y e ρ' σ' d ->D.nx σ' d
 | .rt t=>∀v d,zo Y.H0 d ->Rep (zF Y.B0 Y.H0 d) v t->D.rt v d
 | .bk ρ' =>∀σ' d e,zo B e ->SI Y e ρ' σ' d ->D.bk σ' d
 | .ct ρ' =>∀σ' d e,zo B e ->SI Y e ρ' σ' d ->D.ct σ' d
 | .ex c=>XP Y B c
 | .bad=>False
 | .rf ts=>∀a xs d e,zo Y.H0 d ->Y.H0 a=none->d a=some (.lst xs)->zy e xs ts->e a=none->zo e (zF Y.B0 Y.H0 d)->D.rt (.ref a) d
theorem PoS.up {r:RS}{D:xM}(s:zo B B')(h:PoS Y B r D):PoS Y B' r D:=by
 cases r with
 | nx ρ=>exact λσ' a e f I=>h σ' a e (s.trans f) I
 | bk ρ=>exact λσ' a e f I=>h σ' a e (s.trans f) I
 | ct ρ=>exact λσ' a e f I=>h σ' a e (s.trans f) I
 | rt t=>exact h
 | rf t=>exact h
 | ex c=>exact λd a g i=>h d a g (s.trans i)
 | bad=>exact h
def o9 (Y:Fx)(f:En->RS)(ρ:En):TS:=λD a H=>∃B,SI Y B ρ a H/\PoS Y B (f ρ) D
structure Wd (X:Cx) (Y:Fx) (e:Stmt) (f:En->RS):Prop where
 mk ::
 go:∀ρ,PS X e (o9 Y f ρ)
instance {X:Cx}{Y:Fx}{e:Stmt}{f:En->RS}:CoeFun (Wd X Y e f) λ_=>∀ρ,PS X e (o9 Y f ρ):=⟨Wd.go⟩
structure We (X:Cx) (Y:Fx) (e:List Stmt) (f:En->RS):Prop where
 mk ::
 go:∀ρ,PSs X e (o9 Y f ρ)
instance {X:Cx}{Y:Fx}{e:List Stmt}{f:En->RS}:CoeFun (We X Y e f) λ_=>∀ρ,PSs X e (o9 Y f ρ):=⟨We.go⟩
theorem Je {i j:Type}{g:Hp->Hp->j->i->Prop}{f:En->R i}{k:i->RS}{D:xM}{K:j->Hp->Prop}
  (I:SI Y B ρ σ H) (h:PoS Y B ((f ρ).s k) D)
  (n:∀a b d,f ρ= .ok a->zo H d->g (zF B H d) d b a->SI Y (zF B H d) ρ σ d->PoS Y (zF B H d) (k a) D->K b d):tS Y g f ρ σ H K:=by
 refine⟨B,I, ?_⟩;cases e:f ρ with
 | bad=>rw[e]at h;exact h
 | ex c=>rw[e]at h;exact h
 | ok a=>
  rw[e]at h;exact λb d s r=>n a b d e s r (I.grow s) (PoS.up (zF.ge I.sB s) h)
theorem zz {a:Type}{xs:List a}{x y:a}(h:(xs.set i x)[j]? =some y):(j=i/\y=x)\/(j ≠ i/\xs[j]? =some y):=by
 by_cases e:j=i
 ·subst e
  by_cases c:j < xs.length
  ·rw[be c]at h;exact .inl ⟨rfl,(aH h).symm⟩
  ·rw[aP (by rw[bx];omega)]at h;cases h
 ·rw[aB (bj e)]at h;exact .inr ⟨e,h⟩
theorem Uq {a:Type}{xs:List a}{x y:a}(h:(xs.set i x)[i]? =some y):i < xs.length:=by
 by_cases c:i < xs.length
 ·exact c
 ·rw[aP (by rw[bx];omega)]at h;cases h
theorem StI.set {O:Addr->Option (Nat×Nat)}(x:StI Y B ρ σ H as O)(i:Nat)(s:Sl)(v:Option V)(f:s.isO=false)(g:∀ts,s ≠ .ow ts):StI Y B (ρ.set i s) (σ.set i v) H as O:=
 x.on (λj y hy h=>by
  rcases zz h with ⟨_,e⟩ | ⟨a,h'⟩
  ·rw[e,f]at hy;cases hy
  ·exact⟨h',aB (bj a)⟩) (zo.refl _) rfl rfl (zo.refl _) λb o k l d _=>⟨k,l,d,λok j c h=>by
  rcases zz h with ⟨_,e⟩ | ⟨a,h'⟩
  ·exact absurd e.symm (g c)
  ·rw[aB (bj a)];exact ok j c h'⟩
theorem SI.setV (I:SI Y B ρ σ H)(i:Nat)(r:Rep B v t):SI Y B (ρ.set i (.vl t)) (σ.set i (some v)) H where
 s0:=I.s0
 sH:=I.sH
 sB:=I.sB
 old:=I.old
 len:=by rw[bx,bx];exact I.len
 vl:=λj u h=>by
  rcases zz h with ⟨rfl,e⟩ | ⟨f,h'⟩
  ·cases e;exact⟨v,be (by rw[← I.len];exact Uq h),r⟩
  ·obtain⟨w,e,o⟩:=I.vl j u h';exact⟨w,by rw[aB (bj f)];exact e,o⟩
 ow:=λj C h=>by
  rcases zz h with ⟨rfl,e⟩ | ⟨f,h'⟩
  ·cases e
  ·obtain⟨a,xs,e,F,p,J,o,d⟩:=I.ow j C h';refine⟨a,xs,by rw[aB (bj f)];exact e,F,p,J,o,λk q G y=> ?_⟩
   rcases zz y with ⟨rfl,D⟩ | ⟨l,g⟩
   ·cases D
   ·rw[aB (bj l)];exact d k q G g
 xc:=λj c h=>by
  rcases zz h with ⟨rfl,e⟩ | ⟨f,h'⟩
  ·cases e
  ·obtain⟨a,e,r⟩:=I.xc j c h';exact⟨a,by rw[aB (bj f)];exact e,r⟩
 st:=let ⟨as,O,x⟩:=I.st;⟨as,O,x.set i _ _ rfl (λ_=>Sl.noConfusion)⟩
theorem SI.newO (I:SI Y B ρ σ H)(i:Nat)(hp:H p=none)(r:zy B xs ts):SI Y B (ρ.set i (.ow ts)) (σ.set i (some (.ref p))) (mz H p (.lst xs)) where
 s0:=I.s0
 sH:=I.sH.trans (zo.new hp _)
 sB:=I.sB.trans (zo.new hp _)
 old:=I.old
 len:=by rw[bx,bx];exact I.len
 vl:=λj u h=>by
  rcases zz h with ⟨rfl,e⟩ | ⟨f,h'⟩
  ·cases e
  ·obtain⟨w,e,G⟩:=I.vl j u h';exact⟨w,by rw[aB (bj f)];exact e,G⟩
 ow:=λj D h=>by
  have op:∀k q a,ρ[k]? =some (Sl.ow q)->σ[k]? =some (some (V.ref a))->a ≠ p:=λk q a X Q=>by
   obtain⟨a',v,e,_,_,P,_⟩:=I.ow k q X;rw[e]at Q;cases Q;exact zG P hp
  rcases zz h with ⟨rfl,e⟩ | ⟨f,h'⟩
  ·cases e;refine⟨p,xs,be (by rw[← I.len];exact Uq h),I.sB.free hp,I.sH.free hp,zl,r,λk q M F=> ?_⟩
   rcases zz F with ⟨rfl,Z⟩ | ⟨l,g⟩
   ·exact absurd rfl M
   ·rw[aB (bj l)];exact λz=>op k q p g z rfl
  ·obtain⟨a,v,e,J,N,P,G,d⟩:=I.ow j D h';refine⟨a,v,by rw[aB (bj f)];exact e,J,N,by rw[zi (op j D a h' e)];exact P,G,λk q M F=> ?_⟩
   rcases zz F with ⟨rfl,Z⟩ | ⟨l,g⟩
   ·rw[be (by rw[← I.len];exact Uq F)]
    intro z;exact op j D a h' e (by injection z with z;injection z with z;injection z with z;exact z.symm)
   ·rw[aB (bj l)];exact d k q M g
 xc:=λj c h=>by
  rcases zz h with ⟨rfl,e⟩ | ⟨f,h'⟩
  ·cases e
  ·obtain⟨a,e,r⟩:=I.xc j c h';exact⟨a,by rw[aB (bj f)];exact e,r⟩
 st:=by
  obtain⟨U,O,x⟩:=I.st;refine⟨U,O,x.on (λj y hy h=> ?_) (zo.refl _) rfl rfl (zo.refl _) λb o S J N _=> ?_⟩
  ·rcases zz h with ⟨_,e⟩ | ⟨f,h'⟩
   ·subst e;cases hy
   ·exact⟨h',aB (bj f)⟩
  ·have C:b ≠ p:=zG S hp;refine⟨by rw[zi C];exact S,J,N,λok j D h=> ?_⟩
   rcases zz h with ⟨rfl,e⟩ | ⟨f,h'⟩
   ·rw[be (by rw[← I.len];exact Uq h)]
    intro z;injection z with z;injection z with z;injection z with z;exact C z.symm
   ·rw[aB (bj f)];exact ok j D h'
theorem SI.chg (I:SI Y B ρ σ H)(i:Nat)(hi:ρ[i]? =some (.ow ts))(l:σ[i]? =some (some (.ref p)))(r:zy B ys J):SI Y B (ρ.set i (.ow J)) σ (mz H p (.lst ys)):=by
 obtain⟨p',xs,e,P,Q,hh,rr,d⟩:=I.ow i ts hi;rw[l]at e;cases e;have nb:∀b o,B b=some o->b ≠ p:=λb o h z=>by subst z;rw[P]at h;cases h
 have n0:∀b o,Y.H0 b=some o->b ≠ p:=λb o h z=>by subst z;rw[Q]at h;cases h
 refine⟨I.s0,λb o h=>by rw[zi (n0 b o h)];exact I.sH b o h,λb o h=>by rw[zi (nb b o h)];exact I.sB b o h,I.old,by rw[bx];exact I.len,λj u h=> ?_,λj S h=> ?_,λj c h=> ?_, ?_⟩
 rotate_right
 ·obtain⟨Z,O,x⟩:=I.st;refine⟨Z,O,x.on (λj y hy h=> ?_) (zo.refl _) rfl rfl (zo.refl _) λb o M D N cs=> ?_⟩
  ·rcases zz h with ⟨_,e⟩ | ⟨q,h'⟩
   ·subst e;cases hy
   ·exact⟨h',rfl⟩
  ·have f:b ≠ p:=λz=>by
    subst z;rcases cs with ⟨C,dx,vs,U⟩ | ok
    ·rw[hh]at M;cases M;cases U
    ·exact ok i ts hi l
   refine⟨by rw[zi f];exact M,D,N,λok j J h=> ?_⟩
   rcases zz h with ⟨rfl,e⟩ | ⟨q,h'⟩
   ·rw[l];intro z;injection z with z;injection z with z;injection z with z;exact f z.symm
   ·exact ok j J h'
 rotate_right
 ·rcases zz h with ⟨rfl,z⟩ | ⟨q,h'⟩
  ·cases z
  ·exact I.xc j c h'
 ·rcases zz h with ⟨rfl,z⟩ | ⟨q,h'⟩
  ·cases z
  ·exact I.vl j u h'
 ·rcases zz h with ⟨rfl,z⟩ | ⟨q,h'⟩
  ·cases z;refine⟨p,ys,l,P,Q,zl,r,λk vs v G=> ?_⟩;rcases zz G with ⟨rfl,e'⟩ | ⟨F,g⟩
   ·exact absurd rfl v
   ·exact d k vs v g
  ·obtain⟨a,w,e,c0,g0,X,ss,d'⟩:=I.ow j S h';have f:a ≠ p:=λz=>by subst z;exact d j S q h' e
   refine⟨a,w,e,c0,g0,by rw[zi f];exact X,ss,λk vs v G=> ?_⟩
   rcases zz G with ⟨rfl,e'⟩ | ⟨F,g⟩
   ·rw[l];intro z;injection z with z;injection z with z;injection z with z;exact f z.symm
   ·exact d' k vs v g
noncomputable def X2:Sl->Sl
 | .ow ts=> .vl (.lst ts)
 | .ob _ _=> .un
 | .st _=> .un
 | x=>x
def frz (ρ:En):En:=ρ.map X2
theorem SI.up (I:SI Y B ρ σ H):zo B (zF B Y.H0 H):=λb o h=>by
 cases q:Y.H0 b with
 | none=>rw[zM q];exact I.sB b o h
 | some u=>rw[zR q];exact h
theorem SI.frz (I:SI Y B ρ σ H):SI Y (zF B Y.H0 H) (PV.frz ρ) σ H:=by
 have up:zo B (zF B _ H):=λb o h=>by
  cases q:Y.H0 b with
  | none=>rw[zM q];exact I.sB b o h
  | some u=>rw[zR q];exact h
 refine⟨I.s0,I.sH,λb o h=> ?_,λb o h=>by rw[zR h];exact I.old b o h,by unfold PV.frz;rw[ae];exact I.len,λj t h=> ?_,λj ts h=> ?_,λj c h=> ?_, ?_⟩
 rotate_right
 ·have no:∀(j:Nat) (y:Sl),y.isS=true->(PV.frz ρ)[j]? ≠ some y:=λj y hy h=>by
   unfold PV.frz at h;rw[ao]at h;cases e:ρ[j]? with
   | none=>rw[e]at h;cases h
   | some x=>rw[e]at h;cases x <;> (cases h;cases hy)
  obtain⟨N,O,x⟩:=I.st;refine⟨Y.as,λ_=>none,iu _,λi os e=>(no i _ rfl e).elim,λi j os G e=>(no i _ rfl e).elim,λi k n e=>(no i _ rfl e).elim,λi k fs h=> ?_,λi os e=>(no i _ rfl e).elim⟩;have h' :ρ[i]? =some (Sl.oc k fs):=by
   unfold PV.frz at h;rw[ao]at h;cases e:ρ[i]? with
   | none=>rw[e]at h;cases h
   | some x=>rw[e]at h;cases x <;> (cases h;try rfl)
  obtain⟨a,C,w,vs,f,D,J,F,e5⟩:=x.oc i k fs h';exact⟨a,C,w,vs,f,D,J,F,e5.mono up (zo.refl _)⟩
 rotate_right
 ·unfold PV.frz at h;rw[ao]at h;cases e:ρ[j]? with
  | none=>rw[e]at h;cases h
  | some x=>
   rw[e]at h;cases x with
   | xc d=>
    cases h;obtain⟨a,f,r⟩:=I.xc j _ e;exact⟨a,f,up a _ r⟩
   | un=>cases h
   | vl _=>cases h
   | ow _=>cases h
   | ob _ _=>cases h
   | oc _ _=>cases h
   | st _=>cases h
 ·cases q:Y.H0 b with
  | none=>rw[zM q]at h;exact h
  | some u=>rw[zR q]at h;exact I.sB b o h
 ·unfold PV.frz at h;rw[ao]at h;cases e:ρ[j]? with
  | none=>rw[e]at h;cases h
  | some x=>
   rw[e]at h;cases x with
   | un=>cases h
   | vl u=>
    cases h;obtain⟨v,f,r⟩:=I.vl j _ e;exact⟨v,f,r.mono up⟩
   | ow g=>
    cases h;obtain⟨a,xs,f,P,p,M,l,_⟩:=I.ow j g e;exact⟨.ref a,f,.lst (by rw[zM p];exact M) (l.mono up)⟩
   | xc _=>cases h
   | ob _ _=>cases h
   | oc _ _=>cases h
   | st _=>cases h
 ·unfold PV.frz at h;rw[ao]at h;cases e:ρ[j]? with
  | none=>rw[e]at h;cases h
  | some x=>
   rw[e]at h;cases x with
   | un=>cases h
   | vl u=>cases h
   | ow g=>cases h
   | xc _=>cases h
   | ob _ _=>cases h
   | oc _ _=>cases h
   | st _=>cases h
theorem Ur {Y:Fx}{B H a :Hp}(c:zo Y.H0 H)(old:∀b o,Y.H0 b=some o->B b=Y.B0 b)(s:zo H a)(d:zo B H):zo (zF B H a) (zF Y.B0 Y.H0 a):=λb o h=>by
 cases q:H b with
 | none=>
  rw[zM q]at h;rw[zM (c.free q)];exact h
 | some u=>
  rw[zR q]at h;cases z:Y.H0 b with
  | none=>rw[zM z];exact s b o (d b o h)
  | some w=>rw[zR z,← old b w z];exact h
section
variable {X:Cx}{Y:Fx}{a b c d:Expr}{fa fb fc fd:En->R T}{pos p:Pos}{st:Stmt}{sts sts' :List Stmt}{f g:En->RS}
def mC:En->RS:=λρ=> .nx ρ
def zn (f g:En->RS):En->RS:=λρ=>match f ρ with
 | .nx ρ' =>g ρ'
 | r=>r
theorem EM:We X Y [] mC:= .mk λρ=>PSs.imp k9 λD e H ⟨B,I,q⟩=>q e H B (zo.refl B) I
theorem L6 (h:Wd X Y st f):We X Y [st] f:= .mk λρ=>Jb (h ρ)
theorem IG (o:Wd X Y st f)(l:We X Y sts g):We X Y (st :: sts) (zn f g):= .mk λρ=>by
 refine PSs.imp (jr (u:=λD i H=>∃ρ',o9 Y g ρ' D i H) (o ρ) ?_) ?_
 ·intro j s i H D I ⟨ρ',q⟩;exact l ρ' _ s i H D I q
 ·intro D i H ⟨B,I,q⟩;refine⟨B,I, ?_⟩;unfold zn at q;cases e:f ρ with
  | nx ρ' =>
   rw[e]at q;intro σ' w v r k;exact⟨ρ',v,k,PoS.up r q⟩
  | rt t=>rw[e]at q;exact q
  | rf t=>rw[e]at q;exact q
  | bk ρ' =>rw[e]at q;exact q
  | ct ρ' =>rw[e]at q;exact q
  | ex c=>rw[e]at q;exact q
  | bad=>rw[e]at q;exact q
def zC (i:Nat)(fa:En->R T):En->RS:=λρ=>(fa ρ).s λt=> .nx (ρ.set i (.vl t))
theorem D9 (u:X.N.Nodup)(hi:X.N[i]? =some x)(l:L2.Loc X.env.scope x)(j:Snd X Y a fa)(e:swapsWith a (some (.Name x p')) pos.line X.env=pure false:=by rfl)
  (k:X.fn x=true\/X.env.scope.names.lookup x=some .local:=by first | exact .inl rfl | exact .inr rfl | assumption):Wd X Y (.Assign [.Name x p'] a pos) (zC i fa):= .mk λρ=>
 PS.imp (wM u hi l (j ρ) e k) λD C H ⟨B,I,q⟩=>Je I q λt v F _ y w r o=>o _ _ _ (zo.refl _) (r.setV i w)
def uO (i:Nat)(e:En->R (List T)):En->RS:=λρ=>(e ρ).s λts=>if ts.length<=mF then .nx (ρ.set i (.ow ts)) else .bad
theorem LW (w:X.N.Nodup)(hi:X.N[i]? =some x)(r:L2.Loc X.env.scope x)(l:Up X Y es ga)(k:swapsWith (.List es p) (some (.Name x p')) pos.line X.env=pure false:=by rfl)
  (o:X.fn x=true\/X.env.scope.names.lookup x=some .local:=by first | exact .inl rfl | exact .inr rfl | assumption):Wd X Y (.Assign [.Name x p'] (.List es p) pos) (uO i ga):= .mk λρ=>
 PS.imp (wM w hi r (Yu (l ρ)) k o) λD C H ⟨B,I,q⟩=>Je I q λts vs F _ y j v e=>by
  split at e
  ·rename_i u;exact⟨by rw[j.length];exact ZF u,λp hp=>e _ _ _ (zo.refl _) (v.newO i hp j)⟩
  ·exact e.elim
def zr (fa:En->R T):En->RS:=λρ=>(fa (frz ρ)).s λt=> .rt t
theorem LK (j:Snd X Y a fa):Wd X Y (.Return (some a) pos) (zr fa):= .mk λρ=>
 PS.imp (wL (j _)) λD o H ⟨B,I,q⟩=>by
  refine⟨_,I.frz, ?_⟩;unfold zr at q;cases e:fa _ with
  | bad=>rw[e]at q;exact q
  | ex c=>
   rw[e]at q;exact λd i k l=>q d i k (I.up.trans l)
  | ok t=>
   rw[e]at q;intro v i s r;have J:=I.frz;exact q v i (I.sH.trans s) (r.mono (Ur J.sH J.old s J.sB))
def mD (g:En->R Bool)(e i:En->RS):En->RS:=λρ=>(g ρ).s λk=>if k=true then e ρ else i ρ
theorem LB (l:ua X Y c ga)(o:We X Y sts f)(k:We X Y sts' g):Wd X Y (.If c sts sts' pos) (mD ga f g):= .mk λρ=>
 PS.imp (HD (l ρ) (o ρ) (k ρ)) λD w H ⟨B,I,q⟩=>Je I q λt v x _ u r j i=>by
  have e :=r;subst e;cases v with
  | true=>exact⟨_,j,i⟩
  | false=>exact⟨_,j,i⟩
def jA (fa:En->R T):En->RS:=λρ=>(fa ρ).s λ_=> .nx ρ
theorem FU (i:Snd X Y a fa)(e:swapsWith a none pos.line X.env=pure false:=by rfl):Wd X Y (.Expr a pos) (jA fa):= .mk λρ=>
 PS.imp (JO (i ρ) e) λD o H ⟨B,I,q⟩=>Je I q λt v r _ l u k j=>j _ _ _ (zo.refl _) k
def Us (i:Nat)(fa:En->R T):En->RS:=λρ=>match ρ[i]? with
 | some (.ow ts)=>(fa ρ).s λt=>if ts.length < mF then .nx (ρ.set i (.ow (ts++[t]))) else .bad
 | _=> .bad
def vY (i:Nat)(fa:En->R T):En->RS:=λρ=>match ρ[i]? with
 | some (.ow ts)=>(fa ρ).s λt=>match t with
  | .lst e=>if ts.length+e.length<=mF then .nx (ρ.set i (.ow (ts++e))) else .bad
  | _=> .bad
 | _=> .bad
theorem Ut (h:n < mF):n < sizeLine:=by exact h
theorem E1 (C:PE X (.Name x px) (W6 i))(F:Snd X Y a fa)(r:attributeBase (.Name x px) "append" X.env (eval (.Name x px) X.env)=eval (.Name x px) X.env:=by rfl)(k:mY X a:=by exact mQ rfl)
  (hz:(pa.endLine == p.line)=true:=by rfl) (J:swapsWith (.Call (.Attribute (.Name x px) "append" pa) [a] [] p) none pos.line X.env=pure false:=by rfl):Wd X Y (.Expr (.Call (.Attribute (.Name x px) "append" pa) [a] [] p) pos) (Us i fa):= .mk λρ=>by
 have j:(((((backTo p (starEach [a] X.env)).all λx=> !x.fst) && (backToKw p (keywordEach [] X.env)).all λx=>x.fst.isSome) && decide (([a].length+([]:List Keyword).length+if ([]:List Keyword).isEmpty=true then 0 else 1) < 30))=true):=by rw[k];rfl
 refine PS.imp (JO (yB de ie ig JQ C (zm (F ρ) zH k) r j hz k rfl) J) λD O H ⟨B,I,q⟩=> ?_;unfold Us at q;split at q
 ·rename_i ts e;obtain⟨l,xs,j,N,Q,y,u,d⟩:=I.ow i ts e;refine⟨.ref l,j,.inl ⟨rfl,_,SqL.of y⟩, ?_⟩;refine Je I q λt v P _ w G M o=> ?_;split at o
  ·rename_i r;refine⟨l,xs,v,rfl,rfl,w _ _ y,by rw[u.length];exact Ut r, ?_⟩
   exact o _ _ _ (zo.refl _) (M.chg i e j ((u.mono (zF.ge I.sB w)).append (.cons G .nil)))
  ·exact o.elim
 ·exact q.elim
theorem Ib (M:PE X (.Name x px) (W6 i))(O:Snd X Y a fa)(u:attributeBase (.Name x px) "extend" X.env (eval (.Name x px) X.env)=eval (.Name x px) X.env:=by rfl)(o:mY X a:=by exact mQ rfl)
  (hz:(pa.endLine == p.line)=true:=by rfl) (Q:swapsWith (.Call (.Attribute (.Name x px) "extend" pa) [a] [] p) none pos.line X.env=pure false:=by rfl):Wd X Y (.Expr (.Call (.Attribute (.Name x px) "extend" pa) [a] [] p) pos) (vY i fa):= .mk λρ=>by
 have k:(((((backTo p (starEach [a] X.env)).all λx=> !x.fst) && (backToKw p (keywordEach [] X.env)).all λx=>x.fst.isSome) && decide (([a].length+([]:List Keyword).length+if ([]:List Keyword).isEmpty=true then 0 else 1) < 30))=true):=by rw[o];rfl
 refine PS.imp (JO (yB de PySem.F.slot_list_extend PySem.F.type_list_extend Yz M (zm (O ρ) zH o) u k hz o rfl) Q) λD Z H ⟨B,I,q⟩=> ?_;unfold vY at q;split at q
 ·rename_i ts e;obtain⟨l,xs,k,U,h0,G,w,d⟩:=I.ow i ts e;refine⟨.ref l,k,.inl ⟨rfl,_,SqL.of G⟩, ?_⟩;refine Je I q λt v H1 _ y P C j=> ?_;cases P with
  | @lst b N S u r=>
   have j:PoS Y _ (if ts.length+S.length<=mF then .nx _ else .bad) D:=j
   split at j
   ·rename_i J;refine⟨l,b,xs,N,rfl,rfl,y _ _ G,C.sB _ _ u,by rw[w.length,r.length];exact ZF J, ?_⟩
    exact j _ _ _ (zo.refl _) (C.chg i e k ((w.mono (zF.ge I.sB y)).append r))
   ·exact j.elim
  | _=>exact j.elim
 ·exact q.elim
end
def spP (cl:Nat->Value)(n:Nat)(g:List T->R T):Sp:=λvs H Q E=>∃B ts,ts.length=n/\zo B H/\zy B vs ts/\Po ⟨B,H,E,cl,[]⟩ rC B H (g ts) Q
theorem spP.len (vs:List V)(H:Hp)(Q:VK)(E:XK)(h:spP cl n g vs H Q E):vs.length=n:=by
 obtain⟨B,ts,a,_,r,_⟩:=h;rw[r.length,a]
def zb (n:Nat)(g:List T->R T)(a:En->R (List T)):En->R T:=λρ=>(a ρ).bind λts=>if ts.length=n then g ts else .bad
section
theorem IZ (F:wD X.prog X.w X.K X.mg X.base CX k f fd ps (spP Y.cl n g))(hr:ja k X.A)(D:Gl X x)(v:X.mg x=some (.ref f))
  (kp:d0 X.K (.ref f)=true) (r:L2.Binds X.K fd ps []) (C:jB CX X Y.E) (o:Up X Y (a :: es) ga) (hd:(x == ("__debug__":Str))=false:=by decide)
  (l:starEach (a :: es) X.env=(false,eval a X.env) :: starEach es X.env:=by exact zD rfl) (hz:((backTo pos (starEach es X.env)).any λx=>x.fst)=false:=by exact zT rfl):Snd X Y (.Call (.Name x p) (a :: es) [] pos) (zb n g ga):= .mk λρ=>
 PE.imp (jb F hr D v kp r .nil C (o ρ) hd l hz) λG H Q ⟨B,I,q⟩=>step I q λts vs J _ M u i e=>by
  split at e
  ·rename_i hn;rw[bw];refine⟨_,ts,hn,i.sB,u, ?_⟩;revert e;cases g ts with
   | bad=>exact λe=>e
   | ex c=>exact λe d y s j=>e d y (i.sH.trans s) j
   | ok t=>exact λe=>e
  ·exact e.elim
end
noncomputable def zk:RS->R T
 | .rt t=> .ok t
 | .rf ts=> .ok (.lst ts)
 | .nx _=> .ok .non
 | .ex c=> .ex c
 | _=> .bad
def mB (n:Nat)(ts:List T):En:=ts.map Sl.vl++ag (n - ts.length) Sl.un
theorem zy.vl {H:Hp}:∀{vs:List V} {ts:List T} {i:Nat} {t:T} {n m:Nat},zy H vs ts->(ts.map Sl.vl++ag n Sl.un)[i]? =some (Sl.vl t)->∃v:V,(vs.map some++ag m none)[i]? =some (some v)/\Rep H v t
 | _,_,i,t,n,m,.nil,h=>by
  simp only[bI,bP]at h;rw[aU]at h;split at h
  ·cases h
  ·cases h
 | _,_,0,t,n,m,.cons r _,h=>by
  simp at h;subst h;exact⟨_,rfl,r⟩
 | _,_,i+1,t,n,m,.cons _ q,h=>by
  obtain⟨v,c,a⟩:=zy.vl q (by simpa using h)
  exact⟨v,by simpa using c,a⟩
theorem X3 {n:Nat}:∀{ts:List T} {i:Nat} {a:List T},(ts.map Sl.vl++ag n Sl.un)[i]? =some (Sl.ow a)->False
 | [],i,a,h=>by
  simp only[bI,bP]at h;rw[aU]at h;split at h
  ·cases h
  ·cases h
 | t :: ts,0,a,h=>by simp at h
 | t :: ts,i+1,a,h=>X3 (by simpa using h)
theorem X5 {n:Nat}:∀{ts:List T} {i:Nat} {c:Nat},(ts.map Sl.vl++ag n Sl.un)[i]? =some (Sl.xc c)->False
 | [],i,a,h=>by
  simp only[bI,bP]at h;rw[aU]at h;split at h
  ·cases h
  ·cases h
 | t :: ts,0,a,h=>by simp at h
 | t :: ts,i+1,a,h=>X5 (by simpa using h)
theorem YR {n:Nat}{x:Sl}(c:∀t,x ≠ .vl t)(a:x ≠ .un):∀{ts:List T} {i:Nat},(ts.map Sl.vl++ag n Sl.un)[i]? =some x->False
 | [],i,h=>by
  simp only[bI,bP]at h;rw[aU]at h;split at h
  ·exact a (aH h).symm
  ·cases h
 | t :: ts,0,h=>c t (aH (by simpa using h)).symm
 | t :: ts,i+1,h=>YR c a (by simpa using h)
theorem SI.start {Y:Fx}{N:List Str}{vs:List V}{ts:List T}(s:zo Y.B0 Y.H0)(r:zy Y.B0 vs ts):SI Y Y.B0 (mB N.length ts) (L2.start N vs) Y.H0 where
 s0:=s
 sH:=zo.refl _
 sB:=s
 old:=λ_ _ _=>rfl
 len:=by unfold mB L2.start;simp[r.length]
 vl:=λi t h=>r.vl h
 ow:=λi ts h=>(X3 h).elim
 xc:=λi c h=>(X5 h).elim
 st:=StI.no λi s a h=>YR (λt z=>by rw[z]at a;cases a) (λz=>by rw[z]at a;cases a) h
section
variable {P:Program}{w:World}{K:ai}{mg:Str->Option Value}{base:Heap}
theorem Hy {cl:Nat->Value}{x d:Str}{st:Stmt}{f:Addr}{p:FuncData}{N o:List Str}{k n:Nat}{j:En->RS}{g:List T->R T}(F:Fun K x d st f p)(S:jJ N o (zf st))(hn:n=o.length)
  (G:∀(cdv:Value) (A:Around) (outer:List Env) (s:Shared) (H:Hp) (E:XK) (Y:Fx),Y.cl=cl->ja k (A.deeper (envOfC d (zf st) s.heap.objs.size f cdv))->
   We (jC mT P w K mg base N d (zf st) f cdv A outer s H E).nox Y (Z1 st) j)
  (D:∀ts,ts.length=n->g ts=zk (j (mB N.length ts))):wD P w K mg base mT (k+1) f p o (spP cl n g):=by
 subst hn;refine F.ok S spP.len λcdv A outer s H vs Q E hr ⟨B,ts,u,y,r,q⟩=> ?_;refine⟨_,G cdv A _ s H E ⟨B,H,E,cl,[]⟩ rfl hr _,B,SI.start y r, ?_⟩;rw[D ts u]at q;revert q;cases j _ with
 | rt t=>exact λq v i s r=>q v i s r
 | rf t=>exact λq a xs i J C n e r _ l=>q _ i C (.lst (by rw[zM n];exact e) (r.mono l))
 | nx ρ=>exact λq σ' i J _ I=>q _ i I.sH .non
 | ex c=>exact λq=>q
 | bk ρ=>exact λq=>q.elim
 | ct ρ=>exact λq=>q.elim
 | bad=>exact λq=>q
end
abbrev rI:Hp->Hp->It->List T->Prop:=λB1 _ J ts=>∀B2 H2,zo B1 B2->zo B2 H2->(∀i,i < ts.length->J.go i H2)/\(∀(i:Nat) t x H3,ts[i]? =some t->J.yld i H2 x H3->zo H2 H3/\Rep (zF B2 H2 H3) x t)/\(∀i,ts.length<=i->J.stop i H2)
structure uP (X:Cx) (Y:Fx) (tg iter:Expr) (f:En->R (List T)):Prop where
 mk ::
 go:∀ρ,PI X tg iter (tS Y rI f ρ)
instance {X:Cx}{Y:Fx}{tg iter:Expr}{f:En->R (List T)}:CoeFun (uP X Y tg iter f) λ_=>∀ρ,PI X tg iter (tS Y rI f ρ):=⟨uP.go⟩
section
theorem PI.imp (h:PI X tg e t)(i:∀a H Q,t' a H Q->t a H Q):PI X tg e t' :=λc s a H Q I q=>h _ s a H Q I (i a H Q q)
theorem Fc (u:PE X l tl):PI X tg l (λj H R=>tl j H λx c=>∃a,x= .ref a/\(((∃xs,SqL X.K c a xs)/\R (tV X.K a) c)\/((∃xs,SqT X.K c a xs)/\R (Af X.K a) c))):=by
 intro k s j H R I h;refine mH (u _ s j H _ I h) λv d ⟨x,c,f,B,y⟩=> ?_;obtain⟨a,e,q⟩:=y;subst e;obtain rfl:v=Value.ref a:=B;have ok:∀b∈[d.heap.objs.size],wC X _ c b:=λb w=>by
  have e:=by simpa using w
  subst e;exact f.fpOk (am _) (f.hok.fresh (am _))
 rcases q with ⟨⟨xs,i⟩,q⟩ | ⟨⟨xs,i⟩,q⟩
 ·obtain⟨g,r,p,hz⟩:=f.list i;exact ck p.isList ⟨d.heap.objs.size,[d.heap.objs.size],_,_,c,rfl,f.kept λb o e=>ab _ e,WV a _,⟨_,af _ rfl,rfl,rfl⟩,ok,q⟩
 ·obtain⟨g,r,p,hz⟩:=f.tuple i;exact cC (show d.heap.IsTuple a _ from p) ⟨d.heap.objs.size,[d.heap.objs.size],_,_,c,rfl,f.kept λb o e=>ab _ e,wN a _,⟨_,af _ rfl,rfl,rfl⟩,ok,q⟩
theorem FP {K:ai}{d l:Hp}{a:Addr}{xs:List V}{ts:List T}(h:d a=some (.tup xs))(r:zy d xs ts):rI d l (Af K a) ts:=λk p f g=>by
 have c:=g _ _ (f _ _ h);refine⟨λi hi=> ?_,λi t x H3 e y=> ?_,λi hi=>⟨xs,SqT.of c,by rw[r.length];exact hi⟩⟩
 ·obtain⟨v,e,_⟩:=r.get (ah hi);exact⟨xs,v,SqT.of c,e⟩
 ·obtain⟨rfl,y⟩:=y;obtain⟨v,j,o⟩:=r.get e;have:=y xs (SqT.of c);rw[j]at this;cases this;refine⟨zo.refl _, ?_⟩;rw[zF.self k _ g];exact o.mono f
theorem Hb {K:ai}{d l:Hp}{a:Addr}{xs:List V}{ts:List T}(h:d a=some (.lst xs))(r:zy d xs ts):rI d l (tV K a) ts:=λk p f g=>by
 have c:=g _ _ (f _ _ h);refine⟨λi hi=> ?_,λi t x H3 e y=> ?_,λi hi=>⟨xs,SqL.of c,by rw[r.length];exact hi⟩⟩
 ·obtain⟨v,e,_⟩:=r.get (ah hi);exact⟨xs,v,SqL.of c,e⟩
 ·obtain⟨rfl,y⟩:=y;obtain⟨v,j,o⟩:=r.get e;have:=y xs (SqL.of c);rw[j]at this;cases this;refine⟨zo.refl _, ?_⟩;rw[zF.self k _ g];exact o.mono f
noncomputable def rng (lo:Int)(n:Nat):List T:=(aN n).map λ(i:Nat)=>T.int (lo+(i:Int))
theorem X6 {c d:Hp}{lo:Int}{n:Nat}:rI c d (rT lo n) (rng lo n):=λj g f k=>by
 have a:(rng lo n).length=n:=by unfold rng;simp
 refine⟨λi hi=>by rw[a]at hi;exact hi,λi t x H3 e y=> ?_,λi hi=>by rw[a]at hi;exact hi⟩
 obtain⟨rfl,rfl⟩:=y;refine⟨zo.refl _, ?_⟩;unfold rng at e;rw[ao]at e
 by_cases hi:i < n
 ·rw[c_ hi]at e;cases e;exact .int _
 ·rw[aP (by simp;omega)]at e;cases e
def Zi (a:En->R T):En->R (List T):=λρ=>(a ρ).bind λt=>match t with
 | .int j=>if -1000000 < j/\j < 1000000 then .ok (rng 0 j.toNat) else .bad
 | _=> .bad
def Jy (a c:En->R T):En->R (List T):=λρ=>(a ρ).bind λt=>(c ρ).bind λt' =>match t,t' with
 | .int i,.int j=>if -1000000 < i/\i < 1000000/\ -1000000 < j/\j < 1000000 then .ok (rng i (j - i).toNat) else .bad
 | _,_=> .bad
theorem Fy (g:Gl X "range")(e:X.mg "range"=none)(f:Snd X Y a fa)(d:mY X a:=by exact mQ rfl):uP X Y tg (.Call (.Name "range" p) [a] [] pos) (Zi fa):= .mk λρ=>PI.imp (Yl g e (zm (f ρ) zH d) d) λr H R ⟨B,I,q⟩=>step I q λt v i _ o l k c=>by
 cases l with
 | int j=>
  have c:Po Y rI _ i (if -1000000 < j/\j < 1000000 then .ok _ else .bad) R:=c
  split at c
  ·exact⟨j,rfl,by omega,by omega,ZN k c X6⟩
  ·exact c.elim
 | _=>exact c.elim
theorem Lj (w:Gl X "range")(g:X.mg "range"=none)(l:Snd X Y a fa)(r:Snd X Y b fb)(e:starEach [a,b] X.env=[(false,eval a X.env),(false,eval b X.env)]:=by exact nP rfl rfl)(d:mY X b:=by exact mQ rfl):uP X Y tg (.Call (.Name "range" p) [a,b] [] pos) (Jy fa fb):= .mk λρ=>
 PI.imp (Ym w g (zm (l ρ) (zm (r ρ) zH d) (by rw[e,d])) e d) λG H R ⟨B,I,q⟩=>step I q λt v J _ D y x u=>step x u λt' C o _ F f k c=>by
  cases y with
  | int i=>
   cases f with
   | int j=>
    have c:Po Y rI _ o (if -1000000 < i/\i < 1000000/\ -1000000 < j/\j < 1000000 then .ok _ else .bad) R:=c
    split at c
    ·exact⟨i,j,rfl,⟨by omega,by omega,by omega,by omega⟩,ZN k c X6⟩
    ·exact c.elim
   | _=>exact c.elim
  | _=>cases f <;> exact c.elim
def rQ (X:Cx)(Y:Fx)(c:Expr)(g:T->En->R En):Prop:=∃t:TG,PG X c t/\∀B ρ a H v x Q,SI Y B ρ a H->Rep B v x->(match g x ρ with | .ok ρ' =>∀σ',SI Y B ρ' σ' H->Q σ' H | _=>False)->t v a H Q
def zw (i:Nat):T->En->R En:=λt ρ=> .ok (ρ.set i (.vl t))
theorem X7 (d:X.N.Nodup)(hi:X.N[i]? =some x)(c:L2.Loc X.env.scope x)(a:X.fn x=true\/X.env.scope.names.lookup x=some .local:=by first | exact .inl rfl | exact .inr rfl | assumption):rQ X Y (.Name x pos) (zw i):=
 ⟨W7 i,jI d hi c a,λB ρ e H v x Q I r q=>q _ (I.setV i r)⟩
def zN (i j:Nat):T->En->R En:=λt ρ=>match t with
 | .tup [x,y]=> .ok ((ρ.set i (.vl x)).set j (.vl y))
 | _=> .bad
theorem YS (f:X.calm=true)(d:X.N.Nodup)(hi:X.N[i]? =some x)(e:X.N[j]? =some y)(o:L2.Loc X.env.scope x)(hy:L2.Loc X.env.scope y)
  (g:X.fn x=true\/X.env.scope.names.lookup x=some .local:=by first | exact .inl rfl | exact .inr rfl | assumption) (a :X.fn y=true\/X.env.scope.names.lookup y=some .local:=by first | exact .inl rfl | exact .inr rfl | assumption):
  rQ X Y (.Tuple [.Name x pos,.Name y p'] k p2) (zN i j):=by
 refine⟨tz X.K 2 _,xO f (JA (jI d hi o g) (JA (jI d e hy a) Yk)),λB ρ w H v t Q I r q=> ?_⟩;cases r with
 | @tup l xs ts h r=>
  cases r with
  | nil=>exact q.elim
  | cons u c=>
   cases c with
   | nil=>exact q.elim
   | cons p c=>
    cases c with
    | cons _ _=>exact q.elim
    | nil=>
     exact⟨l,_,rfl,SqT.of (I.sB _ _ h),rfl,_,_,rfl,_,_,rfl,rfl,q _ ((I.setV i u).setV j p)⟩
 | _=>exact q.elim
def Zu (g:T->En->R En)(a:En->RS):List T->En->RS
 | [],ρ=> .nx ρ
 | t :: ts,ρ=>match g t ρ with
  | .ok ρ1=>match a ρ1 with
   | .nx ρ2=>Zu g a ts ρ2
   | .ct ρ2=>Zu g a ts ρ2
   | .bk ρ2=> .nx ρ2
   | r=>r
  | .ex c=> .bad
  | .bad=> .bad
def ZD (fi:En->R (List T))(g:T->En->R En)(a:En->RS):En->RS:=λρ=>(fi ρ).s λts=>Zu g a ts ρ
theorem El {g:T->En->R En}(hp:PassesOwn (model X.prog X.w) X.A X.env X.xe)(hc:X.calm=true)(hi:uP X Y tg iter fi)(hg:rQ X Y tg g)(hb:We X Y sts fb)
  (hs:∀x,foldedSetIterable iter X.env x=pure x:=by intro _;rfl):Wd X Y (.For tg iter sts [] pos) (ZD fi g fb):= .mk λρ=>by
 obtain⟨tG,hG,Q⟩:=hg;refine PS.imp (xP (tb:=λD G H=>∃ρ',o9 Y fb ρ' D G H) hp hc (hi ρ) hG (λZ s G H D I ⟨ρ',q⟩=>hb ρ' _ s G H D I q) hs) λD G H ⟨B,I,q⟩=> ?_;refine Je I q λts J H1 _ s1 r1 I1 q1=> ?_;refine⟨λi m σ' M =>m=ts.length - i/\i<=ts.length/\∃ρ' k,SI Y k ρ' σ' M /\zo _ k /\PoS Y k (Zu g fb (ts.drop i) ρ') D,⟨ts.length,by simp,bf _,ρ,_,I1,zo.refl _,q1⟩, ?_⟩
 rintro i m σ' M ⟨rfl,hi,ρ',k,o,F,d⟩
 obtain⟨U,r,j⟩:=r1 k M F o.sB
 by_cases f:i < ts.length
 ·refine .inr ⟨U i f,λv l=>∃ρ2 p,SI Y p ρ2 v l/\zo _ p/\PoS Y p _ D,λv l ⟨ρ2,p,I2,u,a⟩=>⟨ts.length - (i+1),by omega,rfl,f,ρ2,p,I2,u,a⟩,λx l y=> ?_⟩
  obtain⟨u,r2⟩:=r i _ x l (ah f) y;rw[dX f]at d;unfold Zu at d;refine Q _ ρ' σ' l x _ _ (o.grow u) r2 ?_;cases P:g _ ρ' with
  | bad=>rw[P]at d;exact d
  | ex c=>rw[P]at d;exact d
  | ok ρ1=>
   rw[P]at d;intro σ1 J1;refine⟨ρ1,_,J1, ?_⟩;have a:=PoS.up (zF.ge o.sB u) d;dsimp only at a;have s3:=F.trans (zF.ge o.sB u);revert a;cases fb ρ1 with
   | nx ρ2=>exact λa O H3 N C S=>⟨ρ2,N,S,s3.trans C,PoS.up C a⟩
   | ct ρ2=>exact λa O H3 N C S=>⟨ρ2,N,S,s3.trans C,PoS.up C a⟩
   | bk ρ2=>exact λa=>a
   | rt t=>exact λa=>a
   | rf t=>exact λa=>a
   | ex c=>exact λa=>a
   | bad=>exact λa=>a
 ·have e:i=ts.length:=by omega
  subst e;rw[ix]at d;exact .inl ⟨j _ (am _),d σ' M k (zo.refl _) o⟩
def Zo (g:En->R Bool)(a:En->RS):Nat->En->RS
 | 0,_=> .bad
 | n+1,ρ=>(g ρ).s λk=>if k=true then match a ρ with
   | .nx ρ2=>Zo g a n ρ2
   | .ct ρ2=>Zo g a n ρ2
   | .bk ρ2=> .nx ρ2
   | r=>r
  else .nx ρ
theorem YT (hp:PassesOwn (model X.prog X.w) X.A X.env X.xe)(J:ua X Y c ga)(M:We X Y sts fb):Wd X Y (.While c sts [] pos) (Zo ga fb n):= .mk λρ=>by
 refine PS.imp (V6 (tc:=λd H Q=>∃ρ',tS Y rE ga ρ' d H Q) (tb:=λD d H=>∃ρ',o9 Y fb ρ' D d H) hp (λf s d H D I ⟨ρ',q⟩=>J ρ' _ s d H D I q) (λf s d H D I ⟨ρ',q⟩=>M ρ' _ s d H D I q)) λD d H ⟨B,I,q⟩=> ?_;refine⟨λm σ' y =>∃ρ' p,SI Y p ρ' σ' y /\PoS Y p (Zo ga fb m ρ') D,⟨n,ρ,B,I,q⟩, ?_⟩
 rintro m σ' y ⟨ρ',p,F,j⟩
 cases m with
 | zero=>exact j.elim
 | succ m=>
  unfold Zo at j;refine⟨ρ',Je F j λt v N _ O G C u=> ?_⟩;have k :=G;subst k;cases v with
  | false=>exact u _ _ _ (zo.refl _) C
  | true=>
   refine⟨λe r=>∃ρ2 x,SI Y x ρ2 e r/\PoS Y x _ D,λe r h=>⟨m,fA m,h⟩,ρ',_,C, ?_⟩;revert u;cases fb ρ' with
   | nx ρ2=>exact λa i H3 g l o=>⟨ρ2,g,o,PoS.up l a⟩
   | ct ρ2=>exact λa i H3 g l o=>⟨ρ2,g,o,PoS.up l a⟩
   | bk ρ2=>exact λa=>a
   | rt t=>exact λa=>a
   | rf t=>exact λa=>a
   | ex c=>exact λa=>a
   | bad=>exact λa=>a
end
theorem JU:∀(g:List (Str×NameKind)) (acc:List (Str×Addr)),(∀x∈g,x.2=NameKind.free->∃c,env.cells.lookup x.1=some c)->(∀x c,acc.lookup x=some c->env.cells.lookup x=some c)->
  ∃cl,(forIn g acc (λ(x:Str×NameKind) (r:List (Str×Addr))=>if (x.2 == NameKind.free)=true then (do let c ← cellOf env x.1;pure (ForInStep.yield ((x.1,c) :: r))) else pure (ForInStep.yield r)):Sem _)=pure cl/\
   (∀x c,cl.lookup x=some c->env.cells.lookup x=some c)/\(∀x c,acc.lookup x=some c->∃w,cl.lookup x=some w)/\(∀x∈g,x.2=NameKind.free->∃c,cl.lookup x.1=some c)
 | [],acc,_,h=>⟨acc,rfl,h,λx c e=>⟨c,e⟩,λx a=>by simp at a⟩
 | (n,k) :: g,acc,p,h=>by
  by_cases j:k=NameKind.free
  ·obtain⟨c,v⟩:=p _ aa j;have h' :∀x d,((n,c) :: acc).lookup x=some d->env.cells.lookup x=some d:=λx d e=>by
    by_cases a:x=n
    ·subst a;have u :=by simpa[aQ] using e
     cases u;exact v
    ·have u :=by
      rw[aQ,(beq_eq_false_iff_ne.mpr a)]at e;exact e
     exact h x d u
   obtain⟨cl,e,l,i,o⟩:=JU g _ (λx a=>p x (a9 _ a)) h';refine⟨cl, ?_,l,λx d y=> ?_,λx a f=> ?_⟩
   ·rw[ml];subst j;have q:cellOf env n=pure c:=by unfold cellOf;rw[v]
    simp only[beq_self_eq_true,if_true,q];exact e
   ·by_cases a:x=n
    ·subst a;exact i x c (by simp[aQ])
    ·exact i x d (by rw[aQ,(beq_eq_false_iff_ne.mpr a)];exact y)
   ·rcases ak.mp a with rfl | a
    ·exact i n c (by simp[aQ])
    ·exact o x a f
  ·obtain⟨cl,e,l,i,o⟩:=JU g acc (λx a=>p x (a9 _ a)) h;refine⟨cl, ?_,l,i,λx a f=> ?_⟩
   ·rw[ml];have q:(k == NameKind.free)=false:=by simpa using j
    simp only[q,aI,if_false];exact e
   ·rcases ak.mp a with rfl | a
    ·exact absurd f j
    ·exact o x a f
theorem YU (f:∀x∈scope.names,x.2=NameKind.free->∃c,env.cells.lookup x.1=some c):
  ∃cl,closureFor scope env=pure cl/\(∀x c,cl.lookup x=some c->env.cells.lookup x=some c)/\(∀x∈scope.names,x.2=NameKind.free->∃c,cl.lookup x.1=some c):=by
 obtain⟨cl,e,d,_,a⟩:=JU _ [] f (λx c e=>by simp at e)
 refine⟨cl, ?_,d,a⟩;unfold closureFor;exact(by simpa using e)
def oF (X:Cx)(scope:Scope)(N' :List Str)(cl:List (Str×Addr))(C:Addr)(c:Shared)(H3:Hp)(fp:List Addr)(a:List (Addr×Obj)):Cx:=
 { X with N:=N',s₀:=c,H₀:=H3,env:=compEnvC scope cl C X.env,outer:=X.stack,stack:=X.stack,ex:=fp,fn:=λ_=>false,pn:=X.pn++a,xe:=λ_ _=>False }
structure Ac (X:Cx) (scope:Scope):Prop where
 kind:scope.kind= .function
 nocell:∀x∈scope.names,x.2 ≠ .cell
 loc:∀x∈scope.names,x.2= .local->scope.names.lookup x.1=some .local
 fre:∀x∈scope.names,x.2= .free->X.env.kindOf x.1=some .cell\/X.env.kindOf x.1=some .free
theorem jX (h:(relabel scope env).names.lookup x=some k)(j:k= .cell\/k= .free)(hn:∀x∈scope.names,x.2 ≠ NameKind.cell):∃y∈scope.names,y.1=x/\y.2= .free:=by
 have go:∀c:List (Str×NameKind),(∀x∈c,x.2 ≠ NameKind.cell)->(c.map λ(n,k)=>if (k == NameKind.free && env.scope.kind == .function && env.kindOf n == some .cell) then (n,NameKind.cell) else (n,k)).lookup x=some k->∃y∈c,y.1=x/\y.2= .free:=by
  intro c
  induction c with
  | nil=>intro _ h;simp at h
  | cons y c i=>
   intro hn h;obtain⟨n,e⟩:=y
   by_cases d:x=n
   ·subst d;refine⟨(x,e),aa,rfl, ?_⟩;rw[ar]at h
    by_cases a:(e == NameKind.free && env.scope.kind == .function && env.kindOf x == some .cell)=true
    ·rw[aj,aj]at a;exact eq_of_beq a.1.1
    ·simp only[if_neg a,aQ,beq_self_eq_true]at h;cases h;rcases j with rfl | rfl
     ·exact absurd rfl (hn _ aa)
     ·rfl
   ·obtain⟨z,hz,g,f⟩:=i (λz hz=>hn z (a9 _ hz)) (by
     rw[ar]at h
     by_cases a:(e == NameKind.free && env.scope.kind == .function && env.kindOf n == some .cell)=true
     ·simp only[if_pos a,aQ,(beq_eq_false_iff_ne.mpr d)]at h;exact h
     ·simp only[if_neg a,aQ,(beq_eq_false_iff_ne.mpr d)]at h;exact h)
    exact⟨z,a9 _ hz,g,f⟩
 exact go _ hn h
section
theorem YV (I:L2.Inv X pins σ H s)(S:Ac X scope)(hc:X.calm=true)
  (a:∀x c,cl.lookup x=some c->X.env.cells.lookup x=some c) (D:∀x∈scope.names,x.2=NameKind.free->∃c,cl.lookup x.1=some c)
  (g:∀b∈fp,wC X pins H b) (Z:∀b∈fp,∃o,s.heap.get? b=some o)
  (hns:h'.Ns s.heap.objs.size (λ_=>none)) (G:∀b o,s.heap.get? b=some o->h'.get? b=some o)
  (hl:σ'.length=N'.length) (hσ:∀(i:Nat) (x:Str) (v:V),N'[i]? =some x->σ'[i]? =some (some v)->∃j:Nat,X.N[j]? =some x/\σ[j]? =some (some v)/\pU X.env.scope x/\(scope.names.lookup x=some .free)/\(X.env.kindOf x=some .cell\/X.env.kindOf x=some .free)):
  L2.Inv (oF X scope N' cl s.heap.objs.size s H fp pins) [] σ' H { s with heap:=h',toks:=tk }:=by
 have M:=I.stkSub;have hlt:=λb f=>let ⟨o,e⟩:=Z b f;au e;have fresh:=I.hok.fresh (am _);refine⟨⟨I.ok.mod,S.kind,I.ok.glob,I.ok.blt,am _,λx y c h1 U=>I.ok.inj x y c (a _ _ h1) (a _ _ U),λx r=> ?_,λx c h _=>(ax h).elim,λ_=>I.ok.hd hc,I.ok.frames,.inl rfl,λb f=> ?_,I.bs,
   av I.ok.bsz I.sz,λb o e f=> ?_,λb f P => ?_,I.stack,I.stkFree⟩,rfl,I.bare,Un.kept G,⟨_,hns,λi x v h1 U h3=> ?_⟩,λx c e=> ?_,fresh,λx c e=>I.freeC x c (a _ _ e),λp hp=> ?_,I.hok.kept G,hl⟩
 ·have O :=r;obtain⟨y,hy,rfl,hyf⟩:∃y∈scope.names,y.1=x/\y.2= .free:=by
   rcases O with h | h
   ·exact jX h (.inl rfl) S.nocell
   ·exact jX h (.inr rfl) S.nocell
  exact D y hy hyf
 ·refine⟨aF (hlt b f),λx c e=>(g b f).2.2.2.2.1 x c (a _ _ e)⟩
 ·rcases(g b f).2.2.2.1 with h | h
  ·exact I.ok.noex b o e h
  ·exact absurd (aL (au e) (av I.ok.bsz h)) (bE _)
 ·have q:=g b f;rcases ak.mp (M b P) with z | z
  ·exact q.2.1 z
  ·exact q.2.2.1 z
 ·obtain⟨j,e1,e2,e3,e4,e5⟩:=hσ i x v h1 U;obtain⟨m,hn,B⟩:=I.loc;obtain⟨u,ru,lk⟩:=B j x v e1 e2 e3;refine⟨u,ru,.inr ⟨?_, ?_⟩⟩
  ·rcases h3 with h | h | h
   ·exfalso;have:∀F:List _,F.lookup x=some .free->(F.map λ(n,k)=>if (k == NameKind.free && X.env.scope.kind == .function && X.env.kindOf n == some .cell) then (n,NameKind.cell) else (n,k)).lookup x ≠ some .local:=by
     intro F
     induction F with
     | nil=>intro z;simp at z
     | cons y F ih=>
      obtain⟨n,k⟩:=y;intro z w;rw[ar]at w
      by_cases r:x=n
      ·subst r;have Q:=by simpa[aQ] using z
       by_cases d:(k == NameKind.free && X.env.scope.kind == .function && X.env.kindOf x == some .cell)=true
       ·simp only[if_pos d,aQ,beq_self_eq_true]at w;cases w
       ·simp only[if_neg d,aQ,beq_self_eq_true]at w;rw[Q]at w;cases w
      ·have z' :=by rw[aQ,(beq_eq_false_iff_ne.mpr r)]at z;exact z
       refine ih z' ?_
       by_cases d:(k == NameKind.free && X.env.scope.kind == .function && X.env.kindOf n == some .cell)=true
       ·simp only[if_pos d,aQ,(beq_eq_false_iff_ne.mpr r)]at w;exact w
       ·simp only[if_neg d,aQ,(beq_eq_false_iff_ne.mpr r)]at w;exact w
    exact this _ e4 h
   ·exact .inl h
   ·exact .inr h
  ·rcases lk with ⟨C,_⟩ | ⟨_,c,hc',l⟩
   ·rcases e5 with z | z <;> (rw[z]at C;cases C)
   ·obtain⟨c',J⟩:=D _ (bH e4) rfl;have:=a x c' J;rw[hc']at this;cases this;obtain⟨o,eo,ed⟩:=l;exact⟨c,J,o,G _ _ eo,ed⟩
 ·obtain⟨v,o,eo,ed⟩:=I.cell x c (a _ _ e);exact⟨v,o,G _ _ eo,ed⟩
 ·have hp' :=by
   have:=hp;rwa[bw]at this
  obtain⟨e,n,ne,nf,dc⟩:=I.pin p hp';refine⟨G _ _ e,n,aF (au e),λf=> ?_,dc⟩;rcases ak.mp (M _ f) with z | z
  ·exact ne z
  ·exact nf z
end
def PIf (X:Cx)(d:List Expr)(t:TT):Prop:=
 ∀(a:List (Addr×Obj)) (s:Shared) (e:Sg) (H:Hp) (Q:Bool->Hp->Prop),L2.Inv X a e H s->t e H Q->
  wpAny (model X.prog X.w) X.A (forIn d true λc r=>if r=true then do let ok ← isTrue c X.env (eval c X.env);pure (ForInStep.yield ok) else pure (ForInStep.yield r)) (TP X a e Q) X.xe s
theorem K1:PIf X [] (λ_ H Q=>Q true H):=λ_ _ a H _ I h=>wpAny_tests_nil ⟨H,I,h⟩
theorem K2 (h:PT X c t):PIf X [c] t:=λa s d H Q I q=>wpAny_tests_one (h _ s d H Q I q)
noncomputable abbrev XE (X:Cx)(xe:Value->Shared->Prop):Cx:={ X with xe:=xe }
theorem Uu (I:L2.Inv X pins σ H s):L2.Inv (XE X xe) pins σ H s:=
 ⟨⟨I.ok.mod,I.ok.kind,I.ok.glob,I.ok.blt,I.ok.above,I.ok.inj,I.ok.has,I.ok.cab,I.ok.hd,I.ok.frames,I.ok.stk,I.ok.exf,I.ok.bs,I.ok.bsz,I.ok.noex,I.ok.exfs,I.ok.funs,I.ok.frf⟩,I.os,I.bare,I.base,I.loc,I.cell,I.free,I.freeC,I.pin,I.hok,I.len⟩
theorem YW (I:L2.Inv (XE X xe) pins σ H s):L2.Inv X pins σ H s:=(Uu I:L2.Inv _ _ σ H s)
theorem F8 (d:X.xe=λ_ _=>False)(h:PG X e t):PG (XE X xe) e t:=λa s i H v u Q I r q=>cV (h _ s i H v u Q (YW I) r q) (λ_ g ⟨σ',c,f,j⟩=>⟨σ',c,Uu f,j⟩) λe g z=>by rw[d]at z;exact z.elim
theorem Ip (d:X.xe=λ_ _=>False)(h:PIf X e t):PIf (XE X xe) e t:=λa s i H Q I q=>cV (h _ s i H Q (YW I) q) (λ_ g ⟨c,f,j⟩=>⟨c,Uu f,j⟩) λe g z=>by rw[d]at z;exact z.elim
theorem Uv {c:Type}{m:Sem c}{Q:c->Shared->Prop}(hE:∀e a,E' e a ->E e a)(h:wpAny M A m Q E' s):wpAny M A m Q E s:=cV h (λ_ _ q=>q) hE
def Vo (J:It)(D:Addr)(g:TG)(tt:TT)(te:TE)(e:Sg->Hp->Prop)(W:Nat->Nat->List V->Sg->Hp->Prop):Prop:=
 ∀i m c f H,W i m c f H->H D=some (.lst c)/\((J.stop i H/\e f H)\/(J.go i H/\∀x l,J.yld i H x l->g x f l λa H3=>tt a H3 λk j=>
  if k=true then te a j λv o=>o D=some (.lst c)/\c.length < sizeLine/\∃d,d < m/\W (i+1) d (c++[v]) a (mz o D (.lst (c++[v]))) else ∃d,d < m/\W (i+1) d c a j))
theorem YX {X:Cx}{R:Result->Shared->Prop}(hx:∀e q,X.xe e q ->notedBy (model X.prog X.w) X.A X.env (λe q =>R (.error e) q) e q)(hc:X.calm=true){tg iter Z:Expr}{ifs:List Expr}{scope:Scope}{pos:Pos}{J:It}{fp:List Addr}{it:Addr}{tn:Nat->Heap->Prop}(Q:yt X.prog X.w X.K tg J fp it tn)
  {g:TG} {tt:TT} {te:TE} (hg:PG X tg g) (ht:PIf X ifs tt) (he:PE X Z te) {D:Addr} {fin:Sg->Hp->Prop} (W:Nat->Nat->List V->Sg->Hp->Prop) (turn:Vo J D g tt te fin W)
  (hR:∀s σ H,L2.Inv X [] σ H s->fin σ H->R (.ok .next) s) {m0:Nat} {F:Sg} {H0:Hp} {s0:Shared} (w0:W 0 m0 [] F H0) (I0:L2.Inv X [] F H0 s0) (t0:tn 0 s0.heap) (f0:∀b∈fp,wC X [] H0 b):
  codeAny (model X.prog X.w) X.A (.compLoop (.ListComp Z [⟨tg,iter,ifs,0⟩] scope pos) 0 (.ref it) (.ref D) X.env) R s0:=by
 have c:∀{f :Hp},(∀b∈fp,f b=none)->∀b∈fp,wC X [] f b:=λhn b j=>⟨hn b j,(f0 b j).2⟩;refine codeAny_loop rfl (λn q =>∃i I σ' f,L2.Inv X [] σ' f q /\tn i q.heap/\(∀b∈fp,f b=none)/\W i n I σ' f) (λn s3 h3=> ?_) m0 ⟨0,[],F,H0,I0,t0,λb j=>(f0 b j).1,w0⟩;obtain⟨i,I,a,H3,I3,P,fr3,w3⟩:=h3;show wpAny _ X.A ((compTurn _ 0 _ _ _).onRaise (λx=>do noteFrame x _;theTreesLotGoes x)) _ _ s3
 refine wpAny_noted ?_;obtain⟨hD,h⟩:=turn i n I a H3 w3;rcases h with ⟨U,qn⟩ | ⟨go,next⟩
 ·refine a8 (wpAny_standAt (a8 (mH (Q.done X rfl rfl rfl hc i [] s3 a H3 _ I3 (c fr3) P U) λr s4 ⟨hr,I4⟩=> ?_)));subst hr;exact ac (hR s4 a H3 I4 qn)
 ·refine a8 (wpAny_standAt (a8 (mH (Q.item X rfl rfl rfl hc i [] s3 a H3 _ I3 (c fr3) P go) λr s4 ⟨u,hr,h4⟩=> ?_)));subst hr;refine a8 (mH h4 λ_ s5 ⟨x,H5,I5,r5,y5,G,fr5⟩=> ?_);have I5' :=I5.pinned (c fr5) (Q.obj _ _ G);refine a8 (Uv hx (mH (hg _ s5 a H5 x u _ I5' r5 (next x H5 y5)) λ_ s6 ⟨p,H6,I6,q6⟩=> ?_));have again:∀{l:Sg} {M:Hp} {S:Shared} {B :List V},L2.Inv X _ l M S->(∃C,C < n/\W (i+1) C B l M)->∃m,m < n/\∃i I σ' f,L2.Inv X [] σ' f S/\tn i _/\(∀b∈fp,f b=none)/\W i m I σ' f :=λ{l M S B} N ⟨C,hm,w7⟩=>by
   refine⟨C,hm,i+1,B,l,M,N.unpinned,Q.keep _ _ _ G λb j o e=>(N.pin _ (aG _ (aG _ (jt j e)))).1,λb j=> ?_,w7⟩;obtain⟨o,e,d⟩:=Q.obj _ _ G b j;exact(N.pin _ (aG _ (aG _ (jt j e)))).2.1
  refine a8 (Uv hx (mH (ht _ s6 p H6 _ I6 q6) λk S ⟨M,N,q7⟩=> ?_));cases k with
  | false=>exact ac ⟨rfl,again N q7⟩
  | true=>
   refine a8 (a8 (Uv hx (mH (he _ S p M _ N q7) λv s8 ⟨y,H8,I8,r8,hD8,O,q8⟩=> ?_)));refine a8 (Uv hx (mH (JQ _ s8 p H8 (.ref D) [y] _ [v] (λ_ H9=>∃C,C < n/\W _ C _ p H9) I8 rfl (.cons r8 .nil) ⟨D,I,y,rfl,rfl,hD8,O,q8⟩) λw s9 ⟨_,H9,I9,_,q9⟩=> ?_));exact ac (ac ⟨rfl,again I9 q9⟩)
def Uw (k:Nat)(js:List Nat)(a:Sg):Sg:=ag k none++js.map λj=>(a[j]?).getD none
section
abbrev X8 (X:Cx)(scope:Scope)(N' :List Str)(P:Cx->Prop):Prop:=∀cl C s3 H3 fp pins,P (oF X scope N' cl C s3 H3 fp pins)
abbrev pY (X:Cx)(scope:Scope)(N' :List Str)(E:XK)(P:Cx->Prop):Prop:=∀cl C s3 H3 fp pins xe,jB (nc X.prog X.w) (XE (oF X scope N' cl C s3 H3 fp pins) xe) E->P (XE (oF X scope N' cl C s3 H3 fp pins) xe)
structure tL (X:Cx) (scope:Scope) (N' :List Str) (k:Nat) (js:List Nat):Prop where
 len:N'.length=k+js.length
 cap:∀(i j:Nat),js[i]? =some j->∃x,N'[k+i]? =some x/\X.N[j]? =some x/\pU X.env.scope x/\scope.names.lookup x=some .free/\(X.env.kindOf x=some .cell\/X.env.kindOf x=some .free)
theorem JB (hp:GR X E){js:List Nat}{use:Option (Value->Sem Unit)}(S:Ac X scope)(CP:tL X scope N' k js)(hc:X.calm=true)
  (hi:PI X tg iter wi) (hg:X8 X scope N' λXC=>PG XC tg g) (ht:X8 X scope N' λXC=>PIf XC ifs tt) (he:pY X scope N' E λXC=>PE XC elt te) {a:List (Addr×Obj)} {N:Sg} {H:Hp} {s:Shared} {Q:Value->Shared->Prop} {F:Addr->Hp->Prop} (I:L2.Inv X a N H s)
  (h:wi N H λJ H1=>∀D,H1 D=none->∃W,(∃m,W 0 m [] (Uw k js N) (mz H1 D (.lst [])))/\Vo J D g tt te (λ_ H' =>F D H') W)
  (hQ:∀D C H' U,L2.Inv X a N H' U ->F D H' ->H' C=none->(X.s₀.heap.objs.size<=C)->C ≠ X.env.locals->(∀x c,X.env.cells.lookup x=some c->c ≠ C)->(∀p∈X.pn++a,p.1 ≠ C)->(∃m,U.heap.Ns C m)->compPost (model X.prog X.w) X.A X.xe use Q (.ref D) C (.ok .next) U)
  (hs:∀x,foldedSetIterable iter X.env x=pure x:=by intro _;rfl):
  wpAny (model X.prog X.w) X.A (comprehension (.ListComp elt [⟨tg,iter,ifs,0⟩] scope pos) scope X.env pos' (newList []) false (eval iter X.env) use) Q X.xe s:=by
 obtain⟨cl,ecl,hcl,hcf⟩:=YU (scope:=scope) (env:=X.env) λx hx hf=>I.ok.has x.1 (S.fre x hx hf);refine wpAny_comprehension_free rfl hs ecl S.kind S.loc ?_;refine mH (hi a s N H _ I h) λv s1 h1=>mH h1 λitv f O=> ?_;obtain⟨it,fp,tn,J,H2,e,I2,TJ,nP,f2,q2⟩:=O;subst e;refine aO ?_;have hD:=I2.hok.fresh (am _);have r:L2.Inv X a N (mz H2 f.heap.objs.size (.lst [])) { f with heap:=f.heap.push { cls:= .type "list",data:= .seq _ } }:=
  I2.laid (t' :=f.toks) (λb u e=>ab _ e) (am _) ⟨bf _,[],_,.nil,af _ rfl⟩
 obtain⟨W,⟨m0,w0⟩,turn⟩:=q2 f.heap.objs.size hD;have f3:∀b∈fp,wC X a (mz H2 f.heap.objs.size (.lst [])) b:=λb l=>by
  obtain⟨o,Z,_⟩:=TJ.obj _ _ nP b l;exact⟨by rw[zi (aF (au Z))];exact(f2 b l).1,(f2 b l).2⟩
 have o3:∀b∈fp,∃o,(f.heap.push { cls:= .type "list",data:= .seq ([]:List Value).toArray }).get? b=some o:=λb l=>by
  obtain⟨o,Z,_⟩:=TJ.obj _ _ nP b l;exact⟨o,ab _ Z⟩
 refine wpAny_newFunctionEnv S.nocell (by intro y hy;simp at hy) (λh4 M B=> ?_) S.kind
 generalize hG:f.heap.push _=G3 at r o3 M B ⊢;have s3e:∃d:Shared,d={ f with heap:=G3 }:=⟨_,rfl⟩;obtain⟨d,es3⟩:=s3e;have hh3:d.heap=f.heap.push { cls:= .type "list",data:= .seq ([]:List Value).toArray }:=by rw[es3,hG]
 have hg3:G3=d.heap:=by rw[es3]
 rw[← es3]at r;rw[hg3]at M B o3;have k4:=λb o e=>B.extBut b o (aF (au e)) (ab _ e);have IC:=YV (N' :=N') (cl:=cl) (fp:=fp) (σ' :=Uw k js N) (tk:=d.toks+([]:List (Str×Value)).length) r S hc hcl hcf f3 o3 M k4 (by unfold Uw;simp[CP.len]) (λi x v h1 O=>by
  unfold Uw at O
  by_cases hik:i < k
  ·rw[aY (by simpa using hik),aU,if_pos hik]at O
   cases O
  ·have hk' :k<=i:=by omega
   rw[aR (by simpa using hk'),aV,ao]at O
   cases ej:js[i - k]? with
   | none=>rw[ej]at O;cases O
   | some j=>
    rw[ej]at O;obtain⟨y,e1,e2,e3,e4,e5⟩:=CP.cap (i - k) j ej;have:k+(i - k)=i:=by omega
    rw[this,h1]at e1;cases e1;refine⟨j,e2, ?_,e3,e4,e5⟩;have h2' :some ((N[j]?).getD none)=some (some v):=O;cases ez:N[j]? with
    | none=>rw[ez]at h2';cases h2'
    | some z=>rw[ez]at h2';exact congrArg some (aH h2'))
 have TC:yt _ _ _ tg J fp it tn:=TJ;have t4:tn 0 h4:=TJ.keep _ _ _ nP λb l o e=>k4 b o (by rw[hh3];exact ab _ e)
 have fC:∀b∈fp,wC (oF X scope N' cl d.heap.objs.size d (mz H2 f.heap.objs.size (.lst [])) fp a) [] _ b:=λb l=>by
  obtain⟨q0,q1,q2,q3,q4,q5⟩:=f3 b l;obtain⟨o,Z⟩:=o3 b l;refine⟨q0,aF (au Z),λhb' => ?_,.inl l,λx c e=>q4 x c (hcl _ _ e),λp hp=> ?_⟩
  ·rcases ak.mp (r.stkSub b hb') with z | z
   ·exact q1 z
   ·exact q2 z
  ·exact q5 p (by
    have:=hp;rwa[bw]at this)
 have fin:∀(s5:Shared) (P:Sg) (H5:Hp),L2.Inv (oF X scope N' cl d.heap.objs.size d (mz H2 f.heap.objs.size (.lst [])) fp a) [] P H5 s5->F f.heap.objs.size H5->compPost (model X.prog X.w) X.A X.xe use Q _ d.heap.objs.size (.ok .next) s5:=λs5 P H5 I5 q5=>by
  have J5:=r.call' (ch:=fp) I5.os I5.base I5.hok I5.bare λb l=>by
   obtain⟨q0,q1,q2,q3,q4,q5⟩:=f3 b l;exact⟨q3,q1,q4,q5⟩
  refine hQ _ _ H5 s5 J5 q5 I5.free r.sz (cO r.lt) (λx c e z=> ?_) (λp hp z=> ?_) (let ⟨m,hm,_⟩:=I5.loc;⟨m,hm⟩)
  ·obtain⟨v',o,Z,_⟩:=r.cell x c e;exact absurd (au Z) (by rw[z];exact bE _)
  ·exact absurd (au (r.pin p hp).1) (by rw[z];exact bE _)
 have pass:jB (nc X.prog X.w) (XE (oF X scope N' cl d.heap.objs.size d (mz H2 f.heap.objs.size (.lst [])) fp a) (notedBy (model X.prog X.w) X.A (compEnvC scope cl d.heap.objs.size X.env) λe U =>compPost (model X.prog X.w) X.A X.xe use Q (.ref f.heap.objs.size) d.heap.objs.size (.error e) U)) E:=by
  intro pins1 σ1 H1 s1 e U I1 c1;have J1:=r.call' I1.os I1.base I1.hok I1.bare λb l=>by
   obtain⟨q0,q1,q2,q3,q4,q5⟩:=f3 b l;exact⟨q3,q1,q4,q5⟩
  obtain⟨m1,hm1,_⟩:=I1.loc;refine mH (hp a N H1 s1 e U _ m1 _ _ J1 hm1 I1.free r.sz (λz=> ?_) rfl c1) λ_ s'' q=> ?_
  ·obtain⟨_,o,Z,_⟩:=r.stack.mem z;exact absurd (au Z) (bE _)
  ·cases use <;> exact q
 have G:=YX (X:=XE (oF X scope N' cl _ d _ fp _) (notedBy _ X.A _ λe U =>compPost _ X.A _ use Q _ _ _ U)) (iter:=iter) (scope:=scope) (pos:=pos) (λ_ _ z=>z) hc TC (F8 rfl (hg _ _ _ _ _ _)) (Ip rfl (ht _ _ _ _ _ _)) (he _ _ _ _ _ _ _ pass) W turn (λs5 P H5 I5=>fin s5 P H5 (YW I5)) w0 (Uu IC) t4 fC;rw[es3]at G;exact codeAny_compStart_list G (TJ.self _ _ _ _ _ t4 G)
end
def zx (g:T->En->R En)(ft:En->R Bool)(a:En->R T):List T->En->R (List T)
 | [],_=> .ok []
 | t :: ts,ρ=>(g t ρ).bind λρ1=>(ft ρ1).bind λk=>if k=true then (a ρ1).bind λv=>(zx g ft a ts ρ1).bind λvs=> .ok (v :: vs) else zx g ft a ts ρ1
noncomputable def uV:Option Sl->Sl
 | some (.vl t)=> .vl t
 | some (.ob k _)=> .oc k []
 | some (.oc k fs)=> .oc k fs
 | _=> .un
def Jp (k:Nat)(js:List Nat)(ρ:En):En:=ag k .un++js.map λj=>uV ρ[j]?
noncomputable def quiet {c:Type}:R c->R c
 | .ok a=> .ok a
 | _=> .bad
def zq (g:T->En->R En)(ft:En->R Bool)(a:En->R T)(k:Nat)(js:List Nat)(ρ:En)(ts:List T):R (List T):=if ts.length<=mF then quiet (zx g ft a ts (Jp k js ρ)) else .bad
def zA (fi:En->R (List T))(g:T->En->R En)(ft:En->R Bool)(a:En->R T)(k:Nat)(js:List Nat):En->R T:=λρ=>(fi ρ).bind λts=>(zq g ft a k js ρ ts).bind λvs=> .ok (.lst vs)
def pS (c:TG)(g:T->En->R En):Prop:=∀Y B ρ a H v x Q,SI Y B ρ a H->Rep B v x->(match g x ρ with | .ok ρ' =>∀σ',SI Y B ρ' σ' H->Q σ' H | _=>False)->c v a H Q
theorem Vp (i:Nat):pS (W7 i) (zw i):=λY B ρ a H v x Q I r q=>q _ (I.setV i r)
theorem Vq (K:ai)(i j:Nat):pS (tz K 2 (Yj (W7 i) (Yj (W7 j) Dg))) (zN i j):=λY B ρ e H v t Q I r q=>by
 cases r with
 | @tup l xs ts h r=>
  cases r with
  | nil=>exact q.elim
  | cons d a=>
   cases a with
   | nil=>exact q.elim
   | cons c a=>
    cases a with
    | cons _ _=>exact q.elim
    | nil=>exact⟨l,_,rfl,SqT.of (I.sB _ _ h),rfl,_,_,rfl,_,_,rfl,rfl,q _ ((I.setV i d).setV j c)⟩
 | _=>exact q.elim
theorem SI.blockS (I:SI Y B ρ σ H)(k:Nat)(js:List Nat)(E:XK)(s:zo H H'):SI ⟨B,H,E,Y.cl,[]⟩ B (Jp k js ρ) (Uw k js σ) H' where
 s0:=I.sB
 sH:=s
 sB:=I.sB.trans s
 old:=λ_ _ _=>rfl
 len:=by unfold Jp Uw;simp
 vl:=λi t h=>by
  unfold Jp at h;unfold Uw
  by_cases g:i < k
  ·rw[aY (by simpa using g),aU,if_pos g]at h;cases h
  ·have l :k<=i:=by omega
   rw[aR (by simpa using l),aV,ao]at h ⊢
   cases o:js[i - k]? with
   | none=>rw[o]at h;cases h
   | some j=>
    rw[o]at h;have h' :uV ρ[j]? = .vl t:=aH h;unfold uV at h';split at h'
    ·rename_i u e;cases h';obtain⟨v,J,r⟩:=I.vl j _ e;exact⟨v,by show some ((σ[j]?).getD none)=_;rw[J];rfl,r⟩
    all_goals cases h'
 ow:=λi ts h=>by
  exfalso;unfold Jp at h
  by_cases g:i < k
  ·rw[aY (by simpa using g),aU,if_pos g]at h;cases h
  ·have l :k<=i:=by omega
   rw[aR (by simpa using l),aV,ao]at h
   cases o:js[i - k]? with
   | none=>rw[o]at h;cases h
   | some j=>
    rw[o]at h;have h' :uV ρ[j]? = .ow ts:=aH h;unfold uV at h';split at h' <;> cases h'
 xc:=λi c h=>by
  exfalso;unfold Jp at h
  by_cases g:i < k
  ·rw[aY (by simpa using g),aU,if_pos g]at h;cases h
  ·have l :k<=i:=by omega
   rw[aR (by simpa using l),aV,ao]at h
   cases o:js[i - k]? with
   | none=>rw[o]at h;cases h
   | some j=>
    rw[o]at h;have h' :uV ρ[j]? = .xc c:=aH h;unfold uV at h';split at h' <;> cases h'
 st:=by
  have get:∀(i:Nat) (x:Sl),x.isO=true->(Jp k js ρ)[i]? =some x->∃j,js[i - k]? =some j/\k<=i/\uV ρ[j]? =x:=λi x N h=>by
   unfold Jp at h
   by_cases g:i < k
   ·rw[aY (by simpa using g),aU,if_pos g]at h
    cases h;cases N
   ·have l :k<=i:=by omega
    rw[aR (by simpa using l),aV,ao]at h
    cases o:js[i - k]? with
    | none=>rw[o]at h;cases h
    | some j=>
     rw[o]at h;exact⟨j,rfl,l,aH h⟩
  refine⟨[],λ_=>none,iu _,λi os h=> ?_,λi _ os _ h=> ?_,λi P n h=> ?_,λi P fs h=> ?_,λi os h=> ?_⟩
  ·obtain⟨j,_,_,e⟩:=get i _ rfl h;unfold uV at e;split at e <;> cases e
  ·obtain⟨j,_,_,e⟩:=get i _ rfl h;unfold uV at e;split at e <;> cases e
  ·obtain⟨j,_,_,e⟩:=get i _ rfl h;unfold uV at e;split at e <;> cases e
  ·obtain⟨j,o,l,e⟩:=get i _ rfl h;have F:(Uw k js σ)[i]? =some ((σ[j]?).getD none):=by
    unfold Uw;rw[aR (by simpa using l),aV,ao,o];rfl
   obtain⟨U,O,x⟩:=I.st;unfold uV at e;split at e
   ·cases e
   ·rename_i M S q;cases e;obtain⟨a,C,p,vs,_,D,y,e5,_,_,w⟩:=x.ob j _ _ q;exact⟨a,C,p,vs,by rw[F,D];rfl,y,e5,w,λm f d z=>by cases z⟩
   ·rename_i M Q q;cases e;obtain⟨a,C,p,vs,D,y,e5,w,G⟩:=x.oc j _ _ q;exact⟨a,C,p,vs,by rw[F,D];rfl,y,I.sH _ _ e5,w,G.mono (zo.refl _) I.sH⟩
   ·cases e
  ·obtain⟨j,_,_,e⟩:=get i _ rfl h;unfold uV at e;split at e <;> cases e
theorem SI.block {Y:Fx}{B:Hp}{ρ:En}{a:Sg}{H H3:Hp}{D:Addr}(I:SI Y B ρ a H)(k:Nat)(js:List Nat)(E:XK)(c:H D=none)(o:HO):SI ⟨B,H,E,Y.cl,[]⟩ B (Jp k js ρ) (Uw k js a) (mz H D o):=I.blockS k js E (zo.new c _)
theorem SI.acc {Y:Fx}{B:Hp}{ρ:En}{f:Sg}{H:Hp}{D:Addr}(I:SI Y B ρ f H)(v:B D=none)(p:Y.H0 D=none)(q:∀(i:Nat) (ts:List T),ρ[i]? =some (Sl.ow ts)->f[i]? ≠ some (some (V.ref D)))(c:∀(i:Nat) (x:Sl),ρ[i]? =some x->Sl.isS x=true->False)(o:HO):SI Y B ρ f (mz H D o) where
 s0:=I.s0
 sH:=λb u h=>by
  rw[zi (λz=>by subst z;rw[p]at h;cases h)];exact I.sH b u h
 sB:=λb u h=>by
  rw[zi (λz=>by subst z;rw[v]at h;cases h)];exact I.sB b u h
 old:=I.old
 len:=I.len
 vl:=I.vl
 ow:=λi ts h=>by
  obtain⟨a,xs,e,l,g,y,r,d⟩:=I.ow i ts h;refine⟨a,xs,e,l,g, ?_,r,d⟩;rw[zi (λz=>q i ts h (by rw[e,z]))];exact y
 xc:=I.xc
 st:=let ⟨as,O,x⟩:=I.st;⟨as,O,x.pre,λi os h=>c i _ h rfl |>.elim,λi j os w h=>c i _ h rfl |>.elim,λi k n h=>c i _ h rfl |>.elim,x.oc,λi os h=>c i _ h rfl |>.elim⟩
def G7 (ρ:En):Prop:=∀(i:Nat) (x:Sl),ρ[i]? =some x->(∀ts,x ≠ Sl.ow ts)/\(x.isS=true->False)
theorem Vr (k:Nat)(js:List Nat)(ρ:En):G7 (Jp k js ρ):=λi x h=>by
 unfold Jp at h
 by_cases a:i < k
 ·rw[aY (by simpa using a),aU,if_pos a]at h
  cases h;exact⟨λ_=>Sl.noConfusion,ax⟩
 ·have c :=by omega
  rw[aR (by simpa using c),aV,ao]at h
  cases d:js[i - k]? with
  | none=>rw[d]at h;cases h
  | some j=>
   rw[d]at h;have h' :uV _=x:=aH h;unfold uV at h';split at h' <;> (subst h';exact⟨λ_=>Sl.noConfusion,ax⟩)
theorem Wf {ρ:En}{i:Nat}{t:T}(h:G7 ρ):G7 (ρ.set i (.vl t)):=λj x e=>by
 rcases zz e with ⟨_,z⟩ | ⟨_,z⟩
 ·subst z;exact⟨λ_=>Sl.noConfusion,ax⟩
 ·exact h j x z
def pN (g:T->En->R En):Prop:=(∀t ρ ρ',G7 ρ->g t ρ= .ok ρ' ->G7 ρ')/\∀t ρ c,g t ρ ≠ .ex c
theorem Vs (i:Nat):pN (zw i):=⟨λt ρ ρ' h e=>by
 cases e;exact Wf h,λt ρ c e=>by cases e⟩
theorem Vt (i j:Nat):pN (zN i j):=⟨λt ρ ρ' h e=>(by
 unfold zN at e;split at e
 ·cases e;exact Wf (Wf h)
 ·cases e),λt ρ c e=>by unfold zN at e;split at e <;> cases e⟩
section
variable {X:Cx}{Y:Fx}{tg iter elt:Expr}{ifs:List Expr}{scope:Scope}{pos pos' :Pos}{N' :List Str}{k:Nat}{js:List Nat}{fi:En->R (List T)}{tG:TG}{g:T->En->R En}{ft:En->R Bool}{fe:En->R T}
structure Wg (X:Cx) (Y:Fx) (ifs:List Expr) (f:En->R Bool):Prop where
 mk ::
 go:∀ρ,PIf X ifs (tS Y rE f ρ)
instance {X:Cx}{Y:Fx}{ifs:List Expr}{f:En->R Bool}:CoeFun (Wg X Y ifs f) λ_=>∀ρ,PIf X ifs (tS Y rE f ρ):=⟨Wg.go⟩
theorem PIf.imp {X:Cx}{e:List Expr}{t t' :TT}(h:PIf X e t)(i:∀a H Q,t' a H Q->t a H Q):PIf X e t' :=λc s a H Q I q=>h _ s a H Q I (i a H Q q)
def zV:En->R Bool:=λ_=> .ok true
theorem Ft {X:Cx}:Wg X Y [] zV:= .mk λρ=>PIf.imp K1 λa H Q ⟨B,I,q⟩=>ZN I q rfl
theorem FB {X:Cx}{c:Expr}(h:ua X Y c ft):Wg X Y [c] ft:= .mk λρ=>K2 (h ρ)
noncomputable def Dy (r:R (List T))(P:List T->Prop)(Z:Nat->Prop):Prop:=match r with
 | .ok vs=>P vs
 | .ex c=>Z c
 | .bad=>False
theorem yF {N M:Hp}{σ:Sg}{ρ:En}{J:It}{ts:List T}{r:R (List T)}{D:Addr}{E0:XK}(hG:pS tG g)(hN:pN g)(I:SI Y N ρ σ M)(rI' :rI N M J ts)(hl:ts.length<=mF)(ev:zx g ft fe ts (Jp k js ρ)=r)(hD:M D=none){F:Hp->Prop}
  (hF:Dy r (λvs=>∀f xs l,zo M f ->f D=some (.lst xs)->zy l xs vs->zo l (zF N M f)->l D=none->zo N l ->F f) λc=>∀d f,zo M f ->zo N f ->E0 (Y.cl c) d f):
  ∃W,(∃m,W 0 m [] (Uw k js σ) (mz M D (.lst [])))/\Vo J D tG (λσ H Q=>∃Y' ρ',Y'.cl=Y.cl/\tS Y' rE ft ρ' σ H Q) (λσ H Q=>∃Y' ρ',Y'.cl=Y.cl/\Y'.E=E0/\tS Y' rC fe ρ' σ H Q) (λ_ f =>F f) W:=by
 refine⟨λi m ys σ' f =>m=ts.length - i/\i<=ts.length/\ys.length<=i/\f D=some (.lst ys)/\∃ρ' l us,SI ⟨N,M,E0,Y.cl,[]⟩ l ρ' σ' f /\G7 ρ' /\zo N l /\l D=none/\zy l ys us/\((zx g ft fe (ts.drop i) ρ').bind λws=> .ok (us++ws))=r,
  ⟨ts.length,by simp,bf _,bf _,zl,_,N,[],I.block (H3:=M) k js _ hD _,Vr k js ρ,zo.refl _,I.sB.free hD,.nil,by rw[dN,ev];cases r <;> rfl⟩, ?_⟩
 rintro i m ys σ' f ⟨rfl,hi,hyl,P,ρ',l,us,I',no',C,bD,r',Z⟩
 refine⟨P, ?_⟩;obtain⟨hgo,hyld,hstop⟩:=rI' l f C I'.sB;have tD:∀O,zo f O->zF l f O D=none:=λO s=>by rw[zR P];exact bD
 by_cases G:i < ts.length
 ·refine .inr ⟨hgo i G,λx O y=> ?_⟩;obtain⟨s2,r2⟩:=hyld i _ x O (ah G) y;rw[dX G]at Z;unfold zx at Z;have I2:=I'.grow s2;refine hG _ _ ρ' σ' O x _ _ I2 r2 ?_;cases eg:g ts[i] ρ' with
  | bad=>rw[eg]at Z;subst Z;exact hF
  | ex c=>exact(hN.2 _ _ _ eg).elim
  | ok ρ1=>
   rw[eg]at Z;have U:=hN.1 _ _ _ no' eg;intro σ1 J1;refine⟨⟨N,M,E0,Y.cl,[]⟩,ρ1,rfl,_,J1, ?_⟩;have p:((ft ρ1).bind (λk=>if k=true then (fe ρ1).bind λv=>(zx g ft fe (ts.drop (i+1)) ρ1).bind λvs=> .ok (v :: vs) else zx g ft fe (ts.drop _) ρ1)).bind (λws=> .ok _)=r:=Z
   cases ef:ft ρ1 with
   | bad=>rw[ef]at p;subst p;exact hF
   | ex c=>
    rw[ef]at p;subst p;exact λd f a b=>hF d f a ((C.trans (zF.ge I'.sB s2)).trans b)
   | ok kk=>
    rw[ef]at p;intro b H3 s3 eb;have eb' :=eb;subst eb';have ew2:=p;have J2:=J1.grow s3;have hD3:H3 D=some _:=s3 _ _ (s2 _ _ P);have bD3:zF (zF l f O) O H3 D=none:=by rw[zR (s2 _ _ P)];exact tD O s2
    have S:=(zF.ge I'.sB s2).trans (zF.ge I2.sB s3);cases b with
    | false=>exact⟨ts.length - (i+1),by omega,rfl,G,by omega,hD3,ρ1,_,us,J2,U,C.trans S,bD3,r'.mono S,ew2⟩
    | true=>
     refine⟨⟨N,M,E0,Y.cl,[]⟩,ρ1,rfl,rfl,_,J2, ?_⟩;have B:=ew2;cases ee:fe ρ1 with
     | bad=>rw[ee]at B;subst B;exact hF
     | ex c=>
      rw[ee]at B;subst B;exact λd f a b=>hF d f a ((C.trans S).trans b)
     | ok v=>
      rw[ee]at B;have ew4:=B;have ew5:(zx g ft fe (ts.drop (i+1)) ρ1).bind (λws=> .ok ((us++[v])++ws))=r:=by
       rw[← ew4];cases zx g ft fe _ ρ1 with
       | ok ws=>show R.ok _=R.ok _;rw[bi];rfl
       | _=>rfl
      intro w H4 s4 rw4;have hD4:=s4 _ _ hD3;have J3:=J2.grow s4;have bD4:zF (zF (zF l f O) O H3) H3 H4 D=none:=by rw[zR hD3];exact bD3
      have sB4:=S.trans (zF.ge J2.sB s4);refine⟨hD4,aL (bq hyl G) (ZF hl),ts.length - (i+1),by omega,rfl,G,by rw[az,aK];omega,zl,ρ1,_,us++[v], ?_,U,C.trans sB4,bD4,(r'.mono sB4).append (.cons rw4 .nil),ew5⟩
      exact J3.acc bD4 hD (λj ts' e=>((U j _ e).1 ts' rfl).elim) (λj x e=>(U j x e).2) _
 ·have e:i=ts.length:=by omega
  subst e;refine .inl ⟨hstop _ (am _), ?_⟩;rw[ix]at Z;have ew' :R.ok _=r:=Z;rw[bw]at ew';subst ew';refine hF f ys l I'.sH P r' (λb o h=> ?_) bD C;cases q:M b with
  | none=>rw[zM q];exact I'.sB b o h
  | some u=>
   rw[zR q];have z:l b=N b:=I'.old b u q;rw[← z];exact h
theorem jY {J:It}(l:pS tG g)(q:pN g)(I:SI Y B1 ρ d H1)(f :rI B1 H1 J ts)(i:ts.length<=mF)(o:zx g ft fe ts (Jp k js ρ)= .ok vs)(j:H1 D=none){F:Hp->Prop}
  (p:∀a xs e,zo H1 a ->a D=some (.lst xs)->zy e xs vs->zo e (zF B1 H1 a)->e D=none->zo B1 e ->F a):
  ∃W,(∃m,W 0 m [] (Uw k js d) (mz H1 D (.lst [])))/\Vo J D tG (λd H Q=>∃c ρ',c.cl=Y.cl/\tS c rE ft ρ' d H Q) (λd H Q=>∃c ρ',c.cl=Y.cl/\(c.E=λ_ _ _=>False)/\tS c rC fe ρ' d H Q) (λ_ a =>F a) W:=yF l q I f i o j p
structure Jq (X:Cx) (Y:Fx) (tg iter elt:Expr) (ifs:List Expr) (scope:Scope) (N' :List Str) (k:Nat) (js:List Nat) (fi:En->R (List T)) (tG:TG) (g:T->En->R En) (ft:En->R Bool) (fe:En->R T):Prop where
 sc:Ac X scope
 cp:tL X scope N' k js
 cm:X.calm=true
 it:uP X Y tg iter fi
 gt:X8 X scope N' λXC=>PG XC tg tG
 gk:pS tG g
 gn:pN g
 tt:∀Y',Y'.cl=Y.cl->X8 X scope N' λXC=>Wg XC Y' ifs ft
 el:∀Y',Y'.cl=Y.cl->pY X scope N' Y'.E λXC=>Snd XC Y' elt fe
 hs:∀x,foldedSetIterable iter X.env x=pure x
theorem X9 (C:Jq X Y tg iter elt ifs scope N' k js fi tG g ft fe):Snd X Y (.ListComp elt [⟨tg,iter,ifs,0⟩] scope pos) (zA fi g ft fe k js):= .mk λρ=>by
 intro f s i H Q I ⟨B,J,q⟩;refine JB (ju rfl) (F:=λD r =>Q (.ref D) r) (te:=λi H Q=>∃a ρ',a.cl=Y.cl/\(a.E=λ_ _ _=>False)/\tS a rC fe ρ' i H Q) (tt:=λi H Q=>∃a ρ',a.cl=Y.cl/\tS a rE ft ρ' i H Q) C.sc C.cp C.cm (C.it ρ) C.gt
  (λcl p x H3 fp f l s i H Q I ⟨a,ρ',w,q⟩=>C.tt a w cl p x H3 fp _ ρ' _ s i H Q I q) (λcl p x H3 fp f xe hp l s i H Q I ⟨a,ρ',w,eE,q⟩=>C.el a w cl p x H3 fp _ xe (eE ▸ hp) ρ' _ s i H Q I q) I ?_ ?_ C.hs
 ·refine step J q λts P H1 _ s1 r1 J1 d=> ?_;intro D M;unfold zq at d;split at d
  ·rename_i O;cases v:zx g ft fe ts _ with
   | bad=>rw[v]at d;exact d.elim
   | ex c=>rw[v]at d;exact d.elim
   | ok vs=>
    rw[v]at d;refine jY C.gk C.gn J1 r1 O v M λr xs B' N e' r' l' b' sb' => ?_;refine(show Po Y rC _ H1 _ Q from d) _ r N ?_;exact .lst (by rw[zM M];exact e') (r'.mono l')
  ·exact d.elim
 ·intro D Cc r N Z q' hC h0 U j u G;obtain⟨m,S⟩:=G;refine⟨m,S,λh' y=>⟨.ref D,r, ?_,rfl,q'⟩⟩;exact Z.turned (λb o hb e=>y.extBut b o hb e) hC (bj U).symm (.inr h0) j u
end
section
variable {js:List Nat}{g:T->En->R En}
theorem Ln (C:Jq X Y tg iter elt ifs scope N' k js fi tG g ft fe)(hN:X.N.Nodup)(hi:X.N[i]? =some x)(hx:L2.Loc X.env.scope x)
  (hsw:swapsWith (.ListComp elt [⟨tg,iter,ifs,0⟩] scope pc) (some (.Name x p')) pos.line X.env=pure true) (hf:X.fn x=true\/X.env.scope.names.lookup x=some .local:=by first | exact .inl rfl | exact .inr rfl | assumption):
  Wd X Y (.Assign [.Name x p'] (.ListComp elt [⟨tg,iter,ifs,0⟩] scope pc) pos) (zC i (zA fi g ft fe k js)):= .mk λρ=>by
 intro p s l H D I ⟨B,J,q⟩;rw[exec_Assign_Name_used _ _ _ _ hsw];refine a8 (wpAny_standAt (a8 ?_));refine a8 (mH (JB (ju rfl) (F:=λG O =>D.nx (l.set i (some (.ref G))) O) (te:=λl H Q=>∃f ρ',f.cl=Y.cl/\(f.E=λ_ _ _=>False)/\tS f rC fe ρ' l H Q) (tt:=λl H Q=>∃f ρ',f.cl=Y.cl/\tS f rE ft ρ' l H Q) C.sc C.cp C.cm (C.it ρ) C.gt
  (λcl u U H3 fp p r s l H Q I ⟨f,ρ',ey,q⟩=>C.tt f ey cl u U H3 fp _ ρ' _ s l H Q I q) (λcl u U H3 fp p xe hp r s l H Q I ⟨f,ρ',ey,eE,q⟩=>C.el f ey cl u U H3 fp _ xe (eE ▸ hp) ρ' _ s l H Q I q) I ?_ ?_ C.hs) λ_ P hq=>ac (ac hq))
 ·have Z :PoS Y B (((fi ρ).s λts=>(zq g ft fe k js ρ ts).s λvs=> .nx (ρ.set i (.vl (.lst vs))))) D:=by
   unfold zC zA at q;revert q;cases fi ρ with
   | bad=>exact λq=>q
   | ex c=>exact λq=>q
   | ok ts=>
    intro q;have q2:PoS Y B (((zq g ft fe k js ρ ts).bind λvs=>R.ok _).s λt=>RS.nx _) D:=q;show PoS Y B ((zq g ft fe k js ρ ts).s λvs=>RS.nx _) D;revert q2;cases zq g ft fe k js ρ ts with
    | bad=>exact λq=>q
    | ex c=>exact λq=>q
    | ok vs=>exact λq=>q
  refine Je J Z λts it' H1 _ s1 r1 J1 j=> ?_;intro G hD;unfold zq at j;split at j
  ·rename_i hl;cases M:zx g ft fe ts _ with
   | bad=>rw[M]at j;exact j.elim
   | ex c=>rw[M]at j;exact j.elim
   | ok vs=>
    rw[M]at j;refine jY C.gk C.gn J1 r1 hl M hD λO xs B' P e' r' l' b' sb' => ?_;have rr:Rep _ _ _:= .lst (by rw[zM hD];exact e') (r'.mono l')
    exact j _ _ _ (zF.ge J1.sB P) ((J1.grow P).setV i rr)
  ·exact j.elim
 ·intro G Cc O P I' Z hC h0 hL d y hns;obtain⟨m,hm⟩:=hns;refine wpAny_assign_Name (WU (v:= .ref G) I' hN hi hx rfl (λs'' S ⟨a,hsb,ha⟩=> ?_) hf);have hne:Cc ≠ a:=by
   rcases ha with rfl | ha
   ·exact hL
   ·exact(d x a ha).symm
  refine⟨m,hm.sameBut hsb hne,λh' w =>⟨_,O, ?_,Z⟩⟩;exact S.turned (λb o hb e=>w.extBut b o hb e) hC hL (.inr h0) d y
end
noncomputable def CT (x:Str):It:=⟨λi _=>i < x.cps.size,λi H v a =>a =H/\∃c,x.cps[i]? =some c/\v= .str ⟨#[c]⟩,λi _=>x.cps.size<=i⟩
theorem wQ {P:Program}{w:World}{K:ai}{tg:Expr}{x:Str}{t:Tok}{j:String}(it:Addr)(a:j="str_ascii_iterator"\/j="str_iterator"):yt P w K tg (CT x) [it] it (λi h=>h.IsStrIter it j x t i):=by
 have W:∀A:Around,A.handled=none->Walks P w A it [it] [it] x.cps.size (SignAt x) (λi h=>h.IsStrIter it j x t i):=λA N=>by
  rcases a with rfl | rfl
  ·exact Walks.strAscii N it x t
  ·exact Walks.strWide N it x t
 have hn:["enumerate","zip","dict_itemiterator","dict_reverseitemiterator","odict_iterator","itertools.zip_longest","itertools.pairwise"].contains j=false:=by rcases a with rfl | rfl <;> decide
 refine⟨by simp,λi h st b f=> ?_,λi h h' st k=> ?_, ?_, ?_,λA i s Q E st h=> ?_⟩
 ·have e:b=it:=by simpa using f
  subst e;obtain⟨o,e,c,d⟩:=st;exact⟨o,e,λv z=>by rw[d]at z;cases z⟩
 ·obtain⟨o,e,r⟩:=st;exact⟨o,k it (by simp) o e,r⟩
 ·intro X hP hw hK y i g s O H E I B st M;obtain⟨C,F,f2,q,p,D⟩:=B it (by simp)
  refine(W X.A (I.ok.hd y)).item i s _ _ M st λv h' tk U l Z=> ?_;obtain⟨c,u,J,rfl⟩:=U;have I1:L2.Inv X _ O H { s with heap:=h',toks:=tk }:=I.turned (λb o f e=>Z b o (by simpa using f) e) C F q p D
  obtain⟨o,e,cl,d⟩:=id l;exact⟨_,rfl,yu e cl d hn ⟨.str _,H,I1,⟨u,rfl⟩,⟨rfl,c,J,rfl⟩,l,λb f=>(B b f).1⟩⟩
 ·intro X hP hw hK y i g s O H E I B st M;obtain⟨C,F,f2,q,p,D⟩:=B it (by simp)
  have S:=b_ M;rcases a with rfl | rfl
  ·exact wpAny_pyNext_ascii_end (I.ok.hd y) st S λh' G=>⟨rfl,I.turned (λb o f e=>G b o f e) C F q p D⟩
  ·exact wpAny_pyNext_wide_end (I.ok.hd y) st S λh' G=>⟨rfl,I.turned (λb o f e=>G b o f e) C F q p D⟩
 ·rcases a with rfl | rfl
  ·exact wpAny_pyIter_striter_ascii st h
  ·exact wpAny_pyIter_striter_wide st h
noncomputable def JV (x:Str):List T:=x.cps.toList.map λc=>T.str ⟨#[c]⟩
theorem Vu:rI B1 H1 (CT x) (JV x):=λk j g l=>by
 have d:(JV x).length=x.cps.size:=by unfold JV;simp
 refine⟨λi hi=>by rw[d]at hi;exact hi,λi t v H3 e y=> ?_,λi hi=>by rw[d]at hi;exact hi⟩
 obtain⟨rfl,c,f,rfl⟩:=y;refine⟨zo.refl _, ?_⟩;unfold JV at e;rw[ao]at e;have a :x.cps.toList[i]? =some c:=by simpa using f
 rw[a]at e;cases e;exact .str _
section
theorem Mh {l:Expr}{tl:TE}(w:PE X l tl):PI X tg l (λi H R=>tl i H λx c=>(∃a,x= .ref a/\(((∃xs,SqL X.K c a xs)/\R (tV X.K a) c)\/((∃xs,SqT X.K c a xs)/\R (Af X.K a) c)))\/(∃z,x= .str z/\R (CT z) c)):=by
 intro k s i H R I h;refine mH (w _ s i H _ I h) λv d ⟨x,c,f,u,y⟩=> ?_;have ok:∀b∈[d.heap.objs.size],wC X _ c b:=λb C=>by
  have e:=by simpa using C
  subst e;exact f.fpOk (am _) (f.hok.fresh (am _))
 rcases y with ⟨a,e,q⟩ | ⟨z,e,q⟩
 ·subst e;obtain rfl:v=Value.ref a:=u;rcases q with ⟨⟨xs,g⟩,q⟩ | ⟨⟨xs,g⟩,q⟩
  ·obtain⟨j,B,p,hz⟩:=f.list g;exact ck p.isList ⟨d.heap.objs.size,[d.heap.objs.size],_,_,c,rfl,f.kept λb o e=>ab _ e,WV a _,⟨_,af _ rfl,rfl,rfl⟩,ok,q⟩
  ·obtain⟨j,B,p,hz⟩:=f.tuple g;exact cC (show d.heap.IsTuple a _ from p) ⟨d.heap.objs.size,[d.heap.objs.size],_,_,c,rfl,f.kept λb o e=>ab _ e,wN a _,⟨_,af _ rfl,rfl,rfl⟩,ok,q⟩
 ·subst e;obtain⟨t,rfl⟩:=u;cases r:z.cps.all _
  ·exact wpAny_pyIter_wide r ⟨d.heap.objs.size,[d.heap.objs.size],_,_,c,rfl,f.kept λb o e=>ab _ e,wQ _ (.inr rfl),⟨_,af _ rfl,rfl,rfl⟩,ok,q⟩
  ·exact wpAny_pyIter_ascii r ⟨d.heap.objs.size,[d.heap.objs.size],_,_,c,rfl,f.kept λb o e=>ab _ e,wQ _ (.inl rfl),⟨_,af _ rfl,rfl,rfl⟩,ok,q⟩
def JW:T->R (List T)
 | .lst xs=> .ok xs
 | .tup xs=> .ok xs
 | .str x=> .ok (JV x)
 | _=> .bad
def Z5 (a:En->R T):En->R (List T):=λρ=>(a ρ).bind JW
theorem LH (f:Snd X Y a fa):uP X Y tg a (Z5 fa):= .mk λρ=>PI.imp (Mh (f ρ)) λj H R ⟨B,I,q⟩=>step I q λt v e _ i g c d=>by
 cases g with
 | @tup l xs ts h r=>
  exact .inl ⟨l,rfl,.inr ⟨⟨xs,SqT.of (c.sB _ _ h)⟩,ZN c (show Po Y rI _ e _ R from d) (FP h r)⟩⟩
 | @lst l xs ts h r=>
  exact .inl ⟨l,rfl,.inl ⟨⟨xs,SqL.of (c.sB _ _ h)⟩,ZN c (show Po Y rI _ e _ R from d) (Hb h r)⟩⟩
 | str z=>exact .inr ⟨z,rfl,ZN c (show Po Y rI _ e _ R from d) Vu⟩
 | _=>exact d.elim
end
theorem Inv.laidT {X:Cx}{d:List (Addr×Obj)}{l:Sg}{H:Hp}{s:Shared}{h' :Heap}{tk:Nat}{ch:List Addr}{a:Addr}{xs:List V}(I:L2.Inv X d l H s)(p:∀b∈ch,wC X d H b)(k:∀b o,b ∉ ch->s.heap.get? b=some o->h'.get? b=some o)
  (G:∀b o,b∈ch->s.heap.get? b=some o->∃y,h'.get? b=some y) (j:s.heap.objs.size<=a) (new:zQ X.prog X.w (mz H a (.tup xs)) h' a (.tup xs)):L2.Inv X d l (mz H a (.tup xs)) { s with heap:=h',toks:=tk }:=by
 have hn:=I.hok.fresh j;have i:∀b u,H b=some u->b ∉ ch:=λb u e g=>by rw[(p b g).1]at e;cases e
 refine I.call' rfl ⟨λb o e n _ f=>k b o f e,λb o e n _ f=>⟨o.slots,k b o f e⟩,λb o e n _=>by rw[zi (aF (aL (au e) j))];exact n,λb o e f=>⟨o,k b o f e⟩,
  λb x e=>by rw[zi (zG e hn)];exact e,λb o u e=>by rw[zi (zG e hn)];exact e,λb M q e=>by rw[zi (zG e hn)];exact e⟩ (λb u e=> ?_) I.bare λb g=> ?_
 ·by_cases g:b=a
  ·subst g;rw[zl]at e;cases e;exact new
  ·rw[zi g]at e;refine(I.hok b u e).stay (λc v f q=> ?_) (λc q=>by rw[zi (zG q hn)];exact q) (λc x q=>by rw[zi (zG q hn)];exact q) λc o u q=>by rw[zi (zG q hn)];exact q
   rcases f with rfl | f
   ·exact k c v (i c u e) q
   ·exact k c v (i c _ f) q
 ·obtain⟨F,D,J,B,r,C⟩:=p b g;exact⟨B,D,r,C⟩
def Bp (K:ai)(l:Addr):It:=
 ⟨λi H=>∃xs x,SqL K H l xs/\xs[i]? =some x,λi H v a =>∃p x,H p=none/\v= .ref p/\(∀xs,SqL K H l xs->xs[i]? =some x)/\a =mz H p (.tup [.int i,x]),λi H=>∃xs,SqL K H l xs/\xs.length<=i⟩
theorem YY {P:Program}{w:World}{K:ai}{C:List Expr}{kk:Nat}{pt:Pos}(e it l:Addr)(F:e ≠ it)(J:l ≠ e)(D:l ≠ it):
  yt P w K (.Tuple C kk pt) (Bp K l) [e,it] e (λi h=>(∃old,IsEnum h e it i old)/\h.IsListIter it l i) where
 mem:=by simp
 obj:=λi h st b a=>by
  obtain⟨⟨old,q⟩,o,e1,c,d⟩:=st;rcases ak.mp a with rfl | a
  ·exact⟨_,q,λv z=>nomatch z⟩
  ·have z:b=it:=by simpa using a
   subst z;exact⟨o,e1,λv z=>by rw[d]at z;cases z⟩
 keep:=λi h h' st k=>by
  obtain⟨⟨old,q⟩,f⟩:=st;exact⟨⟨old,k e (by simp) _ q⟩,f.at λo x=>k it (by simp) o x⟩
 item:=by
  intro X M hw hK U i G s σ H E I Q st hg;subst M hw hK;obtain⟨xs,x,S,hx⟩:=hg;obtain⟨j,rv,p,hz⟩:=I.list S;obtain⟨u,hu,ru⟩:=rv.get hx;obtain⟨⟨old,q⟩,f⟩:=st;have hi:i < j.toArray.size:=by
   have:=(ay.mp hu).1;simpa using this
  refine(m8 (prog:=X.prog) (w:=X.w) (I.ok.hd U) e it l F J D j.toArray).item i s _ _ hi ⟨⟨old,q⟩,f,p.isList⟩ λT vals h' tk M hT O hM hk=> ?_;obtain⟨t,y,hy,rfl⟩:=M;have hyu:y=u:=by
   have:j[i]? =some y:=by simpa using hy
   rw[hu]at this;exact(aH this).symm
  subst hyu;refine⟨.ref T,rfl, ?_⟩;refine(m8 (prog:=X.prog) (w:=X.w) (I.ok.hd U) e it l F J D j.toArray).go C kk pt i T _ _ _ hM λh2 g N=> ?_;have Z:H T=none:=I.hok.fresh hT;have B:∀b∈[e,it],b ≠ T:=λb a z=>by
   obtain⟨_,_,_,h3,h4⟩:=hM;rcases ak.mp a with rfl | a
   ·exact h3 z.symm
   ·have:b=it:=by simpa using a
    subst this;exact h4 z.symm
  have UO:IsTup h2 T #[.int i t,y]:=by
   obtain⟨o,eo,r⟩:=O;exact⟨o,N T o (λa=>B T a rfl) eo,r⟩
  refine⟨.ref T,mz H T (.tup [.int i,x]),Inv.laidT (s:=s) (h' :=h2) (ch:=[e,it]) (tk:=tk) I Q (λb o a e=>N b o a (hk b o a e)) (λb o a _=> ?_) hT ⟨by rw[bY];show 2<=16777216;decide,[.int i t,y],.cons ⟨t,rfl⟩ (.cons ru .nil),UO,.inl ⟨_,_,rfl⟩⟩,rfl,⟨T,x,Z,rfl,λys hy=>by rw[I.list_inj hy S];exact hx,rfl⟩,⟨g.1,g.2.1⟩,λb a=> ?_⟩
  ·obtain⟨⟨old2,he2⟩,⟨o2,eo2,_⟩,_⟩:=g;rcases ak.mp a with rfl | a
   ·exact⟨_,he2⟩
   ·have:b=it:=by simpa using a
    subst this;exact⟨o2,eo2⟩
  ·rw[zi (B b a)];exact(Q b a).1
 done:=by
  intro X M hw hK U i G s σ H E I Q st hg;subst M hw hK;obtain⟨xs,S,hx⟩:=hg;obtain⟨j,rv,p,hz⟩:=I.list S;obtain⟨⟨old,q⟩,f⟩:=st;have hl:=rv.length;refine wpAny_pyNext_enum_end (I.ok.hd U) q f p.isList (b_ (by simp;omega)) λh' hk=>⟨rfl, ?_⟩
  obtain⟨f0,f1,f2,f3,f4,f5⟩:=Q it (by simp)
  exact I.turned (t' :=s.toks) (λb o a e=>hk b o a e) f0 f1 f3 f4 f5
 self:=λ_ _ _ _ _ st h=>let ⟨⟨_,q⟩,_⟩:=st;wpAny_pyIter_enum q h
noncomputable def jM (xs:List T):List T:=(xs.zipIdx).map λp=>T.tup [.int (p.2:Nat),p.1]
theorem ud {xs:List T}{i:Nat}{t:T}(h:(jM xs)[i]? =some t):∃x,xs[i]? =some x/\t= .tup [.int (i:Nat),x]:=by
 unfold jM at h;rw[ao,iV]at h;cases e:xs[i]? with
 | none=>rw[e]at h;cases h
 | some x=>rw[e]at h;cases h;exact⟨x,rfl,by simp⟩
theorem Jr (xs:List T):(jM xs).length=xs.length:=by unfold jM;simp
theorem K3 {K:ai}{d l:Hp}{a:Addr}{xs:List V}{ts:List T}(h:d a=some (.lst xs))(r:zy d xs ts):rI d l (Bp K a) (jM ts):=λw u f g=>by
 have c:=g _ _ (f _ _ h);rw[Jr];refine⟨λi hi=> ?_,λi t x H3 e y=> ?_,λi hi=>⟨xs,SqL.of c,by rw[r.length];exact hi⟩⟩
 ·obtain⟨v,e,_⟩:=r.get (ah hi);exact⟨xs,v,SqL.of c,e⟩
 ·obtain⟨p,v,hp,rfl,y,rfl⟩:=y;obtain⟨t',k,rfl⟩:=ud e;obtain⟨q,j,o⟩:=r.get k;have:=y xs (SqL.of c);rw[j]at this;cases this;refine⟨zo.new hp _,.tup (jd hp _) (.cons (.int _) (.cons ?_ .nil))⟩;exact(o.mono f).mono (zF.ge g (zo.new hp _))
section
variable {X:Cx}{Y:Fx}{a:Expr}{fa:En->R T}{pos p pt:Pos}{elts:List Expr}{kk:Nat}
theorem K4 {x:TA}(P:Gl X "enumerate")(F:X.mg "enumerate"=none)(D:PA X [a] x)(C:mY X a:=by exact mQ rfl):
  PI X (.Tuple elts kk pt) (.Call (.Name "enumerate" p) [a] [] pos) (λk H R=>x k H λvs c=>∃l xs,vs=[.ref l]/\c l=some (.lst xs)/\R (Bp X.K l) c):=by
 intro r s k H R I h;refine Call_ (j5 I P F PyProof.Rows.Boot.«enumerate» (a_ (mH (D pos _ s k H _ I h) λS i ⟨vs,c,d,M,G⟩=> ?_) C rfl));obtain⟨l,xs,e,B,q⟩:=G;subst e;obtain⟨u,rfl,O⟩:=Zn M;obtain rfl:u=Value.ref l:=O;obtain⟨_,N,n,Q,y⟩:=(show zQ _ X.w c _ l _ from d.hok l _ B);have g:=au y;refine call_enumerate_1 y λh' v j hsz J=>wpAny_pyIter_enum v ?_;have f:∀b∈[i.heap.objs.size+1,i.heap.objs.size],wC X _ c b:=λb o=>by
  rcases ak.mp o with rfl | o
  ·exact d.fpOk (cP _) (d.hok.fresh (cP _))
  ·have z:=by simpa using o
   subst z;exact d.fpOk (am _) (d.hok.fresh (am _))
 exact⟨i.heap.objs.size+1,[i.heap.objs.size+1,i.heap.objs.size],_,_,c,rfl,d.kept J,YY _ _ l (m9 _) (aF (cQ g)) (aF g),⟨⟨_,v⟩,j⟩,f,q⟩
def K5 (fa:En->R T):En->R (List T):=λρ=>(fa ρ).bind λt=>match t with
 | .lst xs=> .ok (jM xs)
 | _=> .bad
theorem Lw (i:Gl X "enumerate")(g:X.mg "enumerate"=none)(f:Snd X Y a fa)(c:mY X a:=by exact mQ rfl):uP X Y (.Tuple elts kk pt) (.Call (.Name "enumerate" p) [a] [] pos) (K5 fa):= .mk λρ=>
 PI.imp (K4 i g (zm (f ρ) zH c) c) λu H R ⟨B,I,q⟩=>step I q λt v j _ o k e d=>by
  cases k with
  | @lst l xs ts h r=>exact⟨l,xs,rfl,e.sB _ _ h,ZN e (show Po Y rI _ j _ R from d) (K3 h r)⟩
  | _=>exact d.elim
noncomputable def Ya:List T->Option (List Str)
 | []=>some []
 | .str x :: r=>match Ya r with | some c=>some (x :: c) | none=>none
 | _ :: _=>none
def Ep (c:Str):T->R T
 | .lst ts=>match Ya ts with
  | some d=>if (d.map (·.length)).sum+d.length*c.length<=16777216 then .ok (.str (Txt.join c d)) else .bad
  | none=> .bad
 | _=> .bad
theorem Wh {H:Hp}:∀{xs:List V} {ts:List T} {c:List Value} {d:List Str},zy H xs ts->Vals xs c->Ya ts=some d->StrsAre c d
 | _,_,_,d,.nil,q,h=>by
  have h' :=h;cases q;cases h';exact .nil
 | _,_,_,d,.cons r rs,q,h=>by
  cases q with
  | cons f vs=>
  cases r with
  | str x=>
   unfold Ya at h;split at h
   ·rename_i g e;cases h;obtain⟨tk,rfl⟩:=f;exact .cons x tk (Wh rs vs e)
   ·cases h
  | _=>cases h
theorem K6:pC X "str.join" (λx xs H Q=>∃z l d ts c,x= .str z/\xs=[.ref l]/\H l=some (.lst d)/\zy H d ts/\Ya ts=some c/\(c.map (·.length)).sum+c.length*z.length<=16777216/\Q (.str (Txt.join z c)) H):=by
 intro g s B H x xs v C Q I j f h;obtain⟨z,l,d,ts,c,rfl,rfl,i,r,e,y,q⟩:=h;obtain⟨t,rfl⟩:=j;obtain⟨u,rfl,w⟩:=Zn f;obtain rfl:u=Value.ref l:=w;obtain⟨o,f,p,_⟩:=zL I (.inl i) r;exact join_list p (by simpa using Wh r f e) y λt' k=>⟨.str _,H,I.tok k,⟨t',rfl⟩,q⟩
theorem LZ (j:jz X Y a fa)(k:attributeBase (.Constant (.str z) kc pz) "join" X.env (eval (.Constant (.str z) kc pz) X.env)=eval (.Constant (.str z) kc pz) X.env:=by rfl)(f:mY X a:=by exact mQ rfl)
  (hz:(pa.endLine == p.line)=true:=by rfl):Snd X Y (.Call (.Attribute (.Constant (.str z) kc pz) "join" pa) [a] [] p) (mw (Ep z) fa):= .mk λρ=>by
 have i:(((((backTo p (starEach [a] X.env)).all λx=> !x.fst) && (backToKw p (keywordEach [] X.env)).all λx=>x.fst.isSome) && decide (([a].length+([]:List Keyword).length+if ([]:List Keyword).isEmpty=true then 0 else 1) < 30))=true):=by rw[f];rfl
 refine PE.imp (yB PySem.F.plainAttrs_str PySem.F.slot_str_join PySem.F.type_str_join K6 xN (zm (j ρ) zH f) k i hz f rfl) λC H Q ⟨B,I,q⟩=> ?_;refine⟨rfl,step I q λt v o _ y w u c=> ?_⟩;cases w with
 | @lst l xs ts h r=>
  have c:Po Y rC _ o (match Ya ts with | some d=>if (d.map _).sum+d.length*z.length<=16777216 then .ok _ else .bad | none=> .bad) Q:=c
  split at c
  ·rename_i d e;split at c
   ·rename_i g;exact⟨z,l,xs,ts,d,rfl,rfl,h,r,e,g,mV u.sB c rfl (.str _)⟩
   ·exact c.elim
  ·exact c.elim
 | _=>exact c.elim
end
noncomputable def dd:List Str->List Str->List Str
 | acc,[]=>acc
 | acc,x :: r=>dd (if x∈acc then acc else acc++[x]) r
section
variable {prog:Program}{w:World}{A:Around}{R:Result->Shared->Prop}{I:Addr}{fp wr:List Addr}{n:Nat}{P:Nat->Value->Prop}{St:Nat->Heap->Prop}
theorem jv {h h' :Heap}{S:Addr}{f g:Str->Bool}{m k:Nat}(x:h.SetOf (strKind prog w) S f m)(e:∀o,h.get? S=some o->h'.get? S=some o)(a:f=g)(c:m=k):h'.SetOf (strKind prog w) S g k:=by
 subst a c;obtain⟨o,i,ep,t,d,r⟩:=x;exact⟨o,i,ep,t,e o d,r⟩
theorem Vv (W:Walks prog w A.in1 I fp wr n P St)(S:Addr)(c:S ∉ fp)(val:Nat->Str)(r:∀i v,P i v->∃t,v=Value.str (val i) t)(a:n+1 < scanBound):
  ∀(k i:Nat) (acc:List Str) (s:Shared),n - i=k->i<=n->acc.length<=i->St i s.heap->s.heap.SetOf (strKind prog w) S (λx=>decide (x∈acc)) acc.length->
   (∀h' tk,(∀b o,b ∉ S :: wr->s.heap.get? b=some o->h'.get? b=some o)->h'.SetOf (strKind prog w) S (λx=>decide (x∈dd acc ((me i k).map val))) (dd acc ((me i k).map val)).length->
    R (.ok (.ret .none)) { s with heap:=h',toks:=tk })->codeAny (model prog w) A (.builtin "set.update.loop" ⟨[.ref S,.ref I],[]⟩) R s:=by
 intro k
 induction k with
 | zero=>
  intro i acc s U hi C d G u;obtain rfl:i=n:=by omega
  refine bQ iy ?_;refine a8 (W.done s _ _ d λh' tk p =>ac ?_);exact u h' tk (λb o a e=>p b o (λz=>a (a9 _ z)) e) (jv G (λo e=>p S o (λz=>c (W.sub _ z)) e) rfl rfl)
 | succ k ih=>
  intro i acc s U hi C d G u;refine bQ iy ?_;refine a8 (W.item i s _ _ (by omega) d λv Z tk1 hP g l=> ?_)
  obtain⟨t,rfl⟩:=r i v hP;have N:=jv G (λo e=>l S o (λz=>c (W.sub _ z)) e) rfl rfl;refine a8 (m:=holding _ _) (bp ?_);unfold setAdd;have j:(strKind prog w).is (val i) (.str (val i) t)=true:=strKind_is _ _ _ _;refine bp (a8 ((strKind _ w).pyHash j ?_));refine wpAny_setAddHashed_of j rfl N (by omega) λh2 q B=> ?_
  have e2:(if decide (val i∈acc)=true then acc.length else acc.length+1)=(if val i∈acc then acc else acc++[val i]).length:=by
   by_cases f:val i∈acc
   ·simp[f]
   ·simp[f]
  have Q:(λx=>decide (x∈acc) || decide (x=val i))=(λx=>decide (x∈(if val i∈acc then acc else acc++[val i]))):=by
   funext x
   by_cases f:val i∈acc
   ·simp only[if_pos f]
    by_cases O:x=val i
    ·subst O;simp[f]
    ·simp[O]
   ·simp[f,Bool.decide_or]
  have J:=jv B (λo e=>e) Q e2;refine ac ⟨cf F.plain_set_update_loop _,ih _ _ _ (by omega) (by omega) ?_ (W.frame _ Z _ g λb a o e=> ?_) J λX D M y=> ?_⟩
  ·split
   ·omega
   ·rw[az,aK];omega
  ·exact(q.2 b (λz=>c (z ▸ a))).trans e
  ·refine u X D (λb o a e=>M b o a ?_) y;exact(q.2 b (λz=>a (z ▸ aa))).trans (l b o (λz=>a (a9 _ z)) e)
end
section
set_option maxRecDepth 100000 in
set_option maxHeartbeats 3200000 in
theorem YZ {l:Addr}{a:List Value}{g:List Str}{Q:Value->Shared->Prop}(hh:A.handled=none)(hl:s.heap.IsList l a.toArray)(hi:StrsAre a g)(hb:a.length+1 < scanBound)
  (h:∀(h' :Heap) (tk:Nat),h'.SetOf (strKind prog w) s.heap.objs.size (λx=>decide (x∈dd [] g)) (dd [] g).length->(∀b o,b < s.heap.objs.size->s.heap.get? b=some o->h'.get? b=some o)->
   Q (.ref s.heap.objs.size) { s with heap:=h',toks:=tk }):wpAny (model prog w) A (call (.type "set") [.ref l]) Q E s:=by
 have X:∀{a:List Value} {g:List Str},StrsAre a g->a.length=g.length/\∀(i:Nat) (v:Value),a[i]? =some v->∃t,v=Value.str (g.getD i ⟨#[]⟩) t:=λ{a g} hi=>by
  induction hi with
  | nil=>exact⟨rfl,λi v e=>by simp at e⟩
  | cons y t _ ih=>
   refine⟨by simp[ih.1],λi v e=> ?_⟩
   cases i with
   | zero=>exact⟨t,by simpa using e.symm⟩
   | succ i=>exact ih.2 i v (by simpa using e)
 obtain⟨D,P⟩:=X hi;have hys:(me 0 a.length).map (λi=>g.getD i ⟨#[]⟩)=g:=by
  rw[D];refine dL λi=> ?_;rw[ao]
  by_cases B :i < g.length
  ·rw[List.getElem?_range' B,ah B];simp[ah B]
  ·rw[aP (by simp;omega),aP (by omega)]
   rfl
 obtain⟨c,tl,hmro⟩:=dw.mro;have hmade:=dw.made;have hsub:=dw.sub;have h1:=dw.notType;have h2:=dw.canCreate;have hct:=F.typeCall_set_1 (.ref l);refine wpAny_call (codeAny_of_tree (show wpAny _ _ (callAny (.type "set") _) _ _ _ from ?_));refine ac ⟨Code.quiet_builtin _ (by decide+kernel),bQ F.entry_type_call ?_⟩
 rw[Around.under_plain (weight_type_call_type "set" [.ref l] []) rfl]
 repeat any_goals (first | assumption | wp_step)
 refine eN (code_set_new_1 (.ref l) (E:=E) (Q₁:=λobj p=>∃d:Bool,obj= .ref s.heap.objs.size/\p={ s with heap:=s.heap.push { cls:= .type "set",dict:=none,data:= .set #[] 0 (.fresh 0 0 d) } }) λd=>⟨d,rfl,rfl⟩) λr p hr=> ?_;cases r with
 | error e=>exact hr
 | ok fl=>
  cases fl with
  | ret obj=>
   obtain⟨d,rfl,rfl⟩:=hr;generalize hG:s.heap.push { cls:= .type "set",dict:=none,data:= .set #[] 0 (.fresh 0 0 d) }=G;have hS:G.get? s.heap.objs.size=some { cls:= .type "set",dict:=none,data:= .set #[] 0 (.fresh 0 0 d) }:=by rw[← hG];exact af _ rfl
   have u:G.objs.size=s.heap.objs.size+1:=by rw[← hG,ci]
   have Z:∀b o,s.heap.get? b=some o->G.get? b=some o:=λb o e=>by rw[← hG];exact ab _ e
   have hT:fL { s with heap:=G } (.ref s.heap.objs.size) "set":=⟨_,hS,rfl⟩;have hli:=dw.init.lookup;have hbi:=dw.init.bind (.ref s.heap.objs.size)
   repeat any_goals (first | assumption | wp_step)
   refine eN (codeAny_call_builtin (R:=wants (λr k=>r= .none/\∃h' tk,k={ s with heap:=h',toks:=tk }/\h'.SetOf (strKind prog w) s.heap.objs.size (λx=>decide (x∈dd [] g)) (dd [] g).length/\
     (∀b o,b < s.heap.objs.size->s.heap.get? b=some o->h'.get? b=some o)) E) dw.init.plain F.entry_set_init (check_set_init_1 hT ?_)) λM k f=> ?_
   ·obtain⟨⟨ocls,odict,odata,oslots⟩,N,I,nl,U⟩:=hl;simp only at I U;subst I;subst U;have S :=Z _ _ N;have hsls:=F.sub_list_set;have hslf:=F.sub_list_frozenset;have hne:(Value.type "list" == Value.type "dict")=false:=by decide
    have J:G.IsList l a.toArray:=⟨_,S,rfl,nl,rfl⟩;have O:l < s.heap.objs.size:=au N;unfold Builtin.«set.__init__» noKeywords Builtin.Frozenset.updateFrom;generalize hPI:pyIter=PI
    wp_walk
    subst hPI;refine ck J (a8 (wpAny_runValue ?_));have hSf:s.heap.objs.size ∉ [G.objs.size,l]:=by
     rw[u];intro z;rcases ak.mp z with z | z
     ·exact absurd z (aF (fA _))
     ·exact absurd (aq.mp z) (cO O)
    refine Vv (hW (A:=A.in1.in1.in1) (by simp[hh]) G.objs.size l (by rw[u];exact aF (cQ O)) a.toArray) s.heap.objs.size hSf (λi=>g.getD i ⟨#[]⟩) (λi v e=>P i v (by simpa using e)) (by simpa using hb) a.length 0 [] _ (by simp) (bf _) (am _)
     ⟨⟨_,af _ rfl,rfl,rfl⟩,J.push _⟩ ?_ ?_
    ·have q :(G.push { cls:= .type "list_iterator",data:= .fields #[.ref l,.int 0 0] }).get? s.heap.objs.size=some { cls:= .type "set",dict:=none,data:= .set #[] 0 (.fresh 0 0 d) }:=ab _ hS;exact jv ((PyProof.Rows.setObjOf_fresh (knd:=strKind prog w) d).setOf q (by unfold scanBound;omega)) (λo e=>e) (by funext x;simp) rfl
    ·intro h' tk' hm j;rw[hys]at j;refine ac (show wpAny _ _ (ret Value.none) _ _ _ from ac ⟨rfl,h',tk',rfl,j,λb o hb e=> ?_⟩);refine hm b o (λz=> ?_) (ab _ (Z b o e));rcases ak.mp z with z | z
     ·exact absurd z (aF hb)
     ·have z' :b=G.objs.size:=aq.mp z;rw[u]at z';exact absurd z' (aF (cQ hb))
   ·cases M with
    | error e=>exact f
    | ok C=>
     cases C with
     | ret r=>
      obtain⟨rfl,h',tk,rfl,j,hk'⟩:=f
      repeat any_goals (first | assumption | wp_step)
      exact h _ _ j hk'
     | _=>exact f.elim
  | _=>exact hr.elim
end
section
theorem qa (M:X.A.handled=none):Z7 X (.type "set") (λvs H Q=>∃l xs ts a,vs=[.ref l]/\H l=some (.lst xs)/\zy H xs ts/\Ya ts=some a/\ts.length+1 < 4096/\
  ∀q,H q=none->Q (.ref q) (mz H q (.ext λh=>h.SetOf (strKind X.prog X.w) q (λx=>decide (x∈dd [] a)) (dd [] a).length))):=by
 intro j s O H vs S Q I d h;obtain⟨l,xs,ts,a,rfl,p,r,y,Z,q⟩:=h;obtain⟨u,rfl,F⟩:=Zn d;obtain rfl:u=Value.ref l:=F;obtain⟨C,d,pl,J,_⟩:=zL I (.inl p) r;refine YZ M pl (Wh r d y) (by unfold scanBound;omega) λh' tk k B=> ?_
 refine⟨.ref _,_,I.laid (λb u e=>B b u (au e) e) (am _) ?_,rfl,q _ (I.hok.fresh (am _))⟩;obtain⟨o,es,ep,t,D,N⟩:=id k;exact⟨k,⟨o,D⟩,λU P ⟨G,g,f,v,i,c⟩ e=>⟨G,g,f,v,e _ i,c⟩⟩
theorem qb:Z7 X (.builtin "len") (λvs H Q=>∃q c f n,vs=[.ref q]/\H q=some (.ext c)/\(∀h:Heap,c h->h.SetOf (strKind X.prog X.w) q f n)/\Q (.int n) H):=by
 intro d s x H vs y Q I g h;obtain⟨l,c,f,n,rfl,e,a,q⟩:=h;obtain⟨u,rfl,p⟩:=Zn g;obtain rfl:u=Value.ref l:=p;obtain⟨i,_,_⟩:=(show zQ _ X.w H _ l _ from I.hok l _ e);obtain⟨o,v,ep,t,k,hex,hd,_,_,r,j,hn⟩:=a _ i;refine call_len_set k hex hd j ?_ ⟨.int _,H,I.tok _,⟨_,rfl⟩,by rw[hn];exact q⟩
 have:v.size < 4096:=r;omega
def Vw:T->R T
 | .lst ts=>match Ya ts with
  | some a=>if ts.length+1 < 4096 then .ok (.int (dd [] a).length) else .bad
  | none=> .bad
 | _=> .bad
theorem ET (i:X.A.handled=none)(C:Gl X "len")(y:X.mg "len"=none)(g :Gl X "set")(f :X.mg "set"=none)(u:jz X Y a fa)(k:mY X a:=by exact mQ rfl)(d :mY X (.Call (.Name "set" p') [a] [] pos'):=by exact mQ rfl):
  Snd X Y (.Call (.Name "len" p) [.Call (.Name "set" p') [a] [] pos'] [] pos) (mw Vw fa):= .mk λρ=>
 PE.imp (ZM qb C y PySem.boot_len (zm (ZZ (qa i) g f PyProof.Rows.Boot.«set» (zm (u ρ) zH k) (by decide) (by decide) k rfl) zH d) (by decide) (by decide) d rfl) λD H Q ⟨B,I,q⟩=>
  step I q λt v w _ F x G c=>by
   cases x with
   | @lst l xs ts h r=>
    have c:Po Y rC _ w (match Ya ts with | some j=>if ts.length+1 < 4096 then .ok _ else .bad | none=> .bad) Q:=c
    split at c
    ·rename_i j e;split at c
     ·rename_i o;refine⟨l,xs,ts,j,rfl,h,r,e,o,λz hz=>⟨z,_,_,_,rfl,zl,λh i=>i, ?_⟩⟩;exact c _ _ (zo.new hz _) (.int _)
     ·exact c.elim
    ·exact c.elim
   | _=>exact c.elim
end
theorem uW:jB mT X E:=λ_ _ _ _ _ _ _ h=>h.elim
section
theorem K7 (hy:Y.cl=cl)(F:wD X.prog X.w X.K X.mg X.base mT j f fd ps (spP cl n g))(hr:ja k X.A)(l:j<=k)(e:Gl X x)
  (d:X.mg x=some (.ref f)) (kp:d0 X.K (.ref f)=true) (c:L2.Binds X.K fd ps []) (o:Up X Y (a :: es) ga) (hd:(x == ("__debug__":Str))=false:=by decide)
  (i:starEach (a :: es) X.env=(false,eval a X.env) :: starEach es X.env:=by exact zD rfl) (hz:((backTo pos (starEach es X.env)).any λx=>x.fst)=false:=by exact zT rfl):Snd X Y (.Call (.Name x p) (a :: es) [] pos) (zb n g ga):=by
 subst hy;exact IZ F (hr.mono l) e d kp c uW o hd i hz
theorem Wi (d:Gl X x)(c:X.mg x=some u)(a:∃t,u=Value.int i t)(hd:(x == ("__debug__":Str))=false:=by decide):Snd X Y (.Name x pos) (cE (.int i)):= .mk λρ=>
 PE.imp (k7 (v:= .int i) d c a hd) λe H Q ⟨B,I,q⟩=>ZN I q (.int i)
end
noncomputable def pV (scope a:Scope):Bool:=(scope.kind == .function) && scope.names.all (λx=>x.2 != .cell) && scope.names.all (λx=>x.2 != .local || scope.names.lookup x.1 == some .local) &&
 scope.names.all (λx=>x.2 != .free || a.names.lookup x.1 == some .cell || a.names.lookup x.1 == some .free)
theorem Xa (c:Scope)(e:X.env.scope=c)(h:pV scope c=true):Ac X scope:=by
 unfold pV at h;simp only[aj,aJ]at h;obtain⟨⟨⟨i,f⟩,g⟩,k⟩:=h;refine⟨eq_of_beq i,λx a=>by simpa using f x a,λx a d=> ?_,λx a j=> ?_⟩
 ·have:=g x a;rw[d]at this;simpa using this
 ·have:=k x a;rw[j]at this;show X.env.scope.names.lookup x.1=_\/X.env.scope.names.lookup x.1=_;rw[e];simpa using this
noncomputable def rP (N N' :List Str)(scope a:Scope)(k:Nat)(js:List Nat):Bool:=(N'.length == k+js.length) && (aN js.length).all λi=>match js[i]? with
 | none=>true
 | some j=>match N'[k+i]?,N[j]? with
  | some x,some y=>(x == y) && (a.names.lookup x == some .cell || a.names.lookup x == some .free) && (scope.names.lookup x == some .free)
  | _,_=>false
theorem qc {js:List Nat}(N:List Str)(a:Scope)(r:X.N=N)(c:X.env.scope=a)(h:rP N N' scope a k js=true):tL X scope N' k js:=by
 unfold rP at h;simp only[aj,aJ]at h;obtain⟨o,g⟩:=h;refine⟨eq_of_beq o,λi j e=> ?_⟩;have hi:=(ay.mp e).1;have q:=g i (aT.mpr hi);rw[e]at q;dsimp only at q;split at q
 ·rename_i x y f p;simp only[aj,fS,beq_iff_eq]at q;obtain⟨⟨rfl,d⟩,l⟩:=q;refine⟨x,f,by rw[r];exact p, ?_,l, ?_⟩
  ·rw[c];exact .inr d
  ·show X.env.scope.names.lookup x=_\/X.env.scope.names.lookup x=_;rw[c];exact d
 ·cases q
theorem Xb {js:List Nat}{g:T->En->R En}(N' :List Str)(N:List Str)(a:Scope)(q:X.N=N)(e:X.env.scope=a)
  (h:(pV scope a && rP N N' scope a k js)=true) (f:X.calm=true) (it:uP X Y tg iter fi) (i:X8 X scope N' λd=>PG d tg tG) (p:pS tG g) (o:pN g) (tt:∀c,c.cl=Y.cl->X8 X scope N' λd=>Wg d c ifs ft)
  (l:∀c,c.cl=Y.cl->pY X scope N' c.E λd=>Snd d c elt fe) (j:∀x,foldedSetIterable iter X.env x=pure x:=by intro _;rfl):Jq X Y tg iter elt ifs scope N' k js fi tG g ft fe:=by
 rw[aj]at h;exact⟨Xa a e h.1,qc N a q e h.2,f,it,i,p,o,tt,l,j⟩
end PV
namespace PV
open PySem PySem.Spec PyProof.Rows L2 PySem.W
section
end
end PV
namespace PySem.W
open PySem PySem.Calls PyProof.Rows PySem.Spec Builtin Builtin.ObjectAttr Builtin.Getset_descriptor
end PySem.W
namespace PySem.W
open PySem PySem.Calls PyProof.Rows PySem.Spec Builtin Builtin.ObjectAttr Builtin.Getset_descriptor
end PySem.W
namespace PySem.W
open PySem PySem.Calls PyProof.Rows PySem.Spec Builtin Builtin.ObjectAttr Builtin.Getset_descriptor
end PySem.W
namespace PV
open PySem PySem.Spec PyProof.Rows L2 PySem.W
section
end
end PV
namespace PySem.ZG
open PySem PySem.Spec PySem.Builtin.SmallTypes
structure uX (i:Addr) (fp:List Addr) (v:Nat->Option Value) (St:Nat->Heap->Prop):Prop where
 mem:i∈fp
 item:∀{prog:Program} {w:World} {A:Around} {E:Value->Shared->Prop} {s:Shared} {Q:Value->Shared->Prop} {k:Nat} {x:Value},St k s.heap->v k=some x->(∀h',St (k+1) h' ->bc i s.heap h' ->Q x { s with heap:=h' })->wpAny (model prog w) A (nextOf (.ref i)) Q E s
 stop:∀{prog:Program} {w:World} {A:Around} {E:Value->Shared->Prop} {s:Shared} {Q:Value->Shared->Prop} {k:Nat},A.handled=none->St k s.heap->v k=none->(∀h' e,fM i s.heap h' ->(∃o,h'.get? e=some o/\o.cls= .type "StopIteration")->E (.ref e) { s with heap:=h' })->wpAny (model prog w) A (nextOf (.ref i)) Q E s
 keep:∀{k:Nat} {h h' :Heap},St k h->(∀b∈fp,∀o,h.get? b=some o->h'.get? b=some o)->St k h'
 there:∀{k:Nat} {h:Heap},St k h->∀b∈fp,∃o,h.get? b=some o
theorem uX.but {v:Nat->Option Value}{St:Nat->Heap->Prop}(N:uX i fp v St)(x:St k h)(e:fM b h h')(n:b ∉ fp):St k h' :=
 N.keep x λc a o q=>e c o (λz=>n (z ▸ a)) q
theorem K8 (c:l ≠ i)(xs:Array Value):uX i [i,l] (λk=>xs[k]?) (λk h=>h.IsListIter i l k/\h.IsList l xs) where
 mem:= .head _
 item:=λst d h=>wpAny_nextOf_list_item st.1 st.2 d λh' a b=>h h' ⟨a,st.2.extBut b.extBut c⟩ b
 stop:=λp st d h=>wpAny_nextOf_list_end p st.1 st.2 d h
 keep:=λst k=>⟨st.1.at λo e=>k i (.head _) o e,st.2.at λo e=>k l (.tail _ (.head _)) o e⟩
 there:=λst b f=>by
  obtain⟨⟨o,e,_⟩,j,g,_⟩:=st;rcases ak.mp f with z | f
  ·exact⟨o,z ▸ e⟩
  ·exact⟨j,(aq.mp f) ▸ g⟩
end PySem.ZG
namespace PySem.ZG
open PySem PySem.Spec PySem.Builtin.SmallTypes
section
theorem Ux (a:s.heap.IsTupleIter it l k)(h:wpAny (model prog w) A.in1 (Builtin.«tuple_iterator.__next__» ⟨[.ref it],[]⟩) (λc d =>∃v,c= .done (.ret v)/\Q v d) E s):wpAny (model prog w) A (nextOf (.ref it)) Q E s:=by
 exact a8 (aX a.typeIs eS (aM eS a.typeIs PySem.F.entry_tuple_iterator_next
  (cV h (λc d ⟨v,e,q⟩=>⟨v,e,ac q⟩) λ_ _ z=>z) (PySem.F.args_tuple_iterator_next_1 _)))
theorem tup_item (a:s.heap.IsTupleIter it l k)(f:s.heap.IsTuple l xs)(j:xs[k]? =some x)(h:∀h',h'.IsTupleIter it l (k+1)->bc it s.heap h' ->Q x { s with heap:=h' }):wpAny (model prog w) A (nextOf (.ref it)) Q E s:=by
 refine Ux a ?_;obtain⟨o,c,i,hd⟩:=id a;obtain⟨p,d,_,q,e⟩:=f;refine a8 (m:=field _ 0) (ba c hd rfl ?_);refine a8 (ba c hd rfl (a8 (bM d e ?_)));simp only[b9,j];have g:=fg (ii (·.setIfInBounds 1 (rawInt (k+1)))) c (iQ (eJ hd _));refine a8 (wpAny_setField c hd (by simp) (ac ⟨x,rfl,h _ ⟨_,g,(lM ..).trans i, ?_⟩ (bV ..)⟩))
 rw[eJ hd];simp[rawInt]
theorem tup_stop (j:A.handled=none)(a:s.heap.IsTupleIter it l k)(i:s.heap.IsTuple l xs)(g:xs[k]? =none)
  (h:∀h' e,fM it s.heap h' ->(∃o,h'.get? e=some o/\o.cls= .type "StopIteration")->E (.ref e) { s with heap:=h' }):wpAny (model prog w) A (nextOf (.ref it)) Q E s:=by
 refine Ux a ?_;obtain⟨o,d,p,hd⟩:=id a;obtain⟨q,c,_,r,f⟩:=i;refine a8 (m:=field _ 0) (ba d hd rfl ?_);refine a8 (ba d hd rfl (a8 (bM c f ?_)));simp only[b9,g];refine a8 (du (a8 (wpAny_setField d hd (by simp) (a8 ?_))))
 refine a8 (aO (a8 (c9 (by first | rfl | (simp only[firstArgMember])) (aO ?_ (by size_fits)))) (by size_fits))
 refine a8 (wpAny_handled ?_);rw[j];exact a8 (ac (wpAny_throw (h _ _ (((bV ..).extBut.push _).push _) ⟨_,af _ rfl,rfl⟩)))
end
theorem nx_tup (d:l ≠ i)(xs:Array Value):uX i [i,l] (λk=>xs[k]?) (λk h=>h.IsTupleIter i l k/\h.IsTuple l xs) where
 mem:= .head _
 item:=λst f h=>tup_item st.1 st.2 f λh' a b=>h h' ⟨a,st.2.extBut b.extBut d⟩ b
 stop:=λq st f h=>tup_stop q st.1 st.2 f h
 keep:=λst k=>by
  obtain⟨⟨o,e,r⟩,c,g,p⟩:=st;exact⟨⟨o,k i (.head _) o e,r⟩,c,k l (.tail _ (.head _)) c g,p⟩
 there:=λst b j=>by
  obtain⟨⟨o,e,_⟩,c,g,_⟩:=st;rcases ak.mp j with z | j
  ·exact⟨o,z ▸ e⟩
  ·exact⟨c,(aq.mp j) ▸ g⟩
end PySem.ZG
namespace PySem.ZG
open PySem PySem.Spec PySem.Builtin.SmallTypes
structure Ap (z TI TO i1 i2:Addr) (fp1 fp2:List Addr):Prop where
 Iz:TI ≠ z
 Oz:TO ≠ z
 IO:TI ≠ TO
 I1:TI ≠ i1
 I2:TI ≠ i2
 z1:z ∉ fp1
 z2:z ∉ fp2
 O1:TO ∉ fp1
 O2:TO ∉ fp2
 a:i1 ∉ fp2
 b:i2 ∉ fp1
section
variable {v1 v2:Nat->Option Value}{S1 S2:Nat->Heap->Prop}
theorem Ap.ne1 (D:Ap z TI TO i1 i2 fp1 fp2)(a:uX i1 fp1 v1 S1):i1 ≠ z/\i1 ≠ TO:=⟨λe=>D.z1 (e ▸ a.mem),λe=>D.O1 (e ▸ a.mem)⟩
theorem Ap.ne2 (D:Ap z TI TO i1 i2 fp1 fp2)(a:uX i2 fp2 v2 S2):i2 ≠ z/\i2 ≠ TO:=⟨λe=>D.z2 (e ▸ a.mem),λe=>D.O2 (e ▸ a.mem)⟩
theorem K9 {Q:Value->Shared->Prop}(g:uX i1 fp1 v1 S1)(f:uX i2 fp2 v2 S2)(D:Ap z TI TO i1 i2 fp1 fp2)(hz:IsZip s.heap z TI TO .none)(M:IsPair s.heap TI (.ref i1) (.ref i2))(G:IsPair s.heap TO a b)(p1:S1 k s.heap)(p2:S2 k s.heap)(hx:v1 k=some x)(hy:v2 k=some y)
  (hQ:∀h',IsZip h' z TI TO (rawInt s.heap.objs.size)->IsPair h' TO x y->S1 (k+1) h' ->S2 (k+1) h' ->IsPair h' s.heap.objs.size x y->
   (∀c o,c ≠ z->c ≠ TO->c ≠ i1->c ≠ i2->s.heap.get? c=some o->h'.get? c=some o)->Q (.ref s.heap.objs.size) { s with heap:=h' }):
  wpAny (model prog w) A (Builtin.«zip.__next__» ⟨[.ref z],[]⟩) (λJ s' =>∃v,J= .done (.ret v)/\Q v s') E s:=by
 refine a8 (m:=field (.ref z) 2) (ba hz rfl (x:= .bool false) rfl (a8 (ba hz rfl (x:= .ref TI) rfl (a8 (bM M rfl ?_)))));refine a8 ?_;refine a8 (ba hz rfl (x:= .none) rfl (ac ?_));refine a8 (du (a8 (ba hz rfl (x:= .ref TO) rfl (a8 (bb hz (by simp) λg1 F j=> ?_)))))
 replace F:=F
 refine a8 ?_;refine a8 (a8 (wpAny_onRaise (a8 (g.item (g.but p1 j.extBut D.z1) hx λg2 q1 l=>ac ?_))));have S:IsPair g2 TO a b:=l.extBut _ _ (D.ne1 g).2.symm (j.extBut _ _ D.Oz G);refine a8 (bM S rfl (a8 (wpAny_updateSeq_pair S λg3 t3 r=> ?_)));refine a8 (dO (ac ?_));refine a8 (a8 (wpAny_onRaise (a8 (f.item (f.but (f.but (f.but p2 j.extBut D.z2) l.extBut D.a) r.extBut D.O2) hy λg4 q2 p=>ac ?_))));have t4:IsPair g4 TO x b:=p.extBut _ _ (D.ne2 f).2.symm t3;refine a8 (bM t4 rfl (a8 (wpAny_updateSeq_pair t4 λd B e5=> ?_)))
 replace B:IsPair d TO x y:=B
 refine a8 (dO (ac (ac ?_)));refine a8 (bM B rfl (a8 (wpAny_newTuple ?_)));have sz:d.objs.size=s.heap.objs.size:=by rw[e5.1,p.1,r.1,l.1,j.1]
 have X:=e5.extBut _ _ D.Oz.symm (p.extBut _ _ (D.ne2 f).1.symm (r.extBut _ _ D.Oz.symm (l.extBut _ _ (D.ne1 g).1.symm F)));have k5:∀c o,c ≠ z->c ≠ TO->c ≠ i1->c ≠ i2->s.heap.get? c=some o->d.get? c=some o:=λc o i u C N e=>
  e5.extBut _ _ u (p.extBut _ _ N (r.extBut _ _ u (l.extBut _ _ C (j.extBut _ _ i e))))
 have r1:S1 (k+1) d:=g.but (g.but (g.but q1 r.extBut D.O1) p.extBut D.b) e5.extBut D.O1;have r2:S2 (k+1) d:=f.but q2 e5.extBut D.O2;refine a8 ?_;have z6:IsZip (d.push { cls:= .type "tuple",data:= .seq #[x,y] }) z TI TO _:=ab _ X;refine a8 (bb z6 (by simp) λg7 z7 P=> ?_)
 refine bb z7 (by simp) λU O e8=> ?_
 have up:∀c o,c ≠ z->d.get? c=some o->U.get? c=some o:=λc o i e=>e8.extBut _ _ i (P.extBut _ _ i (ab _ e));have hn:d.objs.size ≠ z:=cO (au X);have Z:=e8.extBut _ _ hn (P.extBut _ _ hn (af _ rfl));rw[sz]at O Z;refine ac ⟨_,rfl, ?_⟩;rw[sz];exact hQ U O (up _ _ D.Oz B) (g.keep r1 λc I o e=>up c o (λq=>D.z1 (q ▸ I)) e) (f.keep r2 λc I o e=>up c o (λq=>D.z2 (q ▸ I)) e) Z λc o i u C N e=>up c o i (k5 c o i u C N e)
theorem Ka {Q:Fin->Shared->Prop}(X:A.handled=none)(i:uX i1 fp1 v1 S1)(v:uX i2 fp2 v2 S2)(D:Ap z TI TO i1 i2 fp1 fp2)(hz:IsZip s.heap z TI TO .none)(J:IsPair s.heap TI (.ref i1) (.ref i2))(G:IsPair s.heap TO a b)(O:S1 k s.heap)(p2:S2 k s.heap)(u:v1 k=none\/v2 k=none)
  (hE:∀h' e,(∀c o,c ≠ z->c ≠ TO->c ≠ i1->c ≠ i2->s.heap.get? c=some o->h'.get? c=some o)->(∃o,h'.get? e=some o/\o.cls= .type "StopIteration")->E (.ref e) { s with heap:=h' }):
  wpAny (model prog w) A (Builtin.«zip.__next__» ⟨[.ref z],[]⟩) Q E s:=by
 refine a8 (m:=field (.ref z) 2) (ba hz rfl (x:= .bool false) rfl (a8 (ba hz rfl (x:= .ref TI) rfl (a8 (bM J rfl ?_)))));refine a8 ?_;refine a8 (ba hz rfl (x:= .none) rfl (ac ?_));simp only[if_true];refine a8 (du (a8 (ba hz rfl (x:= .ref TO) rfl (a8 (bb hz (by simp) λg1 C j=> ?_)))))
 replace C:=C
 refine a8 ?_;have off:∀{g:Heap} {e:Addr} {p:Obj},IsZip g z TI TO .ellipsis->g.get? e=some p->p.cls= .type "StopIteration"->e ≠ z:=λhg l d q=>by
  subst q;rw[hg]at l;cases l;simp at d
 cases I:v1 k with
 | none=>
  refine a8 (a8 (wpAny_onRaise (a8 (i.stop X (i.but O j.extBut D.z1) I λg2 e f l=> ?_))));obtain⟨p,y,d⟩:=l;have P:=f _ _ (D.ne1 i).1.symm C;exact bb P (by simp) λS _ r=>hE S e (λc o B _ F _ q=>r.extBut _ _ B (f _ _ F (j.extBut _ _ B q))) ⟨p,r.extBut _ _ (off P y d) y,d⟩
 | some x=>
  have hy:v2 k=none:=by
   rcases u with q | q
   ·rw[I]at q;cases q
   ·exact q
  refine a8 (a8 (wpAny_onRaise (a8 (i.item (i.but O j.extBut D.z1) I λg2 q1 f=>ac ?_))));have M:=f.extBut _ _ (D.ne1 i).2.symm (j.extBut _ _ D.Oz G);refine a8 (bM M rfl (a8 (wpAny_updateSeq_pair M λS t3 r=>a8 (dO (ac ?_)))));refine a8 (a8 (wpAny_onRaise (a8 (v.stop X (v.but (v.but (v.but p2 j.extBut D.z2) f.extBut D.a) r.extBut D.O2) hy λg4 e U l=> ?_))));obtain⟨p,y,d⟩:=l;have N:=U _ _ (D.ne2 v).1.symm (r.extBut _ _ D.Oz.symm (f.extBut _ _ (D.ne1 i).1.symm C));exact bb N (by simp) λg5 _ e5=>hE g5 e (λc o B Z F c4 q=>e5.extBut _ _ B (U _ _ c4 (r.extBut _ _ Z (f.extBut _ _ F (j.extBut _ _ B q))))) ⟨p,e5.extBut _ _ (off N y d) y,d⟩
theorem Kc {Q:Option Value->Shared->Prop}(B:uX i1 fp1 v1 S1)(F:uX i2 fp2 v2 S2)(D:Ap z TI TO i1 i2 fp1 fp2)(hz:IsZip s.heap z TI TO .none)(d:IsPair s.heap TI (.ref i1) (.ref i2))(e:IsPair s.heap TO a b)(q:S1 k s.heap)(r:S2 k s.heap)(l:v1 k=some x)(hy:v2 k=some y)
  (g:∀h',IsZip h' z TI TO (rawInt s.heap.objs.size)->IsPair h' TO x y->S1 (k+1) h' ->S2 (k+1) h' ->IsPair h' s.heap.objs.size x y->
   (∀c o,c ≠ z->c ≠ TO->c ≠ i1->c ≠ i2->s.heap.get? c=some o->h'.get? c=some o)->Q (some (.ref s.heap.objs.size)) { s with heap:=h' }):wpAny (model prog w) A (pyNext (.ref z)) Q E s:=by
 have f:s.TypeIs (.ref z) _:=⟨_,hz,rfl⟩;exact a8 (cy (aX f dG (aM dG f iJ
  (K9 B F D hz d e q r l hy λh' j p v C u i=>ac (g h' j p v C u i)) (iz _))))
theorem Ke {Q:Option Value->Shared->Prop}(y:A.handled=none)(v:uX i1 fp1 v1 S1)(x:uX i2 fp2 v2 S2)(D:Ap z TI TO i1 i2 fp1 fp2)(hz:IsZip s.heap z TI TO .none)(f:IsPair s.heap TI (.ref i1) (.ref i2))(g:IsPair s.heap TO a b)(q:S1 k s.heap)(r:S2 k s.heap)(d:v1 k=none\/v2 k=none)
  (j:∀h',(∀c o,c ≠ z->c ≠ TO->c ≠ i1->c ≠ i2->s.heap.get? c=some o->h'.get? c=some o)->Q none { s with heap:=h' }):wpAny (model prog w) A (pyNext (.ref z)) Q E s:=by
 have i:s.TypeIs (.ref z) _:=⟨_,hz,rfl⟩;refine a8 (cy (aX i dG (aM dG i iJ
  (Ka y v x D hz f g q r d λh' e kp u=> ?_) (iz _))))
 obtain⟨o,p,l⟩:=u;exact a8 (cA ⟨o,p,l⟩ isSubtype_stop (ac (j _ kp)))
end
end PySem.ZG
namespace PySem.ZG
open PySem PySem.Spec PySem.Builtin.SmallTypes
structure Kf (l:Addr) (o:Obj) (P:Heap->Prop):Prop where
 go:∀{prog:Program} {w:World} {A:Around} {E:Value->Shared->Prop} {s:Shared} {Q:Value->Shared->Prop},P s.heap->Q (.ref s.heap.objs.size) { s with heap:=s.heap.push o }->wpAny (model prog w) A (pyIter (.ref l)) Q E s
 push:∀{h:Heap} (o' :Obj),P h->P (h.push o')
 fresh:o.isFreed=false
noncomputable abbrev oL (l:Addr):Obj:={ cls:= .type "list_iterator",data:= .fields #[.ref l,.int 0 0] }
noncomputable abbrev oT (l:Addr):Obj:={ cls:= .type "tuple_iterator",data:= .fields #[.ref l,.int 0 0] }
theorem Kg (l:Addr)(xs:Array Value):Kf l (oL l) (λh=>h.IsList l xs):=⟨λp q=>ck p q,λo p=>Heap.IsList.push p o,rfl⟩
theorem EU (l:Addr)(xs:Array Value):Kf l (oT l) (λh=>h.IsTuple l xs):=⟨λp q=>cC p q,λo p=>lN.push p o,rfl⟩
noncomputable abbrev Di (h:Heap)(o1 o2:Obj):Heap:=(h.push o1).push o2
abbrev Cu (h:Heap)(o1 o2:Obj):Heap:=(Di h o1 o2).push { cls:= .type "tuple",data:= .seq #[.ref h.objs.size,.ref (h.push o1).objs.size] }
abbrev BV (h:Heap)(o1 o2:Obj):Heap:=(Cu h o1 o2).push { cls:= .type "tuple",data:= .seq #[.none,.none] }
abbrev pH (h:Heap)(o1 o2:Obj):Heap:=(BV h o1 o2).push { cls:= .type "zip",data:= .fields #[.none,.bool false,.bool false,.ref (Di h o1 o2).objs.size,.ref (Cu h o1 o2).objs.size] }
theorem Ll {c a:Heap->Prop}(l:Kf l1 o1 c)(e:Kf l2 o2 a):
  Meets (Builtin.«zip.__new__» ⟨[.type "zip",.ref l1,.ref l2],[]⟩) (λ_ R s=>c s.heap/\a s.heap/\R (.ok (.ret (.ref (BV s.heap o1 o2).objs.size))) { s with heap:=pH s.heap o1 o2 }):=
 .of_wp λprog w A R s h=>by
  obtain⟨hp,g,d,tk,os⟩:=s;obtain⟨k,j,h⟩:=h;have f:=sub_zip;have o:c (mh ⟨hp,g,d,tk,os⟩):=k;have i:a (mh ⟨hp.push o1,g,d,tk,os⟩):=e.push o1 j
  wp_walk using l.go o,e.go i
  exact⟨_,rfl,h⟩
end PySem.ZG
namespace PySem.ZG
open PySem PySem.Spec PySem.Builtin.SmallTypes
theorem Kh {v u:Heap->Prop}(l:Kf l1 o1 v)(i:Kf l2 o2 u)(B:v s.heap)(y:u s.heap)
  (h:∀h' n,n=s.heap.objs.size->IsZip h' (n+4) (n+2) (n+3) .none->IsPair h' (n+2) (.ref n) (.ref (n+1))->IsPair h' (n+3) .none .none->h'.get? n=some o1->h'.get? (n+1)=some o2->
   (∀c o,s.heap.get? c=some o->h'.get? c=some o)->Q (.ref (n+4)) { s with heap:=h' }):wpAny (model prog w) A (call (.type "zip") [.ref l1,.ref l2]) Q E s:=by
 refine callType_new PySem.F.called_zip (by decide) (PySem.F.typeCall_zip_2 _ _) (PySem.F.newCall_zip_2 _ _) (λobj=>PySem.F.args_object_init_3 obj _ _) PySem.F.entry_zip_new (Ll l i) ⟨B,y, ?_⟩
 have d:(s.heap.push o1).objs.size=s.heap.objs.size+1:=ci ..;have a:(Di s.heap o1 o2).objs.size=s.heap.objs.size+2:=by rw[ci,d]
 have g:(Cu s.heap o1 o2).objs.size=s.heap.objs.size+3:=by rw[ci,a]
 have j:(BV s.heap o1 o2).objs.size=s.heap.objs.size+4:=by rw[ci,g]
 have up:∀{h:Heap} {c:Addr} {o:Obj} (f :Obj),h.get? c=some o->(h.push f).get? c=some o:=λf e=>ab f e;have e5:(pH s.heap o1 o2).get? _=some _:=af _ rfl;have p:(pH s.heap o1 o2).get? _=some _:=up _ (af _ rfl);have r:(pH s.heap o1 o2).get? _=some _:=up _ (up _ (af _ rfl));have k:(pH s.heap o1 o2).get? _=some _:=up _ (up _ (up _ (af _ i.fresh)));have x:(pH s.heap o1 o2).get? _=some _:=up _ (up _ (up _ (up _ (af _ l.fresh))));rw[a,g,j]at e5;rw[d,a]at r;rw[g]at p;rw[d]at k;rw[j];exact⟨⟨_,e5,rfl⟩,h _ _ rfl e5 r p x k λc o q=>up _ (up _ (up _ (up _ (up _ q))))⟩
end PySem.ZG
namespace PV
open PySem PySem.Spec PyProof.Rows L2 PySem.ZG
inductive SK where
 | l | t
noncomputable def SK.it:SK->Heap->Addr->Addr->Nat->Prop
 | .l=>λh i l k=>h.IsListIter i l k
 | .t=>λh i l k=>h.IsTupleIter i l k
noncomputable def SK.has:SK->Heap->Addr->Array Value->Prop
 | .l=>λh l xs=>h.IsList l xs
 | .t=>λh l xs=>h.IsTuple l xs
def SK.sq (K:ai):SK->Hp->Addr->List V->Prop
 | .l=>λH a xs=>SqL K H a xs
 | .t=>λH a xs=>SqT K H a xs
noncomputable def SK.tr:SK->List V->HO
 | .l=> .lst
 | .t=> .tup
def SK.ob:SK->Addr->Obj
 | .l=>oL
 | .t=>oT
theorem SK.nx (k:SK){i l:Addr}(h:l ≠ i)(xs:Array Value):uX i [i,l] (λn=>xs[n]?) (λn hp=>k.it hp i l n/\k.has hp l xs):=by
 cases k with
 | l=>exact K8 h xs
 | t=>exact nx_tup h xs
theorem SK.of (k:SK)(l:Addr)(xs:Array Value):Kf l (k.ob l) (λh=>k.has h l xs):=by
 cases k with
 | l=>exact Kg l xs
 | t=>exact EU l xs
theorem SK.start (k:SK){h:Heap}{i l:Addr}(e:h.get? i=some (k.ob l)):k.it h i l 0:=by
 cases k with
 | l=>exact⟨_,e,rfl,rfl⟩
 | t=>exact⟨_,e,rfl,rfl⟩
theorem SK.obj {k:SK}{h:Heap}{i l:Addr}{n:Nat}(x:k.it h i l n):∃o,h.get? i=some o/\∀v,o.data ≠ .cell v:=by
 cases k with
 | l=>obtain⟨o,e,_,d⟩:=x;exact⟨o,e,λv z=>by rw[d]at z;cases z⟩
 | t=>obtain⟨o,e,_,d⟩:=x;exact⟨o,e,λv z=>by rw[d]at z;cases z⟩
theorem SK.at_ {k:SK}{h h' :Heap}{i l:Addr}{n:Nat}(x:k.it h i l n)(q:∀o,h.get? i=some o->h'.get? i=some o):k.it h' i l n:=by
 cases k with
 | l=>obtain⟨o,e,r⟩:=x;exact⟨o,q o e,r⟩
 | t=>obtain⟨o,e,r⟩:=x;exact⟨o,q o e,r⟩
theorem SK.sqOf {K:ai}(k:SK){H:Hp}{a:Addr}{xs:List V}(e:H a=some (k.tr xs)):k.sq K H a xs:=by
 cases k with
 | l=>exact SqL.of e
 | t=>exact SqT.of e
theorem Inv.seq (I:L2.Inv X pins σ H s)(k:SK)(h:k.sq X.K H a xs):∃c:List Value,Vals xs c/\k.has s.heap a c.toArray/\∃o,s.heap.get? a=some o:=by
 cases k with
 | l=>
  obtain⟨c,r,p,_⟩:=I.list h;obtain⟨o,_,e,_⟩:=id p;exact⟨c,r,p.isList,o,e⟩
 | t=>
  obtain⟨c,r,p,_⟩:=I.tuple h;obtain⟨o,e,_⟩:=id p;exact⟨c,r,p,o,e⟩
def DL (K:ai)(f e:SK)(d c:Addr):It:=
 ⟨λi H=>∃xs a x y,f.sq K H d xs/\e.sq K H c a/\xs[i]? =some x/\a[i]? =some y,λi H v g =>∃p x y,H p=none/\v= .ref p/\(∀xs,f.sq K H d xs->xs[i]? =some x)/\(∀a,e.sq K H c a->a[i]? =some y)/\g =mz H p (.tup [x,y]),
  λi H=>∃xs a,f.sq K H d xs/\e.sq K H c a/\(xs.length<=i\/a.length<=i)⟩
theorem Inv.seq_inj (I:L2.Inv X pins σ H s)(k:SK)(h:k.sq X.K H a xs)(h' :k.sq X.K H a ys):xs=ys:=by
 cases k with
 | l=>exact I.list_inj h h'
 | t=>exact I.tuple_inj h h'
theorem nN {a b:Nat}(h:a ≠ b): @Ne Addr a b:=h
theorem nM {a b c:Nat}(h:a ≠ b)(h' :a ≠ c):¬ @Membership.mem Addr (List Addr) _ [b,c] a:=λq=>by
 rcases ak.mp q with z | z
 ·exact h z
 ·exact h' (aq.mp z)
theorem Vx {P:Program}{w:World}{K:ai}{elts:List Expr}{kk:Nat}{pt:Pos}(J G:SK){n l1 l2:Nat}(h1:l1 < n)(h2:l2 < n):
  yt P w K (.Tuple elts kk pt) (DL K J G l1 l2) [n+4,n+2,n+3,n,n+1] (n+4)
   (λi h=>IsZip h (n+4) (n+2) (n+3) .none/\IsPair h (n+2) (.ref n) (.ref (n+1))/\(∃a b,IsPair h (n+3) a b)/\J.it h n l1 i/\G.it h (n+1) l2 i):=by
 have D:Ap (n+4) (n+2) (n+3) n (n+1) [n,l1] [n+1,l2]:=by
  refine⟨nN (by omega),nN (by omega),nN (by omega),nN (by omega),nN (by omega),nM (by omega) (by omega),nM (by omega) (by omega),nM (by omega) (by omega),nM (by omega) (by omega),nM (by omega) (by omega),nM (by omega) (by omega)⟩
 refine⟨by simp,λi h st b d=> ?_,λi h h' st k=> ?_, ?_, ?_, ?_⟩
 ·obtain⟨hz,p,⟨a,c,F⟩,C,M⟩:=st;simp only[ak,bR,or_false]at d;rcases d with rfl | rfl | rfl | rfl | rfl
  ·exact⟨_,hz,λv z=>nomatch z⟩
  ·exact⟨_,p,λv z=>nomatch z⟩
  ·exact⟨_,F,λv z=>nomatch z⟩
  ·exact SK.obj C
  ·exact SK.obj M
 ·obtain⟨hz,p,⟨a,c,F⟩,C,M⟩:=st;exact⟨k _ (by simp) _ hz,k _ (by simp) _ p,⟨a,c,k _ (by simp) _ F⟩,SK.at_ C λo e=>k n (by simp) o e,SK.at_ M λo e=>k (n+1) (by simp) o e⟩
 ·intro X hP hw hK j i U s σ H E I hf st hg;subst hP hw hK;obtain⟨xs,ys,x,y,s1,s2,hx,hy⟩:=hg;obtain⟨hz,p,⟨a,c,F⟩,C,M⟩:=st;obtain⟨l,r1,b1,_⟩:=Inv.seq I J s1;obtain⟨r,r2,b2,_⟩:=Inv.seq I G s2;obtain⟨u,hu,ru⟩:=r1.get hx;obtain⟨v,hv,rv⟩:=r2.get hy;refine Kc (J.nx (aF h1) l.toArray) (G.nx (i:=n+1) (nN (by omega)) r.toArray) D hz p F ⟨C,b1⟩ ⟨M,b2⟩ (x:=u) (y:=v) (by simpa using hu) (by simpa using hv) λg a1 a2 a3 a4 a5 kp=>⟨_,rfl, ?_⟩
  refine wpAny_letOwnedTupleGo_zip a1 λg2 z2 N=> ?_;have hlt:n+4 < s.heap.objs.size:=au hz;have ne:∀b:Nat,b<=n+4->s.heap.objs.size ≠ b:=λb d=>by
   omega
  have f:∀b o,b ∉ [n+4,n+2,n+3,n,n+1]->s.heap.get? b=some o->g2.get? b=some o:=λb o d e=>by
   simp only[ak,bR,or_false,not_or]at d;exact N.extBut _ _ d.1 (kp b o d.1 d.2.2.1 d.2.2.2.1 d.2.2.2.2 e)
  have O:=N.extBut _ _ (ne _ (am _)) a5;have g2I:=N.extBut _ _ D.Iz (kp _ _ D.Iz D.IO D.I1 D.I2 p);have Z:=N.extBut _ _ D.Oz a2;have q1:=SK.at_ a3.1 λo e=>N.extBut _ _ (nN (by omega)) e
  have q2:=SK.at_ a4.1 λo e=>N.extBut _ _ (nN (by omega)) e
  have hfr:=I.hok.fresh (am _);refine⟨.ref s.heap.objs.size,mz H s.heap.objs.size (.tup [x,y]),Inv.laidT (s:=s) (h' :=g2) (tk:=s.toks) I hf f (λb o d _=> ?_) (am _)
   ⟨by rw[bY];show 2<=16777216;decide,[u,v],.cons ru (.cons rv .nil),⟨_,O,rfl,_,rfl⟩,.inr ⟨_,O,rfl⟩⟩,rfl,⟨_,x,y,hfr,rfl,λzs hq=>by rw[← Inv.seq_inj I J s1 hq];exact hx,λzs hq=>by rw[← Inv.seq_inj I G s2 hq];exact hy,rfl⟩,⟨z2,g2I,⟨u,v,Z⟩,q1,q2⟩,λb d=> ?_⟩
  ·simp only[ak,bR,or_false]at d;rcases d with rfl | rfl | rfl | rfl | rfl
   ·exact⟨_,z2⟩
   ·exact⟨_,g2I⟩
   ·exact⟨_,Z⟩
   ·obtain⟨o',e',_⟩:=SK.obj q1;exact⟨o',e'⟩
   ·obtain⟨o',e',_⟩:=SK.obj q2;exact⟨o',e'⟩
  ·have hb2:(b:Nat)<=n+4:=by
    have d:=by simpa using d
    rcases d with rfl | rfl | rfl | rfl | rfl
    ·exact am _
    ·exact fW (by decide) n
    ·exact fW (by decide) n
    ·exact aE _ _
    ·exact fW (by decide) n
   rw[zi λz=>ne b hb2 z.symm];exact(hf b d).1
 ·intro X hP hw hK j i U s σ H E I hf st hg;subst hP hw hK;obtain⟨xs,ys,s1,s2,S⟩:=hg;obtain⟨hz,p,⟨a,c,F⟩,C,M⟩:=st;obtain⟨l,r1,b1,_⟩:=Inv.seq I J s1;obtain⟨r,r2,b2,_⟩:=Inv.seq I G s2;have l1' :=r1.length;have l2' :=r2.length;refine Ke (I.ok.hd j) (J.nx (aF h1) l.toArray) (G.nx (nN (by omega)) _) D hz p F ⟨C,b1⟩ ⟨M,b2⟩ ?_ λg kp=>⟨rfl, ?_⟩
  ·rcases S with q | q
   ·exact .inl (b_ (by rw[aD,← l1'];exact q))
   ·exact .inr (b_ (by rw[aD,← l2'];exact q))
  ·have f:∀b o,b ∉ [n+4,n+3,n,n+1]->s.heap.get? b=some o->g.get? b=some o:=λb o d e=>by
    simp only[ak,bR,or_false,not_or]at d;exact kp b o d.1 d.2.1 d.2.2.1 d.2.2.2 e
   have nch:∀b u,H b=some u->b ∉ [n+4,n+3,n,n+1]:=λb u e d=>by
    have B :b∈[n+4,n+2,n+3,n,n+1]:=by
     simp only[ak,bR,or_false]at d ⊢;rcases d with q | q | q | q
     ·exact .inl q
     ·exact .inr (.inr (.inl q))
     ·exact .inr (.inr (.inr (.inl q)))
     ·exact .inr (.inr (.inr (.inr q)))
    rw[(hf b B).1]at e;cases e
   refine I.call' rfl ⟨λb o e _ _ j=>f b o j e,λb o e _ _ j=>⟨o.slots,f b o j e⟩,λb o e q _=>q,λb o e j=>⟨o,f b o j e⟩,λb ys e=>e,λb o u e=>e,λ_ _ _ e=>e⟩ (λb u e=> ?_) I.bare λb d=> ?_
   ·refine(I.hok b u e).stay (λc v j q=>f c v ?_ q) (λ_ q=>q) λ_ _ q=>q;rcases j with rfl | j
    ·exact nch c u e
    ·exact nch c _ j
   ·have B :b∈[n+4,n+2,n+3,n,n+1]:=by
     simp only[ak,bR,or_false]at d ⊢;rcases d with q | q | q | q
     ·exact .inl q
     ·exact .inr (.inr (.inl q))
     ·exact .inr (.inr (.inr (.inl q)))
     ·exact .inr (.inr (.inr (.inr q)))
    obtain⟨f0,f1,f2,f3,f4,f5⟩:=hf b B;exact⟨f3,f1,f4,f5⟩
 ·intro A i s Q E st h;exact wpAny_pyIter_zip st.1 h
noncomputable def yG (xs a:List T):List T:=(xs.zip a).map λp=>T.tup [p.1,p.2]
theorem Vy {xs a:List T}{i:Nat}{t:T}(h:(yG xs a)[i]? =some t):∃x y,xs[i]? =some x/\a[i]? =some y/\t= .tup [x,y]:=by
 unfold yG at h;rw[ao]at h;cases e:(xs.zip a)[i]? with
 | none=>rw[e]at h;cases h
 | some p=>
  rw[e]at h;cases h;have:=cG.mp e;exact⟨p.1,p.2,this.1,this.2,rfl⟩
theorem uY (xs a:List T):(yG xs a).length=min xs.length a.length:=by unfold yG;simp
theorem Hm {K:ai}{d J:Hp}{r q:SK}{a b:Addr}{xs c:List V}{ts o:List T}(F:d a=some (r.tr xs))(Q:d b=some (q.tr c))(l:zy d xs ts)(g:zy d c o):rI d J (DL K r q a b) (yG ts o):=λB2 H2 f B=>by
 have k:=r.sqOf (K:=K) (B _ _ (f _ _ F));have b2:=q.sqOf (K:=K) (B _ _ (f _ _ Q));rw[uY];refine⟨λi hi=> ?_,λi t x H3 e y=> ?_,λi hi=>⟨xs,c,k,b2, ?_⟩⟩
 ·obtain⟨v,j,_⟩:=l.get (ah (show i < ts.length by omega))
  obtain⟨u,w,_⟩:=g.get (ah (show i < o.length by omega))
  exact⟨xs,c,v,u,k,b2,j,w⟩
 ·obtain⟨p,v,u,hp,rfl,O,I,rfl⟩:=y;obtain⟨S,U,P,M,rfl⟩:=Vy e;obtain⟨Z,j,N⟩:=l.get P;obtain⟨X,w,G⟩:=g.get M;have C:=O xs k;have D:=I c b2;rw[j]at C;cases C;rw[w]at D;cases D;have up:=zF.ge B (zo.new hp (.tup [v,u]));exact⟨zo.new hp _,.tup (jd hp _) (.cons ((N.mono f).mono up) (.cons ((G.mono f).mono up) .nil))⟩
 ·rw[l.length,g.length];omega
section
theorem FR {D:TA}(hg:Gl X "zip")(P:X.mg "zip"=none)(O:PA X [a,b] D)(N:starEach [a,b] X.env=[(false,eval a X.env),(false,eval b X.env)])(r:starEach [b] X.env=[(false,eval b X.env)]):
  PI X (.Tuple elts kk pt) (.Call (.Name "zip" p) [a,b] [] pos) (λx H R=>D x H λvs k=>∃d c j l xs y,vs=[.ref j,.ref l]/\k j=some (SK.tr d xs)/\k l=some (SK.tr c y)/\R (DL X.K d c j l) k):=by
 intro B s x H R I h;refine Call_ (j5 I hg P PyProof.Rows.Boot.«zip» (a_ (mH (O pos _ s x H _ I h) λus i ⟨vs,k,w,U,S⟩=> ?_) (by rw[N,r]) (by rw[r];rfl)))
 obtain⟨d,c,j,l,xs,y,e,h1,h2,q⟩:=S;subst e;obtain⟨u,v,rfl,ru,rv⟩:=uR U;obtain rfl:u=Value.ref j:=ru;obtain rfl:v=Value.ref l:=rv;obtain⟨F,_,b1,o1,M⟩:=Inv.seq w d (d.sqOf h1);obtain⟨J,_,b2,o2,e2⟩:=Inv.seq w c (c.sqOf h2);refine Kh (d.of j _) (c.of l _) b1 b2 λg n hn C z2 Z Q z5 kp=>wpAny_pyIter_zip C ?_;subst hn;have f:∀b∈[i.heap.objs.size+4,i.heap.objs.size+2,i.heap.objs.size+3,i.heap.objs.size,i.heap.objs.size+1],wC X _ k b:=λb G=>by
  have o :i.heap.objs.size<=b:=by
   simp only[ak,bR,or_false]at G;rcases G with rfl | rfl | rfl | rfl | rfl
   ·exact aE _ _
   ·exact aE _ _
   ·exact aE _ _
   ·exact am _
   ·exact aE _ _
  exact w.fpOk o (w.hok.fresh o)
 exact⟨i.heap.objs.size+4,_,_,_,k,rfl,w.kept kp,Vx d c (au M) (au e2),⟨C,z2,⟨_,_,Z⟩,SK.start d Q,SK.start c z5⟩,f,q⟩
noncomputable def jN:T->R (List T)
 | .lst xs=> .ok xs
 | .tup xs=> .ok xs
 | _=> .bad
def Yb (a d:En->R T):En->R (List T):=λρ=>(a ρ).bind λt=>(d ρ).bind λu=>(jN t).bind λxs=>(jN u).bind λc=> .ok (yG xs c)
theorem qd (r:Rep B v t)(e:jN t= .ok xs):∃(k:SK) (a:Addr) (vs:List V),v= .ref a/\B a=some (k.tr vs)/\zy B vs xs:=by
 cases r with
 | lst h r=>cases e;exact⟨.l,_,_,rfl,h,r⟩
 | tup h r=>cases e;exact⟨.t,_,_,rfl,h,r⟩
 | _=>cases e
theorem Uy (t:T)(c:Nat):jN t ≠ .ex c:=by cases t <;> exact λz=>nomatch z
theorem Ij (O:Gl X "zip")(D:X.mg "zip"=none)(y:Snd X Y a fa)(Q:Snd X Y b fb)(l:starEach [a,b] X.env=[(false,eval a X.env),(false,eval b X.env)]:=by exact nP rfl rfl)(e:starEach [b] X.env=[(false,eval b X.env)]:=by exact mQ rfl):
  uP X Y (.Tuple elts kk pt) (.Call (.Name "zip" p) [a,b] [] pos) (Yb fa fb):= .mk λρ=>
 PI.imp (FR O D (zm (y ρ) (zm (Q ρ) zH e) (by rw[l,e])) l e) λσ H R ⟨B,I,q⟩=>step I q λt v H1 _ s1 M w J=>step w J λu Z G _ S x k d=>by
  cases f:jN t with
  | bad=>rw[f]at d;exact d.elim
  | ex c=>exact absurd f (Uy _ _)
  | ok xs=>
   rw[f]at d;cases g:jN u with
   | bad=>rw[g]at d;exact d.elim
   | ex c=>exact absurd g (Uy _ _)
   | ok U=>
    rw[g]at d;obtain⟨P,C,j,rfl,r,w1⟩:=qd (M.mono (zF.ge w.sB S)) f;obtain⟨N,F,i,rfl,o,w2⟩:=qd x g;exact⟨P,N,C,F,j,i,rfl,k.sB _ _ r,k.sB _ _ o,ZN k (show Po Y rI _ G _ R from d) (Hm r o w1 w2)⟩
end
end PV
namespace PV
open PySem PySem.Spec PyProof.Rows L2
section
def qe:T->R T
 | .bl b=> .ok (.int (b2 b))
 | .int i=> .ok (.int i)
 | _=> .bad
theorem Ih (v:V)(t:T)(B H:Hp)(Q:VK)(r:Rep B v t)(a:zo B H)(q:Po Y rC B H (qe t) Q):
  (∃i,[v]=[V.int i]/\Q (.int i) H)\/∃k,[v]=[V.bl k]/\Q (.int (if k then 1 else 0)) H:=by
 cases r with
 | int i=>exact .inl ⟨i,rfl,mV a q rfl (.int i)⟩
 | bl k=>exact .inr ⟨k,rfl,mV a q rfl (by cases k <;> exact .int _)⟩
 | _=>exact q.elim
theorem EN (d:Gl X "int")(c:X.mg "int"=none)(f:Snd X Y a fa)(e:mY X a:=by exact mQ rfl):Snd X Y (.Call (.Name "int" p) [a] [] pos) (mw qe fa):=
 X1 Yr Ih d c (PyProof.Rows.Boot.«int») f e
theorem qf:Z7 X (.type "range") (λxs H Q=>∃i j,xs=[.int i,.int j]/\∀r,H r=none->Q (.ref r) (mz H r (.rng i j))):=by
 intro a s g H xs f Q I r h;obtain⟨i,j,rfl,q⟩:=h;obtain⟨u,v,rfl,d,c⟩:=uR r;obtain⟨t,rfl⟩:=d;obtain⟨t',rfl⟩:=c;exact call_range_2 ⟨.ref _,_,I.laid (λb o e=>ab _ e) (am _) (show zQ _ X.w _ _ _ (.rng i j) from ⟨_,_,_,af _ rfl⟩),rfl,q _ (I.hok.fresh (am _))⟩
noncomputable def vZ (lo:Int)(n:Nat):List V:=(aN n).map λ(i:Nat)=>V.int (lo+(i:Int))
theorem Wj (F:X.A.handled=none):Z7 X (.type "list") (λxs H Q=>∃r lo hi,xs=[.ref r]/\H r=some (.rng lo hi)/\(-1000000 < lo/\lo < 1000000/\ -1000000 < hi/\hi < 1000000)/\∀l,H l=none->Q (.ref l) (mz H l (.lst (vZ lo (hi - lo).toNat)))):=by
 intro k s N H xs O Q I o h;obtain⟨r,lo,hi,rfl,e,⟨P,J,G,S⟩,q⟩:=h;obtain⟨u,rfl,B⟩:=Zn o;obtain rfl:u=Value.ref r:=B;obtain⟨t,v,M,D⟩:=(show zQ _ X.w H _ r _ from I.hok r _ e);have hn:ir lo hi 1=((hi - lo).toNat):=by rw[rangeSize_one];split <;> omega
 refine call_list_range F D (small_one (by omega) (by omega) (by omega) (by omega)) hn (by omega) λh' tk acc c kp i a=> ?_
 have f:Vals (vZ lo (hi - lo).toNat) acc.toList:=by
  have g:∀(n:Nat) (lo:Int) (vs:List _),vs.length=n->(∀(j:Nat) (v:Value),vs[j]? =some v->∃t,v=Value.int (lo+(j)) t)->Vals (vZ lo n) vs:=by
   intro n
   induction n with
   | zero=>
    intro lo vs d _;rw[cj d];exact .nil
   | succ n C=>
    intro lo vs d f;cases vs with
    | nil=>cases d
    | cons v vs=>
     have e:vZ lo (n+1)=V.int (lo+0) :: vZ (lo+1) n:=by
      unfold vZ;rw[dq,ar,aZ];refine congrArg _ (c6 λj _=> ?_);show V.int _=V.int _;congr 1;omega
     rw[e];refine .cons (f 0 v rfl) (C _ vs (by simpa using d) λj x y=> ?_)
     obtain⟨t,z⟩:=f (j+1) x (by simpa using y)
     exact⟨t,by rw[z];congr 1;omega⟩
  refine g _ lo _ (by simpa using a.1) λj v p=> ?_
  obtain⟨t,z⟩:=a.2 j v (by simpa using p)
  exact⟨t,by rw[z];congr 1;omega⟩
 have hz:(vZ lo (hi - lo).toNat).length<=sizeLine:=by
  rw[bY];unfold vZ;rw[ae,bJ];omega
 exact⟨.ref _,_,I.laid kp (am _) (show zQ _ X.w _ h' _ (.lst _) from ⟨hz,acc.toList,c,f,by simpa using i⟩),rfl,q _ (I.hok.fresh (am _))⟩
def As (fi:En->R (List T)):En->R T:=λρ=>(fi ρ).bind λts=> .ok (.lst ts)
theorem qg (lo:Int)(n:Nat):zy B (vZ lo n) (rng lo n):=by
 unfold vZ rng
 induction aN n with
 | nil=>exact .nil
 | cons i c a=>exact .cons (.int _) a
theorem Ki (N:X.A.handled=none)(J:Gl X "list")(F:X.mg "list"=none)(o :Gl X "range")(g :X.mg "range"=none)(y:Snd X Y a fa)(G:Snd X Y b fb)
  (w:starEach [a,b] X.env=[(false,eval a X.env),(false,eval b X.env)]:=by exact nP rfl rfl) (d:mY X b:=by exact mQ rfl):Snd X Y (.Call (.Name "list" p) [.Call (.Name "range" p') [a,b] [] pos'] [] pos) (As (Jy fa fb)):= .mk λρ=>
 PE.imp (ZZ (Wj N) J F PyProof.Rows.Boot.«list» (zm (ZZ qf o g boot_range (zm (y ρ) (zm (G ρ) zH d) (by rw[w,d])) (by decide) (by decide) (by rw[w,d]) (by rw[d];rfl)) zH (mQ rfl)) (by decide) (by decide) (mQ rfl) rfl) λS H Q ⟨B,I,q⟩=>by
  have q:Po Y rC B H ((fa ρ).bind λt=>(fb ρ).bind λt' =>(match t,t' with | .int i,.int j=>if -1000000 < i/\i < 1000000/\ -1000000 < j/\j < 1000000 then R.ok (rng i (j - i).toNat) else .bad | _,_=> .bad).bind λts=> .ok (.lst ts)) Q:=by
   revert q;unfold As Jy;cases fa ρ with
   | ok t=>cases fb ρ <;> exact λq=>q
   | ex c=>exact λq=>q
   | bad=>exact λq=>q
  refine step I q λt v U _ s1 D M C=>step M C λt' O P _ s2 x Z e=> ?_;cases D with
  | int i=>
   cases x with
   | int j=>
    by_cases c: -1000000 < i/\i < 1000000/\ -1000000 < j/\j < 1000000
    ·dsimp only at e;rw[if_pos c]at e;refine⟨i,j,rfl,λr hr=>⟨r,i,j,rfl,zl,c,λl f=> ?_⟩⟩;have k:l ≠ r:=λz=>by rw[z,zl]at f;cases f
     have u:=by rw[zi k]at f;exact f
     refine e _ _ (zo.new hr _ |>.trans (zo.new f _)) (.lst ?_ (qg _ _))
     rw[zM u,zl]
    ·dsimp only at e;rw[if_neg c]at e;exact e.elim
   | _=>exact e.elim
  | _=>cases x <;> exact e.elim
def tP (i j:Nat):En->RS:=λρ=>match ρ[j]? with
 | some (.ow ts)=> .nx ((ρ.set j (.vl (.lst ts))).set i (.vl (.lst ts)))
 | _=> .bad
theorem SI.give (I:SI Y B ρ σ H)(P:ρ[j]? =some (.ow ts)):∃(a:Addr) (G :Hp),σ[j]? =some (some (V.ref a))/\zo B G /\Rep G (.ref a) (.lst ts)/\SI Y G (ρ.set j (.vl (.lst ts))) σ H:=by
 obtain⟨a,xs,e,b0,h0,S,Z,d⟩:=I.ow j ts P;have l:zo B (mz B a (.lst xs)):=zo.new b0 _;have Q:Rep _ _ _:= .lst zl (Z.mono l);refine⟨a,_,e,l,Q,⟨I.s0,I.sH,λb o q=> ?_,λb o q=> ?_,by rw[bx];exact I.len,λk t q=> ?_,λk D q=> ?_,λk c q=> ?_, ?_⟩⟩
 ·by_cases p:b=a
  ·subst p;rw[zl]at q;cases q;exact S
  ·rw[zi p]at q;exact I.sB b o q
 ·rw[zi λz=>by rw[z,h0]at q;cases q];exact I.old b o q
 ·rcases zz q with ⟨rfl,z⟩ | ⟨_,z⟩
  ·cases z;exact⟨_,e,Q⟩
  ·obtain⟨v,U,r⟩:=I.vl k t z;exact⟨v,U,r.mono l⟩
 ·rcases zz q with ⟨rfl,z⟩ | ⟨hk,z⟩
  ·cases z
  ·obtain⟨u,M,F,g,i,N,J,d'⟩:=I.ow k D z;have f:u ≠ a:=λw=>by subst w;exact d k D hk z F
   refine⟨u,M,F,by rw[zi f];exact g,i,N,J.mono l,λm ws hm hw=> ?_⟩
   rcases zz hw with ⟨rfl,w⟩ | ⟨_,w⟩
   ·cases w
   ·exact d' m ws hm w
 ·rcases zz q with ⟨rfl,z⟩ | ⟨_,z⟩
  ·cases z
  ·obtain⟨u,F,r⟩:=I.xc k c z;exact⟨u,F,l _ _ r⟩
 ·obtain⟨as,O,x⟩:=I.st;refine⟨as,O,x.on (λk y hy h=> ?_) l rfl rfl (zo.refl _) λb o p g i cs=> ?_⟩
  ·rcases zz h with ⟨_,z⟩ | ⟨_,z⟩
   ·subst z;cases hy
   ·exact⟨z,rfl⟩
  ·have f:b ≠ a:=λz=>by
    subst z;rcases cs with ⟨C,dx,vs,X⟩ | ok
    ·rw[S]at p;cases p;cases X
    ·exact ok j ts P e
   refine⟨p,by rw[zi f];exact g,i,λok k D h=> ?_⟩
   rcases zz h with ⟨_,z⟩ | ⟨_,z⟩
   ·cases z
   ·exact ok k D z
theorem BI (c:PE X (.Name y yp) (W6 j))(o:X.N.Nodup)(hi:X.N[i]? =some x)(k:L2.Loc X.env.scope x)(f:swapsWith (.Name y yp) (some (.Name x p')) pos.line X.env=pure false:=by rfl)
  (g:X.fn x=true\/X.env.scope.names.lookup x=some .local:=by first | exact .inl rfl | exact .inr rfl | assumption):Wd X Y (.Assign [.Name x p'] (.Name y yp) pos) (tP i j):= .mk λρ=>
 PS.imp (wM o hi k c f g) λD u H ⟨B,I,q⟩=>by
  unfold tP at q;split at q
  ·rename_i ts e;obtain⟨a,p,d,l,r,J⟩:=I.give e;exact⟨_,d,q _ _ p l (J.setV i r)⟩
  ·exact q.elim
end
def oA (y:T):List T->Option (List Bool)
 | []=>some []
 | t :: ts=>match mE 30 t y with
  | none=>none
  | some b=>match oA y ts with
   | none=>none
   | some bs=>some (b :: bs)
def cntT (y:T)(ts:List T):R T:=match oA y ts with
 | some bs=> .ok (.int (bs.count true))
 | none=> .bad
def Xc (y:T)(ts:List T):R T:=match oA y ts with
 | some bs=>if true∈bs then .ok (.int (bs.idxOf true)) else .bad
 | none=> .bad
def G8 (g:T->List T->R T)(a c:En->R T):En->R T:=λρ=>(a ρ).bind λt=>match t with
 | .lst ts=>(c ρ).bind λu=>g u ts
 | _=> .bad
theorem Xd {H:Hp}{y:T}{e:Value->Bool}(i:∀(v:V) (t:T) (u:Value) (b:Bool),RelV v u->Rep H v t->mE 30 t y=some b->e u=b):∀{xs:List V} {ts:List T} {a:List Value} {bs:List Bool},
  Vals xs a->zy H xs ts->oA y ts=some bs->a.map e=bs/\∀u∈a,∃v t k,RelV v u/\Rep H v t/\mE 30 t y=some k
 | _,_,_,_,.nil,.nil,h=>by
  cases h;exact⟨rfl,λu l=>by simp at l⟩
 | _,_,_,_,.cons f vs,.cons r rs,h=>by
  rename_i v u g p t ts;unfold oA at h;cases q:mE 30 t y with
  | none=>rw[q]at h;cases h
  | some k=>
   rw[q]at h;cases d :oA y ts with
   | none=>rw[d]at h;cases h
   | some x =>
    rw[d]at h;cases h;obtain⟨o,j⟩:=Xd i vs rs d;refine⟨by rw[ar,o,i v t u k f r q],λw c=> ?_⟩
    rcases ak.mp c with z | c
    ·exact⟨v,t,k,z ▸ f,r,q⟩
    ·exact j w c
section
theorem Vz (hu:X.A.units+64 < cLine):pC X "list.index" (λx xs H Q=>∃l j ts v t bs,x= .ref l/\xs=[v]/\H l=some (.lst j)/\zy H j ts/\Rep H v t/\oA t ts=some bs/\true∈bs/\Q (.int (bs.idxOf true)) H):=by
 intro p s σ H x xs v0 us Q I P U h;obtain⟨l,j,ts,v,t,bs,rfl,rfl,O,r,rt,e,d,q⟩:=h;obtain rfl:v0=Value.ref l:=P;obtain⟨u,rfl,ru⟩:=Zn U;obtain⟨hz,c,n,N,M⟩:=(show zQ _ X.w H _ l _ from I.hok l _ O);obtain⟨f,G⟩:=YH λz=>mE 30 z t;obtain⟨C,h3⟩:=Xd G N r e;have D:=ij.mpr d;have a:bs.length=c.length:=by rw[← C,ae]
 have S:=N.length;rw[bY]at hz;have i:∀m (d:m < c.length),f c[m]=bs[m]'(by rw[a];exact d):=λm d=>by
  have:(c.map f)[m]'(by rw[ae];exact d)=bs[m]'(by rw[a];exact d):=by simp only[C]
  rw[← this,iA]
 refine fv iC ⟨_,M,rfl⟩ PySem.F.entry_list_index (PySem.F.args_list_index_2 _ _) (SeqAt.list_indexAt l _ n _ #[] u f _ (by rw[aD,← a];exact D) (by omega) ?_ ?_) ⟨M,λw Z=> ?_, ?_⟩
 ·rw[iW,i];exact lu D
 ·intro m d o;rw[iW,i m (by simpa using d)]
  have:=List.not_of_lt_findIdx o;simpa using this
 ·obtain⟨B,t',k,g,y,J⟩:=h3 w (by simpa using Z)
  rw[G B t' w k g y J];exact(Vd I 30 _ (by rw[JS];omega) t' t k B v w u J y rt g ru).1
 ·exact⟨.int _,H,I.tok _,⟨_,rfl⟩,q⟩
theorem Kj (D:X.A.units+64 < cLine)(o:jz X Y a fa)(J:jz X Y b fb)(f:attributeBase a "index" X.env (eval a X.env)=eval a X.env:=by rfl)(d:mY X b:=by exact mQ rfl)(hz:(pa.endLine == p.line)=true:=by rfl):
  Snd X Y (.Call (.Attribute a "index" pa) [b] [] p) (G8 Xc fa fb):= .mk λρ=>by
 have j:(((((backTo p (starEach [b] X.env)).all λx=> !x.fst) && (backToKw p (keywordEach [] X.env)).all λx=>x.fst.isSome) && decide (([b].length+([]:List Keyword).length+if ([]:List Keyword).isEmpty=true then 0 else 1) < 30))=true):=by rw[d];rfl
 refine PE.imp (yB de iC PySem.F.type_list_index (Vz D) (o ρ) (zm (J ρ) zH d) f j hz d rfl) λO H Q ⟨B,I,q⟩=>step I q λt v P _ S C M g=> ?_;cases t with
 | lst ts=>
  cases C with
  | @lst l xs _ h r=>
   refine⟨.inl ⟨rfl,_,SqL.of h⟩,step M g λu y N _ i k G c=> ?_⟩;unfold Xc at c;split at c
   ·rename_i bs e;split at c
    ·rename_i w;exact⟨l,xs,ts,y,u,bs,rfl,rfl,i _ _ h,r.mono i,k,e,w,ZN G c (.int _)⟩
    ·exact c.elim
   ·exact c.elim
 | _=>exact g.elim
end
noncomputable def Z2:List T->Option (List Int)
 | []=>some []
 | .int i :: r=>match Z2 r with | some l=>some (i :: l) | none=>none
 | _ :: _=>none
def qh:T->R T
 | .lst ts=>match Z2 ts with | some l=> .ok (.int l.sum) | none=> .bad
 | _=> .bad
def Ao (fi:En->R (List T))(g:T->En->R En)(ft:En->R Bool)(a:En->R T)(k:Nat)(js:List Nat):En->RS:=λρ=>(fi (frz ρ)).s λts=>(zq g ft a k js (frz ρ) ts).s λvs=> .rf vs
def Kk:En->RS:=λ_=> .bad
theorem Li {X:Cx}{Y:Fx}{st:Stmt}:Wd X Y st Kk:= .mk λρ=>λa s c H D I ⟨B,J,q⟩=>q.elim
theorem JX:∀{H:Hp} {xs:List V} {ts:List T} {a:List Value} {c:List Int},zy H xs ts->Vals xs a->Z2 ts=some c->∃d:List (Int×Tok),a=d.map (λp=>Value.int p.1 p.2)/\d.map (·.1)=c
 | _,_,_,_,c,.nil,.nil,h=>by
  have h' :=h;cases h';exact⟨[],rfl,rfl⟩
 | H,_,_,_,c,.cons r rs,.cons f vs,h=>by
  cases r with
  | int i=>
   unfold Z2 at h;split at h
   ·rename_i l e;cases h;obtain⟨d,j,g⟩:=JX rs vs e;obtain⟨tk,rfl⟩:=f;exact⟨(i,tk) :: d,by rw[j];rfl,by rw[ar,g]⟩
   ·cases h
  | _=>cases h
section
variable {X:Cx}{Y:Fx}{a b:Expr}{fa fb:En->R T}{pos p p' pos' :Pos}
theorem qi (y:X.A.handled=none):Z7 X (.builtin "sum") (λvs H Q=>∃l xs ts c,vs=[.ref l]/\H l=some (.lst xs)/\zy H xs ts/\Z2 ts=some c/\Q (.int c.sum) H):=by
 intro i s B H vs C Q I d h;obtain⟨l,xs,ts,c,rfl,j,r,k,q⟩:=h;obtain⟨u,rfl,w⟩:=Zn d;obtain rfl:u=Value.ref l:=w;obtain⟨f,d,p,_⟩:=zL I (.inl j) r;obtain⟨g,v,o⟩:=JX r d k;have e:f.toArray=intItems g.toArray:=by rw[v];simp[intItems]
 rw[e]at p;refine sum_intListG y p λh' tk t' kp=> ?_;have x:preSum (numAt g.toArray) g.toArray.size=c.sum:=by
  rw[preSum_eq,eT (by simp),← o]
 rw[x];exact⟨.int _,H,I.kept kp,⟨t',rfl⟩,q⟩
theorem Iy (j:X.A.handled=none)(i:Gl X "sum")(g:X.mg "sum"=none)(f:jz X Y a fa)(d:mY X a:=by exact mQ rfl):Snd X Y (.Call (.Name "sum" p) [a] [] pos) (mw qh fa):=
 JT (qi j) (λv t B H Q r c q=>by
  cases r with
  | @lst l xs ts h r=>
   have q:Po Y rC B H (match Z2 ts with | some k=> .ok _ | none=> .bad) Q:=q
   split at q
   ·rename_i k e;exact⟨l,xs,ts,k,rfl,h,r,e,mV c q rfl (.int _)⟩
   ·exact q.elim
  | _=>exact q.elim) i g boot_sum f d
end
section
variable {X:Cx}{Y:Fx}{tg iter elt:Expr}{ifs:List Expr}{scope:Scope}{pos pos' :Pos}{N' :List Str}{k:Nat}{js:List Nat}{fi:En->R (List T)}{tG:TG}{g:T->En->R En}{ft:En->R Bool}{fe:En->R T}
theorem Fk (C:Jq X Y tg iter elt ifs scope N' k js fi tG g ft fe):Wd X Y (.Return (some (.ListComp elt [⟨tg,iter,ifs,0⟩] scope pos)) pos') (Ao fi g ft fe k js):= .mk λρ=>by
 have pe:PE X (.ListComp elt [⟨tg,iter,ifs,0⟩] scope pos) (λa H Q=>∃B,SI Y B (frz ρ) a H/\PoS Y B ((fi (frz ρ)).s λts=>(zq g ft fe k js (frz ρ) ts).s λvs=> .rf vs) { nx:=λ_ _=>False,rt:=Q }):=by
  intro i s a H Q I ⟨B,J,q⟩;refine JB (ju rfl) (F:=λD u =>Q (.ref D) u) (te:=λa H Q=>∃d ρ',d.cl=Y.cl/\(d.E=λ_ _ _=>False)/\tS d rC fe ρ' a H Q) (tt:=λa H Q=>∃d ρ',d.cl=Y.cl/\tS d rE ft ρ' a H Q) C.sc C.cp C.cm (C.it (frz ρ)) C.gt
   (λcl l x H3 fp i j s a H Q I ⟨d,ρ',M,q⟩=>C.tt d M cl l x H3 fp _ ρ' _ s a H Q I q) (λcl l x H3 fp i xe hp j s a H Q I ⟨d,ρ',M,eE,q⟩=>C.el d M cl l x H3 fp _ xe (eE ▸ hp) ρ' _ s a H Q I q) I ?_ ?_ C.hs
  ·refine Je J q λts S H1 _ s1 r1 r f=> ?_;intro D O;unfold zq at f;split at f
   ·rename_i P;cases w:zx g ft fe ts _ with
    | bad=>rw[w]at f;exact f.elim
    | ex c=>rw[w]at f;exact f.elim
    | ok vs=>
     rw[w]at f;refine jY C.gk C.gn r r1 P w O λu xs B' G e' r' l' U sb' => ?_;exact(show PoS Y _ _ _ from f) D xs u B' (r.sH.trans G) (r.sH.free O) e' r' U (l'.trans (Ur r.sH r.old G r.sB))
   ·exact f.elim
  ·intro D Cc u G I' q' hC h0 hL p v N;obtain⟨m,Z⟩:=N;refine⟨m,Z,λh' y=>⟨.ref D,u, ?_,rfl,q'⟩⟩;exact I'.turned (λb o hb e=>y.extBut b o hb e) hC (bj hL).symm (.inr h0) p v
 refine PS.imp (wL pe) λD a H ⟨B,I,q⟩=>⟨_,I.frz, ?_⟩;have q:=PoS.up I.up q;unfold Ao at q;revert q;cases fi _ with
 | bad=>exact λq=>q
 | ex c=>exact λq=>q
 | ok ts=>
  show PoS Y _ ((zq g ft fe k js _ ts).s λvs=> .rf vs) D->PoS Y _ ((zq g ft fe k js _ ts).s λvs=> .rf vs) _;cases zq g ft fe k js _ ts with
  | bad=>exact λq=>q
  | ex c=>exact λq=>q
  | ok vs=>exact λq=>q
end
end PV
namespace PySem.RV
open PySem PySem.Spec PyProof.Rows PySem.Builtin.SmallTypes
theorem Uz:Manifest.owners.lookup (String.ofList "desrever".toList.reverse)=some Manifest.sig_reversed:=by kernel_rfl
theorem je:Slot "reversed" "__next__" "reversed.__next__":=
 .of (owner:="reversed") (n:="__next__") (by kernel_rfl) (by decide+kernel) (by decide+kernel) (by decide+kernel)
  (by first | exact .inl (by decide+kernel) | exact .inr (by decide+kernel)) (by kernel_rfl)
theorem wR:entryFor table "reversed.__next__"=some Builtin.«reversed.__next__»:=entryFor_of_tree (by kernel_rfl)
theorem ue (a:Value):argsOk "reversed.__next__" ⟨[a],[]⟩:=by
 unfold argsOk;rw[signature?_of (n:="__txen__".toList) (by kernel_rfl) Uz];kernel_rfl
theorem uf:Slot "reversed" "__iter__" "reversed.__iter__":=
 .of (owner:="reversed") (n:="__iter__") (by kernel_rfl) (by decide+kernel) (by decide+kernel) (by decide+kernel)
  (by first | exact .inl (by decide+kernel) | exact .inr (by decide+kernel)) (by kernel_rfl)
theorem qj (a:Value):argsOk "reversed.__iter__" ⟨[a],[]⟩:=by
 unfold argsOk;rw[signature?_of (n:="__reti__".toList) (by kernel_rfl) Uz];kernel_rfl
theorem yH:entryFor table "reversed.__iter__"=some Builtin.«dict_keyiterator.__iter__»:=
 entryFor_alias (id' :="dict_keyiterator.__iter__") (by kernel_rfl) (by first | rfl | decide+kernel | (unfold String.splitOn;simp+decide [String.splitOnAux])) (by decide+kernel) (by kernel_rfl)
theorem HJ:typeLookup (.type "tuple") "__reversed__"=pure none:=by rw[typeLookup_type,builtinLookup_eq_fast];kernel_rfl
theorem Mg:isSubtype (.type "tuple") (.type "dict")=pure false:=by rw[isSubtype_type];kernel_rfl
noncomputable abbrev IsRv (h:Heap)(it:Addr)(v:Value)(i:Int):Prop:=h.get? it=some { cls:= .type "reversed",data:= .fields #[v,rawInt i] }
section
variable {prog:Program}{w:World}{A:Around}{E:Value->Shared->Prop}{s:Shared}{it l:Addr}{xs:Array Value}
theorem uZ {v:Value}{i:Int}(x:IsRv s.heap it v i):s.TypeIs (.ref it) "reversed":=⟨_,x,rfl⟩
theorem next_item {i:Nat}{x:Value}{Q:Option Value->Shared->Prop}(a:IsRv s.heap it (.ref l) (i:Int))(d:IsTup s.heap l xs)(k:(xs.size:Int) < 2 ^ 63)(c:xs[i]? =some x)
  (g:∀h' tk,IsRv h' it (.ref l) ((i:Int) - 1)->bc it s.heap h' ->Q (some x) { s with heap:=h',toks:=tk }):wpAny (model prog w) A (pyNext (.ref it)) Q E s:=by
 refine a8 (cy (aX (uZ a) je (aM je (uZ a) wR ?_ (ue _))));refine a8 (c9 rfl ?_);refine a8 (ba a rfl rfl ?_);refine a8 (ba a rfl rfl ?_);have hi:=(Array.getElem?_eq_some_iff.mp c).1;have hT:=d.typeIs;refine a8 (c7 hT slot_tuple_getitem.lookup ?_);refine a8 (wpAny_mkInt ?_);refine a8 (cy (getItem_tuple d (by omega) (by omega) (seqIndex_of (by omega) (by omega)) (by simpa using c) ?_))
 refine a8 (ba a rfl rfl ?_);refine a8 (bb a (by simp) λe j f=> ?_)
 exact ac ⟨x,rfl,ac (g e _ j f)⟩
theorem next_end {Q:Option Value->Shared->Prop}(g:A.handled=none)(a:IsRv s.heap it (.ref l) (-1))
  (d:∀h',fM it s.heap h' ->Q none { s with heap:=h' }):wpAny (model prog w) A (pyNext (.ref it)) Q E s:=by
 refine a8 (cy (aX (uZ a) je (aM je (uZ a) wR ?_ (ue _))));refine a8 (c9 rfl ?_);refine a8 (ba a rfl rfl ?_);refine a8 (ba a rfl rfl ?_);refine a8 (du ?_);refine a8 (show wpAny _ _ _ _ _ _ from ?_);refine a8 (bb a (by simp) λj f c=> ?_)
 refine bb f (by simp) λk o i=> ?_
 refine a8 (show wpAny _ _ (newExc _ [] >>= λe=>raiseNew e) _ _ _ from ?_);refine a8 ?_;refine a8 (aO (a8 (c9 (by first | rfl | (simp only[firstArgMember])) (aO ?_ (by size_fits)))) (by size_fits))
 refine a8 (wpAny_handled ?_);rw[g];refine a8 (ac (wpAny_throw ?_));refine a8 (cA ⟨_,af _ rfl,rfl⟩ isSubtype_stop ?_);exact ac (d _ (((c.extBut.trans i.extBut).push _).push _))
theorem iter_rv {v:Value}{i:Int}{Q:Value->Shared->Prop}(a:IsRv s.heap it v i)(h:Q (.ref it) s):wpAny (model prog w) A (pyIter (.ref it)) Q E s:=by
 refine wpAny_pyIter_slot (uZ a) uf (aM uf (uZ a) yH ?_ (qj _));exact ac ⟨_,rfl,"reversed",_,uZ a,je.lookup,h⟩
theorem Xe:mroOf (.type "reversed")=pure [.type "reversed",.type "object"]:=by rw[mroOf_type];kernel_rfl
theorem LV:typeLookup (.type "reversed") "__new__"=pure (some (.builtin "reversed.__new__")):=by kernel_rfl
theorem Kl:Bind.madeBy (.type "reversed")=pure (some "reversed.__new__"):=madeBy_type Xe LV (by decide+kernel)
theorem LN:isSubtype (.type "reversed") (.type "reversed")=pure true:=by rw[isSubtype_type];kernel_rfl
theorem Hv (a:Value):newClass "reversed" ⟨[.type "reversed",a],[]⟩=pure (.type "reversed",[a]):=by
 unfold newClass;simp only[isType,LN,pure_bind,eD,aI,if_false]
theorem qk:entryFor table "reversed.__new__"=some Builtin.«reversed.__new__»:=entryFor_of_tree (by kernel_rfl)
theorem VA {Q:Fin->Shared->Prop}(a:IsTup s.heap l xs)(c:(xs.size:Int) < 2 ^ 63)
  (h:∀tk,Q (.done (.ret (.ref s.heap.objs.size))) { s with heap:=s.heap.push { cls:= .type "reversed",data:= .fields #[.ref l,rawInt ((xs.size:Int) - 1)] },toks:=tk }):
  wpAny (model prog w) A (Builtin.«reversed.__new__» ⟨[.type "reversed",.ref l],[]⟩) Q E s:=by
 have hT:=a.typeIs;refine a8 (c9 (Hv _) ?_);refine a8 (c9 (by first | rfl | kernel_rfl) ?_)
 refine a8 (c9 (by first | rfl | kernel_rfl) ?_)
 refine a8 (c7 hT HJ ?_);refine a8 ?_;refine a8 (cA hT Mg ?_);refine a8 (c7 hT slot_tuple_getitem.lookup ?_);refine ac ?_;refine a8 (len_tuple a c ?_);refine a8 (c9 rfl ?_);refine a8 (show wpAny _ _ (newObj _ (.fields #[.ref l,rawInt _])) _ _ _ from ?_);exact aO (ac (h _)) (by size_fits)
theorem qm:Slot "reversed" "__init__" "object.__init__":=
 .of (owner:="object") (n:="__init__") (by kernel_rfl) (by decide+kernel) (by decide+kernel) (by decide+kernel)
  (by first | exact .inl (by decide+kernel) | exact .inr (by decide+kernel)) (by kernel_rfl)
theorem qo:TypeCalled "reversed" "reversed.__new__" "object.__init__":=
 ⟨by decide+kernel,by decide+kernel,⟨_,_,Xe⟩,Kl,by decide+kernel,by kernel_rfl,qm⟩
theorem VB (a:Value):checkTypeCall "reversed" ⟨[a],[]⟩=pure ():=by kernel_rfl
theorem VC (a:Value):checkBuiltinCall "reversed.__new__" ⟨[.type "reversed",a],[]⟩=pure ():=by kernel_rfl
theorem call_rvT (f:IsTup s.heap l xs)(c:(xs.size:Int) < 2 ^ 63)
  (h:∀tk,Q (.ref s.heap.objs.size) { s with heap:=s.heap.push { cls:= .type "reversed",data:= .fields #[.ref l,rawInt ((xs.size:Int) - 1)] },toks:=tk }):wpAny (model prog w) A (call (.type "reversed") [.ref l]) Q E s:=by
 refine callType_new (S:=λ_ R s=>(∃xs,IsTup s.heap l xs/\(xs.size:Int) < 2 ^ 63/\∀tk,R (.ok (.ret (.ref s.heap.objs.size))) { s with heap:=s.heap.push { cls:= .type "reversed",data:= .fields #[.ref l,rawInt ((xs.size) - 1)] },toks:=tk })) qo (by decide) (VB _) (VC _) (λobj=>PySem.F.args_object_init_2 obj _) qk (.of_wp λprog w A R s h=> ?_) ⟨xs,f,c,λtk=> ?_⟩
 ·obtain⟨xs,d,a,e⟩:=h;exact VA d a λtk=>⟨_,rfl,e tk⟩
 ·exact⟨⟨_,af _ rfl,rfl⟩,h tk⟩
end
end PySem.RV
namespace PySem.RV
open PySem PySem.Spec PyProof.Rows
theorem VD:typeLookup (.type "list_reverseiterator") "__len__"=pure none:=by rw[typeLookup_type,builtinLookup_eq_fast];kernel_rfl
theorem Km:typeLookup (.type "list_reverseiterator") "__length_hint__"=pure (some (.builtin "list_reverseiterator.__length_hint__")):=by rw[typeLookup_type];kernel_rfl
section
variable {G:Array GenState->Array GenState->Prop}{P:Nat->Value->Prop}{St:Nat->Shared->Prop}
theorem yI {Q:List Value->Shared->Prop}(W:WalksS prog w A.in1 I fp wr G n P St)(hT:∀i s,St i s->s.TypeIs (.ref I) "list_reverseiterator")(k:St 0 s)(j:∀b∈fp,b < s.heap.objs.size)(v:I∈fp)
  (r:∀d acc,Moved wr G s d ->ItemsOf P acc n->Q acc.toList d) (hn:n<=sizeLine):wpAny (model prog w) A (collect (.ref I)) Q E s:=by
 have l:=λz=>bE _ (j _ z);have x:s.heap.objs.size ≠ I:=λz=>l (z ▸ v);unfold collect;refine a8 (wpAny_runValue (bQ F.entry_proto_collect ?_));refine a8 (aO (ac ⟨cf F.plain_list_iadd _,bQ F.entry_list_iadd ?_⟩));have a:=W.frame 0 s (s.heap.push { cls:= .type "list",data:= .seq ([]:List _).toArray }) _ k (am _) λb _ o e=>ab _ e;have q:(s.heap.push { cls:= .type "list",data:= .seq ([]:List _).toArray }).get? _=some _:=af _ rfl;have y:il (.ref s.heap.objs.size) (.ref I)=false:=by simp[il,x]
 refine(show wpAny _ _ (Builtin.List.listExtendWith _ _ _) _ _ _ from ?_);refine a8 (dS (hT 0 _ a) ?_);rw[if_neg (by rw[y];decide)]
 refine a8 (W.self 0 _ _ _ a (a8 (bp ?_)));refine a8 (c7 (hT 0 _ a) VD ?_);refine a8 (c7 (hT 0 _ a) Km ?_);generalize f:("list_reverseiterator.__length_hint__")=id0;subst f;refine a8 (cA (b:=true) (hT 0 _ a) (by kernel_rfl) ?_)
 refine ac ?_;refine ac ⟨cf F.plain_extend_loop _,codeAny_extend_loopS W hn _ l _ n 0 _ _ _ rfl (bf _) a q (ItemsOf.nil P) λd p B u g c=> ?_⟩;exact a8 (wpAny_load g (ac (r d _ (Moved.drop_new u (am _)) c)))
theorem E4 (W:WalksS prog w A.in1.in1 I fp wr G n P St)(hT:∀i s,St i s->s.TypeIs (.ref I) "list_reverseiterator")(d:St 0 s)(g:∀b∈fp,b < s.heap.objs.size)(o:I∈fp)
  (h:∀c acc,Moved wr G s c ->ItemsOf P acc n->Q₁ (.ref c.heap.objs.size) { c with heap:=c.heap.push { cls:= .type "tuple",data:= .seq acc } }) (hsz:n<=sizeLine):
  codeAny (model prog w) A (.call (.builtin "tuple.__new__") ⟨[.type "tuple",.ref I],[]⟩) (wants Q₁ E) s:=by
 refine codeAny_of_tree ?_;refine(show wpAny _ A.in1 (do checkBuiltinCall "tuple.__new__" ⟨[.type "tuple",.ref I],[]⟩;again (.builtin "tuple.__new__" ⟨[.type "tuple",.ref I],[]⟩)) _ _ s from ?_)
 refine a8 (c9 (F.newCall_tuple_1 _) (ac ⟨cf lO _,bQ F.entry_tuple_new ?_⟩));rw[dP lO _];have j:=sub_tuple_self;have f:=init_tuple_lookup;have l:=madeHere_tuple;have p:=hT 0 s d
 wp_walk using dS p,yI (hn:=hsz) W hT d g o
 intro c acc k a;have e:acc.toList.toArray=acc:=by simp
 refine(show wpAny _ _ (im acc.toList.toArray >>= λv=>ret v) _ _ _ from ?_);unfold im;refine a8 (aO (ac ?_) (by rw[e];show acc.size<=sizeLine;rw[a.1];exact hsz))
 rw[e];exact h c acc k a
theorem tuple_lr (W:WalksS prog w A.in1.in1.in1 I fp wr G n P St)(hT:∀i s,St i s->s.TypeIs (.ref I) "list_reverseiterator")(f:St 0 s)(e:∀b∈fp,b < s.heap.objs.size)(k:I∈fp)
  (g:∀c acc,Moved wr G s c ->ItemsOf P acc n->Q (.ref c.heap.objs.size) { c with heap:=c.heap.push { cls:= .type "tuple",data:= .seq acc } }) (hsz:n<=sizeLine):
  wpAny (model prog w) A (call (.type "tuple") [.ref I]) Q E s:=
 callType_codes (Q₁:=λobj a=>a.TypeIs obj _/\Q obj _) iX (F.typeCall_tuple_1 _) F.entry_object_init
  (E4 (hsz:=hsz) W hT f e k λc acc j d=>⟨⟨_,af _ rfl,rfl⟩,g c acc j d⟩) λobj a h₁=>
   ⟨h₁.1,iY obj _,object_init_meets iX.init.lookup iX.made (by decide) _ w _ _ _ ⟨h₁.1,rfl,h₁.2⟩⟩
end
end PySem.RV
namespace PV
open PySem PySem.Spec PyProof.Rows L2
def Bl (K:ai)(a:Addr)(n:Nat):It:=
 ⟨λi H=>∃xs x,SqT K H a xs/\xs.length=n/\xs.reverse[i]? =some x,λi H x c =>c =H/\∀xs,SqT K H a xs->xs.reverse[i]? =some x,λi H=>∃xs,SqT K H a xs/\xs.length=n/\n<=i⟩
def C9 (K:ai)(a:Addr)(n:Nat):It:=
 ⟨λi H=>∃xs x,SqL K H a xs/\xs.length=n/\xs.reverse[i]? =some x,λi H x c =>c =H/\∀xs,SqL K H a xs->xs.reverse[i]? =some x,λi H=>∃xs,SqL K H a xs/\xs.length=n/\n<=i⟩
theorem Xf {a:Type}{xs:List a}{x:a}(h:xs.reverse[i]? =some x):i < xs.length/\xs[xs.length - 1 - i]? =some x:=by
 have hi:=(ay.mp h).1;rw[cu]at hi;rw[iR hi]at h;exact⟨hi,h⟩
theorem VE {P:Program}{w:World}{K:ai}{tg:Expr}(a it:Addr)(n:Nat):yt P w K tg (Bl K a n) [it] it (λi h=>i<=n/\RV.IsRv h it (.ref a) ((n:Int) - 1 - (i:Int))) where
 mem:=by simp
 obj:=λi h st b d=>by
  have e:b=it:=by simpa using d
  subst e;exact⟨_,st.2,λv z=>nomatch z⟩
 keep:=λi h h' st k=>⟨st.1,k it (by simp) _ st.2⟩
 item:=by
  intro X N B F U i f s Q H E I j st G;subst N B F;obtain⟨xs,x,r,hn,D⟩:=G;obtain⟨C,S,p,hz⟩:=I.tuple r;obtain⟨hi,q⟩:=Xf D;obtain⟨u,hu,ru⟩:=S.get q;obtain⟨J,O,f2,y,l,M⟩:=j it (by simp)
  have hl:=S.length;have e:(n:Int) - 1 - (i:Int)=((xs.length - 1 - i:Nat):Int):=by omega
  have c:=st.2;rw[e]at c;have d:(C.toArray.size:Int) < 2 ^ 63:=by
   rw[bY]at hz;simp;omega
  refine RV.next_item c p d (x:=u) (by simpa using hu) λh' tk g sb=> ?_
  have I1:Inv X f Q H { s with heap:=h',toks:=tk }:=I.turned (t' :=tk) (λb o d e=>(sb.2 b d).trans e) J O y l M;have e2:((xs.length - 1 - i:Nat):Int) - 1=(n:Int) - 1 - ((i+1:Nat):Int):=by omega
  rw[e2]at g;exact⟨u,rfl,yu (s:={ s with heap:=h',toks:=tk }) g rfl rfl (by decide) ⟨x,H,I1,ru,⟨rfl,λys hy=>by rw[I.tuple_inj hy r];exact D⟩,⟨by omega,g⟩,λb d=>(j b d).1⟩⟩
 done:=by
  intro X N B F U i f s Q H E I j st G;subst N B F;obtain⟨xs,r,hn,D⟩:=G;obtain⟨J,O,f2,y,l,M⟩:=j it (by simp)
  have c:=st.2;have h1:=st.1;rw[show (n:Int) - 1 - (i:Int)= -1 by omega]at c
  exact RV.next_end (I.ok.hd U) c λh' Z=>⟨rfl,I.turned (t' :=s.toks) (λb o d e=>Z b o d e) J O y l M⟩
 self:=λ_ _ _ _ _ st h=>RV.iter_rv st.2 h
theorem VF {P:Program}{w:World}{K:ai}{tg:Expr}(a it:Addr)(n:Nat):yt P w K tg (C9 K a n) [it] it (λi h=>i<=n/\h.IsRevIter it a ((n:Int) - 1 - (i:Int))) where
 mem:=by simp
 obj:=λi h st b l=>by
  have e:b=it:=by simpa using l
  subst e;obtain⟨o,e,c,d⟩:=st.2;exact⟨o,e,λv z=>by rw[d]at z;cases z⟩
 keep:=λi h h' st k=>⟨st.1,st.2.at λo e=>k it (by simp) o e⟩
 item:=by
  intro X O D G U i g s S H E I q st J;subst O D G;obtain⟨xs,x,B,hn,F⟩:=J;obtain⟨its,rv,p,hz⟩:=I.list B;obtain⟨hi,y⟩:=Xf F;obtain⟨u,hu,ru⟩:=rv.get y;obtain⟨M,Q,f2,C,r,N⟩:=q it (by simp)
  have e:(n:Int) - 1 - (i:Int)=((xs.length - 1 - i:Nat):Int):=by omega
  have f:=st.2;rw[e]at f;refine wpAny_pyNext_rev_item f p.isList (x:=u) (by simpa using hu) λh' j sb=> ?_
  have I1:Inv X g S H { s with heap:=h' }:=I.turned (t' :=s.toks) (λb o l e=>(sb.2 b l).trans e) M Q C r N;have e2:((xs.length - 1 - i:Nat):Int) - 1=(n:Int) - 1 - ((i+1:Nat):Int):=by omega
  rw[e2]at j;obtain⟨o,e,c,d⟩:=id j;exact⟨u,rfl,yu (s:={ s with heap:=h' }) e c d (by decide) ⟨x,H,I1,ru,⟨rfl,λys hy=>by rw[I.list_inj hy B];exact F⟩,⟨by omega,j⟩,λb l=>(q b l).1⟩⟩
 done:=by
  intro X O D G U i g s S H E I q st J;subst O D G;obtain⟨xs,B,hn,F⟩:=J;obtain⟨M,Q,f2,C,r,N⟩:=q it (by simp)
  have f:=st.2;have h1:=st.1;rw[show (n:Int) - 1 - (i:Int)= -1 by omega]at f
  exact wpAny_pyNext_rev_end (I.ok.hd U) f λh' Z=>⟨rfl,I.turned (t' :=s.toks) (λb o l e=>Z b o l e) M Q C r N⟩
 self:=λ_ _ _ _ _ st h=>wpAny_pyIter_revIter st.2 h
theorem zy.rev {H:Hp}:∀{vs:List V} {ts:List T},zy H vs ts->zy H vs.reverse ts.reverse
 | _,_,.nil=> .nil
 | _,_,.cons r t=>by rw[cR,cR];exact(zy.rev t).append (.cons r .nil)
theorem FY {K:ai}{d l:Hp}{a:Addr}{xs:List V}{ts:List T}(h:d a=some (.tup xs))(r:zy d xs ts):rI d l (Bl K a xs.length) ts.reverse:=λk p f g=>by
 have c:=g _ _ (f _ _ h);have hr:=r.rev;refine⟨λi hi=> ?_,λi t x H3 e y=> ?_,λi hi=>⟨xs,SqT.of c,rfl,by rw[cu]at hi;rw[r.length];exact hi⟩⟩
 ·obtain⟨v,e,_⟩:=hr.get (ah hi);exact⟨xs,v,SqT.of c,rfl,e⟩
 ·obtain⟨rfl,y⟩:=y;obtain⟨v,j,o⟩:=hr.get e;have:=y xs (SqT.of c);rw[j]at this;cases this;refine⟨zo.refl _, ?_⟩;rw[zF.self k _ g];exact o.mono f
theorem HU {K:ai}{d l:Hp}{a:Addr}{xs:List V}{ts:List T}(h:d a=some (.lst xs))(r:zy d xs ts):rI d l (C9 K a xs.length) ts.reverse:=λk p f g=>by
 have c:=g _ _ (f _ _ h);have hr:=r.rev;refine⟨λi hi=> ?_,λi t x H3 e y=> ?_,λi hi=>⟨xs,SqL.of c,rfl,by rw[cu]at hi;rw[r.length];exact hi⟩⟩
 ·obtain⟨v,e,_⟩:=hr.get (ah hi);exact⟨xs,v,SqL.of c,rfl,e⟩
 ·obtain⟨rfl,y⟩:=y;obtain⟨v,j,o⟩:=hr.get e;have:=y xs (SqL.of c);rw[j]at this;cases this;refine⟨zo.refl _, ?_⟩;rw[zF.self k _ g];exact o.mono f
def Dx (a:En->R T):En->R (List T):=λρ=>(a ρ).bind λt=>(jN t).bind λxs=> .ok xs.reverse
def VG:T->R T
 | .lst xs=>if xs.length<=mF then .ok (.tup xs.reverse) else .bad
 | _=> .bad
section
variable {X:Cx}{Y:Fx}{a b tg:Expr}{fa fb:En->R T}{pos p p' pos' :Pos}
theorem Ht {w:TA}(G:Gl X "reversed")(B:X.mg "reversed"=none)(y:PA X [a] w)(x:mY X a:=by exact mQ rfl):
  PI X tg (.Call (.Name "reversed" p) [a] [] pos) (λj H R=>w j H λvs c=>∃l xs,vs=[.ref l]/\((c l=some (.lst xs)/\R (C9 X.K l xs.length) c)\/(c l=some (.tup xs)/\R (Bl X.K l xs.length) c))):=by
 intro v s j H R I h;refine Call_ (j5 I G B boot_reversed (a_ (mH (y pos _ s j H _ I h) λM f ⟨vs,c,g,D,C⟩=> ?_) x rfl));obtain⟨l,xs,e,q⟩:=C;subst e;obtain⟨u,rfl,F⟩:=Zn D;obtain rfl:u=Value.ref l:=F;have ok:∀b∈[f.heap.objs.size],wC X _ c b:=λb J=>by
  have e:=by simpa using J
  subst e;exact g.fpOk (am _) (g.hok.fresh (am _))
 rcases q with ⟨i,q⟩ | ⟨i,q⟩
 ·obtain⟨d,k,p,hz⟩:=g.list (SqL.of i);have e:((d.toArray.size):Int) - 1=(xs.length) - 1 - ((0):Int):=by have:=k.length;simp;omega
  refine call_reversed_list p.isList ?_;rw[e];have st:(f.heap.push (revObj l ((xs.length) - 1 - ((0):Int)))).IsRevIter _ l _:=⟨_,af _ rfl,rfl,rfl⟩;refine wpAny_pyIter_revIter st ?_;exact⟨f.heap.objs.size,[f.heap.objs.size],_,_,c,rfl,g.kept (λb o e=>ab _ e),VF l _ _,⟨bf _,st⟩,ok,q⟩
 ·obtain⟨d,k,p,hz⟩:=g.tuple (SqT.of i);have r:=k.length;have e:((d.toArray.size):Int) - 1=(xs.length) - 1 - ((0):Int):=by simp;omega
  refine RV.call_rvT p (by rw[bY]at hz;omega) λtk=> ?_
  rw[e];refine RV.iter_rv (af _ rfl) ?_;exact⟨f.heap.objs.size,[f.heap.objs.size],_,_,c,rfl,g.kept (λb o e=>ab _ e),VE l _ _,⟨bf _,af _ rfl⟩,ok,q⟩
theorem Fl (j:Gl X "reversed")(i:X.mg "reversed"=none)(g:Snd X Y a fa)(e:mY X a:=by exact mQ rfl):uP X Y tg (.Call (.Name "reversed" p) [a] [] pos) (Dx fa):= .mk λρ=>
 PI.imp (Ht j i (zm (g ρ) zH e) e) λu H R ⟨B,I,q⟩=>step I q λt v f _ o k c d=>by
  cases k with
  | @tup l xs ts h r=>exact⟨l,xs,rfl,.inr ⟨c.sB _ _ h,ZN c (show Po Y rI _ f _ R from d) (FY h r)⟩⟩
  | @lst l xs ts h r=>exact⟨l,xs,rfl,.inl ⟨c.sB _ _ h,ZN c (show Po Y rI _ f _ R from d) (HU h r)⟩⟩
  | _=>exact d.elim
theorem UA:∀{xs e:List V} {d c:List Value},Vals xs d->Vals e c->Vals (xs++e) (d++c)
 | _,_,_,_,.nil,q=>q
 | _,_,_,_,.cons r t,q=> .cons r (UA t q)
theorem UB:∀{xs:List V} {c:List Value},Vals xs c->Vals xs.reverse c.reverse
 | _,_,.nil=> .nil
 | _,_,.cons r t=>by rw[cR,cR];exact UA (UB t) (.cons r .nil)
theorem Kn {c:List Value}{acc:Array Value}(h:ItemsOf (λi v=>c.toArray[c.toArray.size - 1 - i]? =some v) acc c.toArray.size):acc.toList=c.reverse:=by
 have g:=by
  have:=h.1;simpa using this
 have f:=h.2;refine dL λi=> ?_
 by_cases hi:i < c.length
 ·have d:i < acc.toList.length:=by simp;omega
  have e:=ah d;have:=f i _ (by rw[← dH];exact e)
  rw[iR hi,e,← this];simp
 ·rw[aP (by simp;omega),aP (by simp;omega)]
theorem HV (hh:X.A.handled=none)(gl:Gl X "tuple")(mg:X.mg "tuple"=none)(O :Gl X "reversed")(N :X.mg "reversed"=none)(ha:Snd X Y a fa)(U:mY X a:=by exact mQ rfl)(y :mY X (.Call (.Name "reversed" p') [a] [] pos'):=by exact mQ rfl):
  Snd X Y (.Call (.Name "tuple" p) [.Call (.Name "reversed" p') [a] [] pos'] [] pos) (mw VG fa):= .mk λρ=>by
 intro x s Z H Q I ⟨B,J,q⟩;have hq:tS Y rC fa ρ Z H (λv d=>∃l xs,v= .ref l/\d l=some (.lst xs)/\xs.length<=sizeLine/\∀t,d t=none->Q (.ref t) (mz d t (.tup xs.reverse))):=by
  refine step J q λt v d _ k C w g=> ?_;cases C with
  | @lst l xs ts h r=>
   have g:Po Y rC _ d (if ts.length<=mF then .ok (.tup ts.reverse) else .bad) Q:=g
   split at g
   ·rename_i D;exact⟨l,xs,rfl,w.sB _ _ h,by rw[r.length];exact ZF D,λt ht=>GU w.sB g rfl r.rev ht⟩
   ·exact g.elim
  | _=>exact g.elim
 refine cB (j5 I gl mg PyProof.Rows.Boot.«tuple» (a_ (rest:=[]) ?_ y rfl));rw[y];refine lm (cB (j5 I O N boot_reversed (a_ (e:=a) (rest:=[]) ?_ U rfl)));refine mH ((zm (ha ρ) zH U) pos' x s Z H (λvs d=>∃l xs,vs=[.ref l]/\d l=some (.lst xs)/\xs.length<=sizeLine/\∀t,d t=none->Q (.ref t) (mz d t (.tup xs.reverse))) I ?_) λus k ⟨vs,d,w,C,l,xs,e,S,hz,g⟩=> ?_
 ·obtain⟨B',J',j⟩:=hq;refine⟨B',J', ?_⟩;revert j;cases fa ρ with
  | bad=>exact λj =>j
  | ex c=>exact λj =>j
  | ok t=>
   intro j v d k C;obtain⟨l,xs,rfl,h⟩:=j v d k C;exact⟨l,xs,rfl,h⟩
 subst e;obtain⟨u,rfl,ru⟩:=Zn C;obtain rfl:u=Value.ref l:=ru;obtain⟨f,rv,pl,_⟩:=w.list (SqL.of S);have F:=w.hok.lt S;refine call_reversed_list pl.isList (lI ?_);have e0:((f.toArray.size):Int) - 1 - ((0:Nat))=((f.toArray.size):Int) - 1:=by omega
 refine RV.tuple_lr (Walks.listRev (A:=X.A.in1.in1.in1) hh _ l (aF F) _).toS (λi s st=>st.2.1.typeIs) ⟨bf _,⟨_,af _ rfl,rfl,by rw[e0];rfl⟩,pl.isList.push _⟩ (λb D=> ?_) (by simp) (λs' acc M G=> ?_) (by rw[aD,← rv.length];exact hz)
 ·have D:=by simpa using D
  rcases D with rfl | rfl
  ·rw[ci];exact fA _
  ·rw[ci];exact cQ F
 obtain⟨h',g',d',P,os'⟩:=s';have e1:g' =k.gens:=M.gens;have e2:d' =k.drawn:=M.drawn;have e3:=M.os;subst e1 e2 e3;have kp:∀b o,k.heap.get? b=some o->h'.get? b=some o:=λb o e=>M.heap b o (λz=>by
  have z:b=k.heap.objs.size:=by simpa using z
  have:=au e;rw[z]at this;exact bE _ this) (ab _ e)
 have I2:=w.kept (t' :=P) kp;have ea:acc=f.reverse.toArray:=by rw[← Kn G]
 rw[ea];refine⟨.ref h'.objs.size,mz d _ (.tup xs.reverse),I2.laid (λb u e=>ab _ e) (am _) ⟨by rw[cu];exact hz,f.reverse,UB rv,⟨_,af _ rfl,rfl,_,rfl⟩,.inr ⟨_,af _ rfl,rfl⟩⟩,rfl,g _ (I2.hok.fresh (am _))⟩
end
noncomputable def wI:List T->Option Bool
 | []=>some false
 | .bl k :: r=>match wI r with | some j=>some (k || j) | none=>none
 | _ :: _=>none
def C5:T->R T
 | .lst ts=>match wI ts with | some k=> .ok (.bl k) | none=> .bad
 | _=> .bad
theorem qp:∀{H:Hp} {xs:List V} {ts:List T} {a:List Value} {k:Bool},zy H xs ts->Vals xs a->wI ts=some k->∃tr:Nat->Bool,(∀i v,a[i]? =some v->v=Value.bool (tr i))/\(aN a.length).any tr=k
 | _,_,_,_,k,.nil,.nil,h=>by
  have h' :=h;cases h';exact⟨λ_=>true,λi v e=>by simp at e,rfl⟩
 | H,_,_,_,k,.cons r rs,.cons (b:=u) rv vs,h=>by
  cases r with
  | bl b=>
   unfold wI at h;split at h
   ·rename_i j e;cases h;obtain⟨tr,d,c⟩:=qp rs vs e;obtain rfl:u=Value.bool b:=rv;refine⟨λi=>match i with | 0=>b | i+1=>tr i,λi v e=> ?_, ?_⟩
    ·cases i with
     | zero=>simp at e;exact e.symm
     | succ i=>exact d i v (by simpa using e)
    ·rw[aw,dq,ib,List.any_map,← c];rfl
   ·cases h
  | _=>cases h
section
variable {X:Cx}{Y:Fx}{a b:Expr}{fa fb:En->R T}{pos p p' pos' pt:Pos}{elts:List Expr}{kk:Nat}
theorem qr (F:X.A.handled=none):Z7 X (.builtin "any") (λvs H Q=>∃l xs ts k,vs=[.ref l]/\H l=some (.lst xs)/\zy H xs ts/\wI ts=some k/\Q (.bl k) H):=by
 intro w s M H vs N Q I d h;obtain⟨l,xs,ts,k,rfl,j,r,y,q⟩:=h;obtain⟨u,rfl,D⟩:=Zn d;obtain rfl:u=Value.ref l:=D;obtain⟨g,d,p,_⟩:=zL I (.inl j) r;obtain⟨tr,C,B⟩:=qp r d y;refine call_any_walk (ck p ?_);have c:=I.hok.lt j;have old:∀b o,s.heap.get? b=some o->(s.heap.push { cls:= .type "list_iterator",data:= .fields #[.ref l,.int 0 0] }).get? b=some o:=λb o e=>ab _ e;refine⟨s.heap.objs.size,_,_,_,_,_,tr,rfl,hW (A:=X.A.in1) F _ l (aF c) g.toArray, ?_, ?_,λh' tk f => ?_⟩
 ·refine⟨?_,p.at λo e=>old _ o e⟩;exact⟨_,af _ rfl,rfl,rfl⟩
 ·intro i v O G J hi x;rw[C i v (by simpa using hi)]
  exact bh x
 ·rw[aD,B];refine⟨.bl k,H,I.kept (λb o e=>f b o ?_ (old b o e)),rfl,q⟩;simp;exact aF (au e)
theorem EV (j:X.A.handled=none)(i:Gl X "any")(g:X.mg "any"=none)(f:jz X Y a fa)(d:mY X a:=by exact mQ rfl):Snd X Y (.Call (.Name "any" p) [a] [] pos) (mw C5 fa):=
 JT (qr j) (λv t B H Q r c q=>by
  cases r with
  | @lst l xs ts h r=>
   have q:Po Y rC B H (match wI ts with | some k=> .ok _ | none=> .bad) Q:=q
   split at q
   ·rename_i k e;exact⟨l,xs,ts,k,rfl,h,r,e,mV c q rfl (.bl k)⟩
   ·exact q.elim
  | _=>exact q.elim) i g PyProof.Rows.Boot.«any» f d
end
noncomputable def UC (x:Int):List Int->List Int
 | []=>[x]
 | y :: a=>if x<=y then x :: y :: a else y :: UC x a
def qt:List Int->List Int
 | []=>[]
 | x :: xs=>UC x (qt xs)
def VH:T->R T
 | .lst ts=>match Z2 ts with | some l=>if ts.length < 64 then .ok (.lst ((qt l).map T.int)) else .bad | none=> .bad
 | _=> .bad
theorem JY (x:Int):∀a:List Int,(UC x a).Perm (x :: a)
 | []=> .refl _
 | y :: a=>by
  unfold UC;split
  ·exact .refl _
  ·exact((JY x a).cons y).trans (.swap x y a)
theorem ug:∀xs:List Int,(qt xs).Perm xs
 | []=> .refl _
 | x :: xs=>(JY x _).trans ((ug xs).cons x)
theorem JZ (x:Int):∀a:List Int,a.Pairwise (·<=·)->(UC x a).Pairwise (·<=·)
 | [],_=>by unfold UC;simp
 | y :: a,h=>by
  unfold UC;rw[dy]at h;split
  ·rename_i c;refine dy.mpr ⟨λz hz=> ?_,dy.mpr h⟩;rcases ak.mp hz with rfl | hz
   ·exact c
   ·exact eU c (h.1 z hz)
  ·refine dy.mpr ⟨λz hz=> ?_,JZ x a h.2⟩;rcases ak.mp ((JY x a).mem_iff.mp hz) with rfl | hz
   ·omega
   ·exact h.1 z hz
theorem w8:∀xs:List Int,(qt xs).Pairwise (·<=·)
 | []=> .nil
 | x :: xs=>JZ x _ (w8 xs)
theorem uh:∀(xs a:List Int),xs.Perm a->xs.Pairwise (·<=·)->a.Pairwise (·<=·)->xs=a
 | [],a,p,_,_=>(List.nil_perm.mp p).symm
 | x :: xs,[],p,_,_=>by cases List.perm_nil.mp p
 | x :: xs,y :: a,p,d,c=>by
  rw[dy]at d c;have e:x=y:=by
   have f:x<=y:=by
    rcases ak.mp (p.mem_iff.mpr (aa)) with z | z
    ·omega
    ·exact d.1 y z
   have g:y<=x:=by
    rcases ak.mp (p.mem_iff.mp (aa)) with z | z
    ·omega
    ·exact c.1 x z
   omega
  subst e;rw[uh xs a (List.Perm.cons_inv p) d.2 c.2]
theorem jT:∀{a:List Value} {c:List Int},IntsAre a c->Vals (c.map V.int) a:=by
 intro a c h
 induction h with
 | nil=>exact .nil
 | cons n t _ d=>exact .cons ⟨_,rfl⟩ d
theorem UD:∀(a:List (Int×Tok)),IntsAre (a.map λp=>Value.int p.1 p.2) (a.map (·.1))
 | []=> .nil
 | p :: a=> .cons _ _ (UD a)
theorem ui:∀a:List Int,zy H (a.map V.int) (a.map T.int)
 | []=> .nil
 | n :: a=> .cons (.int n) (ui a)
section
theorem yJ:Z7 X (.builtin "sorted") (λvs H Q=>∃l xs ts a,vs=[.ref l]/\H l=some (.lst xs)/\zy H xs ts/\Z2 ts=some a/\ts.length < 64/\∀r,H r=none->Q (.ref r) (mz H r (.lst ((qt a).map V.int)))):=by
 intro j s O H vs P Q I g h;obtain⟨l,xs,ts,a,rfl,w,r,C,F,q⟩:=h;obtain⟨u,rfl,J⟩:=Zn g;obtain rfl:u=Value.ref l:=J;obtain⟨c,g,p,i,_⟩:=zL I (.inl w) r;obtain⟨v,o,D⟩:=JX r g C;refine sorted_ints p (o ▸ UD v) (by omega) λout f x k M=> ?_
 have e:=uh _ _ (k.trans (by rw[D];exact(ug a).symm)) M (w8 a)
 obtain⟨n,y⟩:=sortedAll_at _ c out;have d:s.heap.objs.size<=s.heap.objs.size+1:=cP _;refine⟨.ref _,mz H _ _,I.laid (λb u e=>sortedAll_old e) d ?_,rfl,by have:=q _ (I.hok.fresh d);rw[← e]at this;exact this⟩
 have B:f.length=ts.length:=by
  have G:=k.length_eq;rw[ae]at G;have N:c.length=v.length:=by rw[o,ae]
  omega
 exact⟨by rw[ae,bY];omega,out.toList,n,jT x,y⟩
theorem HM (j:Gl X "sorted")(d:X.mg "sorted"=none)(i:jz X Y a fa)(g:mY X a:=by exact mQ rfl):Snd X Y (.Call (.Name "sorted" p) [a] [] pos) (mw VH fa):=
 JT yJ (λv t B H Q r k q=>by
  cases r with
  | @lst l xs ts h r=>
   have q:Po Y rC B H (match Z2 ts with | some l=>if ts.length < 64 then .ok _ else .bad | none=> .bad) Q:=q
   split at q
   ·rename_i f e;split at q
    ·rename_i c;refine⟨l,xs,ts,f,rfl,h,r,e,c,λz hz=> ?_⟩;exact q _ _ (zo.new hz _) (.lst (jd hz _) (ui _))
    ·exact q.elim
   ·exact q.elim
  | _=>exact q.elim) j d PyProof.Rows.Boot.«sorted» i g
end
end PV
namespace PySem.RV
open PySem PySem.Spec PyProof.Rows PySem.Builtin.SmallTypes
theorem draws_tup (g:A.handled=none)(it l:Addr)(d:l ≠ it)(c:Array Value):Draws prog w A it [it,l] c.size (λi v=>c[i]? =some v) (λi h=>h.IsTupleIter it l i/\h.IsTuple l c) where
 live:=λi h st=>(ZG.nx_tup d c).there st it (.head _)
 frame:=λi h h' st f=>(ZG.nx_tup d c).keep st f
 item:=λi s Q E hi st e=>ZG.tup_item st.1 st.2 (x:=c[i]) (by simp[hi]) λh' a b=>e _ h' s.toks (by simp[hi]) ⟨a,st.2.extBut b.extBut d⟩ b
 done:=λs Q E st hE=>ZG.tup_stop g st.1 st.2 (by simp) hE
noncomputable abbrev DY (i:Addr):Obj:={ cls:= .type "enumerate",data:= .fields #[.none,.bool false,.ref i,rawInt 0,.none,.none] }
theorem qu (l:Addr)(a:Array Value)(n:Nat)(f:Option Addr)(k:Array (Option Value)):
  Meets (Builtin.«enumerate.__new__» ⟨[.type "enumerate",.ref l],[]⟩) (λ_ R s=>s.heap.get? l=some { cls:= .type "tuple",dict:=f,data:= .seq a n,slots:=k }/\
   R (.ok (.ret (.ref (s.heap.push (ZG.oT l)).objs.size))) { s with heap:=(s.heap.push (ZG.oT l)).push (DY s.heap.objs.size) }):=
 .of_wp λprog w A R s h=>by
  obtain⟨hp,g,d,tk,os⟩:=s;obtain⟨e,h⟩:=h;have i:=sub_enumerate;have j:lN (mh ⟨hp,g,d,tk,os⟩) l a:=⟨_,e,rfl,n,rfl⟩
  wp_walk using df e
  refine wpAny_stack_any λst=>ac ?_;split
  ·rename_i c _ _ _ _ _;cases (c == Value.type "enumerate") <;> (wp_walk using df e,cC j;exact⟨_,rfl,h⟩)
  ·wp_walk using df e,cC j
   exact⟨_,rfl,h⟩
theorem enum_callT (j:s.heap.IsTuple l items)
  (h:∀h',IsEnum h' (s.heap.objs.size+1) s.heap.objs.size 0 .none->h'.IsTupleIter s.heap.objs.size l 0->(∀b o,s.heap.get? b=some o->h'.get? b=some o)->Q (.ref (s.heap.objs.size+1)) { s with heap:=h' }):
  wpAny (model prog w) A (call (.type "enumerate") [.ref l]) Q E s:=by
 obtain⟨⟨c,d,g,f⟩,e,i,n,hd⟩:=j;obtain rfl:c= .type _:=i;obtain rfl:g= .seq _ n:=hd;refine callType_new F.called_enumerate (by decide) (F.typeCall_enumerate_1 _) (F.newCall_enumerate_1 _) (λobj=>iY obj _) F.entry_enumerate_new (qu l _ n d f) ⟨e, ?_⟩
 have hz:(s.heap.push (ZG.oT l)).objs.size=s.heap.objs.size+1:=ci ..;have a:((s.heap.push (ZG.oT l)).push (DY s.heap.objs.size)).get? _=some _:=af _ rfl;rw[hz]at a;rw[hz];exact⟨⟨_,a,rfl⟩,h _ a ⟨_,ab _ (af _ rfl),rfl,rfl⟩ λb o x=>ab _ (ab _ x)⟩
end PySem.RV
namespace PV
open PySem PySem.Spec PyProof.Rows L2
def CO (K:ai)(l:Addr)(n:Nat):It:=
 ⟨λi H=>∃xs x,SqT K H l xs/\xs.length=n/\xs[i]? =some x,λi H v a =>∃p x,H p=none/\v= .ref p/\(∀xs,SqT K H l xs->xs[i]? =some x)/\a =mz H p (.tup [.int i,x]),λi H=>∃xs,SqT K H l xs/\xs.length=n/\n<=i⟩
theorem yK {P:Program}{w:World}{K:ai}{B:List Expr}{kk:Nat}{pt:Pos}(e it l:Addr)(n:Nat)(G:e ≠ it)(hle:l ≠ e)(F:l ≠ it):
  yt P w K (.Tuple B kk pt) (CO K l n) [e,it] e (λi h=>i<=n/\(∃old,IsEnum h e it i old)/\h.IsTupleIter it l i) where
 mem:=by simp
 obj:=λi h st b a=>by
  obtain⟨_,⟨old,j⟩,o,e1,c,d⟩:=st;rcases ak.mp a with rfl | a
  ·exact⟨_,j,λv z=>nomatch z⟩
  ·have z:b=it:=by simpa using a
   subst z;exact⟨o,e1,λv z=>by rw[d]at z;cases z⟩
 keep:=λi h h' st k=>by
  obtain⟨hn,⟨old,j⟩,o,e1,r⟩:=st;exact⟨hn,⟨old,k e (by simp) _ j⟩,o,k it (by simp) o e1,r⟩
 item:=by
  intro X M hw hK hc i J s σ H E I Q st hg;subst M hw hK;obtain⟨xs,x,S,hxn,U⟩:=hg;obtain⟨f,rv,p,hz⟩:=I.tuple S;obtain⟨u,hu,ru⟩:=rv.get U;obtain⟨hin,⟨old,j⟩,C⟩:=st;have hi:i < f.toArray.size:=by
   have:=(ay.mp hu).1;simpa using this
  have D:=RV.draws_tup (prog:=X.prog) (w:=X.w) (A:=X.A.in1) (I.ok.hd hc) it l F f.toArray;have hef:e ∉ [it,l]:=λz=>by
   rcases ak.mp z with z | z
   ·exact G z
   ·exact hle (aq.mp z).symm
  have WE:=WalksT.enumerateD D e G hef (.head _);refine WE.item i s _ _ hi ⟨⟨old,j⟩,C,p⟩ λT vals h' tk M hT O hM hk=> ?_;obtain⟨t,y,hy,rfl⟩:=M;have hyu:y=u:=by
   have:f[i]? =some y:=by simpa using hy
   rw[hu]at this;exact(aH this).symm
  subst hyu;refine⟨.ref T,rfl, ?_⟩;refine WE.go B kk pt i T _ _ _ hM λh2 g N=> ?_;have Z:H T=none:=I.hok.fresh hT;have q:∀b∈[e,it],b ≠ T:=λb a z=>by
   obtain⟨_,_,h3,h4⟩:=hM;rcases ak.mp a with rfl | a
   ·exact h3 z.symm
   ·have:b=it:=by simpa using a
    subst this;exact h4 z.symm
  have UO:IsTup h2 T #[.int i t,y]:=by
   obtain⟨o,eo,r⟩:=O;exact⟨o,N T o (λa=>q T a rfl) eo,r⟩
  refine⟨.ref T,mz H T (.tup [.int i,x]),Inv.laidT (s:=s) (h' :=h2) (ch:=[e,it]) (tk:=tk) I Q (λb o a e=>N b o a (hk b o a e)) (λb o a _=> ?_) hT ⟨by rw[bY];show 2<=16777216;decide,[.int i t,y],.cons ⟨t,rfl⟩ (.cons ru .nil),UO,.inl ⟨_,_,rfl⟩⟩,rfl,⟨T,x,Z,rfl,λys hy=>by rw[I.tuple_inj hy S];exact U,rfl⟩,⟨by have:=(ay.mp U).1;omega,g.1,g.2.1⟩,λb a=> ?_⟩
  ·obtain⟨⟨old2,he2⟩,⟨o2,eo2,_⟩,_⟩:=g;rcases ak.mp a with rfl | a
   ·exact⟨_,he2⟩
   ·have:b=it:=by simpa using a
    subst this;exact⟨o2,eo2⟩
  ·rw[zi (q b a)];exact(Q b a).1
 done:=by
  intro X M hw hK hc i J s σ H E I Q st hg;subst M hw hK;obtain⟨xs,S,hxn,U⟩:=hg;obtain⟨f,rv,p,hz⟩:=I.tuple S;obtain⟨hin,⟨old,j⟩,C⟩:=st;have hl:=rv.length;have D:=RV.draws_tup (prog:=X.prog) (w:=X.w) (A:=X.A.in1) (I.ok.hd hc) it l F f.toArray;have hn:f.toArray.size=i:=by simp;omega
  refine wpAny_pyNext_enum_endD D j (by rw[hn];exact⟨C,p⟩) λh' hk=>⟨rfl, ?_⟩
  obtain⟨f0,f1,f2,f3,f4,f5⟩:=Q it (by simp)
  exact I.turned (t' :=s.toks) (λb o a e=>hk b o a e) f0 f1 f3 f4 f5
 self:=λ_ _ _ _ _ st h=>let ⟨_,⟨_,j⟩,_⟩:=st;wpAny_pyIter_enum j h
theorem VI {K:ai}{d l:Hp}{a:Addr}{xs:List V}{ts:List T}(h:d a=some (.tup xs))(r:zy d xs ts):rI d l (CO K a xs.length) (jM ts):=λw u f g=>by
 have c:=g _ _ (f _ _ h);rw[Jr];refine⟨λi hi=> ?_,λi t x H3 e y=> ?_,λi hi=>⟨xs,SqT.of c,rfl,by rw[r.length];exact hi⟩⟩
 ·obtain⟨v,e,_⟩:=r.get (ah hi);exact⟨xs,v,SqT.of c,rfl,e⟩
 ·obtain⟨p,v,hp,rfl,y,rfl⟩:=y;obtain⟨t',k,rfl⟩:=ud e;obtain⟨q,j,o⟩:=r.get k;have:=y xs (SqT.of c);rw[j]at this;cases this;refine⟨zo.new hp _,.tup (jd hp _) (.cons (.int _) (.cons ?_ .nil))⟩;exact(o.mono f).mono (zF.ge g (zo.new hp _))
def wa (a:En->R T):En->R (List T):=λρ=>(a ρ).bind λt=>match t with
 | .tup xs=> .ok (jM xs)
 | _=> .bad
section
theorem VJ {x:TA}(N:Gl X "enumerate")(C:X.mg "enumerate"=none)(B:PA X [a] x)(y:mY X a:=by exact mQ rfl):
  PI X (.Tuple elts kk pt) (.Call (.Name "enumerate" p) [a] [] pos) (λk H R=>x k H λvs i=>∃l xs,vs=[.ref l]/\i l=some (.tup xs)/\R (CO X.K l xs.length) i):=by
 intro v s k H R I h;refine Call_ (j5 I N C PyProof.Rows.Boot.«enumerate» (a_ (mH (B pos _ s k H _ I h) λP d ⟨vs,i,c,G,D⟩=> ?_) y rfl));obtain⟨l,xs,e,r,q⟩:=D;subst e;obtain⟨u,rfl,M⟩:=Zn G;obtain rfl:u=Value.ref l:=M;obtain⟨J,O,pl,hz⟩:=c.tuple (SqT.of r);have g:=c.hok.lt r;refine RV.enum_callT (show d.heap.IsTuple l _ from pl) λh' w j F=>wpAny_pyIter_enum w ?_;have f:∀b∈[d.heap.objs.size+1,d.heap.objs.size],wC X _ i b:=λb o=>by
  rcases ak.mp o with rfl | o
  ·exact c.fpOk (cP _) (c.hok.fresh (cP _))
  ·have z:=by simpa using o
   subst z;exact c.fpOk (am _) (c.hok.fresh (am _))
 exact⟨d.heap.objs.size+1,[d.heap.objs.size+1,d.heap.objs.size],_,_,i,rfl,c.kept F,yK _ _ l _ (m9 _) (aF (cQ g)) (aF g),⟨bf _,⟨_,w⟩,j⟩,f,q⟩
theorem Ko (i:Gl X "enumerate")(g:X.mg "enumerate"=none)(f:Snd X Y a fa)(c:mY X a:=by exact mQ rfl):uP X Y (.Tuple elts kk pt) (.Call (.Name "enumerate" p) [a] [] pos) (wa fa):= .mk λρ=>
 PI.imp (VJ i g (zm (f ρ) zH c) c) λu H R ⟨B,I,q⟩=>step I q λt v j _ o k e d=>by
  cases k with
  | @tup l xs ts h r=>exact⟨l,xs,rfl,e.sB _ _ h,ZN e (show Po Y rI _ j _ R from d) (VI h r)⟩
  | _=>exact d.elim
end
end PV
namespace PySem.RW37
open PySem PySem.Spec PyProof.Rows L2
section
end
end PySem.RW37
namespace PV
open PySem PySem.Spec PyProof.Rows L2 PySem.RW37
section
theorem yL {x:L2.St}(I:Inv X pins x H s)(f:RelV v u)(r:Rep H v t)(hp:H tp=some (.tup xs))(F:Vals xs its)
  (C:∀d,Vals xs d ->d =its) (e:eV X.K (.type (nH t)) its=some b) (h:∀tk,Q (.bool b) { s with toks:=tk }):
  wpAny (model X.prog X.w) A (call (.builtin "isinstance") [u,.ref tp]) Q E s:=by
 obtain⟨_,d,l,⟨o,g,D,n,hd⟩,_⟩:=(show zQ _ X.w H _ tp _ from I.hok tp _ hp);obtain rfl:=C _ l;obtain⟨c,dd,J,G⟩:=o;subst D hd;cases r with
 | non=>cases (f);exact cL lF I.kIn True.intro g e (λz=>nomatch z) h
 | bl y=>cases (f);exact cL lG I.kIn True.intro g e (λz=>nomatch z) h
 | int i=>obtain⟨t,q⟩:=(f);cases q;exact cL lZ I.kIn True.intro g e (λz=>nomatch z) h
 | str y=>obtain⟨t,q⟩:=(f);cases q;exact cL l_ I.kIn True.intro g e (λz=>nomatch z) h
 | @tup a xs _ k=>
  cases (f);obtain⟨_,_,_,p,_⟩:=(show zQ _ X.w H _ a _ from I.hok a _ k);obtain⟨o,j,B,_⟩:=p;exact cL ll I.kIn ⟨o,j,B⟩ g e (λz=>nomatch z) h
 | @lst a xs _ k=>
  cases (f);obtain⟨_,_,n,_,j⟩:=(show zQ _ X.w H _ a _ from I.hok a _ k);exact cL eM I.kIn ⟨_,j,rfl⟩ g e (λz=>nomatch z) h
 | @fz a ob xs _ k=>
  cases (f);obtain⟨_,_,_,n,_,j⟩:=(show zQ _ X.w H _ a _ from I.hok a _ k);exact cL eM I.kIn ⟨_,j,rfl⟩ g e (λz=>nomatch z) h
theorem VL:∀a,Vals [.ty n,.ty m] a ->a =[.type n,.type m]:=λa h=>by
 cases h with
 | cons p q=>
  cases q with
  | cons d c =>
   cases c;rw[p,d]
theorem qw:Z7 X (.builtin "isinstance") (λxs H Q=>∃v a n m t b,xs=[v,.ref a]/\H a=some (.tup [.ty n,.ty m])/\Rep H v t/\eV X.K (.type (nH t)) [.type n,.type m]=some b/\Q (.bl b) H):=by
 intro d s j H xs i Q I e h;obtain⟨v,a,n,m,t,b,rfl,hp,r,g,q⟩:=h;obtain⟨u,w,rfl,f,c⟩:=uR e;obtain rfl:w=Value.ref a:=c;exact yL I f r hp (.cons rfl (.cons rfl .nil)) VL g λtk=>⟨.bl _,H,I.tok tk,rfl,q⟩
def DO (n m:String)(t:T):R T:= .ok (.bl (nD n t || nD m t))
theorem Kp {K:ai}{t:T}{n m:String}(c:bL K (.type (nH t)) (.type n)=some (nD n t))(a:bL K (.type (nH t)) (.type m)=some (nD m t)):
  eV K (.type (nH t)) [.type n,.type m]=some (nD n t || nD m t):=by
 unfold eV;rw[c];cases nD n t with
 | true=>rfl
 | false=>
  unfold eV;rw[a];cases nD m t <;> rfl
theorem IL (G:∀t,bL X.K (.type (nH t)) (.type n)=some (nD n t))(j :∀t,bL X.K (.type (nH t)) (.type m)=some (nD m t))
  (N:Gl X "isinstance") (M:X.mg "isinstance"=none) (w:Gl X (aC n)) (o:X.mg (aC n)=none) (l:bootBuiltins (aC n)=some (.type n)) (r:Gl X (aC m)) (g:X.mg (aC m)=none) (f:bootBuiltins (aC m)=some (.type m)) (D:Snd X Y a fa)
  (C:starEach [a,.Tuple [.Name (aC n) p1,.Name (aC m) p2] kt pt] X.env=[(false,eval a X.env),(false,eval (.Tuple [.Name (aC n) p1,.Name (aC m) p2] kt pt) X.env)]:=by exact nP rfl rfl)
  (c:starEach [.Tuple [.Name (aC n) p1,.Name (aC m) p2] kt pt] X.env=[(false,eval (.Tuple [.Name (aC n) p1,.Name (aC m) p2] kt pt) X.env)]:=by exact mQ rfl)
  (i:starEach [.Name (aC n) p1,.Name (aC m) p2] X.env=[(false,eval (.Name (aC n) p1) X.env),(false,eval (.Name (aC m) p2) X.env)]:=by exact nP rfl rfl)
  (d:starEach [.Name (aC m) p2] X.env=[(false,eval (.Name (aC m) p2) X.env)]:=by exact mQ rfl)
  (e:aC n ≠ "__name__":=by decide) (y:(aC n == ("__debug__":Str))=false:=by decide) (u:aC m ≠ "__name__":=by decide) (k:(aC m == ("__debug__":Str))=false:=by decide)
  (hz:((backTo pos (starEach [.Tuple [.Name (aC n) p1,.Name (aC m) p2] kt pt] X.env)).any λx=>x.fst)=false:=by exact zT rfl):
  Snd X Y (.Call (.Name "isinstance" p) [a,.Tuple [.Name (aC n) p1,.Name (aC m) p2] kt pt] [] pos) (mw (DO n m) fa):= .mk λρ=>
 PE.imp (ZM qw N M PyProof.Rows.Boot.«isinstance» (zm (D ρ) (zm (xR (zm (uQ (v:= .ty n) w o l rfl e y) (zm (uQ (v:= .ty m) r g f rfl u k) zH d) (by rw[i,d]))) zH c) (by rw[C,c])) (by decide) (by decide) (by rw[C,c]) hz) λP H Q ⟨B,I,q⟩=>
  step I q λt v S _ U J O F=>⟨ZF (by show 2<=mF;decide),λp hp=>⟨v,p,n,m,t,_,rfl,zl,(J.mono O.sB).mono (zo.new hp _),Kp (G t) (j t),F _ _ (zo.new hp _) (.bl _)⟩⟩
def rL (a:En->R T)(g:T->En->R En):En->RS:=λρ=>(a ρ).s λt=>match g t ρ with
 | .ok ρ' => .nx ρ'
 | _=> .bad
theorem Xg {g:T->En->R En}(i:Snd X Y a fa)(k:rQ X Y tg g)(f:swapsWithSole [tg] a pos.line X.env=pure false:=by rfl)(e:swappedStores [tg] a X.env=pure none:=by rfl)
  (j:(assignEach [tg] X.env).map (·.2)=[assign tg X.env]:=by rfl):Wd X Y (.Assign [tg] a pos) (rL fa g):= .mk λρ=>by
 obtain⟨tt,hp,hr⟩:=k;refine PS.imp (Gw (i ρ) hp f e j) λD u H ⟨B,I,q⟩=>Je I q λt v w _ r p o d=>hr _ _ _ _ _ _ _ o p ?_;cases h:g t ρ with
 | ok ρ' =>
  rw[h]at d;exact λσ' l =>d _ _ _ (zo.refl _) l
 | ex c=>rw[h]at d;exact d.elim
 | bad=>rw[h]at d;exact d.elim
end
end PV
namespace PV
open PySem PySem.Spec PyProof.Rows L2
noncomputable def DR (t t' :T):R T:=match t,t' with
 | .int i,.int j=> .ok (.int (if j > i then j else i))
 | _,_=> .bad
noncomputable def G9:T->R T
 | .int i=> .ok (.int (if i < 0 then -i else i))
 | _=> .bad
noncomputable def jg (f:Int->Int->Bool):Int->List Int->Int
 | i,[]=>i
 | i,j :: r=>jg f (if f j i then j else i) r
def maxLT:T->R T
 | .lst ts=>match Z2 ts with | some (i :: l)=> .ok (.int (jg (λa b=>decide (b < a)) i l)) | _=> .bad
 | _=> .bad
def Kq:T->R T
 | .lst ts=>match Z2 ts with | some (i :: l)=> .ok (.int (jg (λa b=>decide (a < b)) i l)) | _=> .bad
 | _=> .bad
theorem Wk:∀(l:List Int) (i:Int),jg (λa b=>decide (b < a)) i l∈i :: l/\∀x∈i :: l,x<=jg (λa b=>decide (b < a)) i l
 | [],i=>⟨aa,λx h=>by simp at h;subst h;exact i8 _⟩
 | j :: r,i=>by
  unfold jg
  by_cases e:i < j
  ·simp only[e,decide_true,if_true];obtain⟨f,d⟩:=Wk r j;refine⟨a9 _ f,λx c=> ?_⟩;rcases ak.mp c with rfl | c
   ·exact eU (Int.le_of_lt e) (d j aa)
   ·exact d x c
  ·simp only[e,decide_false,aI,if_false];obtain⟨f,d⟩:=Wk r i;refine⟨?_,λx c=> ?_⟩
   ·rcases ak.mp f with h | h
    ·rw[h];exact aa
    ·exact a9 _ (a9 _ h)
   ·rcases ak.mp c with rfl | c
    ·exact d x aa
    ·rcases ak.mp c with rfl | c
     ·exact eU (Int.not_lt.mp e) (d i aa)
     ·exact d x (a9 _ c)
theorem Wl:∀(l:List Int) (i:Int),jg (λa b=>decide (a < b)) i l∈i :: l/\∀x∈i :: l,jg (λa b=>decide (a < b)) i l<=x
 | [],i=>⟨aa,λx h=>by simp at h;subst h;exact i8 _⟩
 | j :: r,i=>by
  unfold jg
  by_cases e:j < i
  ·simp only[e,decide_true,if_true];obtain⟨f,d⟩:=Wl r j;refine⟨a9 _ f,λx c=> ?_⟩;rcases ak.mp c with rfl | c
   ·exact eU (d j aa) (Int.le_of_lt e)
   ·exact d x c
  ·simp only[e,decide_false,aI,if_false];obtain⟨f,d⟩:=Wl r i;refine⟨?_,λx c=> ?_⟩
   ·rcases ak.mp f with h | h
    ·rw[h];exact aa
    ·exact a9 _ (a9 _ h)
   ·rcases ak.mp c with rfl | c
    ·exact d x aa
    ·rcases ak.mp c with rfl | c
     ·exact eU (d i aa) (Int.not_lt.mp e)
     ·exact d x (a9 _ c)
theorem jZ (a:List (Int×Tok))(i:Nat)(h:i < a.length):numAt a.toArray i=(a.map (·.1))[i]'(by simpa using h):=by
 unfold numAt;simp[h]
section
theorem IP (o:X.calm=true)(w:Gl X "max")(g:X.mg "max"=none)(l:Snd X Y a fa)(r:Snd X Y b fb)
  (e:starEach [a,b] X.env=[(false,eval a X.env),(false,eval b X.env)]:=by exact nP rfl rfl) (c:starEach [b] X.env=[(false,eval b X.env)]:=by exact mQ rfl):
  Snd X Y (.Call (.Name "max" p) [a,b] [] pos) (zd DR fa fb):= .mk λρ=>
 PE.imp (ZM (Yp o) w g PyProof.Rows.Boot.«max» (zm (l ρ) (zm (r ρ) zH c) (by rw[e,c])) (by decide) (by decide) (by rw[e,c]) (by rw[c];rfl)) λJ H Q ⟨B,I,q⟩=>
  step I q λt v M _ D y x u=>step x u λt' C F _ G f k d=>by
   cases y with
   | int i=>
    cases f with
    | int j=>exact⟨i,j,rfl,mV k.sB d rfl (.int _)⟩
    | _=>exact d.elim
   | _=>cases f <;> exact d.elim
theorem Io (e:Gl X "abs")(d:X.mg "abs"=none)(g:jz X Y a fa)(f:mY X a:=by exact mQ rfl):Snd X Y (.Call (.Name "abs" p) [a] [] pos) (mw G9 fa):=
 JT Va (λv t B H Q r c q=>by
  cases r with
  | int i=>exact⟨i,rfl,mV c q rfl (.int _)⟩
  | _=>exact q.elim) e d PyProof.Rows.Boot.«abs» g f
theorem z0S (S:X.A.handled=none):Z7 X (.builtin "max") (λvs H Q=>∃l xs ts i f,vs=[.ref l]/\H l=some (.lst xs)/\zy H xs ts/\Z2 ts=some (i :: f)/\Q (.int (jg (λa b=>decide (b < a)) i f)) H):=by
 intro y s U H vs Z Q I g h;obtain⟨l,xs,ts,i,f,rfl,B,r,F,q⟩:=h;obtain⟨u,rfl,N⟩:=Zn g;obtain rfl:u=Value.ref l:=N;obtain⟨o,g,p,_⟩:=zL I (.inl B) r;obtain⟨c,M,k⟩:=JX r g F;have e:o.toArray=intItems c.toArray:=by rw[M];simp[intItems]
 rw[e]at p;have d:=by have:=congrArg i6 k;simpa using this
 refine max_intList S p (by simp[d]) λv h' tk C kp=> ?_
 obtain⟨t,rfl⟩:=intItems_at C;obtain⟨P,b2⟩:=argBest_gt (numAt c.toArray) (c.toArray.size - 1);have hsz:c.toArray.size=c.length:=by simp
 rw[hsz]at P b2 ⊢;obtain⟨x,G⟩:=Wk f i;have O:numAt c.toArray (argBest (λi j=>decide (numAt c.toArray i > numAt c.toArray j)) (c.length - 1))=jg (λa b=>decide (b < a)) i f:=by
  refine mm (G _ ?_) ?_
  ·rw[jZ c _ (by omega),← k]
   exact iD _
  ·rw[← k]at x;obtain⟨j,J,D⟩:=cS.mp x;rw[← D];have w :=by simpa using J
   rw[← jZ c j w];exact b2 j (by omega)
 rw[O];exact⟨.int _,H,I.kept kp,⟨t,rfl⟩,q⟩
theorem qx (S:X.A.handled=none):Z7 X (.builtin "min") (λvs H Q=>∃l xs ts i f,vs=[.ref l]/\H l=some (.lst xs)/\zy H xs ts/\Z2 ts=some (i :: f)/\Q (.int (jg (λa b=>decide (a < b)) i f)) H):=by
 intro y s U H vs Z Q I g h;obtain⟨l,xs,ts,i,f,rfl,B,r,F,q⟩:=h;obtain⟨u,rfl,N⟩:=Zn g;obtain rfl:u=Value.ref l:=N;obtain⟨o,g,p,_⟩:=zL I (.inl B) r;obtain⟨c,M,k⟩:=JX r g F;have e:o.toArray=intItems c.toArray:=by rw[M];simp[intItems]
 rw[e]at p;have d:=by have:=congrArg i6 k;simpa using this
 refine min_intList S p (by simp[d]) λv h' tk C kp=> ?_
 obtain⟨t,rfl⟩:=intItems_at C;obtain⟨P,b2⟩:=argBest_lt _ (c.toArray.size - 1);have hsz:c.toArray.size=c.length:=by simp
 rw[hsz]at P b2 ⊢;obtain⟨x,G⟩:=Wl f i;have O:numAt c.toArray (argBest (λi j=>decide (numAt c.toArray i < numAt c.toArray j)) (c.length - 1))=jg (λa b=>decide (a < b)) i f:=by
  refine mm ?_ (G _ ?_)
  ·rw[← k]at x;obtain⟨j,J,D⟩:=cS.mp x;rw[← D];have w :=by simpa using J
   rw[← jZ c j w];exact b2 j (by omega)
  ·rw[jZ c _ (by omega),← k]
   exact iD _
 rw[O];exact⟨.int _,H,I.kept kp,⟨t,rfl⟩,q⟩
theorem Mf (o:X.A.handled=none)(j:Gl X "min")(d:X.mg "min"=none)(g:jz X Y a fa)(f:mY X a:=by exact mQ rfl):Snd X Y (.Call (.Name "min" p) [a] [] pos) (mw Kq fa):=
 JT (qx o) (λv t B H Q r c q=>by
  cases r with
  | @lst l xs ts h r=>
   have q:Po Y rC B H (match Z2 ts with | some (i :: l)=> .ok (.int (jg (λa b=>decide _) i l)) | _=> .bad) Q:=q
   split at q
   ·rename_i i k e;exact⟨l,xs,ts,i,k,rfl,h,r,e,mV c q rfl (.int _)⟩
   ·exact q.elim
  | _=>exact q.elim) j d PyProof.Rows.Boot.«min» g f
end
section
end
noncomputable def Jf:List T->Option (List (Str×Int))
 | []=>some []
 | .tup [.str x,.int i] :: r=>match Jf r with | some l=>some ((x,i) :: l) | none=>none
 | _ :: _=>none
def qy (t k:T):R T:=match t,k with
 | .tup ts,.str x=>match Jf ts with
  | some l=>if (l.map (·.1)).Nodup then (match l.lookup x with | some i=> .ok (.int i) | none=> .bad) else .bad
  | none=> .bad
 | _,_=> .bad
def uj:T->R T
 | .tup ts=>match Jf ts with
  | some l=>if (l.map (·.1)).Nodup then .ok (.int (l.map (·.2)).sum) else .bad
  | none=> .bad
 | _=> .bad
def VM (j:Nat)(a:En->R T)(g:List T->R T):En->RS:=λρ=>((a ρ).bind λt=>(vE j ρ).bind λk=>(qy t k).bind λx=>(uj t).bind λy=>g [x,y]).s λt=> .rt t
section
end
noncomputable def Ga:T->T->R T
 | .int i,.int j=>if 0 < j/\j.natAbs.log2 < 9000 then .ok (.int (i / j)) else .bad
 | _,_=> .bad
section
theorem Fh:mO X (binaryOp .FloorDiv) (L2.rI (λ_ j=>0 < j/\j.natAbs.log2 < 9000) λi j=> .int (i / j)):=sw λi j _ _ _ _ _ a q=>by
 exact floordiv_int (by omega) (by rw[g_ i (by omega)];exact q) (.inl (PyProof.noPylong_of_log2 a.2))
theorem Kr:mO X (binaryOp .FloorDiv) (rG Y Ga):=by
 intro c s g H x y v u Q I f k h;obtain⟨B,t,t',e,r,d,q⟩:=h;cases r with
 | int i=>
  cases d with
  | int j=>
   by_cases a:0 < j/\j.natAbs.log2 < 9000
   ·exact Fh _ s g H _ _ v u Q I f k ⟨i,j,rfl,rfl,a,mV e q (if_pos a) (.int _)⟩
   ·rw[show Ga (.int i) (.int j)= .bad from if_neg a]at q;exact q.elim
  | _=>exact q.elim
 | _=>cases d <;> exact q.elim
theorem FH (d:Snd X Y a fa)(c:Snd X Y b fb):Snd X Y (.BinOp a .FloorDiv b pos) (zd Ga fa fb):=uT Kr d c
end
noncomputable def big:Nat:=2 ^ 8000
def ot:T->T->R T
 | .int i,.int j=>if i.natAbs < big/\j.natAbs < big then .ok (.int (i*j)) else .bad
 | _,_=> .bad
theorem UE (h:i.natAbs < big):l9 i<=2 ^ 20:=by
 unfold l9;split
 ·exact bf _
 ·rename_i a;have a:i.natAbs ≠ 0:=λz=>a (by rw[Int.natAbs_eq_zero.mp z];rfl)
  have c:=(Nat.log2_lt a).mpr h;omega
section
theorem E3:mO X (binaryOp .Mult) (L2.rI (λi j=>i.natAbs < big/\j.natAbs < big) λi j=> .int (i*j)):=sw λi j _ _ _ _ _ a q=>mul_int q (IntMulOk.of_bits (UE a.1) (UE a.2))
theorem Hk:mO X (binaryOp .Mult) (rG Y ot):=by
 intro c s g H x y v u Q I f k h;obtain⟨B,t,t',e,r,d,q⟩:=h;cases r with
 | int i=>
  cases d with
  | int j=>
   by_cases a:i.natAbs < big/\j.natAbs < big
   ·exact E3 _ s g H _ _ v u Q I f k ⟨i,j,rfl,rfl,a,mV e q (if_pos a) (.int _)⟩
   ·rw[show ot (.int i) (.int j)= .bad from if_neg a]at q;exact q.elim
  | _=>exact q.elim
 | _=>cases d <;> exact q.elim
theorem Bi (d:Snd X Y a fa)(c:Snd X Y b fb):Snd X Y (.BinOp a .Mult b pos) (zd ot fa fb):=uT Hk d c
end
theorem Ks:typeLookup (.type "tuple") "keys"=pure none:=by rw[typeLookup_type,builtinLookup_eq_fast];kernel_rfl
theorem Kt:typeLookup (.type "tuple") "__getattr__"=pure none:=by rw[typeLookup_type,builtinLookup_eq_fast];kernel_rfl
section
theorem VN {c:Array (Option Value)}{u:Tok}{Q:PySem.Fin->Shared->Prop}(f:A.handled=none)(a:s.heap.get? l=some { cls:= .type "tuple",dict:=none,data:= .seq its n,slots:=c })
  (h:∀h' tk e,Heap.NewAttrErr s.heap h' e (.ref l) "keys"->E (.ref e) { s with heap:=h',toks:=tk }):
  wpAny (model prog w) A (Builtin.«object.__getattribute__» ⟨[.ref l,.str "keys" u],[]⟩) Q E s:=by
 obtain⟨hp,g,d,tk,os⟩:=s;have hT:(⟨hp,g,d,tk,os⟩:Shared).TypeIs (.ref l) "tuple":=⟨_,a,rfl⟩;have i:=Ks;unfold Builtin.«object.__getattribute__»
 repeat (any_goals (first | assumption | wp_step))
 exact wpAny_raiseAttrError f h (attrMsg_fits (by decide+kernel) (by decide+kernel))
end
section
theorem Ku {l:Addr}{a:Array Value}{n:Nat}{d:Array (Option Value)}{u:Tok}{R:Result->Shared->Prop}(f:A.handled=none)(c:s.heap.get? l=some { cls:= .type "tuple",dict:=none,data:= .seq a n,slots:=d })
  (h:∀h' tk e,Heap.NewAttrErr s.heap h' e (.ref l) "keys"->R (.error (.ref e)) { s with heap:=h',toks:=tk }):
  codeAny (model prog w) A (.call (.builtin "tuple.__getattribute__") ⟨[.ref l,.str "keys" u],[]⟩) R s:=
 codeAny_call_builtin cH.plain F.entry_tuple_ga (cH.check _ _ _ _ _ _ _ _ (show s.TypeIs _ _ from ⟨_,c,rfl⟩) (F.args_tuple_getattribute_2 _ _) (VN f c h))
theorem Kv {l:Addr}{a:Array Value}{n:Nat}{j:Array (Option Value)}{Q:Option Value->Shared->Prop}(p:A.handled=none)(f:s.heap.get? l=some { cls:= .type "tuple",dict:=none,data:= .seq a n,slots:=j })
  (h:∀h' tk,(∀b o,s.heap.get? b=some o->h'.get? b=some o)->Q none { s with heap:=h',toks:=tk }):
  wpAny (model prog w) A (getAttr? (.ref l) "keys") Q E s:=by
 obtain⟨hp,g,d,tk,os⟩:=s;have hT:∀t,(⟨hp,g,d,t,os⟩:Shared).TypeIs (.ref l) "tuple":=λ_=>⟨_,f,rfl⟩;have v:=sub_AttributeError;have r:=cH.lookup;have x:=cH.bind (.ref l);have u:=Kt;unfold getAttr? getAttrBy? getAttrBy
 repeat (any_goals (first | assumption | exact hT _ | wp_step))
 refine Ku (s:=⟨hp,g,d,tk+1,os⟩) p f λh' c e i=> ?_;obtain⟨t',q,k⟩:=i.there;have hE:(⟨h',g,d,c,os⟩:Shared).TypeIs (.ref e) "AttributeError":=⟨_,k,rfl⟩;show wpAny _ _ (getattributeRaised _ _ _ _ _ _ _) _ _ _;unfold getattributeRaised
 repeat (any_goals (first | assumption | wp_step))
 exact h _ _ i.keeps
end
noncomputable def Zk (h:Heap)(c:List Value)(d:List (Str×Int)):Prop:=Paired (λv (p:Str×Int)=>∃a t u n ob,v=Value.ref a/\h.get? a=some ob/\ob.cls= .type "tuple"/\ob.data= .seq #[.str p.1 t,.int p.2 u] n) c d
theorem Zk.keep {c:List (Str×Int)}(x:Zk h its c)(k:∀b o,h.get? b=some o->h'.get? b=some o):Zk h' its c:=
 Paired.mapP x λv p ⟨a,t,u,n,ob,d,e,f⟩=>⟨a,t,u,n,ob,d,k _ _ e,f⟩
theorem Zk.off {h h' :Heap}{D I:Addr}(k:∀b o,b ≠ D->b ≠ I->h.get? b=some o->h'.get? b=some o):∀{c:List Value} {f:List (Str×Int)},Zk h c f->(∀v a,v∈c->v=Value.ref a->a ≠ D/\a ≠ I)->Zk h' c f
 | _,_,.nil,_=> .nil
 | _,_,.cons r q,e=>by
  obtain⟨a,t,u,n,ob,d,j,p⟩:=r;obtain⟨l,i⟩:=e _ a aa d;exact .cons ⟨a,t,u,n,ob,d,k _ _ l i j,p⟩ (Zk.off k q λv b g=>e v b (a9 _ g))
def KVs (kvs:List (mM×Value))(a:List (Str×Int)):Prop:=Paired (λ(q:mM×Value) (p:Str×Int)=>q.1=Sum.inr p.1/\∃t,q.2=Value.int p.2 t) kvs a
theorem KVs.snoc:∀{kvs:List (mM×Value)} {a:List (Str×Int)} {x:Str} {i:Int} {t:Tok},KVs kvs a->KVs (kvs++[(Sum.inr x,.int i t)]) (a++[(x,i)])
 | _,_,x,i,t,.nil=> .cons ⟨rfl,t,rfl⟩ .nil
 | _,_,x,i,t,.cons r q=> .cons r (KVs.snoc q)
theorem KVs.keys:∀{kvs:List (mM×Value)} {a:List (Str×Int)},KVs kvs a->kvs.map (·.1)=a.map λp=>(Sum.inr p.1:mM)
 | _,_,.nil=>rfl
 | _,_,.cons r q=>by rw[ar,ar,r.1,KVs.keys q]
theorem KVs.len {kvs:List (mM×Value)}{a:List (Str×Int)}(h:KVs kvs a):kvs.length=a.length:=by
 have:=congrArg i6 h.keys;simpa using this
theorem yM {kvs:List (mM×Value)}{k:mM}(h:k ∉ kvs.map (·.1)):stored kvs k v=kvs++[(k,v)]:=by
 unfold stored;rw[if_neg];intro z;rw[fB]at z;obtain⟨q,a,e⟩:=z;exact h (aA.mpr ⟨q,a,of_decide_eq_true e⟩)
section
variable {prog:Program}{w:World}{A:Around}{R:Result->Shared->Prop}{I:Addr}{fp wr:List Addr}{n:Nat}{P:Nat->Value->Prop}{St:Nat->Heap->Prop}
theorem UF:entryFor table "dict.update.loop"=some Builtin.«dict.update.loop»:=entryFor_of_tree (by kernel_rfl)
theorem UG:plainId "dict.update.loop"=true:=by decide+kernel
theorem Jg {d a:Type}{F:d->a->Prop}:∀{xs:List d} {c:List a} {i:Nat} {y:a},Paired F xs c->c[i]? =some y->∃x,xs[i]? =some x/\F x y
 | _,_,_,_,.nil,h=>by simp at h
 | _,_,0,y,.cons r _,h=>by simp at h;subst h;exact⟨_,rfl,r⟩
 | _,_,i+1,y,.cons _ q,h=>by
  obtain⟨x,e,r⟩:=Jg q (by simpa using h)
  exact⟨x,by simpa using e,r⟩
theorem wS {c d:Type}{F:c->d->Prop}:∀{xs:List c} {a:List d},Paired F xs a->xs.length=a.length
 | _,_,.nil=>rfl
 | _,_,.cons _ q=>by simp[wS q]
theorem qz {l:Addr}{k:List Value}{c:List (Str×Int)}(hh:A.handled=none)(I D:Addr)(S:l ≠ I)(hD:D ≠ I)(hDl:D ≠ l)(nd:(c.map (·.1)).Nodup)(hps:c.length<=sizeLine)(kw:Value):
  ∀(m i:Nat) (s:Shared) (kvs:List (mM×Value)) (q:Tok),c.length - i=m->i<=c.length->s.heap.IsTupleIter I l i->s.heap.IsTuple l k.toArray->Zk s.heap k c->(∀v a,v∈k->v=Value.ref a->a ≠ D/\a ≠ I)->
   s.heap.DictOf (Z0 prog w) D kvs->KVs kvs (c.take i)->
   (∀h' tk d,(∀b o,b ≠ D->b ≠ I->s.heap.get? b=some o->h'.get? b=some o)->h'.DictOf (Z0 prog w) D d ->KVs d c->R (.ok (.ret kw)) { s with heap:=h',toks:=tk })->
   codeAny (model prog w) A (.builtin "dict.update.loop" ⟨[.ref D,.ref I,.int (i:Int) q,kw],[]⟩) R s:=by
 intro m
 induction m with
 | zero=>
  intro i s kvs q hm hi f Q hp O hd r hR;obtain rfl:i=c.length:=by omega
  refine bQ UF ?_;unfold Builtin.«dict.update.loop»;dsimp only;have hl:=wS hp;refine a8 (wpAny_pyNext_tuple_end hh f Q (by simp[hl]) λh' he=> ?_)
  rw[List.take_length]at r;refine a8 (c9 (a:=()) rfl (ac ?_));exact hR h' s.toks kvs (λb o _ hb e=>he b o hb e) (hd.extBut he hD) r
 | succ m ih=>
  intro i s kvs q hm hi f Q hp O hd r hR;refine bQ UF ?_;unfold Builtin.«dict.update.loop»;dsimp only;have C :i < c.length:=by omega
  have ei:=ah C;obtain⟨v,ev,a,t,u,n,ob,rfl,ga,ca,da⟩:=Jg hp ei;refine a8 (wpAny_pyNext_tuple_item f Q (x:= .ref a) (by simpa using ev) λh1 F sb=> ?_)
  obtain⟨naD,naI⟩:=O _ a (bg ev) rfl;have G:=(sb.2 a naI).trans ga;have Z:=hd.sameBut sb hD;have U:fL { s with heap:=h1 } (.ref a) "tuple":=⟨_,G,ca⟩;refine a8 (bp (a8 (cD ?_)));refine a8 (dS U ?_);refine a8 (bM G da (ac ?_));have B:(Sum.inr c[i].1) ∉ kvs.map (·.1):=by
   rw[r.keys];intro z;obtain⟨p,X,e⟩:=aA.mp z;have e:p.1=c[i].1:=by injection e
   obtain⟨j,hj,ej⟩:=cS.mp X;rw[db]at hj;rw[List.getElem_take]at ej;have hji:j < i:=by omega
   have:=(dY.mp nd) j i (by rw[ae];omega) (by rw[ae];exact C) hji
   rw[iA,iA]at this;exact this (by rw[ej,e])
  have hz:kvs.length<=sizeLine:=by rw[r.len,db];exact av (Nat.min_le_right _ _) hps
  refine bp (wpAny_dictSet_pairs (jH _ _ _ _) Z λh2 y J=> ?_);rw[yM B]at y;refine ac ⟨cf UG _, ?_⟩;have hk2:KVs (kvs++[(Sum.inr c[i].1,.int c[i].2 u)]) (c.take (i+1)):=by
   rw[List.take_succ,ei];exact r.snoc
  have g:∀b o,b ≠ D->b ≠ I->s.heap.get? b=some o->h2.get? b=some o:=λb o N M e=>(J.2 b N).trans ((sb.2 b M).trans e);have:=ih _ { s with heap:=h2,toks:=s.toks+1 } _ 0 (by omega) (by omega) (F.extBut J.extBut (bj hD)) (lN.at Q λo e=>g l o (bj hDl) S e) ?_ O y hk2 (λh' tk d k' d' q' =>hR h' tk _ (λb o N M e=>k' b o N M (g b o N M e)) d' q')
  ·exact this
  ·exact hp.off g O
end
theorem Zk.mem {h:Heap}:∀{d:List Value} {i:List (Str×Int)},Zk h d i->∀{v:Value} {a:Addr},v∈d->v=Value.ref a->∃o,h.get? a=some o
 | _,_,.nil,_,_,c,_=>by simp at c
 | _,_,.cons r q,v,a,c,e=>by
  rcases ak.mp c with z | c
  ·obtain⟨b,t,u,n,ob,f,g,_⟩:=r;subst z;rw[e]at f;cases f;exact⟨_,g⟩
  ·exact Zk.mem q c e
section
theorem qA {l:Addr}{g:List Value}{x:List (Str×Int)}{n:Nat}{P:Array (Option Value)}{Q:Value->Shared->Prop}(N:A.handled=none)(J:s.heap.get? l=some { cls:= .type "tuple",dict:=none,data:= .seq g.toArray n,slots:=P })
  (hp:Zk s.heap g x) (nd:(x.map (·.1)).Nodup) (y:x.length<=sizeLine)
  (h:∀h' tk kvs,(∀b o,s.heap.get? b=some o->h'.get? b=some o)->h'.DictOf (Z0 prog w) s.heap.objs.size kvs->KVs kvs x->Q (.ref s.heap.objs.size) { s with heap:=h',toks:=tk }):
  wpAny (model prog w) A (call (.type "dict") [.ref l]) Q E s:=by
 refine callType_codes (Q₁:=λobj d=>obj= .ref _/\d={ s with heap:=s.heap.push _ }) F.kt_called_dict (F.kt_typeCall_dict_1 _) F.entry_dict_init (kt_code_dict_new _ ⟨rfl,rfl⟩) ?_
 rintro obj d ⟨rfl,rfl⟩
 generalize M:s.heap.push _=G;have c:G.DictOf (Z0 prog w) s.heap.objs.size []:=by rw[← M];exact Heap.DictOf.new _
 have D:∀b o,s.heap.get? b=some o->G.get? b=some o:=λb o e=>by rw[← M];exact ab _ e
 have I:=D _ _ J;have f:=au J;have hT:fL { s with heap:=G } (.ref l) _:=⟨_,I,rfl⟩;refine⟨c.typeIs,F.args_dict_init_2 _ _, ?_⟩;refine a8 ?_;refine a8 (wpAny_notOrdered_dict c.typeIs ?_);refine ac ?_;refine a8 (dS hT ?_);refine a8 (Kv N I λi tk1 j=> ?_);refine a8 (du ?_);have k:=j _ _ I;have B:i.IsTuple l _:=⟨_,k,rfl,n,rfl⟩;refine a8 (cC B ?_);generalize p:i.push _=G2;have u:s.heap.objs.size < i.objs.size:=by
  obtain⟨o,_,_,e,_⟩:=id c;exact au (j _ _ e)
 have q:∀b o,i.get? b=some o->G2.get? b=some o:=λb o e=>by rw[← p];exact ab _ e
 have U:G2.get? i.objs.size=some { cls:= .type "tuple_iterator",data:= .fields #[.ref l,.int 0 0] }:=by rw[← p];exact af _ rfl
 have C:G2.DictOf (Z0 prog w) s.heap.objs.size []:=by
  obtain⟨o,Z,ep,e,r⟩:=c;exact⟨o,Z,ep,q _ _ (j _ _ e),r⟩
 refine ac ⟨cf UG _, ?_⟩;refine qz (A:=A.in1) N _ _ (aF (fY f u)) (aF u) (cO f) nd y _ _ 0 _ [] 0 rfl (bf _) ⟨_,U,rfl,rfl⟩ ⟨_,q _ _ k,rfl,n,rfl⟩ (hp.keep λb o e=>q b o (j b o (D b o e))) (λv a O e=> ?_) C .nil λh' tk kvs S dd X=> ?_
 ·obtain⟨o,eo⟩:=hp.mem O e;have:=au eo;exact⟨aF this,aF (fY this u)⟩
 ·refine⟨rfl,h h' tk kvs (λb o e=>S b o (aF (au e)) (aF (fY (au e) u)) (q b o (j b o (D b o e)))) dd X⟩
end
abbrev o6 (ps:List (Str×Int)):List (mM×V):=ps.map λp=>(Sum.inr p.1,V.int p.2)
theorem Ez:∀{kvs:List (mM×Value)} {a:List (Str×Int)},KVs kvs a->KV (o6 a) kvs
 | _,_,.nil=> .nil
 | _,_,.cons r q=>by
  obtain⟨e,t,c⟩:=r;exact .cons ⟨e.symm,⟨t,c⟩⟩ (Ez q)
theorem qB:∀{a:List (Str×Int)} {kvs:List (mM×Value)},KV (o6 a) kvs->KVs kvs a
 | [],_,.nil=> .nil
 | p :: a,_,.cons r q=>by
  obtain⟨e,t,c⟩:=r;exact .cons ⟨e.symm,t,c⟩ (qB q)
theorem Xh:∀{kvs:List (mM×Value)} {c:List (Str×Int)} {x:Str} {i:Int},KVs kvs c->c.lookup x=some i->∃t,valueAt kvs (Sum.inr x)=some (.int i t)
 | _,_,x,i,.nil,h=>by simp at h
 | _,_,x,i,.cons (b:=p) r rs,h=>by
  obtain⟨e,t,d⟩:=r;rw[aQ]at h
  by_cases a:x=p.1
  ·have:(x == p.1)=true:=by simp[a]
   rw[this]at h;cases h;unfold valueAt;rw[dC,show decide _=true from decide_eq_true (by rw[e,a])]
   simp[d]
  ·have:=beq_eq_false_iff_ne.mpr a;rw[this]at h;obtain⟨t',h'⟩:=Xh rs h;refine⟨t', ?_⟩;unfold valueAt at h' ⊢;rw[dC,show decide _=false from decide_eq_false (by rw[e];intro z;injection z with z;exact a z.symm)]
   exact h'
theorem qC {a:List (Str×Int)}(h:Jf (t :: ts)=some a):∃x i l,t= .tup [.str x,.int i]/\Jf ts=some l/\a=(x,i) :: l:=by
 unfold Jf at h;split at h
 ·rename_i e;cases e
 ·rename_i x i r e;injection e with e1 e2;subst e1 e2;split at h
  ·rename_i l c;cases h;exact⟨x,i,l,rfl,c,rfl⟩
  ·cases h
 ·cases h
theorem qD:∀{ts:List T} {a:List (Str×Int)},Jf ts=some a->a.length=ts.length
 | [],_,h=>by cases h;rfl
 | t :: ts,a,h=>by
  obtain⟨x,i,l,rfl,c,rfl⟩:=qC h;simp[qD c]
theorem IT (h:zy H ys [.str x,.int i]):ys=[.str x,.int i]:=by
 cases h with
 | cons c h=>
  cases c;cases h with
  | cons a h=>
   cases a;cases h;rfl
theorem Kw (h:Vals [V.str x,V.int i] its):∃t u,its=[.str x t,.int i u]:=by
 obtain⟨d,e,rfl,⟨a,rfl⟩,⟨c,rfl⟩⟩:=uR h;exact⟨a,c,rfl⟩
theorem VO {p:L2.St}(I:Inv X pins p H s)(r:Rep H v (.tup [.str x,.int i]))(e:RelV v u):
  ∃a t l n ob,u=Value.ref a/\s.heap.get? a=some ob/\ob.cls= .type "tuple"/\ob.data= .seq #[.str x t,.int i l] n:=by
 cases r with
 | @tup a B _ k y=>
  obtain rfl:u=Value.ref a:=e;have hy:=IT y;subst hy;obtain⟨_,d,c,⟨ob,f,o,n,q⟩,_⟩:=(show zQ _ X.w H _ a _ from I.hok a _ k);obtain⟨g,j,rfl⟩:=Kw c;exact⟨a,g,j,n,ob,rfl,f,o,q⟩
theorem UH {X:Cx}{d:List (Addr×Obj)}{u:L2.St}{H:Hp}{s:Shared}(I:Inv X d u H s):∀{xs:List V} {ts:List T} {c:List Value} {f:List (Str×Int)},zy H xs ts->Vals xs c->Jf ts=some f->Zk s.heap c f/\∀(i:Int) t,c[0]? ≠ some (Value.int i t)
 | _,_,_,f,.nil,q,h=>by cases q;cases h;exact⟨.nil,λ_ _ z=>by simp at z⟩
 | _,_,_,f,.cons r rs,q,h=>by
  cases q with
  | cons g vs=>
  obtain⟨x,i,l,rfl,o,rfl⟩:=qC h;obtain⟨p,_⟩:=UH I rs vs o;obtain⟨a,j,k,n,ob,rfl,e⟩:=VO I r g;exact⟨.cons ⟨a,j,k,n,ob,rfl,e⟩ p,λ_ _ z=>by simp at z⟩
section
theorem big_of {a:L2.St}(I:Inv X pins a H s):sysModules < s.heap.objs.size:=fY (by decide) (I.mod.glob.keeps I.bk).lt
theorem yN (O:X.A.handled=none):Z7 X (.type "dict") (λvs H Q=>∃l xs ts a,vs=[.ref l]/\H l=some (.tup xs)/\zy H xs ts/\Jf ts=some a/\(a.map (·.1)).Nodup/\
  ∀q,H q=none->Q (.ref q) (mz H q (.dK (o6 a)))):=by
 intro p s U H vs Z Q I g h;obtain⟨l,xs,ts,a,rfl,B,r,v,nd,q⟩:=h;obtain⟨u,rfl,J⟩:=Zn g;obtain rfl:u=Value.ref l:=J;obtain⟨hz,F,g,⟨⟨c,dd,S,P⟩,x,D,n,hd⟩,d⟩:=(show zQ _ X.w H _ l _ from I.hok l _ B);subst D hd;obtain⟨G,C⟩:=UH I r g v;have y:a.length<=sizeLine:=by rw[qD v,← r.length];exact hz
 have f:dd=none:=by
  rcases d with ⟨i,t,e⟩ | ⟨o,j,M⟩
  ·exact absurd (by simpa using e) (C i t)
  ·rw[x]at j;cases j;exact M
 subst f;refine qA O x G nd y λh' tk kvs k dd N=> ?_;refine⟨.ref _,_,I.laid k (am _) ?_,rfl,q _ (I.hok.fresh (am _))⟩;exact⟨by rw[ae];exact y,beq_eq_false_iff_ne.mpr (bj (aF (big_of I))),kvs,Ez N,dd⟩
theorem Hf:IxR X (λx y H Q=>∃a f k i,x= .ref a/\y= .str k/\H a=some (.dK (o6 f))/\f.lookup k=some i/\Q (.int i) H):=by
 intro c d g s C H x y v u Q I j B h l;obtain⟨p,f,k,i,rfl,rfl,hp,o,q⟩:=h;cases j;obtain⟨t,rfl⟩:=B;obtain⟨hz,D,vs,r,m⟩:=(show zQ _ X.w H _ p _ from I.hok p _ hp);obtain⟨t',e⟩:=Xh (qB r) o;exact tail_any m.typeIs slot_dict_getitem.lookup (wpAny_getItem_of (jH _ _ _ _) m.mapOf e ⟨.int i,H,I.tok _,⟨_,rfl⟩,q⟩) l
theorem qE:pC X "dict.values" (λx xs H Q=>∃a f,x= .ref a/\xs=[]/\H a=some (.dK (o6 f))/\∀r,H r=none->Q (.ref r) (mz H r (.ext λh=>h.IsValuesView r a))):=by
 intro d s B H x xs v0 v Q I k g h;obtain⟨a,f,rfl,rfl,l,q⟩:=h;obtain rfl:v0=Value.ref a:=k;cases g;obtain⟨hz,j,vs,r,m⟩:=(show zQ _ X.w H _ a _ from I.hok a _ l);refine call_meetsIn eG m.typeIs PySem.F.entry_dict_values (PySem.F.args_dict_values_1 _) (meets_dict_values _ a j) ⟨⟨vs,m⟩, ?_⟩;have c:s.heap.objs.size<=s.heap.objs.size:=am _;refine⟨.ref _,_,I.laid (λb o e=>ab _ e) c ?_,rfl,q _ (I.hok.fresh c)⟩;exact⟨⟨_,af _ rfl,rfl,rfl⟩,⟨_,af _ rfl⟩,λy u ⟨o,i,p⟩ e=>⟨o,e _ i,p⟩⟩
theorem qF (val:Nat->Int):∀n:Nat,preSum val n=((aN n).map val).sum
 | 0=>rfl
 | n+1=>by
  rw[iN,cM,List.sum_append,← qF val n];simp[preSum]
theorem qG (S:X.A.handled=none):Z7 X (.builtin "sum") (λvs H Q=>∃r j a c,vs=[.ref r]/\H r=some (.ext j)/\(∀h:Heap,j h->h.IsValuesView r a)/\H a=some (.dK (o6 c))/\Q (.int (c.map (·.2)).sum) H):=by
 intro C s Z H vs us Q I J h;obtain⟨r,j,a,c,rfl,hr,g,D,q⟩:=h;obtain⟨u,rfl,N⟩:=Zn J;obtain rfl:u=Value.ref r:=N;obtain⟨M,_,_⟩:=(show zQ _ X.w H _ r _ from I.hok r _ hr);obtain⟨hz,hS,vs,G,m⟩:=(show zQ _ X.w H _ a _ from I.hok a _ D);obtain⟨ep,y⟩:=m.dictAt;have p:=qB G;have K:=PySem.W.kdl_values (prog:=X.prog) (knd:=Z0 _ X.w) (r:=r) (d:=a) (kvs:=vs) (ep:=ep);refine call_sum_walkAnyS ?_;obtain⟨U,St,l,W,st⟩:=K.iter X.A.in1 s S ⟨g _ M,y⟩;refine l _ _ ⟨s.heap.objs.size,_,_,_,_,_,_,λi=>((c[i]?).map (·.2)).getD 0,rfl,W.toS,st,λb x=> ?_,λi v f=> ?_,λs' t' F=> ?_⟩
 ·rw[size_push'];rcases ak.mp x with e | x
  ·rw[e];exact fA _
  ·rw[aq.mp x];exact cQ (I.hok.lt D)
 ·obtain⟨k,f⟩:=f;have hi:i < c.length:=by rw[← p.len];exact(ay.mp f).1
  obtain⟨q',B,e2,t,P⟩:=Jg p (ah hi);rw[f]at B;cases B;exact⟨t,by dsimp only;rw[ah hi];exact P⟩
 ·have kp:=λb o e=>
   F.heap b o (λz=>absurd (au e) (by rw[aq.mp z];exact bE _)) (ab _ e)
  rw[Moved.eq_with F];have O:preSum (λi=>((c[i]?).map (·.2)).getD 0) vs.length=(c.map (·.2)).sum:=by
   rw[qF,p.len];congr 1
   refine dL λi=> ?_;rw[ao,ao]
   by_cases hi:i < c.length
   ·simp[hi]
   ·rw[aP (by simp;omega),aP (by omega)];rfl
  rw[O];exact⟨.int _,H,I.kept kp,⟨_,rfl⟩,q⟩
end
theorem Kx (h:qy t k= .ok v):∃ts a x i,t= .tup ts/\k= .str x/\Jf ts=some a/\(a.map (·.1)).Nodup/\a.lookup x=some i/\v= .int i:=by
 unfold qy at h;split at h
 ·rename_i ts x;split at h
  ·rename_i l e;split at h
   ·rename_i nd;split at h
    ·rename_i i c;cases h;exact⟨ts,l,x,i,rfl,rfl,e,nd,c,rfl⟩
    ·cases h
   ·cases h
  ·cases h
 ·cases h
theorem qH (t k:T):(∃v,qy t k= .ok v)\/qy t k= .bad:=by
 unfold qy;split
 ·split
  ·split
   ·split
    ·exact .inl ⟨_,rfl⟩
    ·exact .inr rfl
   ·exact .inr rfl
  ·exact .inr rfl
 ·exact .inr rfl
section
theorem VP {a:List (Str×Int)}(c:t= .tup ts)(e:Jf ts=some a)(nd:(a.map (·.1)).Nodup):uj t= .ok (.int (a.map (·.2)).sum):=by
 subst c;unfold uj;dsimp only;rw[e];dsimp only;rw[if_pos nd]
theorem Ky (hij:i ≠ j)(hy:Y.cl=cl)(F:wD X.prog X.w X.K X.mg X.base mT jf fo fd ps (spP cl 2 g))(hr:ja k X.A)(hjf:jf<=k)(gf:Gl X f)
  (mf:X.mg f=some (.ref fo)) (kp:d0 X.K (.ref fo)=true) (bd:L2.Binds X.K fd ps []) (hN:X.N.Nodup) (hi:X.N[i]? =some x) (hx:L2.Loc X.env.scope x) (gl:Gl X "dict") (mg:X.mg "dict"=none) (gs:Gl X "sum") (ms:X.mg "sum"=none)
  (pi:PE X (.Name x p3) (W6 i)) (pj:PE X (.Name y p4) (W6 j)) (ha:Snd X Y a fa) (pi' :PE X (.Name x p5) (W6 i):=by exact Jn (by rfl) (by rfl)) (hs:mY X a:=by exact mQ rfl)
  (hsw:swapsWith (.Call (.Name "dict" p2) [a] [] pa) (some (.Name x p1)) pb.line X.env=pure false:=by rfl) (hf:X.fn x=true\/X.env.scope.names.lookup x=some .local:=by first | exact .inl rfl | exact .inr rfl | assumption) (hd:(f == ("__debug__":Str))=false:=by decide)
  (J:attributeBase (.Name x p5) "values" X.env (eval (.Name x p5) X.env)=eval (.Name x p5) X.env:=by rfl) (hli:(p6.endLine == p7.line)=true:=by rfl):
  We X Y [.Assign [.Name x p1] (.Call (.Name "dict" p2) [a] [] pa) pb,.Return (some (.Call (.Name f p8) [.Subscript (.Name x p3) (.Name y p4) p9,.Call (.Name "sum" pc) [.Call (.Attribute (.Name x p5) "values" p6) [] [] p7] [] pd] [] pos)) pos'] (VM j fa g):= .mk λρ=>by
 subst hy;have hh:=hr.hd;have G :starEach [.Subscript (.Name x p3) (.Name y p4) p9,.Call (.Name "sum" pc) [.Call (.Attribute (.Name x p5) "values" p6) [] [] p7] [] pd] X.env=(false,eval _ X.env) :: starEach _ X.env:=zD rfl;have W:=(jr (wM hN hi hx (ZZ (yN hh) gl mg PyProof.Rows.Boot.«dict» (zm (ha ρ) zH hs) (by decide) (by decide) hs rfl) hsw hf)
  (Jb (wL (pos:=pos') (jb (E:=Y.E) (p:=p8) (pos:=pos) F (hr.mono hjf) gf mf kp bd .nil uW
   (zm (GJ Hf pi pj (λ_ _=>rfl)) (zm (ZM (qG hh) gs ms PyProof.Rows.Boot.«sum» (zm (xU eL eG io qE pi' J hli) zH (mQ rfl)) (by decide) (by decide) (mQ rfl) rfl) zH (mQ rfl)) G) hd G (zT rfl)))))
 intro P s Z H D Iv ⟨B,I,q⟩;have O:i < Z.length:=by rw[Iv.len];exact(ay.mp hi).1
 refine W P s Z H D Iv ?_;have q' :PoS Y B ((fa ρ).s λt=>(((vE j ρ).bind λk=>(qy t k).bind λx=>(uj t).bind λy=>g [x,y]).s λt=> .rt t)) D:=by
  have e:VM j fa g ρ=((fa ρ).s λt=>(((vE j ρ).bind λk=>(qy t k).bind λx=>(uj t).bind λy=>g [x,y]).s λt=> .rt t)):=by
   unfold VM;cases fa ρ <;> rfl
  rw[← e];exact q
 refine Je I q' λt v H1 _ s1 r1 U C=> ?_;unfold vE at C;split at C
 ·rename_i kk e;obtain⟨u,eu,ru⟩:=U.vl j kk e;have C:PoS Y _ (((qy t kk).bind λx=>(uj t).bind λy=>g [x,y]).s λt=> .rt t) D:=C;rcases qH t kk with ⟨v',e'⟩ | e'
  ·obtain⟨ts,qs,z,m,rfl,rfl,e1,nd,ei,rfl⟩:=Kx e';rw[e']at C;rw[VP rfl e1 nd]at C;have C:PoS Y _ ((g _).s λt=> .rt t) D:=C;cases r1 with
   | @tup l xs _ h r=>
    cases ru;refine⟨l,xs,ts,qs,rfl,U.sB _ _ h,r.mono U.sB,e1,nd,λw hw=> ?_⟩;have gi:(Z.set i (some (V.ref w)))[i]? =some (some (V.ref w)):=by rw[be O]
    have gj:(Z.set i (some (V.ref w)))[j]? =some (some (V.str z)):=by rw[aB hij];exact eu
    refine⟨_,gi,_,gj,w,qs,z,m,rfl,rfl,zl,ei, ?_⟩;refine⟨_,gi,.inr (.inr (.inl ⟨rfl,.inl ⟨_,zl⟩⟩)),w,qs,rfl,rfl,zl,λy hy=> ?_⟩;have Q:y ≠ w:=λe=>by rw[e,zl]at hy;cases hy
    have hy1:=by rw[zi Q]at hy;exact hy
    refine⟨y,_,w,qs,rfl,zl,λh z=>z,by rw[zi (bj Q)];exact zl, ?_⟩
    have S:zo H1 (mz (mz H1 w (.dK (o6 qs))) y (.ext λh=>h.IsValuesView y w)):=λb o J=>by
     have n1:b ≠ w:=λe=>by rw[e,hw]at J;cases J
     have n2:b ≠ y:=λe=>by rw[e,hy1]at J;cases J
     rw[zi n2,zi n1];exact J
    have M:=U.grow S;refine⟨_,[.int m,.int _],rfl,M.sB,.cons (.int _) (.cons (.int _) .nil), ?_⟩;revert C;cases g _ with
    | bad=>exact λC=>C
    | ex c=>exact λC d H' s sB=>C d H' (M.sH.trans s) ((zF.ge U.sB S).trans sB)
    | ok t=>exact λC b H' s r=>C b H' (M.sH.trans s) (r.mono (Ur M.sH M.old s M.sB))
  ·rw[e']at C;exact C.elim
 ·exact C.elim
end
section
end
section
end
end PV
namespace PySem.RV
open PySem PySem.Spec PyProof.Rows PySem.Builtin.SmallTypes
section
end
end PySem.RV
namespace PV
open PySem PySem.Spec PyProof.Rows L2
section
end
section
section
end
end
section
end
section
end
end PV
namespace PV
open PySem PySem.W PyProof.Rows
section
variable {α β:Type}
noncomputable def Gd (lt:Nat->Nat->Bool)(n:Nat):KasT α->(α->Prop)->Prop
 | .ret a,P=>P a
 | .ask i j k,P=>(i < n/\j < n/\i ≠ j)/\Gd lt n (k (lt i j)) P
theorem Gd.mono {lt:Nat->Nat->Bool}{P c :α->Prop}(h:∀a,P a->c a):∀(t:KasT α),Gd lt n t P->Gd lt n t c
 | .ret a,g=>h a g
 | .ask i j k,⟨d,g⟩=>⟨d,Gd.mono h _ g⟩
theorem Gd.bind {lt:Nat->Nat->Bool}{P:β->Prop}{f:α->KasT β}:∀(t:KasT α),Gd lt n t (λa=>Gd lt n (f a) P)->Gd lt n (t.bind f) P
 | .ret a,g=>g
 | .ask i j k,⟨c,g⟩=>⟨c,Gd.bind _ g⟩
theorem Gd.wp {lt:Nat->Nat->Bool}{c:Nat->Nat->(Bool->Shared->Prop)->Shared->Prop}{J:Shared->Prop}(f:∀i j C s,i < n->j < n->i ≠ j->J s->(∀d,J d ->C (lt i j) d)->c i j C s){P:α->Prop}{Q:α->Shared->Prop}(l:∀a s,P a->J s->Q a s):∀(t:KasT α) (s:Shared),Gd lt n t P->J s->t.kasWp c Q s
 | .ret a,s,g,j=>l a s g j
 | .ask i j k,s,⟨⟨q,o,p⟩,g⟩,js=>f i j _ s q o p js λd e =>Gd.wp f l _ d g e
end
section
variable {O:KeyOrd}{key:Nat->O.α}
noncomputable abbrev kp (key:Nat->O.α)(p:Array Nat)(i:Nat):O.α:=key (p.getD i 0)
structure Pm (n:Nat) (p:Array Nat):Prop where
 sz:p.size=n
 pm:p.toList.Perm (aN n)
theorem Pm.lt {p:Array Nat}(h:Pm n p)(hi:i < n):p.getD i 0 < n:=by
 have a:i < p.size:=by rw[h.sz];exact hi
 have e:p.getD i 0=p[i]:=by simp[lw,a]
 rw[e];exact aT.mp (h.pm.mem_iff.mp (Array.getElem_mem_toList a))
theorem Pm.inj {p:Array Nat}(h:Pm n p)(hi:i < n)(f:j < n)(e:p.getD i 0=p.getD j 0):i=j:=by
 have c:i < p.size:=by rw[h.sz];exact hi
 have a :j < p.size:=by rw[h.sz];exact f
 have d:p.getD i 0=p[i]:=by simp[lw,c]
 have g:p.getD j 0=p[j]:=by simp[lw,a]
 rw[d,g]at e;have nd:=h.pm.nodup_iff.mpr List.nodup_range;have:=(dQ (h₀:=by simpa using c) (h₁:=by simpa using a) nd).mp (by simpa using e)
 exact this
def So (key:Nat->O.α)(p:Array Nat)(m:Nat):Prop:=∀i j,i < j->j < m->O.klt (kp key p i) (kp key p j)
theorem Wm {p q:Array Nat}(h:p[i]? =q[j]?):p.getD i 0=q.getD j 0:=by
 have e:∀(a:Array Nat) (k:Nat),a.getD k 0=(a[k]?).getD 0:=λa k=>by simp
 rw[e,e,h]
variable (hk:∀i j,i < n->j < n->key i=key j->i=j)
include hk
theorem Kz {p:Array Nat}(h:Pm n p)(hi:i < n)(c:j < n)(a:i ≠ j)(d:O.blt (kp key p i) (kp key p j)=false):O.klt (kp key p j) (kp key p i):=by
 cases q:O.blt _ _ with
 | true=>exact q
 | false=>exact absurd (h.inj hi c (hk _ _ (h.lt hi) (h.lt c) (O.total _ _ d q))) a
omit hk in
theorem So.snoc {p:Array Nat}(h:So key p m)(g:1<=m)(e:O.klt (kp key p (m - 1)) (kp key p m)):So key p (m+1):=λi j a f=>by
 by_cases c:j=m
 ·subst c
  by_cases d:i=j - 1
  ·rw[d];exact e
  ·exact cY (h i _ (by omega) (by omega)) (eW e)
 ·exact h i j a (by omega)
theorem qI {p:Array Nat}(hp:Pm n p):∀(f m:Nat),1<=m->m+f=n->So key p m->Gd (λi j=>O.blt (key i) (key j)) n (kas_asc p f m) λr=>m<=r/\r<=n/\So key p r/\(r < n->O.klt (kp key p r) (kp key p (r - 1)))
 | 0,m,_,e,h=>⟨am _,by omega,h,λz=>by omega⟩
 | f+1,m,d,e,h=>by
  refine⟨⟨hp.lt (by omega),hp.lt (by omega),λz=>absurd (hp.inj (by omega) (by omega) z) (by omega)⟩, ?_⟩
  show Gd _ n (if O.blt _ _=true then .ret m else kas_asc p f _) _
  cases q:O.blt _ _ with
  | true=>exact⟨am _,by omega,h,λ_=>q⟩
  | false=>
   exact Gd.mono (λr ⟨a,b,c⟩=>⟨by omega,b,c⟩) _ (qI hp f _ (by omega) (by omega) (h.snoc d (Kz hk hp (by omega) (by omega) (by omega) q)))
def De (key:Nat->O.α)(p:Array Nat)(m:Nat):Prop:=∀i j,i < j->j < m->O.klt (kp key p j) (kp key p i)
theorem qJ {p:Array Nat}(hp:Pm n p):∀(f m:Nat),2<=m->m+f=n->De key p m->Gd (λi j=>O.blt (key i) (key j)) n (kas_desc f p m 0) λr=>r.1=p/\r.2.2=0/\m<=r.2.1/\r.2.1<=n/\De key p r.2.1
 | 0,m,_,l,h=>⟨rfl,rfl,am _,by show m<=n;omega,h⟩
 | f+1,m,v,l,h=>by
  refine⟨⟨hp.lt (by omega),hp.lt (by omega),λz=>absurd (hp.inj (by omega) (by omega) z) (by omega)⟩, ?_⟩
  show Gd _ n (if O.blt _ _=true then (if 0 > 0 then kas_desc f _ _ 0 else kas_desc f p _ 0) else .ask _ _ λd=>if d=true then .ret _ else kas_desc f p _ _) _
  cases q:O.blt _ _ with
  | true=>
   refine Gd.mono (λr ⟨a,b,c,d⟩=>⟨a,b,by omega,d⟩) _ (qJ hp f _ (by omega) (by omega) λi j e u=> ?_)
   by_cases g:j=m
   ·subst g
    by_cases k:i=j - 1
    ·rw[k];exact q
    ·exact cY (show O.klt _ _ from q) (eW (h i _ (by omega) (by omega)))
   ·exact h i j e (by omega)
  | false=>
   refine⟨⟨hp.lt (by omega),hp.lt (by omega),λz=>absurd (hp.inj (by omega) (by omega) z) (by omega)⟩, ?_⟩
   have o:O.blt _ _=true:=Kz hk hp (by omega) (by omega) (by omega) q
   show Gd _ n (if O.blt _ _=true then .ret _ else _) _
   rw[if_pos o];exact⟨rfl,rfl,am _,by show m<=n;omega,h⟩
omit hk in
theorem Xi {p:Array Nat}(hp:Pm n p)(i j:Nat):Pm n (kas_rev p i j):=⟨(mirror_size _ _ _ _).trans hp.sz,(hZ.mp (mirror_perm p i j _)).trans hp.pm⟩
omit hk in
theorem qK {p:Array Nat}(hp:Pm n p)(c:m<=n)(a :k < m):(kas_rev p 0 m).getD k 0=p.getD (m - 1 - k) 0:=by
 refine Wm ?_;unfold kas_rev;rw[getElem?_mirror_all (by rw[hp.sz];exact c),if_pos ⟨bf _,a⟩]
 congr 1
 omega
theorem jw {p:Array Nat}(hp:Pm n p)(F:2<=n):Gd (λi j=>O.blt (key i) (key j)) n (kas_count n p) λr=>1<=r.1/\r.1<=n/\Pm n r.2/\So key r.2 r.1:=by
 refine Gd.bind _ (Gd.mono (λm ⟨a,b,c,d⟩=> ?_) _ (qI hk hp _ 1 (am _) (by omega) λi j g k=>by omega))
 by_cases f:m=n
 ·rw[if_pos (by simpa using f)]
  exact⟨a,b,hp,c⟩
 ·rw[if_neg (by simpa using f)]
  by_cases l:m > 1
  ·rw[if_pos l];refine⟨⟨hp.lt (by omega),hp.lt (by omega),λz=>absurd (hp.inj (by omega) (by omega) z) (by omega)⟩, ?_⟩
   have q:O.blt _ (kp key p (m - 1))=true:=c 0 _ (by omega) (by omega)
   show Gd _ n (if O.blt _ _=true then .ret _ else _) _
   rw[if_pos q];exact⟨a,b,hp,c⟩
  ·have e:m=1:=by omega
   subst e;have y:=d (by omega)
   refine Gd.bind _ (Gd.mono (λr ⟨B,x,G,o,u⟩=> ?_) _ (qJ hk hp _ _ (by omega) (by omega) λi j g k=>by
    have:i=0/\j=1:=by omega
    rw[this.1,this.2];exact y))
   rw[x,B];refine Gd.bind _ (Gd.mono (λC ⟨D,w,v,_⟩=>⟨by omega,w,Xi hp 0 _,v⟩) _ (qI hk (Xi hp 0 _) _ _ (by omega) (by omega) λi j g k=> ?_))
   unfold kp;rw[qK hp o (by omega),qK hp o k]
   exact u _ _ (by omega) (by omega)
theorem Wn {p:Array Nat}(hp:Pm n p)(c:k < n)(g:So key p k):∀(f l r:Nat),r<=k->l<=r->r - l<=f->(∀i,i < l->O.klt (kp key p i) (kp key p k))->(∀i,r<=i->i < k->O.klt (kp key p k) (kp key p i))->
  Gd (λi j=>O.blt (key i) (key j)) n (kas_place p k f l r) λm=>m<=k/\(∀i,i < m->O.klt (kp key p i) (kp key p k))/\∀i,m<=i->i < k->O.klt (kp key p k) (kp key p i)
 | 0,l,r,v,x,y,o,u=>⟨by omega,o,λi hi a=>u i (by omega) a⟩
 | f+1,l,r,v,x,y,o,u=>by
  unfold kas_place
  by_cases d:l ≥ r
  ·rw[if_pos d];exact⟨by omega,o,λi hi a=>u i (by omega) a⟩
  ·rw[if_neg d];refine⟨⟨hp.lt c,hp.lt (by omega),λz=>absurd (hp.inj c (by omega) z) (by omega)⟩, ?_⟩
   show Gd _ n (if O.blt _ _=true then kas_place p k f l _ else kas_place p k f _ r) _
   cases q:O.blt _ _ with
   | true=>
    refine Wn hp c g f l _ (by omega) (by omega) (by omega) o λi hi a=> ?_
    by_cases e:i=(l+r) / 2
    ·rw[e];exact q
    ·exact cY (q) (eW (g _ _ (by omega) a))
   | false=>
    refine Wn hp c g f _ r v (by omega) (by omega) (λi hi=> ?_) u
    have w:=Kz hk hp c (by omega) (by omega) q
    by_cases e:i=(l+r) / 2
    ·rw[e];exact w
    ·exact cY (g _ _ (by omega) (by omega)) (eW w)
omit hk in
theorem qL {p:Array Nat}(hp:Pm n p)(a:k < n)(c:l<=k):(bubble p k (k - l)).getD i 0=if i=l then p.getD k 0 else if l < i/\i<=k then p.getD (i - 1) 0 else p.getD i 0:=by
 have h:=getElem?_bubble (by rw[hp.sz];exact a) (k - l) (by omega) i
 rw[show k - (k - l)=l by omega]at h
 repeat' split at h
 all_goals first | (rw[if_pos (by assumption)];exact Wm h) | (rw[if_neg (by assumption),if_pos (by assumption)];exact Wm h) | (rw[if_neg (by assumption),if_neg (by assumption)];exact Wm h)
theorem Xj:∀(f:Nat) (p:Array Nat) (k:Nat),Pm n p->k+f=n->So key p k->Gd (λi j=>O.blt (key i) (key j)) n (kas_bin f p k) λq=>Pm n q/\So key q n
 | 0,p,k,hp,d,h=>⟨hp,by rw[← d];exact h⟩
 | f+1,p,k,hp,d,h=>by
  unfold kas_bin;refine Gd.bind _ (Gd.mono (λl ⟨a,b,c⟩=> ?_) _ (Wn hk hp (by omega) h k 0 k (am _) (bf _) (by omega) (λi hi=>by omega) λi hi o=>by omega))
  refine Xj f _ _ ⟨(bubble_size _ _ _).trans hp.sz,(hZ.mp (bubble_perm p k _)).trans hp.pm⟩ (by omega) λi j g r=> ?_
  unfold kp;rw[qL hp (by omega) a,qL hp (by omega) a]
  by_cases hi:i=l
  ·rw[if_pos hi,if_neg (by omega),if_pos ⟨by omega,by omega⟩]
   exact c _ (by omega) (by omega)
  ·rw[if_neg hi]
   by_cases e :j=l
   ·rw[if_pos e,if_neg (by omega)]
    exact b i (by omega)
   ·rw[if_neg e]
    by_cases x:l < i/\i<=k
    ·rw[if_pos x,if_pos ⟨by omega,by omega⟩]
     exact h _ _ (by omega) (by omega)
    ·rw[if_neg x]
     by_cases y:l < j/\j<=k
     ·rw[if_pos y];exact h _ _ (by omega) (by omega)
     ·rw[if_neg y];exact h _ _ g (by omega)
theorem U0 (e:2<=n):Gd (λi j=>O.blt (key i) (key j)) n (kas_sort n) λq=>Pm n q/\So key q n:=by
 refine Gd.bind _ (Gd.mono (λr ⟨a,b,c,d⟩=> ?_) _ (jw hk ⟨by simp,by simp⟩ e))
 by_cases h:r.1 < n
 ·rw[if_pos h,show max r.1 1=r.1 by omega]
  exact Xj hk _ _ _ c (by omega) d
 ·rw[if_neg h];exact⟨c,by rw[show n=r.1 by omega];exact d⟩
end
end PV
namespace PV
open PySem PySem.Spec PyProof.Rows L2
section
end
section
end
section
open PySem.W PySem.Calls
variable {O:KeyOrd}{key:Nat->O.α}
end
section
open PySem.W PySem.Calls
end
section
variable {X:Cx}{Y:Fx}{a:Expr}{fa:En->R T}{p pos:Pos}
theorem uk (r:zy H xs ts):∀(c:List Nat),(∀i∈c,i < ts.length)->zy H (c.map λi=>xs.getD i V.non) (c.map λi=>ts.getD i T.non)
 | [],_=> .nil
 | i :: c,h=>by
  have hi:=h i aa;obtain⟨v,d,f⟩:=r.get (ah hi);have k:xs.getD i V.non=v:=by rw[cF,d];rfl
  have e:ts.getD i T.non=ts[i]:=by rw[cF,ah hi];rfl
  rw[ar,ar,k,e];exact .cons f (uk r c λj g=>h j (a9 _ g))
theorem ul (r:L2.Vals xs us):∀(c:List Nat),(∀i∈c,i < xs.length)->L2.Vals (c.map λi=>xs.getD i V.non) (c.map λi=>us.getD i Value.none)
 | [],_=> .nil
 | i :: c,h=>by
  have hi:=h i aa;obtain⟨u,d,f⟩:=r.get (ah hi);have k:us.getD i Value.none=u:=by rw[cF,d];rfl
  have e:xs.getD i V.non=xs[i]:=by rw[cF,ah hi];rfl
  rw[ar,ar,k,e];exact .cons f (ul r c λj g=>h j (a9 _ g))
end
end PV
namespace PV
open PySem PySem.Spec PyProof.Rows L2
theorem KA (i:zo B H)(s:zo H H1)(q:Po Y rC B H r Q):Po Y rC (zF B H H1) H1 r Q:=by
 cases r with
 | bad=>exact q
 | ex c=>exact λd e a b=>q d e a ((zF.ge i s).trans b)
 | ok t=>exact λb e f g =>q b e (s.trans f) (by rw[zF.trans s f]at g;exact g)
section
end
section
open HT in
open HT in
end
section
end
end PV
namespace PV
open PySem PySem.Spec PyProof.Rows L2
end PV
namespace L2
open PySem PySem.Spec PyProof.Rows PySem.W
structure Lm (X:Cx) (c P:Addr) (q:Str):Prop where
 code:X.env.code= .ref c
 hd:codeHdIn X.K c P=true
 bt:X.base.BuiltinsAt X.mg P
 ql:X.env.qual++"<lambda>"=q
def Wo (H:Hp)(q:Str)(c:Addr):Prop:=∃a vs t,H c=some (.frz a (.own c))/\a.data= .fields vs/\vs[1]? =some (.str q t)
theorem Wo.mono (s:zo H H')(h:Wo H q c):Wo H' q c:=let ⟨oc,vs,t,e,r⟩:=h;⟨oc,vs,t,s _ _ e,r⟩
theorem Wo.rec (x:Wo H q c)(ok:HOk P w H h):h.CodeRec (.ref c) q:=by
 obtain⟨a,vs,t,e,d,v⟩:=x;exact⟨c,a,vs,t,rfl,(ok c _ e).1,d,v⟩
theorem wT {p e :Pos}{c d:Value}:∀(l:List Value),TriplesOk l->codeAmong p (l++[rawInt e.line,rawInt e.col,c])=some d->codeAmong p l=some d\/d=c
 | [],_,h=>by
  right
  simp only[bP,rawInt,codeAmong]at h;split at h
  ·exact(aH h).symm
  ·cases h
 | .int a t :: .int b u :: x :: r,ok,h=>by
  simp only[fE,codeAmong]at h ⊢;split at h
  ·rename_i z;rw[if_pos z];exact .inl h
  ·rename_i z;rw[if_neg z];exact wT r (by simpa only[TriplesOk] using ok) h
noncomputable abbrev sV (q:Str)(params:Arguments)(body:Expr)(scope:Scope)(clos:List (Str×Addr))(pm ctv:Value)(c:Addr):Obj:=kla_obj "<lambda>" q params body scope clos pm c ctv
theorem Me (L:Lm X c P q)(J:defaultsOf params X.env=([],[]))(G:closureFor scope X.env=pure clos):
  PE X (.Lambda params body scope pos) (λσ H Q=>H P=some (.tbl #[] q)/\∀f d pm g Z,zo H Z ->Z f=some (.frz (sV q params body scope clos pm g d) (.own f))->Wo Z q d ->Q (.ref f) Z):=by
 intro B s σ H Q I ⟨hP,h⟩;obtain⟨j,eP,tr,al⟩:=I.hok P _ hP;have C:=codeHd_of_K I.kIn L.hd;have hg:=I.ok.mod.glob.keeps I.bk;have hB:s.heap.BuiltinsAt X.mg P:=by
  obtain⟨bm,o,b1,b2,b3,b4,b5,b6⟩:=L.bt;exact⟨bm,o,b1,b2,b3,b4,I.bk _ _ b5,b6⟩
 have hgP:mainGlobals ≠ P:=λz=>by
  obtain⟨o,es,ep,e,hd,_⟩:=hg;rw[z,eP]at e;cases e;cases hd
 have i:∀{H2:Hp} {f:Addr} {o:Obj} {h2:Heap},h2.get? f=some o->zQ X.prog X.w H2 h2 f (.frz o (.own f)):=λe=>⟨e,_,e⟩;refine kla_eval J ?_;rw[L.ql];cases hf:codeAmong pos _ with
 | some cv=>
  obtain⟨d,y,vs,t,rfl,e2,e3,e4⟩:=al pos cv hf;refine kla_makeFunctionHit G I.ok.glob hg L.code C eP tr hf hB λg h' tk hk hsz=> ?_;have k:=I.hok.fresh hsz;have e5:(h'.push (sV q params body scope clos ((X.mg "__name__").getD .none) g d)).get? _=some _:=af _ rfl;refine⟨.ref _,_,I.laid (λb u e=>ab _ (hk b u e)) hsz (i e5),rfl, ?_⟩;exact h _ d _ g _ (PV.zo.new k _) zl (Wo.mono (PV.zo.new k _) ⟨y,vs,t,e2,e3,e4⟩)
 | none=>
  refine kla_makeFunction G I.ok.glob hg L.code C eP tr hf hgP hB λd g h' tk U O S M F=> ?_;obtain⟨c₂,y,vs,t,e2,hoc,hd,hv⟩:=M;cases e2;have hc0:=I.hok.fresh O;have x:∀b,H b=none->b ≠ P:=λb n z=>by rw[z,hP]at n;cases n
  have mW:∀b o,s.heap.get? b=some o->b ≠ d :=λb o e=>aF (aL (au e) O);have l:zo H (mz H d (.frz y (.own d))):=PV.zo.new hc0 _;have hl:(#[]++j++ #[rawInt pos.line,rawInt pos.col,Value.ref d]).toList=(#[]++j).toList++[rawInt pos.line,rawInt pos.col,Value.ref d]:=by simp
  have hok:HOk _ X.w (mz H d _) h' :=λb u e=>by
   by_cases N:b=d
   ·subst N;rw[zl]at e;cases e;exact i hoc
   ·rw[zi N]at e
    by_cases D:b=P
    ·subst D;rw[hP]at e;cases e;refine⟨j++ #[rawInt _,rawInt _,Value.ref d],by rw[← h_];exact F,by rw[← h_,hl];exact TriplesOk_snoc _ _ _ _ tr,λp cv z=> ?_⟩
     rw[← h_,hl]at z;rcases wT _ tr z with z | rfl
     ·obtain⟨c2,oc2,vs2,t2,a1,a2,a3⟩:=al p cv z;exact⟨c2,oc2,vs2,t2,a1,l _ _ a2,a3⟩
     ·exact⟨d,y,vs,t,rfl,zl,hd,hv⟩
    ·refine(I.hok b u e).stay (λa v ha r =>U a v (λz=> ?_) r) (λ_ r =>l _ _ r) (λ_ _ r =>l _ _ r) λ_ _ _ r =>l _ _ r;subst z;rcases ha with z | z
     ·exact D z.symm
     ·rw[hP]at z;cases z
  have I1:Inv X B σ (mz H d (.frz y (.own d))) { s with heap:=h',toks:=s.toks }:=by
   refine I.step (ch:=[]) (λ_ z=>nomatch z) (λb o _ _ _ e n=>U b o (x b n) e) (λb o _ _ _ e n=>⟨o.slots,U b o (x b n) e⟩) (λb o _ e n=>by rw[zi (mW b o e)];exact n) (λb o _ e=> ?_) (λ_ _ e=>l _ _ e) (λ_ _ _ e=>l _ _ e) (λ_ _ _ e=>l _ _ e) (λm hm=>hm.extBut U (x _ I.free)) hok I.bare
   by_cases N:b=P
   ·exact⟨_,N ▸ F⟩
   ·exact⟨o,U b o N e⟩
  have k:mz H d (.frz y (.own d)) h'.objs.size=none:=by rw[zi (cO S)];exact I1.hok.fresh (am _) |> λz=>by rw[zi (cO S)]at z;exact z
  have e5:(h'.push (sV q params body scope clos ((X.mg "__name__").getD .none) g d)).get? _=some _:=af _ rfl;refine⟨.ref _,_,I1.laid (λb u e=>ab _ e) (am _) (i e5),rfl, ?_⟩;have s2:zo _ (mz _ _ (.frz (sV q params body scope clos ((X.mg "__name__").getD .none) g d) (.own h'.objs.size))):=PV.zo.new k _;exact h _ d _ g _ (l.trans s2) zl (Wo.mono s2 ⟨y,vs,t,zl,hd,hv⟩)
end L2
namespace L2
open PySem PySem.Spec PyProof.Rows PySem.W
def Xk (s:Shared)(H:Hp)(a:List Addr):Heap:=hideAll s.heap (Be s.heap H++a)
theorem UI (e:s.heap.get? b=some o)(n:H b=none)(a:b ∉ fr):(Xk s H fr).get? b=some o:=
 hideAll_get _ e λc=>by
  rcases aW.mp c with z | z
  ·have q:=(bA.mp z).2;rw[n]at q;cases q
  ·exact a z
theorem KC (e:(Xk s H fr).get? b=some o):s.heap.get? b=some o/\H b=none:=by
 have a :=of_hideAll _ e;refine⟨a, ?_⟩;cases q:H b with
 | none=>rfl
 | some x=>
  have c:b∈Be _ H++fr:=dM _ (bA.mpr ⟨aT.mpr (au a),by simp[q]⟩)
  have z:(Xk s H fr).get? b=none:=hideAll_none _ c;rw[z]at e;cases e
theorem Mod.keeps {K:Frag}{c:Str->Option Value}{b d :Heap}(m:Mod K c b)(k:∀a o,b.get? a=some o->d.get? a=some o):Mod K c d :=
 ⟨m.kin.keeps k,m.glob.keeps k,let ⟨mb,h1,h2⟩:=m.blt;⟨mb,h1.keeps k,h2⟩,m.nolimit.keeps k⟩
section
theorem Inv.big_of (I:Inv X pins σ H s):∀b o,X.base.get? b=some o->(Xk s H (ng X.stack)).get? b=some o:=λb o e=>by
 refine UI (I.bs b o e).1 (I.bs b o e).2 λa=> ?_;have:=(I.stack.mem a).1;rw[e]at this;cases this
theorem Inv.big (I:Inv X pins σ H s):xS X.prog X.w X.K X.mg (Xk s H (ng X.stack)) X.A X.stack s H:=
 ⟨I.ok.frames,I.ok.mod.keeps I.big_of,λb o e=>KC e,Nat.le_of_eq (hideAll_size _ _),funFrames_hide I.stack λenv c a d=>aG _ (g7.mpr ⟨env,c,d⟩),I.stkFree,I.hok,I.bare⟩
end
def sA (P:Program)(w:World)(K:Frag)(mg:Str->Option Value)(base:Heap)(N:List Str)(q:Str)(scope:Scope)(f:Addr)(cd:Value)(a:List (Str×Addr))(A:Around)(outer:List Env)(s:Shared)(H:Hp)(E:XK):Cx where
 prog:=P
 w:=w
 K:=K
 mg:=mg
 base:=base
 A:=A.deeper (envX q scope s.heap.objs.size f cd a)
 N:=N
 s₀:=s
 H₀:=H
 env:=envX q scope s.heap.objs.size f cd a
 outer:=outer
 stack:=envX q scope s.heap.objs.size f cd a :: outer
 ex:=[]
 calm:=true
 fn:=λ_=>false
 pn:=[]
 xe:=λe d =>wpAny (model P w) (A.deeper (envX q scope s.heap.objs.size f cd a)) (leaving (envX q scope s.heap.objs.size f cd a) e) (λ_ c =>nc P w outer H s E e c) (λg c =>nc P w outer H s E g c) d
section
variable {P:Program}{w:World}{K:Frag}{mg:Str->Option Value}{base:Heap}{N:List Str}{q:Str}{scope:Scope}{f:Addr}{cd:Value}{clos:List (Str×Addr)}{A:Around}{outer:List Env}{s:Shared}{H:Hp}{E:XK}
structure Dt (scope:Scope):Prop where
 kind:scope.kind= .function
 co:scope.isCoroutine=false
 gen:scope.isGenerator=false
 nocell:∀x∈scope.names,x.2 ≠ .cell
structure qM (base:Heap) (H:Hp) (scope:Scope) (clos:List (Str×Addr)) (N:List Str) (σ:St):Prop where
 inj:∀x y c,clos.lookup x=some c->clos.lookup y=some c->x=y
 has:∀x∈scope.names,x.2= .free->∃c,clos.lookup x.1=some c
 cell:∀x c,clos.lookup x=some c->(∃v,base.IsCell c v)/\H c=none
 loc:∀(i:Nat) (x:Str) (v:V),N[i]? =some x->σ[i]? =some (some v)->∃u c,RelV v u/\clos.lookup x=some c/\base.IsCell c (some u)/\scope.names.lookup x=some .free
 len:σ.length=N.length
theorem wU {h h' :Heap}{c:Addr}{v:Option Value}(k:∀a o,h.get? a=some o->h'.get? a=some o)(x:h.IsCell c v):h'.IsCell c v:=let ⟨o,e,d⟩:=x;⟨o,k _ _ e,d⟩
end
end L2
namespace L2
open PySem PySem.Spec PyProof.Rows PySem.W
end L2
namespace PV
open PySem PySem.Spec PyProof.Rows L2 PySem.W
section
end
section
variable {P:Program}{w:World}{K:ai}{mg:Str->Option Value}{base:Heap}
def qN (cl:Nat->Value)(n:Nat)(g:List T->R T)(a:Addr)(q:Str):Sp:=λvs H Q E=>H a=some (.tbl #[] q)/\spP cl n g vs H Q E
theorem Mb {cl:Nat->Value}{x d q:Str}{st:Stmt}{f c y:Addr}{j:FuncData}{N p:List Str}{k n:Nat}{o:En->RS}{g:List T->R T}(F:Fun K x d st f j)(M:j.code= .ref c)(S:jJ N p (zf st))(hn:n=p.length)
  (U:∀(A:Around) (outer:List Env) (s:Shared) (H:Hp) (E:XK) (Y:Fx),Y.cl=cl->Y.E=E->Y.H0 y=some (.tbl #[] q)->ja k (A.deeper (envOfC d (zf st) s.heap.objs.size f (.ref c)))->
   We (jC (nc P w) P w K mg base N d (zf st) f (.ref c) A outer s H E) Y (Z1 st) o)
  (O:∀ts,ts.length=n->g ts=zk (o (mB N.length ts))):wD P w K mg base (nc P w) (k+1) f j p (qN cl n g y q):=by
 subst hn;obtain⟨oc,od,kV,J,pm,an,cdv,ct,Z,rfl,lk,u⟩:=F.ex;obtain rfl:cdv= .ref c:=M;refine kl lk u S (λvs H Q E z=>spP.len vs H Q E z.2) λA outer s H vs Q E hr ⟨hT,B,ts,C,D,r,q⟩=> ?_;refine⟨_,U A _ s H E ⟨B,H,E,cl,[]⟩ rfl rfl hT hr _,B,SI.start D r, ?_⟩;rw[O ts C]at q;revert q;cases o _ with
 | rt t=>exact λq v i s r=>q v i s r
 | rf t=>exact λq a xs i X G n e r _ l=>q _ i G (.lst (by rw[zM n];exact e) (r.mono l))
 | nx ρ=>exact λq σ' i X _ I=>q _ i I.sH .non
 | ex c=>exact λq=>q
 | bk ρ=>exact λq=>q.elim
 | ct ρ=>exact λq=>q.elim
 | bad=>exact λq=>q
end
end PV
namespace L2
open PySem PySem.Spec PyProof.Rows PySem.W
theorem qO {P:Program}{w:World}{K:Frag}{D mb:Str->Option Value}{CX:nX}{k:Nat}{fa a c i:Addr}{fd:FuncData}{x q:Str}{sp:Sp}{f:Shared}{vs:List Value}{M:List Int}
  (KX:K.In f.heap) (hns:f.heap.Ns mainGlobals D) (hb:f.heap.Ns builtinsNs mb) (hbb:∀x:Str,x ≠ "__name__"->mb x=bootBuiltins x) (N:f.heap.NoLimit) (hg:f.gens= #[])
  (G:f.heap.get? a=some { cls:= .type "list",data:= .seq vs.toArray }) (hi:IntsAre vs M) (hl:M.length<=sizeLine) (hr:ja k callerA)
  (hbt:f.heap.BuiltinsAt D i) (g:f.heap.get? i=some (tabObj #[])) (hKP:K.lookup i=none) (hC:codeHdIn K c i=true) (Z:K.lookup a=none)
  (F:∀base:Heap,K.In base->base.BuiltinsAt D i->wD P w K D base CX k fa fd [x] sp) (C:∀(s:Shared) (u:Value),BindsTo s fd ⟨[u],[]⟩ [(x,u)])
  (hsp:∀(H:Hp) (o:Obj),H a=some (.frz o (.lst (M.map V.int)))->H i=some (.tbl #[] q)->sp [.ref a] H (λv _=>v= .bl true) λ_ _ _=>False)
  (hCX:∀H e l,CX [] H f (λ_ _ _=>False) e l ->False):
  codeAny (model P w) callerA (.call (.ref fa) ⟨[.ref a],[]⟩) (λr l =>r= .ok (.ret (.bool true))/\OldK f.heap l.heap/\l.os=f.os/\AllBare l.gens) f:=by
 have rv:=jT hi;have hne:i ≠ a:=λz=>by rw[z,G]at g;cases g
 obtain⟨H,hH⟩:∃H:Hp,H=mz (mz (λ_=>none) i (.tbl #[] q)) a (.frz { cls:= .type "list",data:= .seq vs.toArray } (.lst (M.map V.int))):=⟨_,rfl⟩;have Q:H a=some (.frz { cls:= .type "list",data:= .seq vs.toArray } (.lst (M.map V.int))):=by rw[hH,zl]
 have I:H i=some (.tbl #[] q):=by rw[hH,zi hne,zl]
 have O:∀b,b ≠ a->b ≠ i->H b=none:=λb n1 n2=>by rw[hH,zi n1,zi n2]
 have hok:HOk P w H _:=λb o e=>by
  by_cases y:b=a
  ·subst y;rw[Q]at e;cases e;exact⟨G,by rw[ae];exact hl,vs,_,rv,G⟩
  ·by_cases b2:b=i
   ·subst b2;rw[I]at e;cases e;exact⟨#[],g,trivial,λp cv z=>by cases z⟩
   ·rw[O b y b2]at e;cases e
 have noD:∀{b:Addr} {o:Obj} {X:Array _} {ep:Nat},f.heap.get? b=some o->o.data= .dict X ep->H b=none:=λ{b o X ep} e d=>O b (λz=>by rw[z,G]at e;cases e;cases d) λz=>by rw[z,g]at e;cases e;cases d
 have B:∀{b:Addr} {m:Str->Option _},f.heap.Ns b m->(G5 _ H).Ns b m:=λ{b m} ⟨o,X,ep,e,d,r⟩=>⟨o,X,ep,W5 e (noD e d),d,r⟩;have S:=λb o e=>W5 (KX b o e) (O b (λz=>by rw[z,Z]at e;cases e) λz=>by rw[z,hKP]at e;cases e)
 have hM:Mod K D _:=⟨S,B hns,⟨mb,B hb,hbb⟩,let ⟨mc,Q,I⟩:=N;⟨mc,B Q,I⟩⟩;have hBT:(G5 f.heap H).BuiltinsAt D i:=by
  obtain⟨bm,o,y,b2,b3,b4,b5,b6,b7,b8⟩:=hbt;exact⟨bm,o,y,b2,b3,b4,W5 b5 (O bm (λz=>by rw[z,G]at b5;cases b5;cases b8) b4),b6,b7,b8⟩
 have e0:xS P w K D _ callerA [] _ H:=⟨rfl,hM,λb o e=>k3 e,Nat.le_of_eq (Yh _ _),trivial,λb hb=>absurd (show b∈([]:List _) from hb) (by simp),hok,.of_eq hg⟩
 refine eN ((F _ S hBT).run _ [] _ H _ _ [.ref a] _ _ hr e0 (C _ _) (.cons rfl .nil) (hsp H _ Q I)) λr l h=> ?_;cases r with
 | error e=>exact(hCX H e l h).elim
 | ok fl=>
  cases fl with
  | next=>exact cq h
  | brk=>exact cq h
  | cont=>exact cq h
  | ret u=>
   obtain⟨v,H',os,J,un,j,r',qv⟩:=h;have q' :=qv;subst q';obtain rfl:u=Value.bool _:=r';refine⟨rfl,⟨λb o e=> ?_,λb o e=>un.there b o e (by simp)⟩,os,J⟩
   by_cases y:b=a
   ·subst y;have z2:=un.frzs b _ _ Q;obtain⟨e2,_⟩:=j b _ z2;rw[G]at e;cases e;exact .inl e2
   ·by_cases b2:b=i
    ·subst b2;obtain⟨U,e2,_⟩:=j b _ (un.tbls b _ _ I);rw[g]at e;cases e;exact .inr (.inl ⟨((codeHd_of_K KX hC).tab g).isCodeTable,rfl, #[],U,rfl,e2⟩)
    ·exact .inl (un.keep b o e (O b y b2) (by intro z;exact absurd (show b∈([]:List _) from z) (by simp)) (by simp))
theorem walk_ofT {l:OpenLaw}{n k:Nat}{q:Program}{y:List Str}{XP:(Str->Option Value)->Heap->Prop}{YP:World->Heap->Prop}{d:DefRec}{K:Params->Frag}{ts:List Addr}{CX:World->nX}{sp:World->Addr->Sp}{x nm:Str}
  (hn:l.most=some n) (Z:n<=sizeLine) (hdf:d.params.defaults=[]) (hr:ja k callerA)
  (hY:∀(w:World) (h:Heap),YP w h->(K w.params).In h/\∀P∈ts,h.get? P=some (tabObj #[])) (O:∀(w:World) (a:Addr) (o:Obj),(K w.params).lookup a=some o->o.cls ≠ .type "list")
  (F:∀(w:World) (B:Str->Option Value) (I:Addr) (h:Heap),(K w.params).In h->h.Ns mainGlobals B->B d.name=some (.ref I)->(∀P∈ts,h.get? P=some (tabObj #[]))->
   ∃(M:FuncData) (c i:Addr),(∀(s:Shared) (u:Value),BindsTo s M ⟨[u],[]⟩ [(x,u)])/\h.get? i=some (tabObj #[])/\(K w.params).lookup i=none/\codeHdIn (K w.params) c i=true/\
    ∀base:Heap,(K w.params).In base->base.BuiltinsAt B i->wD l.prog w (K w.params) B base (CX w) k I M [x] (sp w i))
  (X:∀(w:World) (H:Hp) (a i:Addr) (o:Obj) (J:List Int),J.length<=n->H a=some (.frz o (.lst (J.map V.int)))->H i=some (.tbl #[] nm)->sp w i [.ref a] H (λv _=>v= .bl true) λ_ _ _=>False)
  (hCX:∀(w:World) (H:Hp) (s:Shared) (e:Value) (U :Shared),CX w [] H s (λ_ _ _=>False) e U ->False):
  WalkO q y XP YP l.row.toRowW d [] (λf vs=>mr f vs):=by
 refine Att.attach_call hn hdf λw s₀ s₁ B mb I o pm cd doc a vs J G Y ho hd hcd hmg p r j hg=> ?_;obtain⟨S,hT⟩:=hY w _ Y;obtain⟨M,c,i,hb,C,hKP,hC,hF⟩:=F w B I _ S G.T.g hmg hT;obtain⟨bm,ob,b1,b2,D,b4,b5,Q⟩:=G.T.bmain;have N:bm ≠ i:=λz=>by rw[z,C]at D;cases D;cases b4
 have hbG:bm ≠ mainGlobals:=λz=>by
  obtain⟨o,es,ep,e,hd,_⟩:=G.T.g;rw[z,e]at D;cases D;rw[hd]at Q;cases Q
 refine qO S G.T.g G.T.b G.T.builtins G.T.nolimit hg p r (av j Z) hr ⟨bm,ob,b1,b2,hbG,N,D,b4,b5,Q⟩ C hKP hC ?_ hF hb (λH o h1 h2=>X w H a i o J j h1 h2) λH e U =>hCX w H _ e U;cases hk:(K _).lookup a with
 | none=>rfl
 | some o2=>
  have e:=S a o2 hk;rw[p]at e;cases e;exact(O w a _ hk rfl).elim
end L2
namespace PV
open PySem PySem.Spec PyProof.Rows L2
end PV
namespace PV
open PySem PySem.Spec PyProof.Rows L2 PySem.W
section
theorem SI.forget (I:SI Y B ρ σ H)(i:Nat)(v:Option V):SI Y B (ρ.set i .un) (σ.set i v) H where
 s0:=I.s0
 sH:=I.sH
 sB:=I.sB
 old:=I.old
 len:=by rw[bx,bx];exact I.len
 vl:=λj t h=>by
  rcases zz h with ⟨_,z⟩ | ⟨n,z⟩
  ·cases z
  ·obtain⟨p,e,r⟩:=I.vl j t z;exact⟨p,by rw[aB (bj n)];exact e,r⟩
 ow:=λj ts h=>by
  rcases zz h with ⟨_,z⟩ | ⟨n,z⟩
  ·cases z
  ·obtain⟨a,xs,e,u,g,w,r,d⟩:=I.ow j ts z;refine⟨a,xs,by rw[aB (bj n)];exact e,u,g,w,r,λk l q h' => ?_⟩
   rcases zz h' with ⟨_,f⟩ | ⟨o,f⟩
   ·cases f
   ·rw[aB (bj o)];exact d k l q f
 xc:=λj c h=>by
  rcases zz h with ⟨_,z⟩ | ⟨n,z⟩
  ·cases z
  ·obtain⟨a,e,r⟩:=I.xc j c z;exact⟨a,by rw[aB (bj n)];exact e,r⟩
 st:=let ⟨as,O,x⟩:=I.st;⟨as,O,x.set i _ _ rfl (λ_=>Sl.noConfusion)⟩
end
end PV
namespace PV
open PySem PySem.Spec PyProof.Rows L2
section
end
end PV
namespace PV
open PySem PySem.Spec PyProof.Rows L2 PySem.W
section
end
section
end
section
end
section
end
section
end
section
end
section
end
section
end
section
end
section
end
section
end
section
end
section
end
section
end
section
end
end PV
namespace PV
open PySem PySem.Spec PyProof.Rows L2
structure Fn (K:ai) (mg:Str->Option Value) (x:Str) (st:Stmt) (ps:List Str) (f:Addr) (fd:FuncData):Prop where
 F:Fun K x x st f fd
 b:L2.Binds K fd ps []
 m:mg x=some (.ref f)
noncomputable abbrev FE (K:ai)(mg:Str->Option Value)(x:Str)(st:Stmt)(ps:List Str):Prop:=∃f fd,Fn K mg x st ps f fd
structure Zz where
 P:Program
 w:World
 K:ai
 mg:Str->Option Value
 base:Heap
 cl:Nat->Value
structure QQ (x:Str) (CX:nX) (k:Nat) (sp:Sp) (Z:Zz):Prop where
 ex:∃st ps f fd,Fn Z.K Z.mg x st ps f fd/\wD Z.P Z.w Z.K Z.mg Z.base CX k f fd ps sp
abbrev qP (Z:Zz)(x:Str)(n k:Nat)(c:List T->R T):Prop:=QQ x mT k (spP Z.cl n c) Z
def oP (m:Nat)(b:En->RS):List T->R T:=λts=>zk (b (mB m ts))
section
variable {P:Program}{w:World}{K:ai}{mg:Str->Option Value}{base:Heap}{cl:Nat->Value}{x:Str}{CX:nX}{k c:Nat}{sp:Sp}{G:Prop}{as:List Str}
theorem QQ.go (O:QQ x CX k sp ⟨P,w,K,mg,base,cl⟩)(h:∀st d f a,Fn K mg x st d f a->wD P w K mg base CX k f a d sp->G):G:=by
 obtain⟨⟨st,d,f,a,C,F⟩⟩:=O;exact h st d f a C F
end
section
variable {Z:Zz}{x y:Str}{st:Stmt}{ps:List Str}{c k n m j:Nat}{fb:En->RS}{fm:En->R (T×En)}
abbrev Sc (N ps:List Str)(st:Stmt):Prop:=jJ N ps (zf st)
theorem mJ (C:FE Z.K Z.mg x st ps)(N:List Str) (e:∀(f:Addr) (cdv:Value) (A:Around) (outer:List Env) (s:Shared) (H:Hp) (E:XK) (Y:Fx),Y.cl=Z.cl->True->ja k (A.deeper (envOfC x (zf st) s.heap.objs.size f cdv))->N.Nodup->True->
   We (jC mT Z.P Z.w Z.K Z.mg Z.base N x (zf st) f cdv A outer s H E).nox Y (Z1 st) fb)
  (S:Sc N ps st:=by refine⟨rfl,rfl,rfl, ?_,rfl, ?_, ?_⟩ <;> decide+kernel) (hn:n=ps.length:=by rfl) (d:m=N.length:=by rfl):qP Z x n (k+1) (oP m fb):=by
 obtain⟨f,a,C⟩:=C;subst d;exact⟨_,_,f,a,C,Hy C.F S hn (λcdv A outer s H E Y hy hr=>e f cdv A outer s H E Y hy trivial hr S.nd trivial) λ_ _=>rfl⟩
theorem nh (C:FE Z.K Z.mg x st ps)(hn:n=ps.length:=by rfl):qP Z x n k (λ_=> .bad):=by
 obtain⟨f,a,C⟩:=C;exact⟨_,_,f,a,C,λvs H Q E h=>by rw[← hn];exact spP.len vs H Q E h,λA outer s H args d vs Q E _ _ _ _ ⟨B,ts,_,_,_,q⟩=>q.elim⟩
end
section
theorem cZ (hy:Y.cl=cl)(O:QQ x mT j (spP cl n g) ⟨X.prog,X.w,X.K,X.mg,X.base,cl⟩)(hr:ja k X.A)(e:Up X Y (a :: es) ga)(f:j<=k:=by omega)(c:Gl X x:=by rfl)(hd:(x == ("__debug__":Str))=false:=by decide)
  (d:starEach (a :: es) X.env=(false,eval a X.env) :: starEach es X.env:=by exact zD rfl) (hz:((backTo pos (starEach es X.env)).any λx=>x.fst)=false:=by exact zT rfl):Snd X Y (.Call (.Name x p) (a :: es) [] pos) (zb n g ga):=
 O.go λ_ _ _ _ C F=>K7 hy F hr f c C.m C.F.kp C.b e hd d hz
end
noncomputable def oq (N:List Str)(js:List Nat):List Str:=js.map λj=>N.getD j ""
noncomputable def AT:List Str->Bool
 | []=>true
 | x :: r=> !(r.contains x) && AT r
theorem um:∀{l:List Str},AT l=true->l.Nodup
 | [],_=> .nil
 | x :: r,h=>by
  rw[AT,aj]at h;exact cK.mpr ⟨by simpa using h.1,um h.2⟩
def Gb (N N' :List Str)(a scope:Scope)(k:Nat)(js:List Nat):Bool:=(pV scope a && rP N N' scope a k js) && AT N'
section
variable {cl:Nat->Value}{X:Cx}{Y:Fx}{x y:Str}{p p' p2:Pos}{kk:Nat}{iter elt:Expr}{ifs:List Expr}{scope:Scope}{js:List Nat}{fi:En->R (List T)}{ft:En->R Bool}{fe:En->R T}
theorem Da (hy:Y.cl=cl)(h:Gb X.N (x :: oq X.N js) X.env.scope scope 1 js=true)(c:((relabel scope X.env).names.lookup x == some .local)=true)(e:X.calm=true)(it:uP X Y (.Name x p) iter fi)(tt:∀a,a.cl=cl->X8 X scope (x :: oq X.N js) λd=>Wg d a ifs ft)
  (g:∀a,a.cl=cl->pY X scope (x :: oq X.N js) a.E λd=>Snd d a elt fe) (f:∀x,foldedSetIterable iter X.env x=pure x:=by intro _;rfl):Jq X Y (.Name x p) iter elt ifs scope (x :: oq X.N js) 1 js fi (W7 0) (zw 0) ft fe:=by
 subst hy;rw[Gb,aj]at h;have c:(relabel scope X.env).names.lookup x=some .local:=eq_of_beq c;exact Xb _ _ _ rfl rfl h.1 e it (λ_ _ _ _ _ _=>jI (um h.2) rfl (.inl c) (.inr c)) (Vp 0) (Vs 0) tt g f
theorem Ed (hy:Y.cl=cl)(h:Gb X.N (x :: y :: oq X.N js) X.env.scope scope 2 js=true)(d:((relabel scope X.env).names.lookup x == some .local && (relabel scope X.env).names.lookup y == some .local)=true)(e:X.calm=true)(it:uP X Y (.Tuple [.Name x p,.Name y p'] kk p2) iter fi)(tt:∀a,a.cl=cl->X8 X scope (x :: y :: oq X.N js) λc=>Wg c a ifs ft)
  (j:∀a,a.cl=cl->pY X scope (x :: y :: oq X.N js) a.E λc=>Snd c a elt fe) (i:∀x,foldedSetIterable iter X.env x=pure x:=by intro _;rfl):Jq X Y (.Tuple [.Name x p,.Name y p'] kk p2) iter elt ifs scope (x :: y :: oq X.N js) 2 js fi (tz X.K 2 (Yj (W7 0) (Yj (W7 1) Dg))) (zN 0 1) ft fe:=by
 subst hy;rw[Gb,aj]at h;rw[aj]at d;have g:(relabel scope X.env).names.lookup x=some .local:=eq_of_beq d.1;have f:(relabel scope X.env).names.lookup y=some .local:=eq_of_beq d.2;exact Xb _ _ _ rfl rfl h.1 e it (λ_ _ _ _ _ _=>xO e (JA (jI (um h.2) rfl (.inl g) (.inr g)) (JA (jI (um h.2) rfl (.inl f) (.inr f)) Yk))) (Vq _ 0 1) (Vt 0 1) tt j i
end
end PV
namespace L2
open PySem PySem.Spec PyProof.Rows
section
end
end L2
namespace PV
open PySem PySem.Spec PyProof.Rows L2 PySem.W
section
end
end PV
namespace PV
open PySem PySem.Spec PyProof.Rows L2
end PV
namespace PV
open PySem PySem.Spec PyProof.Rows L2 PySem.W
section
variable {X:Cx}{pins:List (Addr×Obj)}{σ:L2.St}{H0:Hp}{l q I D:Addr}{xs:List V}{R:Result->Shared->Prop}
theorem qQ {xs:List V}{a:List Value}{i:Nat}{u:Value}(r:Vals xs a)(e:a[i]? =some u):∃x,xs[i]? =some x/\RelV x u:=by
 have hi:=(ay.mp e).1;rw[← r.length]at hi;obtain⟨f,c,d⟩:=r.get (ah hi);rw[e]at c;cases c;exact⟨_,ah hi,d⟩
theorem KD (kf:Nat->Int)(hh:X.A.handled=none)(kw:List (Str×Value))(hl:∀H s,Inv X pins σ H s->zo H0 H->∃d:List Value,Vals xs d/\s.heap.IsList l d.toArray)(hlI:l ≠ I)(O:D ≠ I)(B:wC X pins H0 I)(C:wC X pins H0 D)
  (turn:∀(i:Nat) (x:V) (v:Value),xs[i]? =some x->RelV x v->∀(pn:List (Addr×Obj)) (s:Shared) (H:Hp),Inv X (pins++pn) σ H s->zo H0 H->
   wpAny (model X.prog X.w) X.A.in1 (call (.ref q) [v]) (λu s' =>∃t H',u= .int (kf i) t/\Inv X (pins++pn) σ H' s' /\zo H H') (λ_ _=>False) s)
  (hR:∀(i:Nat) (x:V) (v:Value) H s,xs[i]? =some x->RelV x v->(∀j,j < xs.length->kf i<=kf j/\(j < i->kf i < kf j))->Inv X pins σ H s->zo H0 H->R (.ok (.ret v)) s):
  ∀(r j i:Nat) (s:Shared) (H:Hp) (xb:V) (G:Value) (tb:Tok) (c:Nat),xs.length - (j+1)=r->j+1<=xs.length->Inv X pins σ H s->zo H0 H->H I=none->H D=none->
   s.heap.get? D=some (seqObj "list" #[G,.int (kf i) tb] c)->s.heap.IsListIter I l (j+1)->xs[i]? =some xb->RelV xb G->i<=j->(∀f,f <=j->kf i<=kf f /\(f < i->kf i < kf f))->
   codeAny (model X.prog X.w) X.A (.builtin "min.loop" ⟨[.ref I,.ref q,.ref D],kw⟩) R s:=by
 have k:(toString "min"++toString ".loop":String)="min.loop":=by decide
 intro r
 induction r with
 | zero=>
  intro j i s H xb G tb c hr hj J S hI hD gD Q hvb rb hij a;obtain⟨d,rv,hls⟩:=hl _ _ J S;have W:=hW (prog:=X.prog) (w:=X.w) (A:=X.A.in1) hh I l hlI d.toArray;have hsz:d.toArray.size=xs.length:=by rw[aD,rv.length]
  have hin:j+1=xs.length:=by omega
  refine bQ eX ?_;rw[dP bS _];show wpAny _ X.A.in1 (seqItems? (.ref D) >>= _) _ _ _;refine a8 (bM gD rfl ?_);show wpAny _ X.A.in1 (tryCatch (pyNext (.ref I)) _ >>= _) _ _ _;refine a8 (cD (W.done _ _ _ ⟨by rw[hsz,← hin];exact Q,hls⟩ λh' U g => ?_))
  have J1:=J.turned (t' :=U) (λb o n e=>g b o (by simpa using n) e) hI B.2.1 B.2.2.2.1 B.2.2.2.2.1 B.2.2.2.2.2
  have M :=g D _ (by simpa using O) gD
  show wpAny _ X.A.in1 (updateSeq D (λ_=> #[]) >>= _) _ _ _;refine a8 (wpAny_updateSeq M rfl (a8 (dO (ac ?_))));exact hR i xb G H _ hvb rb (λf hj' =>a f (by omega)) (J1.turned (it:=D) (λb o n e=>(bZ _ _ (bj n)).trans e) hD C.2.1 C.2.2.2.1 C.2.2.2.2.1 C.2.2.2.2.2) S
 | succ r ih=>
  intro j i s H xb G tb c hr hj J S hI hD gD Q hvb rb hij a;obtain⟨d,rv,hls⟩:=hl _ _ J S;have W:=hW (prog:=X.prog) (w:=X.w) (A:=X.A.in1) hh I l hlI d.toArray;have hsz:d.toArray.size=xs.length:=by rw[aD,rv.length]
  have Z:j+1 < xs.length:=by omega
  refine bQ eX ?_;rw[dP bS _];show wpAny _ X.A.in1 (seqItems? (.ref D) >>= _) _ _ _;refine a8 (bM gD rfl ?_);show wpAny _ X.A.in1 (tryCatch (pyNext (.ref I)) _ >>= _) _ _ _;refine a8 (cD (W.item (j+1) _ _ _ (by rw[hsz];exact Z) ⟨Q,hls⟩ λv h' U hP hst' g => ?_))
  obtain⟨x,hv,rx⟩:=qQ rv (show d[j+1]? =some v by simpa using hP)
  obtain⟨F,hoI',hoc,hod⟩:=id hst'.1;have J1:=J.turned (t' :=U) (λb o n e=>g b o (by simpa using n) e) hI B.2.1 B.2.2.2.1 B.2.2.2.2.1 B.2.2.2.2.2
  have M :=g D _ (by simpa using O) gD
  have J2:Inv X (pins++[(D,seqObj "list" #[G,.int (kf i) tb] c),(I,F)]) σ H _:=J1.pins_of λp hp=>by
   rcases aW.mp hp with hp | hp
   ·exact J1.pin p (aG _ hp)
   ·rcases ak.mp hp with rfl | hp
    ·exact⟨M,hD,C.2.1,C.2.2.1,λv z=>by cases z⟩
    ·rw[aq.mp hp];exact⟨hoI',hI,B.2.1,B.2.2.1,λv z=>by rw[hod]at z;cases z⟩
  show wpAny _ X.A.in1 (tryCatch (holding [v] (call (.ref q) [v])) _ >>= _) _ _ _;refine a8 (cD (bp (cV (turn (j+1) x v hv rx _ _ _ J2 S) (λy s2 he=> ?_) λ_ _ hF=>hF.elim)));obtain⟨N,H2,rfl,J3,sm2⟩:=he;have pD:=J3.pin (D,seqObj "list" #[G,.int (kf i) tb] c) (aG _ (aG _ (.head _)));have pI:=J3.pin (I,F) (aG _ (aG _ (.tail _ (.head _))));have J4:=J3.unpinned;show wpAny _ X.A.in1 (tryCatch (holding [v,.int (kf (j+1)) N] (richCompare .Lt (.int (kf (j+1)) N) (.int (kf i) tb) >>= _)) _ >>= _) _ _ _;refine a8 (cD (bp (a8 (CmpOf.ints_lt (prog:=X.prog) (w:=X.w) (A:=X.A.in1) (P:=λi v=>∃t,v= .int (kf i) t) kf (λi v h=>h) (j+1) i _ _ _ _ _ ⟨N,rfl⟩ ⟨tb,rfl⟩ ?_))));refine a8 (bp (bh ?_));refine a8 (dO (ac ?_))
  by_cases hb' :kf (j+1) < kf i
  ·obtain⟨c2,hc2⟩:∃c2,(s2.heap.update D (cW λ_=> #[v,.int (kf (j+1)) N])).get? D=some (seqObj "list" #[v,.int (kf (j+1)) N] c2):=⟨_,get?_update_seq pD.1 λ_=> #[v,.int (kf (j+1)) N]⟩;simp only[hb',decide_true,if_true];refine a8 ?_;refine wpAny_updateSeq pD.1 rfl (a8 (dO ?_));rw[k];refine ac ⟨cf bS _,ih (j+1) (j+1) _ H2 x v N c2 (by omega) Z (J4.turned (it:=D) (λb o n e=>(bZ _ _ (bj n)).trans e) pD.2.1 C.2.1 C.2.2.2.1 C.2.2.2.2.1 C.2.2.2.2.2) (S.trans sm2) pI.2.1 pD.2.1 hc2 ⟨F,(bZ _ _ O).trans pI.1,hoc,hod⟩ hv rx (am _) λf hj' => ?_⟩
   by_cases e:f =j+1
   ·subst e;exact⟨by omega,λ_=>by omega⟩
   ·have hb1:=a f (by omega)
    have hb2:=hb1.1;exact⟨by omega,λ_=>by omega⟩
  ·simp only[hb',decide_false,aI,if_false];refine a8 (dO ?_);rw[k];refine ac ⟨cf bS _,ih (j+1) i _ H2 xb G tb c (by omega) Z J4 (S.trans sm2) pI.2.1 pD.2.1 pD.1 ⟨F,pI.1,hoc,hod⟩ hvb rb (by omega) λf hj' => ?_⟩
   by_cases e:f =j+1
   ·subst e;exact⟨by omega,λ_=>by omega⟩
   ·exact a f (by omega)
theorem KF (a v d:Value):argsOk "min" ⟨[a],[(aC "key",v),(aC "default",d)]⟩:=by kernel_rfl
theorem KG {H:Hp}{s:Shared}{dv:Value}{Q E:Value->Shared->Prop}(kf:Nat->Int)(hh:X.A.handled=none)(J:Inv X pins σ H s)(hl:∀B g,Inv X pins σ B g ->zo H B ->∃c:List Value,Vals xs c/\g.heap.IsList l c.toArray)
  (C:∀(i:Nat) (x:V) (v:Value),xs[i]? =some x->RelV x v->∀(pn:List (Addr×Obj)) (s:Shared) (B :Hp),Inv X (pins++pn) σ B s->zo H B ->
   wpAny (model X.prog X.w) X.A.in1 (call (.ref q) [v]) (λu g =>∃t H2,u= .int (kf i) t/\Inv X (pins++pn) σ H2 g /\zo B H2) (λ_ _=>False) s)
  (h0:xs=[]->∀g,Inv X pins σ H g ->Q dv g)
  (hQ:∀(i:Nat) (x:V) (v:Value) B g,xs[i]? =some x->RelV x v->(∀j,j < xs.length->kf i<=kf j/\(j < i->kf i < kf j))->Inv X pins σ B g ->zo H B ->Q v g):
  wpAny (model X.prog X.w) X.A (call (.builtin "min") [.ref l] [(aC "key",.ref q),(aC "default",dv)]) Q E s:=by
 have d:(toString "min"++toString ".loop":String)="min.loop":=by decide
 obtain⟨its0,_,f⟩:=hl _ _ J (zo.refl _);obtain⟨ol,hol,_⟩:=id f;have hll:=au hol;refine kmb_tree PySem.F.kind_min PySem.F.plain_min PySem.F.entry_min (KF _ _ _) ?_;refine a8 (c9 (show Builtin.Builtins.bindParams _ _ 0 _=pure [some (.ref q),some dv] from rfl) (a8 (ac ?_)));refine a8 (ck f ?_);refine a8 (wpAny_newList ?_ (bf _));rw[d];obtain⟨k,e1⟩:∃k,k=s.heap.push { cls:= .type "list_iterator",data:= .fields #[.ref l,.int 0 0] }:=⟨_,rfl⟩;have hS:k.objs.size=s.heap.objs.size+1:=by rw[e1];exact size_push' ..
 rw[← e1];have J0:Inv X pins σ H { s with heap:=k.push (seqObj "list" #[] 0) }:=J.kept λb o e=>ab _ (by rw[e1];exact ab _ e)
 have gI:(k.push (seqObj "list" #[] 0)).get? s.heap.objs.size=some { cls:= .type "list_iterator",data:= .fields #[.ref l,.int 0 0] }:=ab _ (by rw[e1];exact af _ rfl)
 have gD:(k.push (seqObj "list" #[] 0)).get? k.objs.size=some (seqObj "list" #[] 0):=af _ rfl;have a:wC X pins H s.heap.objs.size:=J.fpOk (am _) J.fresh;have G:wC X pins H k.objs.size:=J.fpOk (by omega) (J.hok.fresh (by omega))
 have P:l ≠ s.heap.objs.size:=aF hll;have M:k.objs.size ≠ s.heap.objs.size:=by omega
 obtain⟨c,rv,f⟩:=hl _ _ J0 (zo.refl _);have W:=hW (prog:=X.prog) (w:=X.w) (A:=X.A.in1) hh s.heap.objs.size l P c.toArray;have hsz:c.toArray.size=xs.length:=by rw[aD,rv.length]
 generalize k.objs.size=D at*;generalize s.heap.objs.size=I at*;refine ac ⟨cf bS _, ?_⟩;refine bQ eX ?_;rw[dP bS _];show wpAny _ X.A.in1 (seqItems? (.ref _) >>= _) _ _ _;refine a8 (bM gD rfl ?_);show wpAny _ X.A.in1 (tryCatch (pyNext (.ref I)) _ >>= _) _ _ _;rcases Nat.eq_zero_or_pos xs.length with hz | hp
 ·refine a8 (cD (W.done _ _ _ ⟨by rw[hsz,hz];exact⟨_,gI,rfl,rfl⟩,f⟩ λh' N r => ?_))
  exact a8 (du (ac (h0 (cj hz) _ (J0.turned (t' :=N) (λb o n e=>r b o (by simpa using n) e) a.1 a.2.1 a.2.2.2.1 a.2.2.2.2.1 a.2.2.2.2.2))))
 ·refine a8 (cD (W.item 0 _ _ _ (by rw[hsz];exact hp) ⟨⟨_,gI,rfl,rfl⟩,f⟩ λv h' N hP Z r => ?_))
  obtain⟨x,hv,rx⟩:=qQ rv (show c[0]? =some v by simpa using hP)
  obtain⟨O,U,hoc,hod⟩:=id Z.1;have J1:=J0.turned (t' :=N) (λb o n e=>r b o (by simpa using n) e) a.1 a.2.1 a.2.2.2.1 a.2.2.2.2.1 a.2.2.2.2.2
  have gD' :=r D _ (by simpa using M) gD
  have J2:Inv X (pins++[(D,seqObj "list" #[] 0),(I,O)]) σ H _:=J1.pins_of λp hp=>by
   rcases aW.mp hp with hp | hp
   ·exact J1.pin p (aG _ hp)
   ·rcases ak.mp hp with rfl | hp
    ·exact⟨gD',G.1,G.2.1,G.2.2.1,λv z=>by cases z⟩
    ·rw[aq.mp hp];exact⟨U,a.1,a.2.1,a.2.2.1,λv z=>by rw[hod]at z;cases z⟩
  show wpAny _ X.A.in1 (tryCatch (holding [v] (call (.ref q) [v])) _ >>= _) _ _ _;refine a8 (cD (bp (cV (C 0 x v hv rx _ _ _ J2 (zo.refl _)) (λy s2 he=> ?_) λ_ _ hF=>hF.elim)));obtain⟨S,H2,rfl,J3,sm2⟩:=he;have pD:=J3.pin (D,seqObj "list" #[] 0) (aG _ (aG _ (.head _)));have pI:=J3.pin (I,O) (aG _ (aG _ (.tail _ (.head _))));obtain⟨c2,hc2⟩:∃c2,(s2.heap.update D (cW λ_=> #[v,.int (kf 0) S])).get? D=some (seqObj "list" #[v,.int (kf 0) S] c2):=⟨_,get?_update_seq pD.1 λ_=> #[v,.int (kf 0) S]⟩;show wpAny _ X.A.in1 (updateSeq D (λ_=> #[v,.int (kf 0) S]) >>= _) _ _ _;refine a8 (wpAny_updateSeq pD.1 rfl ?_);rw[d];refine ac ⟨cf bS _,KD kf hh _ hl P M a G C hQ _ 0 0 _ H2 x v S c2 rfl hp (J3.unpinned.turned (it:=D) (λb o n e=>(bZ _ _ (bj n)).trans e) pD.2.1 G.2.1 G.2.2.2.1 G.2.2.2.2.1 G.2.2.2.2.2) sm2 pI.2.1 pD.2.1 hc2 ⟨O,(bZ _ _ M).trans pI.1,hoc,hod⟩ hv rx (am _) λj' hj' => ?_⟩;have e:j' =0:=by omega
  subst e;exact⟨by omega,λh=>absurd h (bE _)⟩
end
section
variable {P:Program}{w:World}{K:Frag}{mg:Str->Option Value}{base:Heap}{N:List Str}{q x0:Str}{scope:Scope}{f:Addr}{cd:Value}{clos:List (Str×Addr)}{A:Around}{outer:List Env}{s:Shared}{H:Hp}{E:XK}
theorem VQ {l:L2.St}{g:Heap}{tk:Nat}{v0:V}{B:Value}{m:Str->Option Value}(S:Dt scope)(hd:A.handled=none)(a:xS P w K mg base A outer s H)(C:qM base H scope clos N l)(Q:N.Nodup)(J:N[0]? =some x0)(M:scope.names.lookup x0=some .local)(F:RelV v0 B)(G:m x0=some B)(I:g.Ns s.heap.objs.size m)(x:∀b o,s.heap.get? b=some o->g.get? b=some o):
  Inv (sA P w K mg base N q scope f cd clos A outer s H E) [] (l.set 0 (some v0)) H { s with heap:=g,toks:=tk }:=by
 have bk:=λb o e=>x b o (a.bs b o e).1;have j:∀b,b ∉ (sA P w K mg base N q scope f cd clos A outer s H E).ex:=λb z=>absurd (show b∈([]:List _) from z) (by simp)
 refine⟨⟨a.mod,S.kind,rfl,rfl,am _,C.inj,λy hy=> ?_,λy c h _=>(ax h).elim,λ_=>hd,iU a.frames,.inr ⟨rfl,rfl⟩,λb z=>absurd z (j b),a.bs,a.bsz,λb _ _=>j b,λb z=>absurd z (j b),a.funs,a.frf⟩,
  rfl,a.bare,Un.kept x,⟨_,I,λi y v g d O=> ?_⟩,λy c h=> ?_,a.hok.fresh (am _),λy c h=>(C.cell y c h).2,λp hp=>absurd (show p∈([]:List _) from hp) (by simp),a.hok.kept x,by rw[bx];exact C.len⟩
 ·rcases hy with hy | hy
  ·exact absurd rfl (S.nocell _ (bH hy))
  ·exact C.has _ (bH hy) rfl
 ·cases i with
  | zero=>
   have g:N[0]? =some y:=g;rw[J]at g;cases g;rw[List.getElem?_set_self' ]at d;have d:v0=v:=by
    cases z:l[0]? with
    | none=>rw[z]at d;cases d
    | some _=>rw[z]at d;exact aH (aH d)
   subst d;exact⟨B,F,.inl ⟨M,G⟩⟩
  | succ i=>
   rw[aB (by omega)]at d
   obtain⟨u,c,r,e,D,k⟩:=C.loc (i+1) y v g d;exact⟨u,r,.inr ⟨.inr k,c,e,wU bk D⟩⟩
 ·obtain⟨v,D⟩:=(C.cell y c h).1;exact⟨v,wU bk D⟩
theorem VR {k:Nat}{a:Arguments}{body:Expr}{B i:Value}{c :Addr}{u:L2.St}{Q:VK}{te:TE}{v0:V}{g:Value}(S:Dt scope)(hr:ja (k+1) A)(d:xS P w K mg base A outer s H)(C:qM base H scope clos N u)(hN:N.Nodup)(M:N[0]? =some x0)(F:scope.names.lookup x0=some .local)(G:RelV v0 g)
  (U:H f=some (.frz (sV q a body scope clos B i c) (.own f))) (O:Wo H q c) (hp:bindArgs (kla_fn "<lambda>" q a body scope clos B (.ref c) i) ⟨[g],[]⟩=pure [(x0,g)])
  (hb:PE (sA P w K mg base N q scope f (.ref c) clos A outer s H E) body te) (Z:te (u.set 0 (some v0)) H Q):
  codeAny (model P w) A (.call (.ref f) ⟨[g],[]⟩) (CR (nc P w) outer P w H s Q E) s:=by
 have p:=d.mod.nolimit.keeps λb o e=>(d.bs b o e).1;refine kla_callFunE hr.depth (d.hok f _ U).1 rfl S.co S.gen rfl (O.rec d.hok) ?_;rw[hp];refine ac (wpAny_newFunctionEnv S.nocell (λy hy=>by rw[aq.mp hy];exact F) (λh1 j l=> ?_) S.kind)
 have D:=λb o e=>l.extBut b o (aF (au e)) (ab _ e);refine⟨p.keeps D, ?_⟩;have I:=VQ (q:=q) (f:=f) (cd:= .ref c) (E:=E) (tk:=s.toks+[(x0,g)].length) S hr.hd d C hN M F G (by simp) j D
 exact kla_codeExpr (cV (hb [] _ _ H Q I Z) (λv s' ⟨x,X,J,r,q⟩=>⟨x,X,J.os,J.bare,J.base,J.hok,r,q⟩) λ_ _ z=>z)
end
section
variable {X:Cx}{Y:Fx}
theorem KH {js:List Nat}(I:L2.Inv X pins σ H s)(p:∀x,X.fn x=true)(a:∀x c,clos.lookup x=some c->X.env.cells.lookup x=some c)
  (g:∀x∈scope.names,x.2=NameKind.free->∃c,clos.lookup x.1=some c) (N:tL X scope N' 1 js):qM (Xk s H (ng X.stack)) H scope clos N' (Uw 1 js σ):=by
 have up:∀x c,X.env.cells.lookup x=some c->∀v,s.heap.IsCell c v->(Xk s H _).IsCell c v:=λx c e v ⟨o,O,hd⟩=>⟨o,UI O (I.freeC x c e) λQ=>by
  rcases ak.mp (I.stkSub c Q) with z | z
  ·exact I.cne x c e z
  ·obtain⟨_,Z,B,_⟩:=I.ok.funs.mem z;exact absurd (au B) (Nat.not_lt.mpr (I.ok.cab x c (p x) e)),hd⟩
 refine⟨λx y c w d=>I.ok.inj x y c (a _ _ w) (a _ _ d),g,λx c e=>⟨?_,I.freeC x c (a x c e)⟩,λi x v w d=> ?_,by unfold Uw;simp[N.len,dU]⟩
 ·obtain⟨v,C⟩:=I.cell x c (a x c e);exact⟨v,up x c (a x c e) v C⟩
 ·cases i with
  | zero=>cases d
  | succ i=>
  have d:(js.map λj=>(σ[j]?).getD none)[i]? =some (some v):=d;rw[ao]at d;cases q:js[i]? with
  | none=>rw[q]at d;cases d
  | some j=>
   rw[q]at d;have f :(σ[j]?).getD _=some v:=aH d;have l:σ[j]? =some (some v):=by
    cases F:σ[j]? with
    | none=>rw[F]at f;cases f
    | some z=>rw[F]at f;exact congrArg _ f
   obtain⟨y,D,B,S,M,e5⟩:=N.cap i j q;rw[dU,w]at D;cases D;obtain⟨m,hn,r⟩:=I.loc;obtain⟨u,P,lk⟩:=r j x v B l S;obtain⟨c,G⟩:=g _ (bH M) rfl;rcases lk with ⟨k,_⟩ | ⟨_,U,J,C⟩
   ·rcases e5 with z | z <;> (rw[k]at z;cases z)
   ·have:=a x c G;rw[J]at this;cases this;exact⟨u,c,P,G,up x c J _ C,M⟩
noncomputable def ZS (k:Int)(t:T):List Int->List T->T
 | a :: c,t' :: ts=>if a < k then ZS a t' c ts else ZS k t c ts
 | _,_=>t
noncomputable def Wp (f:T->R T):List T->Option (List Int)
 | []=>some []
 | t :: ts=>match f t,Wp f ts with
  | .ok (.int k),some a=>some (k :: a)
  | _,_=>none
def VS (js:List Nat)(c a d:En->R T):En->R T:=λρ=>(a ρ).bind λt=>(d ρ).bind λu=>match t with
 | .lst []=> .ok u
 | .lst (t :: ts)=>(match Wp (λt=>c ((Jp 1 js ρ).set 0 (.vl t))) (t :: ts) with | some (k :: e)=> .ok (ZS k t e ts) | _=> .bad)
 | _=> .bad
theorem UJ {f:T->R T}:∀{ts:List T} {a:List Int},Wp f ts=some a->a.length=ts.length/\∀(i:Nat) (t:T),ts[i]? =some t->∃k,a[i]? =some k/\f t= .ok (.int k)
 | [],a,h=>by cases h;exact⟨rfl,λi t e=>by simp at e⟩
 | t :: ts,a,h=>by
  unfold Wp at h;split at h
  ·rename_i k l c g;cases h;obtain⟨j,d⟩:=UJ g;refine⟨by simp[j],λi u e=> ?_⟩
   cases i with
   | zero=>cases e;exact⟨k,rfl,c⟩
   | succ i=>exact d i u e
  ·cases h
noncomputable abbrev Ct (kf:Nat->Int)(n i:Nat):Prop:=∀j,j < n->kf i<=kf j/\(j < i->kf i < kf j)
theorem Wq:∀(a:List Int) (ts:List T) (k:Int) (t:T) (n m:Nat) (kf:Nat->Int),a.length=ts.length->m < n->kf m=k->(∀j,j < n->kf m<=kf j/\(j < m->kf m < kf j))->(∀j q,a[j]? =some q->kf (n+j)=q)->
  ∃i,(i=m/\ZS k t a ts=t\/∃j,i=n+j/\ts[j]? =some (ZS k t a ts))/\∀j,j < n+a.length->kf i<=kf j/\(j < i->kf i < kf j)
 | [],ts,k,t,n,m,kf,o,C,B,p,x=>⟨m,.inl ⟨rfl,by unfold ZS;rfl⟩,λj d=>p j (by simpa using d)⟩
 | r :: a,[],k,t,n,m,kf,o,_,_,_,_=>by simp at o
 | r :: a,t' :: ts,k,t,n,m,kf,o,C,B,p,x=>by
  have y:=x 0 r rfl;rw[Nat.add_zero]at y;have f :∀j q,a[j]? =some q->kf (n+1+j)=q:=λj q e=>by have:=x (j+1) q e;rw[← this];congr 1;omega
  have g :a.length=ts.length:=by simpa using o
  unfold ZS
  by_cases c:r < k
  ·rw[if_pos c];obtain⟨i,v,u⟩:=Wq a ts r t' (n+1) n kf g (by omega) y (λj d=>by
    by_cases z:j=n
    ·subst z;exact⟨i8 _,λz=>by omega⟩
    ·have:=p j (by omega);exact⟨by omega,λ_=>by omega⟩) f
   refine⟨i, ?_,λj d=>u j (by rw[aw]at d;omega)⟩
   rcases v with ⟨w,l⟩ | ⟨j,w,l⟩
   ·exact .inr ⟨0,w,by rw[l];rfl⟩
   ·exact .inr ⟨j+1,by omega,l⟩
  ·rw[if_neg c];obtain⟨i,v,u⟩:=Wq a ts k t (n+1) m kf g (by omega) B (λj d=>by
    by_cases z:j=n
    ·subst z;exact⟨by omega,λz=>by omega⟩
    ·exact p j (by omega)) f
   refine⟨i, ?_,λj d=>u j (by rw[aw]at d;omega)⟩
   rcases v with z | ⟨j,w,l⟩
   ·exact .inl z
   ·exact .inr ⟨j+1,by omega,l⟩
def MK (X:Cx)(e:Sg)(l f:V)(u:V)(Q:VK)(H3:Hp):Prop:=∃(a g:Addr) (xs:List V) (kf:Nat->Int),(l= .ref a/\f= .ref g)/\H3 a=some (.lst xs)/\
 (∀(i:Nat) (x:V) (u:Value),xs[i]? =some x->RelV x u->∀(pn:List (Addr×Obj)) (s:Shared) (c :Hp),Inv X pn e c s->zo H3 c ->
  wpAny (model X.prog X.w) X.A.in1 (call (.ref g) [u]) (λu j =>∃t d,u= .int (kf i) t/\Inv X pn e d j /\zo c d) (λ_ _=>False) s)/\
 (xs=[]->Q u H3)/\∀(i:Nat) (x:V) (c :Hp),xs[i]? =some x->Ct kf xs.length i->zo H3 c ->Q x c
theorem KI {a b:Expr}{c:Arguments}{body:Expr}{scope:Scope}{P p pos kp N:Pos}{S tb tl:TE}(hh:X.A.handled=none)(gl:Gl X "min")(mg:X.mg "min"=none)(ha:PE X a S)(Z:PE X (.Lambda c body scope P) tl)(hb:PE X b tb)(r:mY X a):
  PE X (.Call (.Name "min" p) [a] [⟨some "key",.Lambda c body scope P,kp⟩,⟨some "default",b,N⟩] pos) (λd H Q=>S d H λv o=>tl d o λg w=>tb d w λu H3=>([v].length=1/\[g,u].length=2)/\MK X d v g u Q H3):=by
 intro O s d H Q I h;refine cB (j5 I gl mg PyProof.Rows.Boot.«min» ?_ (by decide) (by decide))
 refine callWith_kw (mH (zm ha zH r pos _ s d H (λvs o=>tl d o λg w=>tb d w λu H3=>(vs.length=1/\[g,u].length=2)/\MK X d (vs.headD .non) g u Q H3) I h) λus s1 hz=> ?_) (by rw[r];rfl) (by rw[r];rfl) rfl rfl
 obtain⟨vs,o,I1,B,q1⟩:=hz;refine mH (Yv Z (Yv hb GH) pos _ s1 d o (λf H3=>(vs.length=1/\f.length=2)/\MK X d (vs.headD .non) (f.headD .non) (f.tail.headD .non) Q H3) I1 q1) λws s2 hz=> ?_;obtain⟨f,H3,I3,rz,⟨l1,U⟩,a,g,xs,kf,⟨e1,e2⟩,hx,l,q0,qn⟩:=hz;obtain⟨v,rfl⟩:=eY.mp l1;cases f with
 | nil=>cases U
 | cons y f=>
 obtain⟨z,rfl⟩:=eY.mp (Nat.succ.inj U);obtain rfl:v= .ref a:=e1;obtain rfl:y= .ref g:=e2;obtain⟨u,rfl,ru⟩:=Zn B;obtain rfl:u=Value.ref a:=ru;obtain⟨wy,G,rfl,ry,M⟩:∃wy G,ws=[wy,G]/\RelV (.ref g) wy/\RelV z G:=by
  cases rz with
  | cons B F=>
   cases F with
   | cons F r3=>cases r3;exact⟨_,_,rfl,B,F⟩
 obtain rfl:wy=Value.ref g:=ry;exact KG (xs:=xs) kf hh I3 (λk q J j=>let ⟨_,its,n,rv,_,ho⟩:=J.lstM (j _ _ hx);⟨its,rv,_,ho,rfl,n,rfl⟩) (λi x v C D pn q k J j=>l i x v C D _ q k J j) (λhn q J=>⟨z,H3,J,M,q0 hn⟩)
  λi x v k q C D e J j=>⟨x,k,J,D,qn i x k C e j⟩
theorem Lo {cl:Nat->Value}{kE k:Nat}{q x0:Str}{c P:Addr}{a b:Expr}{d:Arguments}{body:Expr}{scope:Scope}{lp p pos kp kp2:Pos}{js:List Nat}{fe fa fb:En->R T}(hy:Y.cl=cl)(L:Lm X c P q)(hT:Y.H0 P=some (.tbl #[] q))(hfn:∀x,X.fn x=true)
  (hr:ja k X.A) (hj:kE+2<=k) (gl:Gl X "min") (mg:X.mg "min"=none) (ha:Snd X Y a fa) (hfb:Snd X Y b fb)
  (N' N:List Str) (o:Scope) (hN:X.N=N) (h0:X.env.scope=o) (F:(pV scope o && rP N N' scope o 1 js)=true) (hco:scope.isCoroutine=false) (hge:scope.isGenerator=false) (hnd:N'.Nodup) (hx0:N'[0]? =some x0) (hlx:scope.names.lookup x0=some .local)
  (hb:∀(base:Heap) (A:Around) (outer:List Env) (s:Shared) (H:Hp) (E:XK) (f c' :Addr) (g:List (Str×Addr)) (Y' :Fx),X.K.In base->Y'.cl=cl->Y'.E=E->ja kE (A.deeper (envX q scope s.heap.objs.size f (.ref c') g))->Snd (sA X.prog X.w X.K X.mg base N' q scope f (.ref c') g A outer s H E) Y' body fe)
  (hp:∀(g:List (Str×Addr)) (pm cd O u:Value),bindArgs (kla_fn "<lambda>" q d body scope g pm cd O) ⟨[u],[]⟩=pure [(x0,u)]:=by intros;rfl) (hdef:defaultsOf d X.env=([],[]):=by rfl) (hs:mY X a:=by exact mQ rfl):
  Snd X Y (.Call (.Name "min" p) [a] [⟨some "key",.Lambda d body scope lp,kp⟩,⟨some "default",b,kp2⟩] pos) (VS js fe fa fb):= .mk λρ=>by
 intro pins s σ H Q I ⟨B,J,po⟩;subst hy;rw[aj]at F;have CS:=Xa o h0 F.1;have CP:=qc N o hN h0 F.2;have S:Dt _:=⟨CS.kind,hco,hge,CS.nocell⟩;obtain⟨g,ecl,hcl,hcf⟩:=YU λx hx hf=>I.ok.has x.1 (CS.fre x hx hf);refine KI hr.hd gl mg (ha ρ) (Me (body:=body) (pos:=lp) L hdef ecl) (hfb ρ) hs pins s σ H Q I ?_;refine step J po λt v H1 _ s1 r1 I1 q1=>⟨I1.sH _ _ hT,λf c' pm O H2 s2 hf hc=> ?_⟩;have I2:=I1.grow s2;refine step I2 (KA I1.sB s2 q1) λt' v' H3 _ s3 r3 I3 M=>⟨⟨rfl,rfl⟩, ?_⟩;have r1:=(r1.mono (zF.ge I1.sB s2)).mono (zF.ge I2.sB s3);cases r1 with
 | @lst l xs ts h r=>
  have hx:=I3.sB _ _ h;cases ts with
  | nil=>
   refine⟨l,f,xs,λ_=>0,⟨rfl,rfl⟩,hx,λi x u e _=> ?_,λ_=>mV I3.sB M rfl r3,λi x y e=> ?_⟩
   ·cases r;simp at e
   ·cases r;simp at e
  | cons t0 ts=>
   have M:Po Y rC _ H3 (match Wp (λt=>fe ((Jp 1 js ρ).set 0 (.vl t))) (t0 :: ts) with | some (k :: C)=> .ok (ZS k t0 C ts) | _=> .bad) Q:=M
   split at M
   ·rename_i k0 C ek;obtain⟨hl,hk⟩:=UJ ek;refine⟨l,f,xs,λi=>((k0 :: C)[i]?).getD 0,⟨rfl,rfl⟩,hx,λi x u e ru pn s' y I' G=> ?_,λhn=>(by subst hn;cases r),λi x y e U G=> ?_⟩
    ·obtain⟨t,Z,rt⟩:=r.getV e;obtain⟨kk,ekk,fk⟩:=hk i t Z;have hrm:ja (kE+1) X.A.in1:=⟨hr.hd,by have:=hr.dp;show X.A.depth+3*(kE+1)+5 < _;omega,by have:=hr.un;show X.A.units+1+16*(kE+1)+200 < _;omega,hr.gd⟩
     have D:=I'.big;have e0' :xS X.prog X.w X.K X.mg (Xk s' y (ng X.stack)) X.A.in1 X.stack s' y :=⟨D.frames,D.mod,D.bs,D.bsz,D.funs,D.frf,D.hok,D.bare⟩;refine wpAny_call (eN (VR (te:=tS ⟨_,y,λ_ _ _=>False,Y.cl,[]⟩ rC fe ((Jp 1 js ρ).set 0 (.vl t))) (Q:=λv H2=>v= .int kk/\zo y H2) (E:=λ_ _ _=>False) S hrm e0' (KH I' hfn hcl hcf CP) hnd hx0 hlx ru (G _ _ (s3 _ _ hf)) (hc.mono (s3.trans G)) (hp _ pm _ O _)
      ((hb _ X.A.in1 _ s' y _ f c' _ ⟨_,y,λ_ _ _=>False,Y.cl,[]⟩ D.mod.kin rfl rfl (hrm.deeper _)) _) ⟨_,((I3.grow G).blockS 1 js _ (zo.refl _)).setV 0 (rt.mono (zF.ge I3.sB G)), ?_⟩) λr s2 hq=> ?_)
     ·rw[fk];exact λv H2 s4 r4=>⟨by cases r4;rfl,s4⟩
     ·cases r with
      | error e=>
       obtain⟨_,_,_,_,_,_,_,z⟩:=hq;exact z.elim
      | ok fl=>
       cases fl with
       | ret u=>
        obtain⟨v,H2,I2,rv,rfl,sm2⟩:=I'.after hq;obtain⟨t,rfl⟩:=rv;exact⟨t,H2,by dsimp only;rw[ekk];rfl,I2,sm2⟩
       | next=>exact cq hq
       | brk=>exact cq hq
       | cont=>exact cq hq
    ·have hlt:C.length=ts.length:=by simpa using hl
     have hxl:xs.length=1+C.length:=by rw[r.length,aw,hlt];omega
     obtain⟨i',w1,w2⟩:=Wq C ts k0 t0 1 0 (λi=>((k0 :: C)[i]?).getD 0) hlt (by omega) rfl (λj hj=>by
      obtain rfl:j=0:=by omega
      exact⟨i8 _,λz=>by omega⟩) (λj q e=>by
      show ((k0 :: C)[1+j]?).getD 0=q;rw[dU,iE,e];rfl)
     have hi:=(ay.mp e).1;have hi' :i' < xs.length:=by
      rcases w1 with ⟨z,_⟩ | ⟨j,z,ej⟩
      ·omega
      ·have:=(ay.mp ej).1;omega
     obtain rfl:i=i' :=by
      have a1:=U i' hi';have a2:=w2 i (by omega)
      dsimp only at a1 a2;rcases Nat.lt_trichotomy i i' with z | z | z
      ·have:=a2.2 z;have:=a1.1;omega
      ·exact z
      ·have:=a1.2 z;have:=a2.1;omega
     obtain⟨t,Z,rt⟩:=r.getV e;have htt:t=ZS k0 t0 C ts:=by
      rcases w1 with ⟨z,z2⟩ | ⟨j,z,ej⟩
      ·rw[z]at Z;cases Z;exact z2.symm
      ·rw[z,dU,iE,ej]at Z;exact(aH Z).symm
     rw[htt]at rt;exact M x y G (rt.mono (zF.ge I3.sB G))
   ·exact M.elim
 | _=>exact M.elim
end
section
variable {P:Program}{w:World}{K:ai}{mg:Str->Option Value}{base:Heap}
theorem IJ {cl:Nat->Value}{x d q:Str}{st:Stmt}{f y:Addr}{u:FuncData}{N o:List Str}{k n:Nat}{j:En->RS}{g:List T->R T}(F:Fun K x d st f u)(S:jJ N o (zf st))(hn:n=o.length)
  (O:∀(cdv:Value) (A:Around) (outer:List Env) (s:Shared) (H:Hp) (E:XK) (Y:Fx),Y.cl=cl->Y.E=E->Y.H0 y=some (.tbl #[] q)->ja k (A.deeper (envOfC d (zf st) s.heap.objs.size f cdv))->
   We (jC (nc P w) P w K mg base N d (zf st) f cdv A outer s H E) Y (Z1 st) j)
  (M:∀ts,ts.length=n->g ts=zk (j (mB N.length ts))):wD P w K mg base (nc P w) (k+1) f u o (qN cl n g y q):=by
 subst hn;obtain⟨Z,od,kV,J,pm,an,cdv,ct,X,rfl,lk,p⟩:=F.ex;refine kl lk p S (λvs H Q E z=>spP.len vs H Q E z.2) λA outer s H vs Q E hr ⟨hT,B,ts,C,D,r,q⟩=> ?_;refine⟨_,O cdv A _ s H E ⟨B,H,E,cl,[]⟩ rfl rfl hT hr _,B,SI.start D r, ?_⟩;rw[M ts C]at q;revert q;cases j _ with
 | rt t=>exact λq v i s r=>q v i s r
 | rf t=>exact λq a xs i U G n e r _ l=>q _ i G (.lst (by rw[zM n];exact e) (r.mono l))
 | nx ρ=>exact λq σ' i U _ I=>q _ i I.sH .non
 | ex c=>exact λq=>q
 | bk ρ=>exact λq=>q.elim
 | ct ρ=>exact λq=>q.elim
 | bad=>exact λq=>q
end
noncomputable abbrev og (x:Str):Str:=x++".<locals>."++"<lambda>"
noncomputable abbrev FT (K:ai)(mg:Str->Option Value)(x:Str)(st:Stmt)(ps:List Str)(Pt:Addr):Prop:=∃f fd c,Fn K mg x st ps f fd/\fd.code= .ref c/\fF K c Pt=true
abbrev qT (Z:Zz)(x:Str)(n k:Nat)(c:List T->R T)(Pt:Addr)(q:Str):Prop:=QQ x (nc Z.P Z.w) k (qN Z.cl n c Pt q) Z
section
variable {Z:Zz}{x:Str}{st:Stmt}{ps:List Str}{k n m:Nat}{fb:En->RS}{f:Addr}{fd:FuncData}{Pt:Addr}{q:Str}
theorem IF (C:FT Z.K Z.mg x st ps Pt)(a:Z.base.BuiltinsAt Z.mg Pt)(N:List Str) (g:∀(f c:Addr) (A:Around) (outer:List Env) (s:Shared) (H:Hp) (E:XK) (Y:Fx),Lm (jC (nc Z.P Z.w) Z.P Z.w Z.K Z.mg Z.base N x (zf st) f (.ref c) A outer s H E) c Pt (og x)->Y.H0 Pt=some (.tbl #[] (og x))->Y.cl=Z.cl->Y.E=E->ja k (A.deeper (envOfC x (zf st) s.heap.objs.size f (.ref c)))->N.Nodup->jB (nc Z.P Z.w) (jC (nc Z.P Z.w) Z.P Z.w Z.K Z.mg Z.base N x (zf st) f (.ref c) A outer s H E) Y.E->
   We (jC (nc Z.P Z.w) Z.P Z.w Z.K Z.mg Z.base N x (zf st) f (.ref c) A outer s H E) Y (Z1 st) fb)
  (S:Sc N ps st:=by refine⟨rfl,rfl,rfl, ?_,rfl, ?_, ?_⟩ <;> decide+kernel) (hn:n=ps.length:=by rfl) (e:m=N.length:=by rfl):qT Z x n (k+1) (oP m fb) Pt (og x):=by
 obtain⟨f,fd,c,C,d,hd⟩:=C;subst e;exact⟨_,_,f,fd,C,Mb C.F d S hn (λA outer s H E Y hy hE hT hr=>g f c A outer s H E Y ⟨rfl,hd,a,rfl⟩ hT hy hE hr S.nd (hE ▸ GQ)) λ_ _=>rfl⟩
theorem Co (C:Fn Z.K Z.mg x st ps f fd)(N:List Str) (c:∀(cdv:Value) (A:Around) (outer:List Env) (s:Shared) (H:Hp) (E:XK) (Y:Fx),Y.H0 Pt=some (.tbl #[] q)->Y.cl=Z.cl->Y.E=E->ja k (A.deeper (envOfC x (zf st) s.heap.objs.size f cdv))->N.Nodup->jB (nc Z.P Z.w) (jC (nc Z.P Z.w) Z.P Z.w Z.K Z.mg Z.base N x (zf st) f cdv A outer s H E) Y.E->
   We (jC (nc Z.P Z.w) Z.P Z.w Z.K Z.mg Z.base N x (zf st) f cdv A outer s H E) Y (Z1 st) fb)
  (S:Sc N ps st:=by refine⟨rfl,rfl,rfl, ?_,rfl, ?_, ?_⟩ <;> decide+kernel) (hn:n=ps.length:=by rfl) (a:m=N.length:=by rfl):wD Z.P Z.w Z.K Z.mg Z.base (nc Z.P Z.w) (k+1) f fd ps (qN Z.cl n (oP m fb) Pt q):=by
 subst a;exact IJ C.F S hn (λcdv A outer s H E Y hy hE hT hr=>c cdv A outer s H E Y hT hy hE hr S.nd (hE ▸ GQ)) λ_ _=>rfl
end
section
theorem cT (hT:Y.H0 Pt=some (.tbl #[] q))(hy:Y.cl=cl)(hp:jB (nc X.prog X.w) X Y.E)(O:QQ x (nc X.prog X.w) j (qN cl n g Pt q) ⟨X.prog,X.w,X.K,X.mg,X.base,cl⟩)(hr:ja k X.A)(l:Up X Y (a :: es) ga)(r:j<=k:=by omega)(y:Gl X x:=by rfl)(hd:(x == ("__debug__":Str))=false:=by decide)
  (i:starEach (a :: es) X.env=(false,eval a X.env) :: starEach es X.env:=by exact zD rfl) (hz:((backTo pos (starEach es X.env)).any λx=>x.fst)=false:=by exact zT rfl):Snd X Y (.Call (.Name x p) (a :: es) [] pos) (zb n g ga):=by
 subst hy;refine O.go λ_ _ _ _ C F=> .mk λρ=>PE.imp (jb F (hr.mono r) y C.m C.F.kp C.b .nil hp (l ρ) hd i hz) λD H Q ⟨B,I,q⟩=>step I q λts vs G _ J o f e=> ?_;split at e
 ·rename_i hn;rw[bw];refine⟨f.sH _ _ hT,_,ts,hn,f.sB,o, ?_⟩;revert e;cases g ts with
  | ok t=>exact λq=>q
  | bad=>exact λq=>q
  | ex c=>exact λq d u s v =>q d u (f.sH.trans s) v
 ·exact e.elim
theorem mK {c:Addr}{kE:Nat}{i:Str}{d:Arguments}{body:Expr}{scope:Scope}{O kp o:Pos}{js:List Nat}{D C F:En->R T}(L:Lm X c Pt q)(hT:Y.H0 Pt=some (.tbl #[] q))(hy:Y.cl=cl)(hr:ja k X.A)(M:X.mg "min"=none)
  (h:Gb X.N (i :: oq X.N js) X.env.scope scope 1 js=true) (j:((scope.names.lookup i == some .local) && !scope.isCoroutine && !scope.isGenerator)=true) (I:Snd X Y a C) (v:Snd X Y b F)
  (Q:∀(base:Heap) (A:Around) (outer:List Env) (s:Shared) (H:Hp) (E:XK) (f B :Addr) (e:List (Str×Addr)) (r :Fx),X.K.In base->r.cl=cl->r.E=E->ja kE (A.deeper (envX q scope s.heap.objs.size f (.ref B) e))->Snd (sA X.prog X.w X.K X.mg base (i :: oq X.N js) q scope f (.ref B) e A outer s H E) r body D)
  (P:kE+2<=k:=by omega) (S:Gl X "min":=by rfl) (l:∀x,X.fn x=true:=by exact λ_=>rfl)
  (hp:∀(e:List (Str×Addr)) (J cd y u:Value),bindArgs (kla_fn "<lambda>" q d body scope e J cd y) ⟨[u],[]⟩=pure [(i,u)]:=by intros;rfl) (g:defaultsOf d X.env=([],[]):=by rfl) (G:mY X a:=by exact mQ rfl):
  Snd X Y (.Call (.Name "min" p) [a] [⟨some "key",.Lambda d body scope O,kp⟩,⟨some "default",b,o⟩] pos) (VS js D C F):=by
 rw[Gb,aj]at h;rw[aj,aj]at j;exact Lo hy L hT l hr P S M I v _ _ _ rfl rfl h.1 (by simpa using j.1.2) (by simpa using j.2) (um h.2) rfl (eq_of_beq j.1.1) Q hp g G
end
section
end
section
end
section
end
section
end
end PV
namespace PV
open PySem PySem.Spec PyProof.Rows L2
section
end
section
end
end PV
namespace PV
open PySem PySem.Spec PyProof.Rows L2 PySem.W
section
end
section
noncomputable def Ay (k:Bool):Value->Bool
 | .bool b=>b == k
 | _=>false
theorem Zp (h:Ay k v=true):v= .bool k:=by
 cases v <;> simp_all [Ay]
noncomputable def iB (b:Bool):Int:=if b then 1 else 0
theorem JN {Q:Int->Shared->Prop}(h:Q (hashInt (iB b)) { s with toks:=s.toks+1 }):wpAny (model prog w) A (pyHash (.bool b)) Q E s:=by
 have hT:s.TypeIs (.bool b) "bool":=rfl;unfold pyHash;have a:[Value.bool b].any Value.onHeap=false:=rfl;refine a8 ?_;rw[cRoomFor,if_neg (by rw[a];exact ax)];refine ac ?_
 refine a8 (c7 hT cb.lookup ?_);show wpAny _ _ (if (some (Value.builtin "int.__hash__") == some Value.none)=true then _ else _) Q E s
 rw[if_neg (by rw[beq_builtin_none];exact ax)]
 refine a8 (c7 hT cb.lookup ?_);show wpAny _ _ (callSpecialIfBoundUnlessNone? (.bool b) "__hash__" _ >>= _) Q E s;refine a8 (wpAny_callSpecialIfBoundUnlessNone?_slot hT cb
  (aM cb hT lX
   (show wpAny _ _ (do ret (← mkInt (rawHash (iB b)))) _ _ s from by cases b <;> refine wpAny_ret_mkInt ?_ <;> exact ac h) (lD _)))
theorem KJ {Q:Bool->Shared->Prop}(h:Q (decide (a=b)) s):wpAny (model prog w) A (eqBool (.bool a) (.bool b)) Q E s:=by
 exact PySem.SeqAt.EqAt.bool_bool a b _ _ _ _ (by rw[show (a == b)=decide (a=b) from by cases a <;> cases b <;> rfl];exact h)
end
def ZA (prog:Program)(w:World):KeyKind prog w Bool where
 is:=Ay
 hash:=λb=>hashInt (iB b)
 inj:=λv a b f d=>by have:=(Zp f).symm.trans (Zp d);injection this
 byValue:=λk v h=>by rw[Zp h];rfl
 pyHash:=λc h=>by rw[Zp c];exact JN h
 eqBool:=λe c h=>by rw[Zp e,Zp c];exact KJ h
 «strs»:=λk x t v h=>by simp[Ay]at h
section
variable {K:Type}[DecidableEq K]{knd:HeapKind prog w K}
theorem wb {d a:Addr}{xs:List (K×Addr×Value)}{k:K}{dflt:Value}{Q:Value->Shared->Prop}(B:knd.room A)(c:knd.is s.heap k a)(D:s.heap.DictOfH knd d xs)
  (f:∀p,atKey xs k=some p->Q p.2 { s with toks:=s.toks+knd.draws k })
  (l:atKey xs k=none->∀h',h'.DictOfH knd d (xs++[(k,a,dflt)])->bc d s.heap h' ->Q dflt { s with heap:=h',toks:=s.toks+knd.draws k })
  (hsz:xs.length<=sizeLine):wpAny (model prog w) A (dictSetDefault d (.ref a) dflt) Q E s:=by
 obtain⟨o,G,ep,i,F,hd,v,u,hn⟩:=D;unfold dictSetDefault
 try with_reducible refine bp ?_
 refine a8 (knd.pyHash B c ?_);refine a8 (wpAny_dictFind_heap (s:={ s with toks:=s.toks+knd.draws k }) B c i hd v u hn ?_ ?_)
 ·intro q;have r:k ∉ xs.map (·.1):=not_mem_keys_of_get q;refine a8 (du (a8 (wpAny_updateDictKeys (hz:=by have e:=size_of_entries v;omega) (s:={ s with toks:=s.toks+knd.draws k }) i hd (ac (l (atKey_none_of_get q) _ ⟨_,_,ep+1,fg _ i (Obj.isFreed_of_dict (iZ hd _)),
   F.mapDictKeys _,iZ hd _, ?_, ?_, ?_⟩ (bV ..))))))
  ·simp[v,entryOfKey]
  ·intro x g;rcases aW.mp g with g | g
   ·exact knd.keeps (u x g) i hd (bV ..)
   ·simp only[aq]at g;subst g;exact knd.keeps c i hd (bV ..)
  ·rw[cM,i9];refine⟨hn,by simp, ?_⟩
   intro x g y hy;simp only[ar,bI,aq]at hy;subst hy;exact λe=>r (e ▸ g)
 ·intro j p C;refine a8 (cn (s:={ s with toks:=s.toks+knd.draws k }) i hd ?_);rw[entry_at v j,C];exact a8 (du (ac (f p (atKey_of_get hn C))))
end
section
end
section
end
section
end
section
end
end PV
namespace L2
open PySem PySem.Spec PyProof.Rows
theorem F3 {k:mM}(r:RelV (kV k) u):(Z0 P w).is k u=true:=by
 cases k with
 | inl i=>cases (show u= .bool i from r);exact beq_self_eq_true i
 | inr x=>obtain⟨t,e⟩:=r;rw[e];exact jH P w x t
section
variable {κ:Type}[DecidableEq κ]
noncomputable def Yc (kvs:List (κ×Addr×V))(k:κ):Option V:=(kvs.find? λa=>decide (a.1=k)).map (·.2.2)
end
section
variable {κ:Type}[DecidableEq κ]
theorem Wr {p:κ×Addr×V}{r:List (κ×Addr×V)}{k:κ}(e:p.1=k):Yc (p :: r) k=some p.2.2:=by simp[Yc,dC,e]
end
section
variable {κ:Type}[DecidableEq κ]
theorem Ws {p:κ×Addr×V}{r:List (κ×Addr×V)}{k:κ}(e:¬ p.1=k):Yc (p :: r) k=Yc r k:=by simp[Yc,dC,e]
end
theorem uo {P:Program}{w:World}:∀{a:List mM} {c:List Value},Vals (a.map kV) c->ItemsAre (Z0 P w) a c
 | [],_,r=>by rw[bI]at r;cases r;exact .nil
 | k :: a,_,r=>by
  rw[ar]at r;cases r with
  | cons h t=>exact .cons (F3 h) (uo t)
abbrev KT (H:Hp):List (List mM×Addr×V)->List (List mM×Addr×Value)->Prop:=Paired λp q=>p.1=q.1/\H q.2.1=some (.tup (p.1.map kV))/\RelV p.2.2 q.2.2/\p.2.1=q.2.1
theorem KT.val {kvs:List (List mM×Addr×V)}{xs:List (List mM×Addr×Value)}(r:KT H kvs xs)(k:List mM):AG (Yc kvs k) ((atKey xs k).map (·.2)):=by
 induction r with
 | nil=>exact True.intro
 | @cons p q g qs h t f=>
  obtain⟨c,_,d,_⟩:=h
  by_cases e:p.1=k
  ·have a :q.1=k:=c.symm.trans e;have b:atKey (q :: qs) k=some q.2:=by simp[atKey,dC,a]
   rw[Wr e,b];exact d
  ·have a :¬ q.1=k:=λz=>e (c.trans z);have b:atKey (q :: qs) k=atKey qs k:=by simp[atKey,dC,a]
   rw[Ws e,b];exact f
theorem KT.keeps {kvs:List (List mM×Addr×V)}{xs:List (List mM×Addr×Value)}(r:KT H kvs xs)(c:∀b a,H b=some (.tup a)->H' b=some (.tup a)):KT H' kvs xs:=
 Paired.mapP r λ_ _ z=>⟨z.1,c _ _ z.2.1,z.2.2⟩
section
theorem IU (ok:HOk P w H h)(e:Rd H a u):zQ P w H h a u:=e.ok ok
end
section
theorem Xl {d:List mM}(ok:HOk P w H h)(e:H a=some (.tup (d.map kV))):(tupleKind (Z0 P w)).is h d a:=by
 obtain⟨_,c,r,⟨o,g,f,n,i⟩,_⟩:=(show zQ P w H h a (.tup (d.map kV)) from ok a _ e);exact⟨o,c.toArray,n,g,f,i,by simpa using uo r⟩
end
section
theorem FS {kvs:List (List mM×Addr×V)}(ok:HOk P w H h)(e:Rd H a (.dT kvs)):kvs.length<=sizeLine/\(a == sysModules)=false/\
  ∃xs,KT H kvs xs/\h.DictOfH (tupleKind (Z0 P w)) a xs:=by
 obtain⟨z,y,xs,r,o,u,ep,g,f,i,j,v⟩:=(show zQ P w H h a (.dT kvs) from IU ok e);refine⟨z,y,xs,r,o,u,ep,g,f,i,j,λx c=> ?_,v⟩;have all:∀{l:List (List mM×Addr×V)} {m:List (List mM×Addr×Value)},KT H l m->∀x∈m,(tupleKind (Z0 P w)).is h x.1 x.2.1:=by
  intro l m q
  induction q with
  | nil=>intro x c;exact nomatch c
  | @cons p q B qs d t k=>
   intro x c;rcases ak.mp c with e | c
   ·subst e;exact Xl ok (by rw[← d.1];exact d.2.1)
   ·exact k x c
 exact all r x c
end
section
theorem VT {kvs:List (List mM×Addr×V)}(ok:HOk P w H h)(e:H a=some (.dT kvs)):kvs.length<=sizeLine/\(a == sysModules)=false/\
  ∃xs,KT H kvs xs/\h.DictOfH (tupleKind (Z0 P w)) a xs:=FS ok (.inl e)
end
section
variable {o:Option V}
theorem Inv.bigM (I:Inv X pins σ H s):sysModules < s.heap.objs.size:=by
 have h:mainGlobals < s.heap.objs.size:=(I.mod.glob.keeps I.bk).lt;exact fY (by decide) h
end
section
variable {o:Option V}
theorem KK (I:Inv X pins σ H s)(d:sC (H a))(g:bc a s.heap h')(f:∃q,h'.get? a=some q)(new:zQ X.prog X.w (mz H a ob) h' a ob):
  Inv X pins σ (mz H a ob) { s with heap:=h',toks:=t' }:=
 I.write (x:=a) (e:=a) d (.inl rfl) (λb q c z=>(g.2 b c).trans z) f new
end
theorem VU (h:Heap)(a:sysModules < h.objs.size):zQ P w H (h.push { cls:= .type "dict",data:= .dict #[] }) h.objs.size (.dT []):=
 ⟨bf _,beq_eq_false_iff_ne.mpr (bj (aF a)),[],.nil,_, #[],0,af _ rfl,⟨rfl,rfl,rfl⟩,rfl,rfl,List.nodup_nil⟩
def L8:TE:=λ_ H Q=>∀p,H p=none->Q (.ref p) (mz H p (.dT []))
section
theorem VV:PE X (.Dict [] [] pos) L8:=λc s d H Q I h=>
 wpAny_Dict_empty ⟨.ref s.heap.objs.size,_,I.laid (a:=s.heap.objs.size) (o:= .dT []) (t' :=s.toks) (λ_ _ q=>ab _ q) (am _) (VU s.heap I.bigM),rfl,h _ (I.hok.fresh (am _))⟩
end
end L2
namespace PV
open PySem PySem.Spec PyProof.Rows L2 PySem.W
def Fz:V->List V->Hp->VK->Prop:=λx vs H Q=>∃d kvs k b v0,x= .ref d/\vs=[.ref b,v0]/\H d=some (.dT kvs)/\H b=some (.tup (k.map kV))/\kvs.length < sizeLine/\(match Yc kvs k with
 | some v=>Q v H
 | none=>Q v0 (mz H d (.dT (kvs++[(k,b,v0)]))))
theorem KL (hu:X.A.units+64 < cLine):pC X "dict.setdefault" Fz:=by
 intro r s σ H x vs v us Q I D rs h;obtain⟨d,kvs,k,b,v0,rfl,rfl,hd,C,hz,h⟩:=h;cases D;cases rs with
 | @cons _ u1 _ M J rs=>
  cases rs with
  | @cons _ g _ U u rs=>
   cases rs;cases J;obtain⟨z,o,xs,e,dd⟩:=VT I.hok hd;refine aM F.slot_dict_setdefault dd.typeIs F.entry_dict_setdefault ?_ (F.args_dict_setdefault_3 _ _ _);unfold Builtin.«dict.setdefault»;refine a8 ?_;unfold Builtin.Dict.keyAndDefault;refine a8 (wpAny_notOrdered_dict dd.typeIs ?_);show wpAny _ _ (pure (d,Value.ref b,some g)) _ _ s;refine ac ?_;show wpAny _ _ (if (d == sysModules)=true then _ else (dictSetDefault d (.ref b) g >>= _)) _ _ s
   rw[if_neg (by rw[o];exact ax)]
   have l:xs.length<=sizeLine:=by rw[← e9 e];exact z
   have a:=e.val k;refine a8 (wb (tupleKind_room_in1 (by omega)) (Xl I.hok C) dd (λp hp=> ?_) (λhn h' i j => ?_) l)
   ·rw[hp]at a;revert h;cases f:Yc kvs k with
    | none=>rw[f]at a;exact(show False from a).elim
    | some w=>
     rw[f]at a;exact λh=>ac ⟨p.2,rfl,w,H,I.tok _,a,h⟩
   ·rw[hn]at a;revert h;cases f:Yc kvs k with
    | some w=>rw[f]at a;exact(show False from a).elim
    | none=>
     intro h;obtain⟨q,P,ep,y,N,O,G,_,S⟩:=i;refine ac ⟨g,rfl,v0,_,KK (ob:= .dT (kvs++[(k,b,v0)])) I (by rw[hd];exact True.intro) j ⟨q,y⟩ ⟨?_,o,_,KT.keeps (show KT H (kvs++[(k,b,v0)]) (xs++[(k,b,g)]) from Paired.snoc e ⟨rfl,C,u,rfl⟩) λc Z B=> ?_,q,P,ep,y,N,O,G,S⟩,u,h⟩
     ·rw[az,aK];omega
     ·rw[zi (Yg B hd (λz=>nomatch z))];exact B
noncomputable abbrev WE:=List Bool×List T
def wV (k:List Bool)(w:T):List WE->List WE
 | []=>[(k,[w])]
 | (a,c) :: r=>if a =k then (a,c++[w]) :: r else (a,c) :: wV k w r
noncomputable def ZO:List T->Option (List Bool)
 | []=>some []
 | .bl b :: ts=>(ZO ts).map λl=>b :: l
 | _=>none
def wc (g:T->R T):List T->List WE->R (List WE)
 | [],a=> .ok a
 | w :: c,a=>(g w).bind λt=>match t with
  | .tup ts=>(match ZO ts with
   | some k=>wc g c (wV k w a)
   | none=> .bad)
  | _=> .bad
def Eg (d c:List T->R T):List T->R (List WE):=λts=>match ts with
 | [e,f]=>(d [e]).bind λt=>match t with
  | .lst a=>if a.length<=mF then wc (λw=>c [f,w]) a [] else .bad
  | _=> .bad
 | _=> .bad
abbrev kI (k:List Bool):List mM:=k.map Sum.inl
theorem Xm {a b:List Bool}(h:kI a=kI b):a=b:=(lx λx y e=>by injection e).mp h
theorem EZ (k:List Bool):(kI k).map kV=k.map V.bl:=by rw[aZ];rfl
def Kb (a B H:Hp)(k:List Bool)(b:Addr):Prop:=H b=some (.tup (k.map V.bl))/\(a b=none\/B b=some (.tup (k.map V.bl)))
inductive Js (H0 B H:Hp) (n:Nat):List (List mM×Addr×V)->List WE->List Addr->Prop
 | nil:Js H0 B H n [] [] []
 | cons {k:List Bool} {b l:Addr} {xs:List V} {ws:List T} {kvs:List (List mM×Addr×V)} {es:List WE} {ls:List Addr} (kb:Kb H0 B H k b) (e:H l=some (.lst xs)) (b0:B l=none) (r:zy B xs ws) (hn:ws.length<=n) (no:l ∉ ls) (t:Js H0 B H n kvs es ls):Js H0 B H n ((kI k,b,.ref l) :: kvs) ((k,ws) :: es) (l :: ls)
section
variable {kvs:List (List mM×Addr×V)}{es:List WE}
theorem Kb.mono {k:List Bool}(h:Kb H0 B H k b)(a:∀b xs,H b=some (.tup xs)->H' b=some (.tup xs)):Kb H0 B H' k b:=⟨a _ _ h.1,h.2⟩
theorem Js.mono (hn:n<=n')(h:Js H0 B H n kvs es ls)(s:∀l∈ls,H' l=H l)(f:∀b xs,H b=some (.tup xs)->H' b=some (.tup xs)):Js H0 B H' n' kvs es ls:=by
 induction h with
 | nil=>exact .nil
 | cons d e b r a no t c=>exact .cons (d.mono f) (by rw[s _ aa];exact e) b r (av a hn) no (c λl a=>s l (a9 _ a))
theorem Js.bnone (h:Js H0 B H n kvs es ls)(a:l∈ls):B l=none:=by
 induction h with
 | nil=>cases a
 | cons d e b r hn no t c=>
  rcases ak.mp a with rfl | z
  ·exact b
  ·exact c z
theorem Js.islst (h:Js H0 B H n kvs es ls)(a:l∈ls):∃xs,H l=some (.lst xs):=by
 induction h with
 | nil=>cases a
 | cons d e b r hn no t c=>
  rcases ak.mp a with rfl | z
  ·exact⟨_,e⟩
  ·exact c z
theorem Js.old {k:List Bool}(j :Rep B u w)(h:Js H0 B H n kvs es i)(c:Yc kvs (kI k)=some v):
  ∃l xs,v= .ref l/\l∈i/\H l=some (.lst xs)/\xs.length<=n/\∀a,a l=some (.lst (xs++[u]))->(∀m∈i,m ≠ l->a m=H m)->(∀b xs,H b=some (.tup xs)->a b=some (.tup xs))->Js H0 B a (n+1) kvs (wV k w es) i:=by
 induction h with
 | nil=>cases c
 | @cons I O l xs P kvs es i y e b r C no t G=>
  by_cases o:I =k
  ·subst o;rw[Wr rfl]at c;cases c;refine⟨l,xs,rfl,aa,e,by rw[r.length];exact C,λa p g d=> ?_⟩
   rw[wV,if_pos rfl];exact .cons (y.mono d) p b (r.append (.cons j .nil)) (by rw[az,aK];omega) no (t.mono (cP _) (λm f=>g m (a9 _ f) λz=>no (z ▸ f)) d)
  ·rw[Ws λz=>o (Xm z)]at c;obtain⟨J,q,D,x,M,N,F⟩:=G c;refine⟨J,q,D,a9 _ x,M,N,λa p g d=> ?_⟩;rw[wV,if_neg o];exact .cons (y.mono d) (by rw[g l aa λz=>no (z ▸ x)];exact e) b r (by omega) no (F a p (λm f=>g m (a9 _ f)) d)
theorem Js.new {k:List Bool}(f :Rep B u w)(D:B l0=none)(h:Js H0 B H n kvs es d)(v:l0 ∉ d)(c:Yc kvs (kI k)=none):
  ∀a,Kb H0 B a k b0->a l0=some (.lst [u])->(∀m∈d,a m=H m)->(∀b xs,H b=some (.tup xs)->a b=some (.tup xs))->Js H0 B a (n+1) (kvs++[(kI k,b0,.ref l0)]) (wV k w es) (d++[l0]):=by
 induction h with
 | nil=>exact λa i o _ _=> .cons i o D (.cons f .nil) (by show 1<=n+1;omega) (by simp) .nil
 | @cons C G l xs I kvs es d i e b r F no t y=>
  intro a g o p q
  by_cases j:C =k
  ·subst j;rw[Wr rfl]at c;cases c
  ·rw[Ws λz=>j (Xm z)]at c;rw[wV,if_neg j];refine .cons (i.mono q) (by rw[p l aa];exact e) b r (by omega) ?_ (y (λz=>v (a9 _ z)) c a g o (λm x=>p m (a9 _ x)) q)
   intro z;rcases aW.mp z with z | z
   ·exact no z
   ·exact v (by rw[← aq.mp z];exact aa)
end
theorem U1:∀{B:Hp} {vs:List V} {ts:List T} {k:List Bool},zy B vs ts->ZO ts=some k->vs=k.map V.bl
 | _,_,_,_,.nil,h=>by cases h;rfl
 | _,_,_,_,.cons r d,h=>by
  cases r with
  | bl b=>
   unfold ZO at h;obtain⟨l,a,c⟩:=Option.map_eq_some_iff.mp h;subst c;rw[ar,U1 d a]
  | _=>cases h
def BP (B H:Hp)(r:R (List WE))(Q:VK):Prop:=match r with
 | .ok f=>∀d kvs e a c n,zo H a ->zo B c ->zo c (zF B H a)->H d=none->c d=none->a d=some (.dT kvs)->Js H c a n kvs f e->d ∉ e->(∀l∈e,H l=none)->Q (.ref d) a
 | _=>False
def rj (g:List T->R (List WE)):Sp:=λvs H Q _=>∃B ts,ts.length=2/\zo B H/\zy B vs ts/\BP B H (g ts) Q
structure WJ (H Bc:Hp) (d:Addr) (g:T->R T) (ws:List T) (esF:List WE) (H' :Hp) (i:Nat) (es:List WE) (kvs:List (List mM×Addr×V)) (ls:List Addr):Prop where
 sB:zo Bc H'
 sH:zo H H'
 hd:H' d=some (.dT kvs)
 en:Js H Bc H' i kvs es ls
 dn:d ∉ ls
 hn:∀l∈ls,H l=none
 hk:kvs.length<=i
 hF:wc g (ws.drop i) es= .ok esF
theorem Cm {Z:Zz}{x:Str}{st:Stmt}{k ka kw:Nat}{C g wy f an wn:Str}{ga gw:List T->R T}{q1 q2 q3 q4 q5 q6 q7 q8 q9 q10 U O X q14 q15 q16 q17 q18 q19 q20 q21 q22:Pos}(F:FE Z.K Z.mg x st [C,g])(A0:QQ an mT ka (spP Z.cl 1 ga) Z)(W0:QQ wn mT kw (spP Z.cl 2 gw) Z)(S:Sc [C,g,wy,f] [C,g] st)
  (hst:Z1 st=[.Assign [.Name wy q1] (.Dict [] [] q2) q3,
   .For (.Name f q4) (.Call (.Name an q5) [.Name C q6] [] q7) [.Expr (.Call (.Attribute (.Call (.Attribute (.Name wy q8) "setdefault" q9) [.Call (.Name wn q10) [.Name g U,.Name f O] [] X,.List [] q14] [] q15) "append" q16) [.Name f q17] [] q18) q19] [] q20,
   .Return (some (.Name wy q21)) q22])
  (hkd:(zf st).names.lookup C=some .local) (hru:(zf st).names.lookup g=some .local) (hwy:(zf st).names.lookup wy=some .local) (hwo:(zf st).names.lookup f=some .local) (han:(zf st).names.lookup an=some .globalImplicit) (hwn:(zf st).names.lookup wn=some .globalImplicit) (z1:(q9.endLine == q15.line)=true) (z2:(q16.endLine == q18.line)=true) (ha:ka<=k:=by omega) (hw:kw<=k:=by omega)
  (d1:(C == ("__debug__":Str))=false:=by decide) (d2:(C == ("__classdict__":Str))=false:=by decide) (d3:(g == ("__debug__":Str))=false:=by decide) (d4:(g == ("__classdict__":Str))=false:=by decide) (d5:(wy == ("__debug__":Str))=false:=by decide) (d6:(wy == ("__classdict__":Str))=false:=by decide) (d7:(f == ("__debug__":Str))=false:=by decide) (d8:(f == ("__classdict__":Str))=false:=by decide) (d9:(an == ("__debug__":Str))=false:=by decide) (d10:(wn == ("__debug__":Str))=false:=by decide):QQ x mT (k+1) (rj (Eg ga gw)) Z:=by
 obtain⟨ft,fdt,F⟩:=F;obtain⟨⟨_,pa,fa,fda,CA,FA⟩⟩:=A0;obtain⟨⟨_,pw,fw,fdw,CW,FW⟩⟩:=W0;refine⟨_,_,ft,fdt,F,F.F.ok S (λvs H Q E ⟨B,ts,hl,_,r,_⟩=>by rw[r.length,hl];rfl) λcdv A outer s H vs Q E hr ⟨B,ts,hl,sB,r,q⟩=> ?_⟩
 rw[hst];have gA:Gl (jC mT Z.P Z.w Z.K Z.mg Z.base [C,g,wy,f] x (zf st) ft cdv A outer s H E).nox an:=han;have gW:Gl (jC mT Z.P Z.w Z.K Z.mg Z.base [C,g,wy,f] x (zf st) ft cdv A outer s H E).nox wn:=hwn;have v0:∀{p},PE (jC mT Z.P Z.w Z.K Z.mg Z.base [C,g,wy,f] x (zf st) ft cdv A outer s H E).nox (.Name C p) (W6 0):=Jn rfl (.inl hkd) d1 d2;have v1:∀{p},PE (jC mT Z.P Z.w Z.K Z.mg Z.base [C,g,wy,f] x (zf st) ft cdv A outer s H E).nox (.Name g p) (W6 1):=Jn rfl (.inl hru) d3 d4;have v2:∀{p},PE (jC mT Z.P Z.w Z.K Z.mg Z.base [C,g,wy,f] x (zf st) ft cdv A outer s H E).nox (.Name wy p) (W6 2):=Jn rfl (.inl hwy) d5 d6;have v3:∀{p},PE (jC mT Z.P Z.w Z.K Z.mg Z.base [C,g,wy,f] x (zf st) ft cdv A outer s H E).nox (.Name f p) (W6 3):=Jn rfl (.inl hwo) d7 d8;have e1:(((((backTo q18 (starEach [.Name f q17] (jC mT Z.P Z.w Z.K Z.mg Z.base [C,g,wy,f] x (zf st) ft cdv A outer s H E).nox.env)).all λx=> !x.fst) && (backToKw q18 (keywordEach [] (jC mT Z.P Z.w Z.K Z.mg Z.base [C,g,wy,f] x (zf st) ft cdv A outer s H E).nox.env)).all λx=>x.fst.isSome) && decide (([Expr.Name f q17].length+([]:List Keyword).length+if ([]:List Keyword).isEmpty=true then 0 else 1) < 30))=true):=by rw[mQ rfl];rfl
 have s2:starEach [.Call (.Name wn q10) [.Name g U,.Name f O] [] X,.List [] q14] (jC mT Z.P Z.w Z.K Z.mg Z.base [C,g,wy,f] x (zf st) ft cdv A outer s H E).nox.env=[(false,eval (.Call (.Name wn q10) [.Name g U,.Name f O] [] X) _),(false,eval (.List [] q14) _)]:=nP rfl rfl;have e2:(((((backTo q15 (starEach [.Call (.Name wn q10) [.Name g U,.Name f O] [] X,.List [] q14] (jC mT Z.P Z.w Z.K Z.mg Z.base [C,g,wy,f] x (zf st) ft cdv A outer s H E).nox.env)).all λx=> !x.fst) && (backToKw q15 (keywordEach [] (jC mT Z.P Z.w Z.K Z.mg Z.base [C,g,wy,f] x (zf st) ft cdv A outer s H E).nox.env)).all λx=>x.fst.isSome) && decide (([Expr.Call (.Name wn q10) [.Name g U,.Name f O] [] X,.List [] q14].length+([]:List Keyword).length+if ([]:List Keyword).isEmpty=true then 0 else 1) < 30))=true):=by rw[s2];rfl
 have body:=Jb (JO (pos:=q19) (yB (cpos:=q18) (apos:=q16) de ie ig JQ
   (yB (cpos:=q15) (apos:=q9) eL PySem.F.slot_dict_setdefault PySem.F.type_dict_setdefault (KL hr.units) (v2 (p:=q8))
    (zm (jb (pos:=X) (p:=q10) FW (hr.mono hw) gW CW.m CW.F.kp CW.b .nil (uW (E:=λ_ _ _=>False)) (zm (v1 (p:=U)) (zm (v3 (p:=O)) zH (mQ rfl)) (zD rfl)) d10 (zD rfl) (zT rfl)) (zm (Yu zH) zH (mQ rfl)) (zD rfl)) rfl e2 z1 (zD rfl) (zT rfl))
   (zm (v3 (p:=q17)) zH (mQ rfl)) rfl e1 z2 (mQ rfl) rfl) rfl)
 refine⟨_,jr (wM S.nd (i:=2) rfl (.inl hwy) VV rfl (.inr hwy))
  (jr (xP fT rfl (Fc (jb (pos:=q7) (p:=q5) FA (hr.mono ha) gA CA.m CA.F.kp CA.b .nil (uW (E:=λ_ _ _=>False)) (zm (v0 (p:=q6)) zH (mQ rfl)) d9 (zD rfl) (zT rfl))) (jI S.nd (i:=3) rfl (.inl hwo) (.inr hwo)) body)
  (Jb (wL v2))), ?_⟩
 cases r with
 | nil=>cases hl
 | @cons va tk vs1 ts1 r1 rr=>
  cases rr with
  | nil=>cases hl
  | @cons vb tr vs2 ts2 r2 rr=>
   cases rr with
   | cons _ _=>exact absurd hl (by simp)
   | nil=>
    have q:BP B H ((ga [tk]).bind λt=>match t with | .lst j=>(if j.length<=mF then wc (λw=>gw [tr,w]) j [] else .bad) | _=> .bad) Q:=q
    cases ega:ga [tk] with
    | bad=>rw[ega]at q;exact q.elim
    | ex c=>rw[ega]at q;exact q.elim
    | ok t=>
     rw[ega]at q;intro d hd;have sd:=zo.new hd (HO.dT []);refine⟨va,rfl,B,[tk],rfl,sB.trans sd,.cons r1 .nil, ?_⟩;rw[ega];intro v Hc sc rv;cases rv with
     | @lst l xs j hxl rxs=>
      have q:BP B H (if j.length<=mF then wc (λw=>gw [tr,w]) j [] else .bad) Q:=q
      split at q
      case isFalse=>exact q.elim
      rename_i hbn;have sBc:zo (zF B (mz H d (HO.dT [])) Hc) Hc:=zF.le (sB.trans sd) sc;have bB:zo B (zF B (mz H d (HO.dT [])) Hc):=zF.ge (sB.trans sd) sc;have bd:zF B (mz H d (HO.dT [])) Hc d=none:=by
       rw[zR zl];exact sB.free hd
      have bG:∀M,zo (zF B (mz H d (HO.dT [])) Hc) M ->zo (zF B (mz H d (HO.dT [])) Hc) (zF B H M):=λM s' b o h=>by
       cases hb:H b with
       | none=>rw[zM hb];exact s' _ _ h
       | some u=>
        rw[zR hb];rw[zR (sd _ _ hb)]at h;exact h
      generalize zF B (mz H d (HO.dT [])) Hc=Bc at hxl rxs sBc bB bd bG;cases eF:wc (λw=>gw [tr,w]) j [] with
      | bad=>rw[eF]at q;exact q.elim
      | ex c=>rw[eF]at q;exact q.elim
      | ok esF=>
       rw[eF]at q;refine⟨l,rfl,.inl ⟨⟨xs,SqL.of (sBc _ _ hxl)⟩, ?_⟩⟩;refine⟨λi m σ' M =>m=j.length - i/\i<=j.length/\σ'[1]? =some (some vb)/\σ'[2]? =some (some (V.ref d))/\σ'.length=4/\∃es kvs ls,WJ H Bc d (λw=>gw [tr,w]) j esF M i es kvs ls,
        ⟨j.length,by simp,bf _,rfl,rfl,rfl,[],[],[],⟨sBc,sd.trans sc,sc _ _ zl,.nil,by simp,by simp,am _,eF⟩⟩, ?_⟩
       rintro i m σ' M ⟨rfl,hi,c1,c2,c4,es,kvs,ls,J,sH',I,en,dn,hn,hkl,G⟩
       have hl' :M l=some (.lst xs):=J _ _ hxl
       by_cases hlt:i < j.length
       ·have hgw:j[i]? =some j[i]:=ah hlt;obtain⟨N,hx0,rx0⟩:=rxs.get hgw;refine .inr ⟨⟨xs,N,SqL.of hl',hx0⟩,λσ2 H2=>σ2=σ'.set 3 (some N)/\∃es kvs ls,WJ H Bc d (λw=>gw [tr,w]) j esF H2 (i+1) es kvs ls,
         λσ2 H2 z=>⟨j.length - (i+1),by omega,rfl,hlt,by rw[z.1,aB (by decide)];exact c1,by rw[z.1,aB (by decide)];exact c2,by rw[z.1,bx];exact c4,z.2⟩,λy M hy=> ?_⟩
        obtain⟨rfl,hy⟩:=hy;have hy:=hy _ (SqL.of hl');rw[hx0]at hy;cases hy;rw[dX hlt]at G;unfold wc at G;have g1:(σ'.set 3 (some N))[1]? =some (some vb):=by rw[aB (by decide)];exact c1
        have g2:(σ'.set 3 (some N))[2]? =some (some (V.ref d)):=by rw[aB (by decide)];exact c2
        have g3:(σ'.set 3 (some N))[3]? =some (some N):=be (by omega)
        refine⟨.ref d,g2,.inr (.inr (.inl ⟨rfl,.inr ⟨kvs,I⟩⟩)),vb,g1,N,g3,Bc,[tr,j[i]],rfl,J,.cons (r2.mono bB) (.cons rx0 .nil), ?_⟩;cases egw:gw [tr,j[i]] with
        | bad=>rw[egw]at G;cases G
        | ex c=>rw[egw]at G;cases G
        | ok tw=>
         rw[egw]at G;intro v2 H2 s2 rv2;cases rv2 with
         | @tup b vs' ts' hb rb=>
          have G:(match ZO ts' with | some k=>wc (λw=>gw [tr,w]) (j.drop (i+1)) (wV k j[i] es) | none=> .bad)= .ok esF:=G
          cases ek:ZO ts' with
          | none=>rw[ek]at G;cases G
          | some kk=>
           rw[ek]at G;have hvs:=U1 rb ek;have hb2:H2 b=some (.tup vs'):=zF.le J s2 _ _ hb;refine⟨bf _,λp hp=> ?_⟩;have kp:∀c o,H2 c=some o->mz H2 p (HO.lst []) c=some o:=λc o a=>by rw[zi (λz=>by rw[z,hp]at a;cases a)];exact a
           refine⟨d,kvs,kI kk,b,.ref p,rfl,rfl,kp _ _ (s2 _ _ I),by rw[EZ,← hvs];exact kp _ _ hb2,Ut (by omega), ?_⟩
           have rx:Rep Bc N j[i]:=rx0;have kb2:H b=none\/Bc b=some (.tup (kk.map V.bl)):=by
            rw[← hvs];cases q:M b with
            | none=>exact .inl (sH'.free q)
            | some u=>rw[zR q]at hb;exact .inr hb
           cases hv:Yc kvs (kI kk) with
           | some v=>
            obtain⟨l1,xs1,rfl,m1,h1,n1,fin⟩:=en.old rx hv;have h2:=kp _ _ (s2 _ _ h1);have keep:∀c o,M c=some o->c ≠ l1->mz (mz H2 p (HO.lst [])) l1 (HO.lst (xs1++[N])) c=some o:=λc o a hne=>by rw[zi hne];exact kp _ _ (s2 _ _ a)
            have bl1:Bc l1=none:=en.bnone m1;refine⟨.inl ⟨rfl,xs1,SqL.of h2⟩,N,g3,l1,xs1,N,rfl,rfl,h2,Ut (by omega),rfl,_,kvs,ls,⟨(λc o a=>keep c o (J _ _ a) λz=>by rw[z,bl1]at a;cases a),(λc o a=>keep c o (sH' _ _ a) λz=>by rw[z,hn l1 m1]at a;cases a),keep _ _ I λz=>dn (z ▸ m1),fin _ zl (λc a hne=> ?_) (λc ys a=>keep c _ a λz=>by rw[z,h1]at a;cases a),dn,hn,by omega,G⟩⟩
            obtain⟨xc,D⟩:=en.islst a;rw[D];exact keep _ _ D hne
           | none=>
            have pd:p ≠ d:=λz=>by rw[z,s2 _ _ I]at hp;cases hp
            have pH' :M p=none:=s2.free hp;have pl:p ∉ ls:=λz=>by obtain⟨xc,D⟩:=en.islst z;rw[pH']at D;cases D
            have h2:mz (mz H2 p (HO.lst [])) d (HO.dT (kvs++[(kI kk,b,V.ref p)])) p=some (.lst []):=by rw[zi pd,zl]
            have keep:∀c o,M c=some o->c ≠ d->mz (mz (mz H2 p (HO.lst [])) d (HO.dT (kvs++[(kI kk,b,V.ref p)]))) p (HO.lst ([]++[N])) c=some o:=λc o a hne=>by
             rw[zi (λz=>by rw[z,pH']at a;cases a),zi hne];exact kp _ _ (s2 _ _ a)
            refine⟨.inl ⟨rfl,[],SqL.of h2⟩,N,g3,p,[],N,rfl,rfl,h2,by show 0 < sizeLine;exact bq (bf _) (Ut (show 0 < mF by decide)),rfl,_,_,_,⟨(λc o a=>keep c o (J _ _ a) λz=>by rw[z,bd]at a;cases a),(λc o a=>keep c o (sH' _ _ a) λz=>by rw[z,hd]at a;cases a),by rw[zi (bj pd),zl],en.new rx (J.free pH') pl hv _ ⟨?_,kb2⟩ zl (λc a=> ?_) (λc ys a=>keep c _ a λz=>by rw[z,I]at a;cases a),λz=> ?_,λc a=> ?_,by rw[az,aK];omega,G⟩⟩
            ·have bt:H2 b=some (.tup (kk.map V.bl)):=by rw[← hvs];exact hb2
             rw[zi (λz=>by rw[z,hp]at bt;cases bt),zi (λz=>by rw[z,s2 _ _ I]at bt;cases bt)];exact kp _ _ bt
            ·obtain⟨xc,D⟩:=en.islst a;rw[D];exact keep _ _ D λz=>dn (z ▸ a)
            ·rcases aW.mp z with z | z
             ·exact dn z
             ·exact pd (aq.mp z).symm
            ·rcases aW.mp a with z | z
             ·exact hn c z
             ·rw[aq.mp z];exact sH'.free pH'
         | _=>cases G
       ·have e:i=j.length:=by omega
        subst e;rw[ix]at G;cases G;exact .inl ⟨⟨xs,SqL.of hl',by rw[rxs.length];exact am _⟩,.ref d,c2,q d kvs ls M Bc _ sH' bB (bG M J) hd bd I en dn hn⟩
     | _=>exact q.elim
section
variable {es:Array DictEntry}{Q:Option Value->Shared->Prop}
theorem VW (c:IsItemIter s.heap it d i es.size ep ok ov)(U:s.heap.get? d=some od)(hd:od.data= .dict es ep)(hx:i < es.size)
  (X:∀h',IsItemIterOut h' it d (i+1) es.size ep es[i].key es[i].val s.heap.objs.size->h'.get? s.heap.objs.size=some { cls:= .type "tuple",data:= .seq #[es[i].key,es[i].val] }->
   (∀b o,b ≠ it->s.heap.get? b=some o->h'.get? b=some o)->Q (some (.ref s.heap.objs.size)) { s with heap:=h' }):wpAny (model prog w) A (pyNext (.ref it)) Q E s:=by
 obtain⟨hp,g,k,tk,os⟩:=s;have hT:fL ⟨hp,g,k,tk,os⟩ (.ref it) "dict_itemiterator":=⟨_,c,rfl⟩;unfold pyNext;refine a8 (cy (aX (name:=aC "__next__") hT bz (aM bz hT fG ?_ (f9 _))));refine a8 (ac (a8 (a8 ?_)))
 first | refine a8 (wpAny_typeNameOfWhole_itemiter hT (ac ?_)) | refine a8 (wpAny_typeNameOf_itemiter hT (ac ?_))
 refine a8 (wpAny_fieldsOf c rfl ?_);have P:bC "dict_itemiterator"=true:=by decide
 simp only[P,if_true];show wpAny _ _ (if (Value.ref d == Value.none)=true then _ else _) _ _ _
 rw[if_neg (show ¬ ((Value.ref d == Value.none)=true) from ax)];refine a8 (ac (a8 (cn U hd ?_)));rw[if_neg (by simp)]
 refine a8 (ac (a8 (dD U hd ?_)));rw[if_neg (by simp)]
 refine ac ?_;simp only[show ¬ ((i:Int) < 0) from by omega,if_false,b9,cI hx]
 refine a8 ?_
 first | refine a8 (wpAny_typeNameOfWhole_itemiter hT (ac ?_)) | refine a8 (wpAny_typeNameOf_itemiter hT (ac ?_))
 refine a8 (wpAny_isOneOf_itemiter hT ?_);show wpAny _ _ (setField (.ref it) 3 (rawInt ((i:Int)+1)) >>= _) _ _ ⟨hp,g,k,tk,os⟩;refine a8 (bb c (by simp) λl u p=> ?_)
 have p:bc it hp l:=p;have u:IsItemIter l it d (i+1) es.size ep ok ov:=by
  unfold IsItemIter;rw[show ((i+1:Nat):Int)=(i:Int)+1 by omega];simpa[rawInt] using u
 have q:fL ⟨l,g,k,tk,os⟩ (.ref it) "dict_itemiterator":=⟨_,u,rfl⟩;refine a8 (bp (a8 (wpAny_isOneOf_itemiter q (a8 (wpAny_isOneOf_itemiter q ?_)))));show wpAny _ _ (eZ (.ref it) 6 es[i].key es[i].val) _ _ ⟨l,g,k,tk,os⟩;unfold eZ;refine a8 (wpAny_newTuple ?_);obtain⟨j,a⟩:∃j,j=l.push { cls:= .type "tuple",data:= .seq #[es[i].key,es[i].val] }:=⟨_,rfl⟩;have r:IsItemIter j it d (i+1) es.size ep ok ov:=by rw[a];exact ab _ u
 have J:hp.objs.size ≠ it:=cO (au c);have Z:j.get? hp.objs.size=some { cls:= .type "tuple",data:= .seq #[es[i].key,es[i].val] }:=by rw[a,← p.1];exact af _ rfl
 have k2:∀b o,b ≠ it->hp.get? b=some o->j.get? b=some o:=λb o f e=>by rw[a];exact ab _ (p.extBut b o f e)
 show wpAny _ _ (eH (.ref it) >>= _) _ _ ⟨_,g,k,tk,os⟩;rw[← a,p.1]
 clear a
 refine a8 ?_;unfold eH;refine a8 (ba r rfl (x:= .none) rfl (ac ?_));simp only[if_true];refine a8 (ba r rfl (x:=ok) rfl (a8 (ba r rfl (x:=ov) rfl ?_)));refine a8 (bb r (by simp) λM y G=> ?_)
 have G:bc it j M:=G;have y:IsItemIter M it d (i+1) es.size ep es[i].key ov:=y;refine a8 (bb y (by simp) λB O I=> ?_)
 have I:bc it M B:=I;have O:IsItemIter B it d (i+1) es.size ep es[i].key es[i].val:=O;refine a8 (bb O (by simp) λN D F=> ?_)
 have F:bc it B N:=F;have D:IsItemIterOut N it d (i+1) es.size ep es[i].key es[i].val hp.objs.size:=D;refine a8 (bb D (by simp) λC x6 v=> ?_)
 have v:bc it N C:=v;have S:∀b o,b ≠ it->j.get? b=some o->C.get? b=some o:=λb o f e=>v.extBut b o f (F.extBut b o f (I.extBut b o f (G.extBut b o f e)));exact a8 (dO (ac (ac ⟨_,rfl,ac (X C x6 (S _ _ J Z) λb o f e=>S b o f (k2 b o f e))⟩)))
theorem qR (k:A.handled=none)(c:IsItemIter s.heap it d i es.size ep ok ov)(f:s.heap.get? d=some od)(hd:od.data= .dict es ep)(j:es.size<=i)(g:∀h',fM it s.heap h' ->Q none { s with heap:=h' }):wpAny (model prog w) A (pyNext (.ref it)) Q E s:=by
 have hT:s.TypeIs (.ref it) "dict_itemiterator":=⟨_,c,rfl⟩;unfold pyNext;refine a8 (cy (aX (name:=aC "__next__") hT bz (aM bz hT fG ?_ (f9 _))));refine a8 (ac (a8 (a8 ?_)))
 first | refine a8 (wpAny_typeNameOfWhole_itemiter hT (ac ?_)) | refine a8 (wpAny_typeNameOf_itemiter hT (ac ?_))
 refine a8 (wpAny_fieldsOf c rfl ?_);have e:bC "dict_itemiterator"=true:=by decide
 simp only[e,if_true];show wpAny _ _ (if (Value.ref d == Value.none)=true then _ else _) _ _ _
 rw[if_neg (show ¬ ((Value.ref d == Value.none)=true) from ax)];refine a8 (ac (a8 (cn f hd ?_)));rw[if_neg (by simp)]
 refine a8 (ac (a8 (dD f hd ?_)));rw[if_neg (by simp)]
 refine ac ?_;simp only[show ¬ ((i:Int) < 0) from by omega,if_false,b9,b_ j]
 refine a8 ?_
 first | refine a8 (wpAny_typeNameOfWhole_itemiter hT (ac ?_)) | refine a8 (wpAny_typeNameOf_itemiter hT (ac ?_))
 show wpAny _ _ (setField (.ref it) 2 .none >>= _) _ _ s;refine a8 (wpAny_setField c rfl (by simp) ?_)
 show wpAny _ _ (newExc (.type "StopIteration") [] >>= _) _ _ _;refine a8 ?_;simp only[newExc,newTuple];refine a8 (aO ?_ (by size_fits))
 refine a8 (m:=firstArgMember _ _) (c9 (a:=Value.none) (by first | rfl | (simp only[firstArgMember];rfl)) ?_)
 refine aO ?_ (by size_fits)
 simp only[raiseNew];refine a8 (wpAny_handled ?_);rw[show A.in1.handled=none from k];refine a8 (ac (wpAny_throw ?_));refine a8 (cA (T:="StopIteration") (b:=true) ⟨_,af _ rfl,rfl⟩ isSubtype_stop ?_);exact ac (g _ (((bV ..).extBut.push _).push _))
end
end PV
namespace L2
open PySem PySem.Spec PyProof.Rows PySem.W
section
theorem Inv.freeze (I:Inv X pins σ H s){kvs:List (List mM×Addr×V)}(hd:H d=some (.dT kvs))(p:s.heap.get? d=some o):Inv X pins σ (mz H d (.frz o (.dT kvs))) s:=by
 have g:∀b xs,H b=some (.tup xs)->mz H d (.frz o (.dT kvs)) b=some (.tup xs):=λb xs e=>by rw[zi (Yg e hd (λz=>nomatch z))];exact e
 have j:∀b f u,H b=some (.frz f u)->mz H d (.frz o (.dT kvs)) b=some (.frz f u):=λb f u e=>by rw[zi (Yg e hd (λz=>nomatch z))];exact e
 have k:∀a b,H b=some (.own a)->mz H d (.frz o (.dT kvs)) b=some (.own a):=λa b e=>by rw[zi (Yg e hd (λz=>nomatch z))];exact e
 have i:HOk X.prog X.w (mz H d (.frz o (.dT kvs))) s.heap:=λb u e=>by
  by_cases l:b=d
  ·subst l;rw[zl]at e;cases e;exact⟨p,(I.hok _ _ hd).stay (λ_ _ _ q=>q) (λc q=>k _ c q) g j⟩
  ·rw[zi l]at e;exact(I.hok b u e).stay (λ_ _ _ q=>q) (λc q=>k _ c q) g j
 exact I.step (ch:=[]) (λ_ z=>nomatch z) (λb o _ _ _ e _=>e) (λb o _ _ _ e _=>⟨o.slots,e⟩) (λb f _ e n=>by rw[zi (λz=>by rw[z,hd]at n;cases n)];exact n) (λb o _ e=>⟨o,e⟩) g j (λb r q e=>by rw[zi (Yg e hd (λz=>nomatch z))];exact e) (λm h=>h) i I.bare
end
end L2
namespace PV
open PySem PySem.Spec PyProof.Rows L2 PySem.W
def tu (d:Addr)(o:Obj):It:=⟨λi H=>∃kvs,H d=some (.frz o (.dT kvs))/\i < kvs.length,λi H x a =>∃kvs k v b T,H d=some (.frz o (.dT kvs))/\kvs[i]? =some (k,b,v)/\H b=some (.tup (k.map kV))/\x= .ref T/\H T=none/\a =mz H T (.tup [.ref b,v]),λi H=>∃kvs,H d=some (.frz o (.dT kvs))/\kvs.length<=i⟩
theorem wd:∀{kvs:List (List mM×Addr×V)} {xs:List (List mM×Addr×Value)},KT H kvs xs->∀(i:Nat) (p:List mM×Addr×V),kvs[i]? =some p->∃u,xs[i]? =some (p.1,p.2.1,u)/\H p.2.1=some (.tup (p.1.map kV))/\RelV p.2.2 u
 | _,_,.nil,i,p,h=>by simp at h
 | _,_,.cons (b:=q) c t,0,p,h=>by
  cases h;obtain⟨d,e,f,a⟩:=c;refine⟨q.2.2, ?_,by rw[a];exact e,f⟩
  rw[d,a];rfl
 | _,_,.cons c t,i+1,p,h=>wd t i p h
theorem D1 {kvs:List (List mM×Addr×V)}{c:Array DictEntry}(ok:HOk P w H h)(hd:H d=some (.frz o (.dT kvs)))(B:o.data= .dict c ep):
  h.get? d=some o/\c.size=kvs.length/\∀(i:Nat) (hi:i < c.size),∃k v b u,kvs[i]? =some (k,b,v)/\H b=some (.tup (k.map kV))/\RelV v u/\c[i].key= .ref b/\c[i].val=u:=by
 obtain⟨p,z,y,xs,a,I,F,C,g,G,j,l,J⟩:=ok d _ hd;rw[p]at g;cases g;rw[B]at j;cases j;have f:c.size=xs.length:=by rw[← bU,l,ae]
 refine⟨p,by rw[f,e9 a],λi hi=> ?_⟩
 have e :i < kvs.length:=by rw[e9 a,← f];exact hi
 obtain⟨u,r,x,D⟩:=wd a i kvs[i] (ah e);refine⟨kvs[i].1,kvs[i].2.2,kvs[i].2.1,u,by rw[ah e],x,D, ?_⟩
 have q:c.toList[i]? =some (entryOfKey (tupleKind (Z0 P w)) (kvs[i].1,kvs[i].2.1,u)):=by rw[l,ao,r];rfl
 rw[dH,cI hi]at q;rw[aH q];exact⟨rfl,rfl⟩
theorem VX:entryFor table "dict_itemiterator.__iter__"=some Builtin.«dict_keyiterator.__iter__»:=entryFor_alias (id' :="dict_keyiterator.__iter__") (by kernel_rfl) rfl (by decide+kernel) (by kernel_rfl)
theorem yO {P:Program}{w:World}{K:Frag}{l:List Expr}{U:Nat}{pt:Pos}(it d:Addr)(o:Obj)(M:Array DictEntry)(ep:Nat)(q:o.data= .dict M ep)(hne:d ≠ it):
  yt P w K (.Tuple l U pt) (tu d o) [it] it (λi h=>∃ok f,IsItemIter h it d i M.size ep ok f) where
 mem:=by simp
 obj:=λi h ⟨ok,f,st⟩ b y=>by
  rw[aq.mp y];exact⟨_,st,λv z=>nomatch z⟩
 keep:=λi h h' ⟨ok,f,st⟩ k=>⟨ok,f,k it (by simp) _ st⟩
 item:=by
  intro X C G x a i g s σ H E I p ⟨ok,f,st⟩ ⟨kvs,hd,hi⟩;subst C G x;obtain⟨J,hsz,B⟩:=D1 I.hok hd q;have j :i < M.size:=by rw[hsz];exact hi
  obtain⟨k,v,b,u,a1,a2,a3,a4,Z⟩:=B i j;have r:H s.heap.objs.size=none:=I.hok.fresh (am _);have hT:s.heap.objs.size ≠ it:=cO (au st);refine VW st J q j λh' x6 t6 k6=>⟨_,rfl,wpAny_letOwnedTupleGo_items x6 λh2 S O=>⟨.ref s.heap.objs.size,mz H s.heap.objs.size (.tup [.ref b,v]), ?_,rfl,⟨kvs,k,v,b,_,hd,a1,a2,rfl,r,rfl⟩,⟨_,_,S⟩,λc a=> ?_⟩⟩
  ·have N:=O.extBut _ _ hT t6;refine Inv.laidT (s:=s) (h' :=h2) (ch:=[it]) (tk:=s.toks) I p (λc D a e=>O.extBut c D (λz=>a (by simp[z])) (k6 c D (λz=>a (by simp[z])) e)) (λc D a _=> ?_) (am _) ⟨by rw[bY];show 2<=16777216;decide,[.ref b,u],.cons rfl (.cons a3 .nil),⟨_,N,rfl,0,by rw[a4,Z]⟩,.inr ⟨_,N,rfl⟩⟩
   rw[aq.mp a];exact⟨_,S⟩
  ·rw[aq.mp a,zi hT.symm];exact(p it (by simp)).1
 done:=by
  intro X C G x a i g s σ H E I p ⟨ok,f,st⟩ ⟨kvs,hd,hi⟩;subst C G x;obtain⟨J,hsz,_⟩:=D1 I.hok hd q;refine qR (I.ok.hd a) st J q (by rw[hsz];exact hi) λh' hk=>⟨rfl, ?_⟩
  obtain⟨f0,f1,f2,f3,f4,f5⟩:=p it (by simp)
  exact I.turned (t' :=s.toks) (λb o y e=>hk b o y e) f0 f1 f3 f4 f5
 self:=λA i s Q E ⟨ok,f,st⟩ h=>by
  have hT:s.TypeIs (.ref it) "dict_itemiterator":=⟨_,st,rfl⟩;refine wpAny_pyIter_slot hT fN (aM fN hT VX ?_ (F.args_dict_itemiterator_iter_1 _));show wpAny _ _ (ret (.ref it)) _ _ s;exact ac ⟨_,rfl,"dict_itemiterator",_,hT,bz.lookup,h⟩
theorem yP {e:Array DictEntry}(a:s.heap.IsItemsView v d)(f:s.heap.get? d=some od)(hd:od.data= .dict e ep)
  (g:Q (.ref s.heap.objs.size) { s with heap:=s.heap.push { cls:= .type "dict_itemiterator",data:= .fields #[.none,.bool false,.ref d,.int 0 0,.int e.size 0,.int ep 0,.none,.none] } }):wpAny (model prog w) A (pyIter (.ref v)) Q E s:=by
 obtain⟨l,j,k,i⟩:=id a;refine wpAny_pyIter_slot a.typeIs iK (aM iK a.typeIs F.entry_dict_items_iter ?_ (F.args_dict_items_iter_1 _));unfold Builtin.«dict_items.__iter__»;refine a8 (ac (a8 ?_));unfold i5;refine a8 (ba j i (x:= .ref d) rfl (ac (a8 ?_)));unfold fH;refine a8 (cn f hd (a8 (dD f hd ?_)));have c:bC "dict_itemiterator"=true:=by decide
 simp only[c,if_true];refine aO (ac ⟨_,rfl,"dict_itemiterator",_,⟨_,af _ rfl,rfl⟩,bz.lookup, ?_⟩)
  (by simp only[sizeOk,eI,aD,az,aw,cN,bY];omega)
 simpa[rawInt,eI] using g
theorem VY {X:Cx}{i:Nat}{x:Str}{g y pos pt:Pos}{j:List Expr}{Q:Nat}(O:PE X (.Name x g) (W6 i))(r:attributeBase (.Name x g) "items" X.env (eval (.Name x g) X.env)=eval (.Name x g) X.env:=by rfl)(N:(y.endLine == pos.line)=true:=by rfl):
  PI X (.Tuple j Q pt) (.Call (.Attribute (.Name x g) "items" y) [] [] pos) (λk H R=>∃d kvs,k[i]? =some (some (V.ref d))/\H d=some (.dT kvs)/\∀o,R (tu d o) (mz H d (.frz o (.dT kvs)))):=by
 intro w s k H R I ⟨d,kvs,l,hd,M⟩;refine wpAny_Call_method0_late r N (mH (O _ s k H (λv H' =>v= .ref d/\H' =H) I ⟨_,l,rfl,rfl⟩) λv c ⟨x1,Z,J,r1,P,e2⟩=> ?_);subst P e2;cases r1;obtain⟨z,U,xs,S,o,G,ep,f,B,C,h4⟩:=VT J.hok hd;have hT:c.TypeIs (.ref d) "dict":=⟨o,f,B.1⟩;have q:=J.freeze hd f;refine⟨"dict","dict.items",F.plainAttrs_dict,lP,F.type_dict_items,hT,λa ea=>by cases ea;exact⟨o,f,B.2.1⟩,eQ rfl (l8 ?_)⟩
 refine aM lP hT F.entry_dict_items ?_ (F.args_dict_items_1 _);unfold Builtin.«dict.items»;refine a8 ?_;unfold la;refine a8 (wpAny_notOrdered_dict hT ?_);show wpAny _ _ (pure d) _ _ c;refine ac ?_;show wpAny _ _ (dI d >>= _) _ _ c;unfold dI;rw[if_neg (by rw[U];exact ax)]
 refine a8 (ac (a8 (aO (ac ⟨_,rfl, ?_⟩))));have D:∀b ob,c.heap.get? b=some ob->(c.heap.push { cls:= .type "dict_items",data:= .fields #[.ref d] }).get? b=some ob:=λb ob e=>ab _ e;have u:(c.heap.push { cls:= .type "dict_items",data:= .fields #[.ref d] }).IsItemsView c.heap.objs.size d:=⟨_,af _ rfl,rfl,rfl⟩;refine yP (s:={ c with heap:=c.heap.push { cls:= .type "dict_items",data:= .fields #[.ref d] } }) u (D _ _ f) C ?_;have hz:(c.heap.push { cls:= .type "dict_items",data:= .fields #[.ref d] }).objs.size=c.heap.objs.size+1:=ci ..;have I3:Inv X _ k (mz Z d (.frz o (.dT kvs))) { c with heap:=(c.heap.push { cls:= .type "dict_items",data:= .fields #[.ref d] }).push { cls:= .type "dict_itemiterator",data:= .fields #[.none,.bool false,.ref d,.int 0 0,.int G.size 0,.int ep 0,.none,.none] } }:=q.kept λb ob e=>ab _ (D b ob e);have p:=au f;refine⟨_,[_],_,_,_,rfl,I3,yO _ d o G ep C (aF (aL p (by show c.heap.objs.size<=(c.heap.push _).objs.size;rw[hz];exact cP _))),⟨.none,.none,af _ rfl⟩,λb r=> ?_,M o⟩
 rw[aq.mp r,hz];exact q.fpOk (cP _) (q.hok.fresh (cP _))
end PV
namespace PV
open PySem PySem.Spec PyProof.Rows L2 PySem.W PySem.Calls
section
noncomputable abbrev nB (k:List Bool):List Nat:=k.map Bool.toNat
theorem Xn {a b:List Bool}(h:nB a=nB b):a=b:=(lx λx y e=>by cases x <;> cases y <;> first | rfl | cases e).mp h
theorem Fa {x y:List Bool}{P:Fin->Shared->Prop}(hx:IsTupleKey (ZA prog w) s.heap x a)(hy:IsTupleKey (ZA prog w) s.heap y b)(h:P (.done (.ret (.bool (decide (nB x < nB y))))) s):
  wpAny (model prog w) A (Builtin.«tuple.__lt__» ⟨[.ref a,.ref b],[]⟩) P E s:=by
 have I:=hy.typeIs;obtain⟨oa,xs,na,O,_,U,Q⟩:=hx;obtain⟨ob,k,nb,D,_,N,F⟩:=hy;show wpAny _ _ (isInstance (.ref b) (.type "tuple") >>= _) _ _ s;refine a8 (cA I isSubtype_tuple_tuple ?_);simp only[eD,aI,if_false];refine a8 (wpAny_tupleItemsOf O U (a8 (wpAny_tupleItemsOf D N (a8 ?_))));refine wpAny_forIn_list _ (λrest r q =>r.1=none/\q =s/\∃l B f e,rest=List.zip f e /\ItemsAre (ZA prog w) l f /\ItemsAre (ZA prog w) B e /\decide (nB l < nB B)=decide (nB x < nB y)/\f.length+k.size=e.length+xs.size) _ ?_ ?_ _ _ ⟨rfl,rfl,x,y,xs.toList,k.toList,rfl,Q,F,rfl,by simp;omega⟩
 ·rintro⟨u,v⟩ rest r q ⟨hr,rfl,l,B,f,e,hz,i,g,d,c⟩
  cases i with
  | nil=>simp at hz
  | @cons p u' x2 S Z J=>
   cases g with
   | nil=>simp at hz
   | @cons o v' y2 C X G=>
    simp only[dz,iO,Prod.mk.injEq]at hz;obtain⟨⟨rfl,rfl⟩,rfl⟩:=hz;refine a8 ((ZA prog w).eqBool (a:=p) (b:=o) Z X ?_);obtain rfl:=Zp Z;obtain rfl:=Zp X
    by_cases M:p=o
    ·subst M;rw[decide_eq_true rfl];simp only[eD,aI,if_false];refine ac ⟨rfl,rfl,x2,y2,S,C,rfl,J,G, ?_,by simp at c;omega⟩
     rw[← d];simp[nB]
    ·rw[decide_eq_false M];simp only[Bool.not_false,if_true];refine a8 (du (a8 (PyProof.Rows.lt_bool ?_)));have hf:decide (b2i p < b2i o)=decide (nB x < nB y):=by
      rw[← d];cases p <;> cases o <;> first | exact absurd rfl M | (rw[decide_eq_decide];show _↔_ :: _ < _ :: _;rw[List.cons_lt_cons_iff];simp[b2i])
     rw[hf];exact a8 (ac (ac (ac h)))
 ·rintro⟨r1,r2⟩ q ⟨hr,rfl,l,B,f,e,hz,i,g,d,c⟩
  simp only at hr;subst hr;refine ac ?_;have j:decide (xs.size < k.size)=decide (nB x < nB y):=by
   rw[← d];cases i with
   | nil=>
    cases g with
    | nil=>simp at c;simp[nB];omega
    | cons _ _=>simp at c;simp[nB];omega
   | cons _ _=>
    cases g with
    | nil=>simp at c;simp[nB];omega
    | cons _ _=>simp at hz
  show P (.done (.ret (.bool (decide (xs.size < k.size))))) q;rw[j];exact h
theorem Ie {x y:List Bool}{Q:Bool->Shared->Prop}(d:A.units < cLine)(c:IsTupleKey (ZA prog w) s.heap x a)(hy:IsTupleKey (ZA prog w) s.heap y b)(h:Q (decide (nB x < nB y)) s):wpAny (model prog w) A (oneLt' false (.ref a) (.ref b)) Q E s:=
 kat_one _ _ (wpAny_richCompare_same_room (op:= .Lt) c.typeIs hy.typeIs iS (aM iS c.typeIs PySem.F.entry_tuple_lt (Fa c hy ⟨_,rfl,(λe=>nomatch e),h⟩) (PySem.F.args_tuple_lt_2 _ _)) d)
def Xo (prog:Program)(w:World)(h:Heap)(v:Value)(x:List Bool):Prop:=∃a o b r n,v= .ref a/\h.get? a=some o/\o.cls= .type "tuple"/\o.data= .seq (#[Value.ref b]++r) n/\IsTupleKey (ZA prog w) h x b
theorem Xo.keep {x:List Bool}(k:∀b o,h.get? b=some o->(o.cls= .type "tuple")->h'.get? b=some o):Xo prog w h v x->Xo prog w h' v x:=λh=>by
 obtain⟨a,o,b,r,n,e,f,d,i,g,it,m,j,c,l⟩:=h;exact⟨a,o,b,r,n,e,k _ _ f d,d,i,g,it,m,k _ _ j c,c,l⟩
theorem qS:∀(vs:List Value) (xs:List (List Bool)),vs.length=xs.length->(∀(i:Nat) (v:Value) (x:List Bool),vs[i]? =some v->xs[i]? =some x->Xo prog w h v x)->∃fs:List Value,KatTups h vs fs/\fs.length=vs.length/\∀f∈fs,∃b o,f=Value.ref b/\h.get? b=some o/\o.cls= .type "tuple"
 | [],_,_,_=>⟨[],trivial,rfl,λf c=>by cases c⟩
 | v :: vs,[],d,_=>by cases d
 | v :: vs,x :: xs,d,H=>by
  obtain⟨fs,k,l,q⟩:=qS vs xs (by simpa using d) λi v x g e=>H (i+1) v x (by simpa using g) (by simpa using e)
  obtain⟨a,o,b,r,n,rfl,j,C,y,u,it,m,B,p,D⟩:=H 0 v x rfl rfl;refine⟨.ref b :: fs,⟨⟨a,o,_,n,rfl,j,C,y,by rw[Array.getElem?_append_left (by simp)];rfl⟩,k⟩,by simp[l],λf c=> ?_⟩
  rcases ak.mp c with rfl | c
  ·exact⟨b,u,rfl,B,p⟩
  ·exact q f c
theorem FC {xs:List (List Bool)}(q:A.units < cLine)(P:vs.length=xs.length)(H:∀(i:Nat) (v:Value) (x:List Bool),vs[i]? =some v->xs[i]? =some x->Xo prog w s.heap v x)(hn:xs.Nodup)(hi:i < vs.length)(u:j < vs.length)(e:i ≠ j){C:Bool->Shared->Prop}(I:C (decide (nB (xs.getD i []) < nB (xs.getD j []))) s):
  kas_ask prog w A (tuples' false) vs i j C s:=by
 unfold kas_ask;have p:∀k,k < vs.length->vs[k]? =some (vs.getD k Value.none):=λk h=>by simp[h]
 have l:∀k,k < vs.length->xs[k]? =some (xs.getD k []):=λk h=>by
  have:k < xs.length:=by omega
  simp[this]
 obtain⟨a,o,b,r,n,F,J,Z,N,e5⟩:=H i _ _ (p i hi) (l i hi);obtain⟨Q,S,g,B,X,O,M,U,D,y⟩:=H j _ _ (p j u) (l j u);rw[F,O];refine kat_lt J N M D ?_;have G:((#[Value.ref b]++r).toList.zip (#[Value.ref g]++B).toList)=(Value.ref b,Value.ref g) :: r.toList.zip B.toList:=by simp
 rw[G];refine kat_cons (wpAny_eqBool_tuple q e5 y ?_);have c:xs.getD i [] ≠ xs.getD j []:=λz=>by
  have d :i < xs.length:=by omega
  have f :j < xs.length:=by omega
  exact e ((dQ hn).mp (by simpa[d,f] using z))
 rw[decide_eq_false c];exact kat_no (Ie q e5 y I)
theorem qU {xs:List (List Bool)}{P:PySem.Fin->Shared->Prop}(hu:A.units < cLine)(F:s.heap.get? a=some (seqObj "list" vs.toArray n))(M:vs.length=xs.length)(H:∀(i:Nat) (v:Value) (x:List Bool),vs[i]? =some v->xs[i]? =some x->Xo prog w s.heap v x)(hn:xs.Nodup)(y:vs.length < 64)
  (h:∀p:Array Nat,Pm vs.length p->So (O:=strKind.toKeyOrd) (λi=>nB (xs.getD i [])) p vs.length->P (.done (.ret .none)) { s with heap:=sortedHeap s.heap a vs (p.toList.map λi=>vs.getD i Value.none).toArray }):
  wpAny (model prog w) A (Builtin.«list.sort» ⟨[.ref a],[]⟩) P E s:=by
 rw[list_sort_plain];refine a8 (listItems_at F rfl (a8 (listUpdate_at F rfl ?_)));obtain⟨X,l⟩:∃X,(s.heap.update a (cW λ_=> #[])).get? a=some _:=⟨_,get?_update_seq F λ_=> #[]⟩;refine a8 (seqEpoch_at l rfl (a8 (wpAny_newTuple (a8 (wpAny_newList (bp ?_))))));have d:(((s.heap.update a (cW λ_=> #[])).push (seqObj "tuple" vs.toArray 0)).push (seqObj "list" #[] 0)).get? a=some _:=ab _ (ab _ l);have keep:∀b o,s.heap.get? b=some o->o.cls= .type "tuple"->(((s.heap.update a (cW λ_=> #[])).push (seqObj "tuple" vs.toArray 0)).push (seqObj "list" #[] 0)).get? b=some o:=λb o e c=>by
  have hb:b ≠ a:=λz=>by subst z;rw[F]at e;cases e;have c' :=c;injection c' with c2;exact absurd c2 (by decide)
  exact ab _ (ab _ ((lc _ _ _ _ hb).trans e))
 dsimp only;have hsz:vs.toArray.size=vs.length:=by simp
 by_cases u:vs.toArray.size < 2
 ·rw[if_pos u,if_pos u];refine a8 (ac ?_);refine a8 (ac ?_);dsimp only;refine a8 (seqEpoch_at d rfl (a8 (listUpdate_at d rfl ?_ (hsz2:=by rw[Array.size_map];show (pairsOf vs).size<=_;rw[pairsOf_size,bY];omega))))
  simp only[bne_self_eq_false,aI,if_false];have hp:=h (aN vs.length).toArray ⟨by simp,by simp⟩ λi j B S=>by omega
  have e:((arrOf (SortSt.mk' general' (vs.toArray.zip vs.toArray) #[] 7 none)).map (·.2))=(((aN vs.length).toArray).toList.map λi=>vs.getD i Value.none).toArray:=by
   show (vs.toArray.zip vs.toArray).map (·.2)=_;have:vs.length=0\/vs.length=1:=by omega
   clear hp d keep l F h H M hsz u y
   rcases this with z | z
   ·rw[bK.mp z];simp
   ·obtain⟨v,z⟩:=eY.mp z;rw[z];simp
  rw[e];exact ac hp
 ·rw[if_neg u,if_neg u];have r :2<=vs.length:=by omega
  obtain⟨fs,kt,fl,fq⟩:=qS vs xs M λi v x f D=>(H i v x f D).keep keep;refine a8 (kat_kind (T:= .type "tuple") kt (by omega) (λv Z=> ?_) (by decide) ?_)
  ·obtain⟨b,o,rfl,g1,g2⟩:=fq v Z;have z:Looks (model prog w) _ (typeOf (.ref b)) o.cls:=(Looks.ld g1).andThen .now;rw[g2]at z;exact z
  refine a8 (cV (kat_run rfl (vs:=vs) (Q:=λg k =>k ={ s with heap:=((s.heap.update a (cW λ_=> #[])).push (seqObj "tuple" vs.toArray 0)).push (seqObj "list" #[] 0) }/\failedOf g =none/\∃p:Array Nat,Pm vs.length p/\So (O:=strKind.toKeyOrd) (λi=>nB (xs.getD i [])) p vs.length/\(arrOf g).map (·.2)=(p.toList.map λi=>vs.getD i Value.none).toArray)
   (G:=λp k =>k ={ s with heap:=((s.heap.update a (cW λ_=> #[])).push _).push _ }/\Pm vs.length p/\So (O:=strKind.toKeyOrd) (λi=>nB (xs.getD i [])) p vs.length) r y (λp g k z1 z2 z3 N=>⟨N.1,z3,p,N.2.1,N.2.2,kat_snds rfl z2⟩) ?_) ?_ λ_ _ z=>z)
  ·refine Gd.wp (J:=λk =>k ={ s with heap:=((s.heap.update a (cW λ_=> #[])).push _).push _ }) (n:=vs.length) (λi j C k hi S B js hc=> ?_) (λp k f js=>⟨js,f.1,f.2⟩) _ _ (U0 (λi j hi S e=> ?_) r) rfl
   ·subst js;exact FC hu M (λi v x f D=>(H i v x f D).keep keep) hn hi S B (hc _ rfl)
   ·have q :i < xs.length:=by omega
    have I :j < xs.length:=by omega
    exact(dQ (i:=i) (j:=j) (h₀:=q) (h₁:=I) hn).mp (by simpa[q,I] using Xn e)
  ·rintro⟨⟨⟩,g⟩ k ⟨rfl,hf,p,f,D,U⟩
   refine a8 (seqEpoch_at d rfl (a8 (listUpdate_at d rfl ?_ (hsz2:=by rw[U,aD,ae,bU,f.sz,bY];omega))))
   rw[hf];simp only[bne_self_eq_false,aI,if_false];rw[U];exact ac (h p f D)
theorem yQ {xs:List (List Bool)}(k:A.units+2 < cLine)(g:s.heap.IsList l vs.toArray)(j:vs.length=xs.length)(H:∀(i:Nat) (v:Value) (x:List Bool),vs[i]? =some v->xs[i]? =some x->Xo prog w s.heap v x)(hn:xs.Nodup)(c:vs.length < 64)
  (h:∀p:Array Nat,Pm vs.length p->So (O:=strKind.toKeyOrd) (λi=>nB (xs.getD i [])) p vs.length->Q (.ref (s.heap.objs.size+1)) { s with heap:=sortedAll s.heap vs (p.toList.map λi=>vs.getD i Value.none).toArray }):
  wpAny (model prog w) A (call (.builtin "sorted") [.ref l]) Q E s:=by
 refine call_function_entry kind_sorted plain_sorted entry_sorted (args_sorted1 _) ?_;refine a8 (ac (a8 (collect_list g (a8 (wpAny_newList ?_)))));have z:((s.heap.push (seqObj "list" #[] 0)).update s.heap.objs.size (cW (·++vs.toArray))).objs.size=s.heap.objs.size+1:=by rw[Heap.size_update,size_push']
 have a:(((s.heap.push _).update _ _).push (seqObj "list" vs.toArray 0)).get? _=some _:=z ▸ af _ rfl;rw[z];have kp:∀b o,s.heap.get? b=some o->o.cls= .type "tuple"->(((s.heap.push (seqObj "list" #[] 0)).update _ (cW (·++vs.toArray))).push (seqObj "list" vs.toArray 0)).get? b=some o:=λb o e _=>
  ab _ ((lc _ _ _ _ (aF (au e))).trans (ab _ e))
 refine a8 (bp (aM slot_list_sort ⟨_,a,rfl⟩ entry_list_sort (qU (by show A.units+1+1 < _;omega) a j (λi v x f d=>(H i v x f d).keep kp) hn c λp f d=>⟨_,rfl,ac ⟨_,rfl,h p f d⟩⟩) (args_list_sort _)))
end
end PV
namespace PV
open PySem PySem.Spec PyProof.Rows L2 PySem.W
def kW:T->List Bool
 | .tup (.tup bs :: _)=>(ZO bs).getD []
 | _=>[]
def r9:T->Bool
 | .tup (.tup bs :: _)=>(ZO bs).isSome
 | _=>false
def rK (a b:T):Bool:= !decide (nB (kW b) < nB (kW a))
def yR (ts:List T):List T:=ts.mergeSort rK
def uq:T->R T
 | .lst ts=>if ts.all r9=true/\(ts.map kW).Nodup/\ts.length < 64 then .ok (.lst (yR ts)) else .bad
 | _=> .bad
theorem wf (a b:T):rK a b=true↔nB (kW a)<=nB (kW b):=by
 unfold rK;rw[lQ,decide_eq_false_iff_not,List.not_lt]
theorem jh (ts:List T):(yR ts).Perm ts:=lf _ _
theorem KM (ts:List T):(yR ts).Pairwise λa b=>rK a b=true:=List.pairwise_mergeSort (λa b c e d=>by
 rw[wf]at*;exact List.le_trans e d) (λa b=>by
 rw[fS,wf,wf];exact List.le_total _ _) ts
theorem qV (hp:l.Perm ts)(hn:(ts.map kW).Nodup)(k:l.Pairwise λa b=>rK a b=true):l=yR ts:=by
 refine List.Perm.eq_of_pairwise (λa b p q g f=> ?_) k (KM ts) (hp.trans (jh ts).symm);rw[wf]at g f;have e:=Xn (List.le_antisymm g f);have c :=hp.mem_iff.mp p;have d :=(jh ts).mem_iff.mp q;obtain⟨i,hi,rfl⟩:=cS.mp c;obtain⟨j,o,rfl⟩:=cS.mp d;have:=(dQ (h₀:=by simpa using hi) (h₁:=by simpa using o) hn).mp (by simpa using e)
 subst this;rfl
theorem LA (hn:(ts.map kW).Nodup){q:Array Nat}(a:Pm ts.length q)(l:So (O:=strKind.toKeyOrd) (λi=>nB ((ts.map kW).getD i [])) q ts.length):(q.toList.map λi=>ts.getD i T.non)=yR ts:=by
 refine qV ?_ hn ?_
 ·have e:(aN ts.length).map (λi=>ts.getD i T.non)=ts:=by
   refine List.ext_getElem (by simp) λi a l=> ?_
   simp at a ⊢;simp[a]
  exact(a.pm.map _).trans (by rw[e])
 ·rw[List.pairwise_map,dY];intro i j hi f g;rw[bU,a.sz]at hi f;have r:=l i j g f;have v:=a.lt hi;have w:=a.lt f;have p:∀k (c:k < q.toList.length),q.toList[k]=q.getD k 0:=λk c=>by
   have d :=by simpa using c
   simp[lw,d]
  have o:∀k,k < ts.length->(ts.map kW).getD k []=kW (ts.getD k T.non):=λk c=>by simp[c]
  rw[p,p,wf];have u:decide (nB (kW (ts.getD (q.getD i 0) T.non)) < nB (kW (ts.getD (q.getD j 0) T.non)))=true:=by
   rw[← o _ v,← o _ w];exact r
  exact List.le_of_lt (of_decide_eq_true u)
theorem ur {P:Program}{w:World}:∀{k:List Bool} {a:List Value},Vals (k.map V.bl) a->ItemsAre (ZA P w) k a
 | [],_,r=>by rw[bI]at r;cases r;exact .nil
 | b :: k,_,r=>by
  rw[ar]at r;cases r with
  | cons h t=>
   obtain rfl:=(show _=Value.bool b from h);exact .cons (beq_self_eq_true b) (ur t)
section
theorem Lp (I:L2.Inv X pins σ H s)(r:Rep H v t)(M:L2.RelV v u)(h:r9 t=true):Xo X.prog X.w s.heap u (kW t):=by
 unfold r9 at h;split at h
 ·rename_i bs rest;obtain⟨k,j⟩:=ia.mp h;have C:kW (.tup (.tup bs :: rest))=k:=by show (ZO bs).getD []=k;rw[j];rfl
  rw[C];cases r with
  | @tup l U _ e i=>
   obtain rfl:u=Value.ref l:=M;obtain⟨_,J,p,⟨o,q,N,n,S⟩,_⟩:=I.hok l _ e;cases i with
   | cons D i=>
    cases D with
    | @tup g x _ f c=>
     obtain⟨_,d,a,⟨P,Q,O,y,F⟩,_⟩:=I.hok g _ f;rw[U1 c j]at a;cases p with
     | @cons _ Z _ G B p=>
      obtain rfl:=(show _=Value.ref g from B);exact⟨l,o,g,G.toArray,n,rfl,q,N,S.trans (by simp),P,d.toArray,y,Q,O,F,by simpa using ur a⟩
 ·cases h
theorem yS (hu:X.A.units+64 < cLine):Z7 X (.builtin "sorted") (λvs H Q=>∃l xs ts,vs=[.ref l]/\H l=some (.lst xs)/\zy H xs ts/\ts.all r9=true/\(ts.map kW).Nodup/\ts.length < 64/\∀r y,H r=none->(∀B:Hp,zy B xs ts->zy B y (yR ts))->Q (.ref r) (mz H r (.lst y))):=by
 intro C s σ H vs us Q I o h;obtain⟨l,xs,ts,rfl,G,r,hp,hn,w,q⟩:=h;obtain⟨u,rfl,S⟩:=Zn o;obtain rfl:u=Value.ref l:=S;obtain⟨c,o,pl,a,hz⟩:=zL I (.inl G) r;have p:=r.length;have j:s.heap.objs.size<=s.heap.objs.size+1:=cP _;refine yQ (by omega) pl (by rw[ae,a]) (λi v x O g=> ?_) hn (by rw[← a];exact w) λd k D=> ?_
 ·rw[ao]at g;cases e:ts[i]? with
  | none=>rw[e]at g;cases g
  | some t=>
   rw[e]at g;obtain rfl:kW t=x:=aH g;obtain⟨v',M,U⟩:=r.get e;obtain⟨u',F,Z⟩:=o.get M;rw[O]at F;cases F;exact Lp I U Z (aJ.mp hp t (bg e))
 ·rw[← a]at k D;obtain⟨n,P⟩:=sortedAll_at _ c (d.toList.map λi=>c.getD i _).toArray;have f:∀i∈d.toList,i < ts.length:=λi hi=>aT.mp (k.pm.mem_iff.mp hi);have N:∀B,zy B xs ts->zy B (d.toList.map λi=>xs.getD i _) _:=λB J=>by
   have:=uk J _ f;rw[LA hn k D]at this;exact this
  refine⟨.ref _,mz H _ (.lst (d.toList.map λi=>xs.getD i _)),I.laid (λb u e=>sortedAll_old e) j ?_,rfl,q _ _ (I.hok.fresh j) N⟩;exact⟨by rw[ae,bU,k.sz];omega,(d.toList.map λi=>c.getD i _),n,ul o _ (λi hi=>by rw[p];exact f i hi),P⟩
end
def BK:En->R (List T):=λ_=> .bad
def rg (e:WE):T:= .tup [.tup (e.1.map T.bl),.lst e.2]
theorem KN {kvs:List (List mM×Addr×V)}{d:List WE}(h:Js H0 B H n kvs d o):∀(i:Nat) k b v,kvs[i]? =some (k,b,v)->∃a c l xs,d[i]? =some (a,c)/\k=kI a/\v= .ref l/\l∈o/\Kb H0 B H a b/\H l=some (.lst xs)/\zy B xs c:=by
 induction h with
 | nil=>intro i k b v e;simp at e
 | @cons x I l xs c kvs d o C e b r G no t w=>
  intro i k b v j;cases i with
  | zero=>cases j;exact⟨x,c,l,xs,rfl,rfl,rfl,aa,C,e,r⟩
  | succ i=>
   obtain⟨a,g,p,f,q,u,D,F,y⟩:=w i k b v j;exact⟨a,g,p,f,q,u,D,a9 _ F,y⟩
theorem VZ {kvs:List (List mM×Addr×V)}{a:List WE}(h:Js H0 B H n kvs a ls):kvs.length=a.length:=by
 induction h with
 | nil=>rfl
 | cons f e b r d no t c=>rw[aw,aw,c]
theorem qW:∀k:List Bool,zy H (k.map V.bl) (k.map T.bl)
 | []=> .nil
 | b :: k=> .cons (.bl b) (qW k)
theorem x8 {kvs:List (List mM×Addr×V)}{S:List WE}(O:zo B' (zF B H H'))(C:H d=none)(bd:B' d=none)(hd:H' d=some (.dT kvs))(N:Js H B' H' n kvs S ls)(hn:∀l∈ls,H l=none):
  rI (zF B H (mz H' d (.frz o (.dT kvs)))) (mz H' d (.frz o (.dT kvs))) (tu d o) (S.map rg):=by
 intro p g a f;have up:∀b u,b ≠ d->zF B H H' b=some u->zF B H (mz H' d (.frz o (.dT kvs))) b=some u:=λb u hb h=>by
  cases q:H b with
  | none=>rw[zM q]at h ⊢;rw[zi hb];exact h
  | some w=>rw[zR q]at h ⊢;exact h
 have e:g d=some (.frz o (.dT kvs)):=f _ _ (a _ _ (by rw[zM C,zl]))
 have G:=VZ N;refine⟨λi hi=>⟨kvs,e,by rw[G];simpa using hi⟩,λi t x H3 P hz=> ?_,λi hi=>⟨kvs,e,by rw[G];simpa using hi⟩⟩
 obtain⟨M,k,v,b,Q,I,e2,e3,e4,e5,e6⟩:=hz;rw[e]at I;cases I;subst e4 e6;obtain⟨D,ws,l,xs,X,a2,a3,a4,y,r,Z⟩:=KN N i k b v e2;subst a2 a3;rw[ao,X]at P;cases P;have J:zo g (mz g Q (.tup [.ref b,.ref l])):=zo.new e5 _;have ge:zo p (zF p g (mz g Q (.tup [.ref b,.ref l]))):=zF.ge f J;have F :b ≠ d:=λz=>by have:=y.1;rw[z,hd]at this;cases this
 have ld:l ≠ d:=λz=>by rw[z,hd]at r;cases r
 have j:zF B H H' b=some (.tup (D.map V.bl)):=by
  rcases y.2 with z | z
  ·rw[zM z];exact y.1
  ·exact O _ _ z
 have U:Rep p (.ref b) (.tup (D.map T.bl)):= .tup (a _ _ (up _ _ F j)) (qW D);have rl:Rep p (.ref l) (.lst ws):= .lst (a _ _ (up _ _ ld (by rw[zM (hn l a4)];exact r))) ((Z.mono λc u h=>up c u (λz=>by rw[z,bd]at h;cases h) (O _ _ h)).mono a)
 refine⟨J,.tup (by rw[zM e5,zl]) (.cons (U.mono ge) (.cons (rl.mono ge) .nil))⟩
section
variable {js:List Nat}{g:T->En->R En}
theorem Ic:uP X Y tg iter BK:= .mk λρ a s c H R I ⟨B,J,q⟩=>q.elim
theorem x9 (C:Jq X Y (.Tuple elts kt pt) (.Call (.Attribute (.Name x px) "items" ap) [] [] cp) elt ifs scope N' k js BK tG g ft fe)(U:PE X (.Name x px) (W6 i))(O:attributeBase (.Name x px) "items" X.env (eval (.Name x px) X.env)=eval (.Name x px) X.env:=by rfl)(B:(ap.endLine == cp.line)=true:=by rfl):
  PE X (.ListComp elt [⟨.Tuple elts kt pt,.Call (.Attribute (.Name x px) "items" ap) [] [] cp,ifs,0⟩] scope pos) (λa H Q=>∃d kvs,a[i]? =some (some (V.ref d))/\H d=some (.dT kvs)/\∀o,∃y ρ ts vs,SI Y y ρ a (mz H d (.frz o (.dT kvs)))/\rI y (mz H d (.frz o (.dT kvs))) (tu d o) ts/\ts.length<=mF/\zx g ft fe ts (Jp k js ρ)= .ok vs/\
   ∀D f xs w,mz H d (.frz o (.dT kvs)) D=none->zo (mz H d (.frz o (.dT kvs))) f ->f D=some (.lst xs)->zy w xs vs->zo w (zF y (mz H d (.frz o (.dT kvs))) f)->w D=none->Q (.ref D) f):=by
 intro j s a H Q I ⟨d,kvs,Z,e2,h⟩;refine JB (ju rfl) (F:=λD f =>Q (.ref D) f) (te:=λa H Q=>∃c ρ',c.cl=Y.cl/\(c.E=λ_ _ _=>False)/\tS c rC fe ρ' a H Q) (tt:=λa H Q=>∃c ρ',c.cl=Y.cl/\tS c rE ft ρ' a H Q) C.sc C.cp C.cm (VY U O B) C.gt
  (λcl u M H3 fp j p s a H Q I ⟨c,ρ',G,q⟩=>C.tt c G cl u M H3 fp _ ρ' _ s a H Q I q) (λcl u M H3 fp j xe hp p s a H Q I ⟨c,ρ',G,eE,q⟩=>C.el c G cl u M H3 fp _ xe (eE ▸ hp) ρ' _ s a H Q I q) I ?_ ?_ C.hs
 ·refine⟨d,kvs,Z,e2,λo D S=> ?_⟩;obtain⟨y,ρ,ts,vs,J,r,B,ev,q⟩:=h o;exact jY C.gk C.gn J r B ev S λf xs w a1 a2 a3 a4 a5 _=>q D f xs w S a1 a2 a3 a4 a5
 ·intro D Cc f s' I' q' hC h0 hL l v P;obtain⟨m,hm⟩:=P;refine⟨m,hm,λh' N=>⟨.ref D,f, ?_,rfl,q'⟩⟩;exact I'.turned (λb o O e=>N.extBut b o O e) hC (bj hL).symm (.inr h0) l v
def rW (c:List T->R (List WE))(a:List T):R (List WE):=if a.length=2 then quiet (c a) else .bad
def pO (g:T->En->R En)(ft:En->R Bool)(c:En->R T)(k:Nat)(js:List Nat)(ρ:En)(a:List WE):R (List T):=if a.length<=mF then quiet (zx g ft c (a.map rg) (Jp k js ρ)) else .bad
def Xp (i:Nat)(c:List T->R (List WE))(j:En->R (List T))(g:T->En->R En)(ft:En->R Bool)(d:En->R T)(k:Nat)(js:List Nat):En->RS:=λρ=>(j ρ).s λf=>match rW c f with
 | .ok a=>(match pO g ft d k js (ρ.set i .un) a with
  | .ok vs=>(match uq (.lst vs) with
   | .ok (.lst e)=> .rf e
   | _=> .bad)
  | _=> .bad)
 | _=> .bad
theorem xa {Z:List T->R (List WE)}(O:QQ f mT kF (rj Z) ⟨X.prog,X.w,X.K,X.mg,X.base,cl⟩)(hr:ja kr X.A)(hN:X.N.Nodup)(hi:X.N[i]? =some x)(hx:L2.Loc X.env.scope x)
  (ha:Up X Y (a :: y) ga) (C:Jq X Y (.Tuple elts kt pt) (.Call (.Attribute (.Name x px) "items" ap) [] [] cp) elt ifs scope N' k js BK tG g ft fe) (hv:PE X (.Name x px) (W6 i)) (ms:X.mg "sorted"=none) (gs:Gl X "sorted":=by rfl) (hF:kF<=kr:=by omega) (gf:Gl X f:=by rfl) (hd:(f == ("__debug__":Str))=false:=by decide)
  (hsw:swapsWith (.Call (.Name f p2) (a :: y) [] p3) (some (.Name x p1)) p4.line X.env=pure false:=by rfl) (hf:X.fn x=true\/X.env.scope.names.lookup x=some .local:=by first | exact .inl rfl | exact .inr rfl | assumption)
  (hs:starEach (a :: y) X.env=(false,eval a X.env) :: starEach y X.env:=by exact zD rfl) (hz:((backTo p3 (starEach y X.env)).any λx=>x.fst)=false:=by exact zT rfl) (hb:attributeBase (.Name x px) "items" X.env (eval (.Name x px) X.env)=eval (.Name x px) X.env:=by rfl) (hl:(ap.endLine == cp.line)=true:=by rfl):
  We X Y [.Assign [.Name x p1] (.Call (.Name f p2) (a :: y) [] p3) p4,.Return (some (.Call (.Name "sorted" p5) [.ListComp elt [⟨.Tuple elts kt pt,.Call (.Attribute (.Name x px) "items" ap) [] [] cp,ifs,0⟩] scope pc] [] p6)) p7] (Xp i Z ga g ft fe k js):= .mk λρ=>by
 obtain⟨⟨_,pf,fw,fdw,CW,FW⟩⟩:=O;have W:=(jr (wM hN hi hx (pos:=p4) (jb (pos:=p3) (p:=p2) FW (hr.mono hF) gf CW.m CW.F.kp CW.b .nil (uW (E:=λ_ _ _=>False)) (ha ρ) hd hs hz) hsw hf)
  (Jb (wL (pos:=p7) (ZM (p:=p5) (pos:=p6) (yS hr.units) gs ms PyProof.Rows.Boot.«sorted» (zm (x9 (pos:=pc) C hv hb hl) zH (mQ rfl)) (by decide) (by decide) (mQ rfl) rfl))))
 intro M s σ H D Iv ⟨B,I,q⟩;have G:i < σ.length:=by rw[Iv.len];exact(ay.mp hi).1
 refine W M s σ H D Iv ?_;refine Je I q λus vs H1 _ s1 r1 I1 e=> ?_;have e:PoS Y _ (match rW Z us with
  | .ok y=>(match pO g ft fe k js (ρ.set i .un) y with
   | .ok vs=>(match uq (.lst vs) with
    | .ok (.lst ws)=> .rf ws
    | _=> .bad)
   | _=> .bad)
  | _=> .bad) D:=e
 unfold rW at e;split at e
 case h_2=>exact e.elim
 rename_i we j;split at j
 case isFalse=>cases j
 rename_i h2;cases S:Z us with
 | bad=>rw[S]at j;cases j
 | ex c=>rw[S]at j;cases j
 | ok we' =>
  rw[S]at j;cases j;unfold pO at e;split at e
  case h_2=>exact e.elim
  rename_i ts l;split at l
  case isFalse=>cases l
  rename_i h3;cases Q:zx g ft fe (we.map rg) (Jp k js (ρ.set i .un)) with
  | bad=>rw[Q]at l;cases l
  | ex c=>rw[Q]at l;cases l
  | ok ts' =>
   rw[Q]at l;cases l;unfold uq at e;dsimp only at e
   by_cases P:ts.all r9=true/\(ts.map kW).Nodup/\ts.length < 64
   case neg=>rw[if_neg P]at e;exact e.elim
   rw[if_pos P]at e;have e:PoS Y _ (.rf (yR ts)) D:=e;rw[bw];refine⟨_,us,h2,I1.sB,r1, ?_⟩;rw[S];intro d kvs ls H' B' n z1 z2 z3 z4 z5 z6 z7 z8 z9;refine⟨d,kvs,be G,z6,λo=> ?_⟩;have sF:zo H1 (mz H' d (.frz o (.dT kvs))):=λb u h=>by
    rw[zi (λz=>by rw[z,z4]at h;cases h)];exact z1 _ _ h
   have J:=(I1.grow sF).forget i (some (.ref d));refine⟨_,ρ.set i .un,we.map rg,ts,J,x8 z3 z4 z5 z6 z7 z9,by rw[ae];exact h3,Q,λDd H2 xs B2 a1 U a3 a4 a5 a6=> ?_⟩
   have lB:=a5.trans (zF.le J.sB U);refine⟨Dd,xs,ts,rfl,a3,a4.mono lB,P.1,P.2.1,P.2.2,λr ys v ry=> ?_⟩;have sN:zo H2 (mz H2 r (.lst ys)):=zo.new v _;refine e r ys _ B2 (J.sH.trans (U.trans sN)) ((J.sH.trans U).free v) zl (ry B2 a4) (lB.free v) ((a5.trans λb u h=> ?_).trans (Ur J.sH J.old (U.trans sN) J.sB));cases q:mz H' d (.frz o (.dT kvs)) b with
   | none=>rw[zM q]at h ⊢;exact sN _ _ h
   | some w=>rw[zR q]at h ⊢;exact h
end
section
variable {es:Array DictEntry}{Q:Option Value->Shared->Prop}
theorem KO (e:s.heap.IsValIter it d i es.size ep)(a:s.heap.get? d=some od)(c:od.data= .dict es ep)(hi:i < es.size)
  (k:∀h',h'.IsValIter it d (i+1) es.size ep->bc it s.heap h' ->Q (some es[i].val) { s with heap:=h' }):wpAny (model prog w) A (pyNext (.ref it)) Q E s:=by
 obtain⟨o,g,l,hd⟩:=id e;have hT:=e.typeIs;unfold pyNext;refine a8 (cy (aX (name:=aC "__next__") hT bT (aM bT hT ff ?_ (e_ _))));refine a8 (ac (a8 (a8 ?_)))
 first | refine a8 (wpAny_typeNameOfWhole_valiter hT (ac ?_)) | refine a8 (wpAny_typeNameOf_valiter hT (ac ?_))
 refine a8 (wpAny_fieldsOf g hd ?_);have j:bC "dict_valueiterator"=false:=by decide
 simp only[j,aI,if_false];show wpAny _ _ (if (Value.ref d == Value.none)=true then _ else _) _ _ s
 rw[if_neg (show ¬ ((Value.ref d == Value.none)=true) from ax)];refine a8 (ac (a8 (cn a c ?_)));rw[if_neg (by simp)]
 refine a8 (ac (a8 (dD a c ?_)));rw[if_neg (by simp)]
 refine ac ?_;simp only[show ¬ ((i:Int) < 0) from by omega,if_false,b9,cI hi]
 refine a8 ?_
 first | refine a8 (wpAny_typeNameOfWhole_valiter hT (ac ?_)) | refine a8 (wpAny_typeNameOf_valiter hT (ac ?_))
 refine a8 (wpAny_isOneOf_valiter hT ?_);show wpAny _ _ (setField (.ref it) 1 (rawInt ((i:Int)+1)) >>= _) _ _ s;refine a8 (wpAny_setField g hd (by simp) ?_)
 have f:(s.heap.update it (ii (·.setIfInBounds 1 (rawInt ((i:Int)+1))))).IsValIter it d (i+1) es.size ep:=
  ⟨_,fg _ g (iQ (eJ hd _)),(lM ..).trans l,by rw[eJ hd];simp[rawInt]⟩
 refine a8 (bp ?_);refine a8 (wpAny_isOneOf_valiter (s:={ s with heap:=s.heap.update it (ii (·.setIfInBounds 1 (rawInt ((i:Int)+1)))) }) f.typeIs ?_);refine a8 (wpAny_isOneOf_valiter (s:={ s with heap:=s.heap.update it (ii (·.setIfInBounds 1 (rawInt ((i:Int)+1)))) }) f.typeIs ?_);show wpAny _ _ (pure es[i].val) _ _ _;exact ac (ac ⟨_,rfl,ac (k _ f (bV ..))⟩)
theorem xf (p:A.handled=none)(f:s.heap.IsValIter it d i es.size ep)(c:s.heap.get? d=some od)(e:od.data= .dict es ep)(l:es.size<=i)(k:∀h',fM it s.heap h' ->Q none { s with heap:=h' }):wpAny (model prog w) A (pyNext (.ref it)) Q E s:=by
 obtain⟨o,j,q,hd⟩:=id f;have hT:=f.typeIs;unfold pyNext;refine a8 (cy (aX (name:=aC "__next__") hT bT (aM bT hT ff ?_ (e_ _))));refine a8 (ac (a8 (a8 ?_)))
 first | refine a8 (wpAny_typeNameOfWhole_valiter hT (ac ?_)) | refine a8 (wpAny_typeNameOf_valiter hT (ac ?_))
 refine a8 (wpAny_fieldsOf j hd ?_);have g:bC "dict_valueiterator"=false:=by decide
 simp only[g,aI,if_false];show wpAny _ _ (if (Value.ref d == Value.none)=true then _ else _) _ _ s
 rw[if_neg (show ¬ ((Value.ref d == Value.none)=true) from ax)];refine a8 (ac (a8 (cn c e ?_)));rw[if_neg (by simp)]
 refine a8 (ac (a8 (dD c e ?_)));rw[if_neg (by simp)]
 refine ac ?_;simp only[show ¬ ((i:Int) < 0) from by omega,if_false,b9,b_ l]
 refine a8 ?_
 first | refine a8 (wpAny_typeNameOfWhole_valiter hT (ac ?_)) | refine a8 (wpAny_typeNameOf_valiter hT (ac ?_))
 show wpAny _ _ (setField (.ref it) 0 .none >>= _) _ _ s;refine a8 (wpAny_setField j hd (by simp) ?_)
 show wpAny _ _ (newExc (.type "StopIteration") [] >>= _) _ _ _;refine a8 ?_;simp only[newExc,newTuple];refine a8 (aO ?_ (by size_fits))
 refine a8 (m:=firstArgMember _ _) (c9 (a:=Value.none) (by first | rfl | (simp only[firstArgMember];rfl)) ?_)
 refine aO ?_ (by size_fits)
 simp only[raiseNew];refine a8 (wpAny_handled ?_);rw[show A.in1.handled=none from p];refine a8 (ac (wpAny_throw ?_));refine a8 (cA (T:="StopIteration") (b:=true) ⟨_,af _ rfl,rfl⟩ isSubtype_stop ?_);exact ac (k _ (((bV ..).extBut.push _).push _))
theorem qX {v:Addr}{Q:Value->Shared->Prop}(a:s.heap.IsValuesView v d)(e:s.heap.get? d=some od)(hd:od.data= .dict es ep)
  (f:Q (.ref s.heap.objs.size) { s with heap:=s.heap.push { cls:= .type "dict_valueiterator",data:= .fields #[.ref d,.int 0 0,.int es.size 0,.int ep 0] } }):wpAny (model prog w) A (pyIter (.ref v)) Q E s:=by
 obtain⟨k,g,j,i⟩:=id a;refine wpAny_pyIter_slot a.typeIs iF (aM iF a.typeIs F.entry_dict_values_iter ?_ (F.args_dict_values_iter_1 _));unfold Builtin.«dict_values.__iter__»;refine a8 (ac (a8 ?_));unfold i5;refine a8 (ba g i (x:= .ref d) rfl (ac (a8 ?_)));unfold fH;refine a8 (cn e hd (a8 (dD e hd ?_)));have c:bC "dict_valueiterator"=false:=by decide
 simp only[c,aI,if_false];refine aO (ac ⟨_,rfl,"dict_valueiterator",_,⟨_,af _ rfl,rfl⟩,bT.lookup, ?_⟩);simpa[rawInt] using f
theorem qY (q:A.handled=none)(I:Addr)(k:d ≠ I)(g:od.data= .dict es ep):Walks prog w A I [I,d] [I] es.size (λi v=>∃h:i < es.size,v=es[i].val) (λi h=>h.IsValIter I d i es.size ep/\h.get? d=some od) where
 sub:=λb a=>by simp at a;simp[a]
 frame:=λ_ _ _ st p=>⟨st.1.at λo e=>p I (by simp) o e,p d (by simp) _ st.2⟩
 item:=λi s Q E hi st f=>KO st.1 st.2 g hi λh' c j =>f _ h' s.toks ⟨hi,rfl⟩ ⟨c,j.extBut _ _ k st.2⟩ λb o a e=>j.extBut b o (λh=>a (by simp[h])) e
 done:=λs Q E st f=>xf q st.1 st.2 g (am _) λh' l =>f h' s.toks λb o a e=>l b o (λh=>a (by simp[h])) e
 self:=λ_ _ _ _ st f=>wpAny_pyIter_valiter st.1 f
theorem xg {r:Addr}(c:od.data= .dict es ep):KdlSrc prog w "dict_values" r d es.size (λi v=>∃h:i < es.size,v=es[i].val) (λh=>h.IsValuesView r d/\h.get? d=some od) where
 type:=λ_ a=>a.1.typeIs
 there:=λ_ a=>⟨let ⟨_,ho,_⟩:=a.1;au ho,au a.2⟩
 keep:=λ_ _ a f=>⟨let ⟨o,ho,x⟩:=a.1;⟨o,f r (.inl rfl) o ho,x⟩,f d (.inr rfl) _ a.2⟩
 notList:=by decide
 notTuple:=by decide
 hint:=λ_ _ _ _ a e=>kdl_hint_values a.1.typeIs e
 iter:=λ_ _ g a=>⟨_,_,(λ_ _ e=>qX a.1 a.2 c e),qY g _ (aF (au a.2)) c,⟨⟨_,af _ rfl,rfl,rfl⟩,ab _ a.2⟩⟩
end
theorem qZ:∀(xs:List V) (a:List Value),xs.length=a.length->(∀(i:Nat) x u,xs[i]? =some x->a[i]? =some u->RelV x u)->Vals xs a
 | [],[],_,_=> .nil
 | [],_ :: _,h,_=>by cases h
 | _ :: _,[],h,_=>by cases h
 | x :: xs,u :: a,c,h=> .cons (h 0 x u rfl rfl) (qZ xs a (by simpa using c) λi x u e d=>h (i+1) x u (by simpa using e) (by simpa using d))
theorem Q0 {kvs:List (List mM×Addr×V)}{a:List WE}(h:Js H0 B H n kvs a ls)(f:zo B Z):(∀l xs,l∈ls->H l=some (.lst xs)->Z l=some (.lst xs))->zy Z (kvs.map (·.2.2)) (a.map λe=>T.lst e.2):=by
 induction h with
 | nil=>exact λ_=> .nil
 | cons i e b r g no t d=>exact λhz=> .cons (.lst (hz _ _ aa e) (r.mono f)) (d λl xs c=>hz l xs (a9 _ c))
section
theorem KP:pC X "dict.values" (λx xs H Q=>∃a kvs,x= .ref a/\xs=[]/\H a=some (.dT kvs)/\∀r,H r=none->Q (.ref r) (mz H r (.ext λh=>h.IsValuesView r a))):=by
 intro d s B H x xs v0 C Q I j u h;obtain⟨a,kvs,rfl,rfl,p,q⟩:=h;obtain rfl:v0=Value.ref a:=j;cases u;obtain⟨z,l,w,k,o,G,ep,g,f,D,y⟩:=VT I.hok p;have hT:s.TypeIs (.ref a) "dict":=⟨o,g,f.1⟩;refine aM F.slot_dict_values hT F.entry_dict_values ?_ (F.args_dict_values_1 _);unfold Builtin.«dict.values»;refine a8 ?_;unfold la;refine a8 (wpAny_notOrdered_dict hT ?_);show wpAny _ _ (pure a) _ _ s;refine ac ?_;show wpAny _ _ (dI a >>= _) _ _ s;unfold dI;rw[if_neg (by rw[l];exact ax)]
 refine a8 (ac (a8 (aO (ac ⟨_,rfl, ?_⟩))));have c:s.heap.objs.size<=s.heap.objs.size:=am _;refine⟨.ref _,_,I.laid (t' :=s.toks) (λb o e=>ab _ e) c ?_,rfl,q _ (I.hok.fresh c)⟩;exact⟨⟨_,af _ rfl,rfl,rfl⟩,⟨_,af _ rfl⟩,λg f ⟨o,i,v⟩ e=>⟨o,e _ i,v⟩⟩
theorem yT (hh:X.A.handled=none):Z7 X (.type "list") (λvs H Q=>∃r p a kvs,vs=[.ref r]/\H r=some (.ext p)/\(∀h:Heap,p h->h.IsValuesView r a)/\H a=some (.dT kvs)/\∀l,H l=none->Q (.ref l) (mz H l (.lst (kvs.map (·.2.2))))):=by
 intro C s σ H vs us Q I O h;obtain⟨r,p,a,kvs,rfl,hr,k,J,q⟩:=h;obtain⟨u,rfl,Z⟩:=Zn O;obtain rfl:u=Value.ref r:=Z;obtain⟨U,_,_⟩:=(show zQ _ X.w H _ r _ from I.hok r _ hr);obtain⟨z,hs,xs,d,o,D,ep,P,g2,S,B,g5⟩:=VT I.hok J;have v:D.size=kvs.length:=by rw[← bU,B,ae,e9 d]
 refine kdl_call (xg S) hh ⟨k _ U,P⟩ (by rw[v];exact z) λh' tk j M kp G c=> ?_
 have g:s.heap.objs.size<=s.heap.objs.size:=am _;refine⟨.ref _,mz H _ (.lst (kvs.map (·.2.2))),I.laid (t' :=tk) (λb o e=>kp b o e) g ⟨by rw[ae];exact z,j.toList,M,qZ _ _ (by have:=c.1;simp;omega) λi x u y e2=> ?_,by simpa using G⟩,rfl,q _ (I.hok.fresh g)⟩
 obtain⟨hi,rfl⟩:=c.2 i u (by rw[← dH];exact e2)
 have f :i < kvs.length:=by rw[← v];exact hi
 rw[ao,ah f]at y;cases y;obtain⟨u,f1,f2,N⟩:=wd d i kvs[i] (ah f);have F:D.toList[i]? =some (entryOfKey (tupleKind (Z0 X.prog X.w)) (kvs[i].1,kvs[i].2.1,u)):=by rw[B,ao,f1];rfl
 rw[dH,cI hi]at F;rw[aH F];exact N
end
theorem Js.base {kvs:List (List mM×Addr×V)}{a:List WE}(h:Js H0 B H n kvs a ls)(s:zo H1 H0):Js H1 B H n kvs a ls:=by
 induction h with
 | nil=>exact .nil
 | cons c e b r f no t d=>exact .cons ⟨c.1,c.2.imp (λz=>s.free z) id⟩ e b r f no d
def C6 (B H:Hp)(r:R (List WE))(Q:VK):Prop:=match r with
 | .ok f=>∀a kvs e c d n,zo H c ->zo B d ->zo d (zF B H c)->H a=none->d a=none->c a=some (.lst (kvs.map (·.2.2)))->Js H d c n kvs f e->a ∉ e->(∀l∈e,H l=none)->Q (.ref a) c
 | _=>False
def rc (g:List T->R (List WE)):Sp:=λvs H Q _=>∃B ts,ts.length=2/\zo B H/\zy B vs ts/\C6 B H (g ts) Q
def DX (e:List T->R T)(c:List T->R (List WE)):List T->R (List WE):=λts=>match ts with
 | [d,a]=>(e [a]).bind λ_=>c [d,a]
 | _=> .bad
theorem DB {Z:Zz}{x:Str}{st:Stmt}{k kn kw:Nat}{e a N G:Str}{X:List T->R T}{J:List T->R (List WE)}{q1 q2 q3 q4 q5 q6 q7 q8 q9 u j D U:Pos}(F:FE Z.K Z.mg x st [e,a])(N0:QQ N mT kn (spP Z.cl 1 X) Z)(W0:QQ G mT kw (rj J) Z)(hlm:Z.mg "list"=none)(S:Sc [e,a] [e,a] st)
  (hst:Z1 st=[.Expr (.Call (.Name N q1) [.Name a q2] [] q3) q4,
   .Return (some (.Call (.Name "list" q5) [.Call (.Attribute (.Call (.Name G q6) [.Name e q7,.Name a q8] [] q9) "values" u) [] [] j] [] D)) U])
  (hkd:(zf st).names.lookup e=some .local) (hru:(zf st).names.lookup a=some .local) (hnn:(zf st).names.lookup N=some .globalImplicit) (hwn:(zf st).names.lookup G=some .globalImplicit) (hgl:(zf st).names.lookup ("list":Str)=some .globalImplicit) (z1:(u.endLine == j.line)=true) (hn:kn<=k:=by omega) (hw:kw<=k:=by omega)
  (d1:(e == ("__debug__":Str))=false:=by decide) (d2:(e == ("__classdict__":Str))=false:=by decide) (d3:(a == ("__debug__":Str))=false:=by decide) (d4:(a == ("__classdict__":Str))=false:=by decide) (d5:(N == ("__debug__":Str))=false:=by decide) (d6:(G == ("__debug__":Str))=false:=by decide):QQ x mT (k+1) (rc (DX X J)) Z:=by
 obtain⟨ft,fdt,F⟩:=F;obtain⟨⟨_,pa,fa,fda,CN,FN⟩⟩:=N0;obtain⟨⟨_,pw,fw,fdw,CW,FW⟩⟩:=W0;refine⟨_,_,ft,fdt,F,F.F.ok S (λvs H Q E ⟨B,ts,C,_,r,_⟩=>by rw[r.length,C];rfl) λcdv A outer s H vs Q E hr ⟨B,ts,C,sB,r,q⟩=> ?_⟩
 rw[hst];have gN:Gl (jC mT Z.P Z.w Z.K Z.mg Z.base [e,a] x (zf st) ft cdv A outer s H E).nox N:=hnn;have gW:Gl (jC mT Z.P Z.w Z.K Z.mg Z.base [e,a] x (zf st) ft cdv A outer s H E).nox G:=hwn;have gl:Gl (jC mT Z.P Z.w Z.K Z.mg Z.base [e,a] x (zf st) ft cdv A outer s H E).nox "list":=hgl;have v0:∀{p},PE (jC mT Z.P Z.w Z.K Z.mg Z.base [e,a] x (zf st) ft cdv A outer s H E).nox (.Name e p) (W6 0):=Jn rfl (.inl hkd) d1 d2;have v1:∀{p},PE (jC mT Z.P Z.w Z.K Z.mg Z.base [e,a] x (zf st) ft cdv A outer s H E).nox (.Name a p) (W6 1):=Jn rfl (.inl hru) d3 d4;refine⟨_,jr (JO (pos:=q4) (jb (pos:=q3) (p:=q1) FN (hr.mono hn) gN CN.m CN.F.kp CN.b .nil (uW (E:=λ_ _ _=>False)) (zm (v1 (p:=q2)) zH (mQ rfl)) d5 (zD rfl) (zT rfl)) rfl)
  (Jb (wL (pos:=U) (ZZ (p:=q5) (pos:=D) (yT hr.hd) gl hlm PyProof.Rows.Boot.«list» (zm (xU (cpos:=j) (apos:=u) eL eG io KP
   (jb (pos:=q9) (p:=q6) FW (hr.mono hw) gW CW.m CW.F.kp CW.b .nil (uW (E:=λ_ _ _=>False)) (zm (v0 (p:=q7)) (zm (v1 (p:=q8)) zH (mQ rfl)) (zD rfl)) d6 (zD rfl) (zT rfl)) rfl z1) zH (mQ rfl)) (by decide) (by decide) (mQ rfl) rfl))), ?_⟩
 cases r with
 | nil=>cases C
 | @cons va tk vs1 ts1 r1 rr=>
  cases rr with
  | nil=>cases C
  | @cons vb tr vs2 ts2 r2 rr=>
   cases rr with
   | cons _ _=>exact absurd C (by simp)
   | nil=>
    have q:C6 B H ((X [tr]).bind λ_=>J [tk,tr]) Q:=q;cases eg:X [tr] with
    | bad=>rw[eg]at q;exact q.elim
    | ex c=>rw[eg]at q;exact q.elim
    | ok t=>
     rw[eg]at q;have q:C6 B H (J [tk,tr]) Q:=q;refine⟨vb,rfl,B,[tr],rfl,sB,.cons r2 .nil, ?_⟩;rw[eg];intro v Hn i rv;have gB:=zF.ge sB i;refine⟨va,rfl,vb,rfl,zF B H Hn,[tk,tr],rfl,zF.le sB i,.cons (r1.mono gB) (.cons (r2.mono gB) .nil), ?_⟩;cases ew:J [tk,tr] with
     | bad=>rw[ew]at q;exact q.elim
     | ex c=>rw[ew]at q;exact q.elim
     | ok es=>
      rw[ew]at q;intro d kvs ls y B' n y1 y2 y3 y4 y5 I y7 y8 y9;refine⟨.inr (.inr (.inl ⟨rfl,.inr ⟨kvs,I⟩⟩)),d,kvs,rfl,rfl,I,λr O => ?_⟩;have rd:d ≠ r:=λz=>by rw[z,O]at I;cases I
      have sR:zo y (mz y r (.ext λh=>h.IsValuesView r d)):=zo.new O _;refine⟨r,_,d,kvs,rfl,zl,λh z=>z,by rw[zi rd];exact I,λl M => ?_⟩
      have sL:=zo.new M (HO.lst (kvs.map (·.2.2)));have s2:=y1.trans (sR.trans sL);have l0:y l=none:=sR.free M;have bl:∀b o,y b=some o->mz (mz y r (.ext λh=>h.IsValuesView r d)) l (HO.lst (kvs.map (·.2.2))) b=some o:=λb o h=>sL _ _ (sR _ _ h);have hG:zo B' (zF B H (mz (mz y r (.ext λh=>h.IsValuesView r d)) l (HO.lst (kvs.map (·.2.2))))):=λb o h=>by
       have g:=y3 _ _ h;cases p:Hn b with
       | none=>rw[zM p]at g;rw[zM (i.free p)];exact bl _ _ g
       | some w=>
        rw[zR p]at g;cases p2:H b with
        | none=>rw[zM p2]at g ⊢;exact s2 _ _ g
        | some w2=>rw[zR p2]at g ⊢;exact g
      refine q l kvs ls _ B' n (i.trans s2) (gB.trans y2) hG (i.free (y1.free l0)) ((y3.trans (zF.le (zF.le sB i) y1)).free l0) zl ((y7.base i).mono (am _) (λm hm=> ?_) λb xs h=>bl _ _ h) (λz=> ?_) λm hm=>i.free (y9 m hm)
      ·obtain⟨xc,f⟩:=y7.islst hm;rw[f];exact bl _ _ f
      ·obtain⟨xc,f⟩:=y7.islst z;rw[l0]at f;cases f
section
end
def BD (r:R (List WE)):R T:=match r with
 | .ok a=> .ok (.lst (a.map λe=>T.lst e.2))
 | _=> .bad
section
end
section
end
theorem LC {Z:Zz}{g:List T->R (List WE)}(O:QQ x mT k (rc g) Z):QQ x mT k (spP Z.cl 2 (λD=>BD (g D))) Z:=by
 obtain⟨⟨st,M,f,j,d,C⟩⟩:=O;refine⟨st,M,f,j,d,C.imp λvs H Q E ⟨B,ts,i,o,r,q⟩=>⟨B,ts,i,o,r, ?_⟩⟩;dsimp only at q;cases e:g ts with
 | bad=>rw[e]at q;exact q.elim
 | ex c=>rw[e]at q;exact q.elim
 | ok U=>
  rw[e]at q;intro a kvs ls F P n p X y w S I v N J;exact q (.ref a) F p (.lst (by rw[zM w];exact I) (Q0 v y λl xs u G=>by rw[zM (J l u)];exact G))
end PV
namespace G
open PySem PySem.Spec PyProof.Rows L2 PV
def rO:En->RS:=
  zn (mD (zp om (vB 1) (mw Z6 (vB 0))) (zr (zd kj (vE 0) (vE 1))) (mC))
  (zn (mD (zp my (vB 0) (Zc (ze))) (zr (cE (.int 0))) (mC))
  (zr (zd zv (zd zU (zd kj (vE 0) (zd jL (vE 1) (mw Z6 (vB 0)))) (cE (.int 31))) (vE 1))))
def rS:List T->R T:=λts=>zk (rO  (mB 2 ts))
def Ec (a:List T->R T):En->RS:=
  zn (zC 3 (zd jL (zd zU (zd zv (zb 2 a (za (vE 0) (za (vE 1) (ze)))) (zd zU (cE (.int 6151)) (zd zv (vE 1) (cE (.int 1))))) (cE (.int 40692))) (cE (.int 2147483399))))
  (zr (zd jL (zd jL (zd zv (zd zU (vE 3) (vE 3)) (zd Wb (vE 3) (cE (.int 31)))) (cE (.int 2147483629))) (vE 2)))
def np:List T->R T:=λts=>zk (Ec (rS) (mB 4 ts))
def tO (a:List T->R T):En->RS:=
  zn (zC 2 (cE (.str "abcdefghijklmnopqrstuvwxyz")))
  (zn (mD (zp nt (zb 3 a (za (vE 0) (za (vE 1) (za (cE (.int 6)) (ze))))) (cE (.int 0))) (zr (zd kj (Zc (za (cE (.str "a")) (za (cE (.str "b")) (za (cE (.str "ab")) (za (cE (.str "cab")) (ze)))))) (zb 3 a (za (vE 0) (za (zd zv (vE 1) (cE (.int 1))) (za (cE (.int 4)) (ze))))))) (mC))
  (zr (mw (Ep "") (zA (Zi (zd zv (cE (.int 1)) (zb 3 a (za (vE 0) (za (zd zv (vE 1) (cE (.int 1))) (za (cE (.int 3)) (ze))))))) (zw 0) (zV) (zd kj (vE 3) (zb 3 a (za (vE 1) (za (zd zv (zd zv (vE 2) (cE (.int 2))) (vE 0)) (za (cE (.int 26)) (ze)))))) 1 [0,1,2]))))
def Gc:List T->R T:=λts=>zk (tO (np) (mB 3 ts))
def tX (a:List T->R T)(c:List T->R T):En->RS:=
  zn (mD (zp nt (zb 3 a (za (vE 0) (za (vE 1) (za (cE (.int 3)) (ze))))) (cE (.int 0))) (zn (zC 2 (zd jK (zb 3 a (za (vE 0) (za (zd zv (vE 1) (cE (.int 1))) (za (cE (.int 7)) (ze))))) (cE (.int 3))))
  (zn (mD (zp my (zb 3 a (za (vE 0) (za (zd zv (vE 1) (cE (.int 3))) (za (cE (.int 8)) (ze))))) (cE (.int 0))) (zC 2 (zd kj (Zc (za (YG (cE (.int 20))) (za (cE (.int 17)) (za (cE (.int 20)) (ze))))) (zb 3 a (za (vE 0) (za (zd zv (vE 1) (cE (.int 4))) (za (cE (.int 3)) (ze))))))) (mC))
  (zr (Za (za (cE (.str "whole")) (za (vE 2) (za (zd wH (cE (.int 20)) (zd zv (vE 2) (zb 3 a (za (vE 0) (za (zd zv (vE 1) (cE (.int 2))) (za (cE (.int 4)) (ze))))))) (ze)))))))) (mC))
  (zn (uO 3 (ze))
  (zn (ZD (Zi (zd zv (cE (.int 1)) (zb 3 a (za (vE 0) (za (zd zv (vE 1) (cE (.int 1))) (za (cE (.int 4)) (ze))))))) (zw 4) (zn (zC 5 (zb 2 c (za (vE 0) (za (zd zv (zd zv (vE 1) (cE (.int 5))) (zd zU (cE (.int 5)) (vE 4))) (ze)))))
  (mD (zp Y8 (vB 5) (vB 3)) (Us 3 (vE 5)) (mC))))
  (zr (Za (za (cE (.str "pick")) (za (mw sD (zA (K5 (vE 3)) (zN 0 1) (zV) (Za (za (vE 1) (za (zd zv (cE (.int 1)) (zb 3 a (za (vE 2) (za (zd zv (zd zv (vE 3) (cE (.int 30))) (vE 0)) (za (cE (.int 20)) (ze)))))) (ze)))) 2 [0,1])) (ze)))))))
def rm:List T->R T:=λts=>zk (tX (np) (Gc) (mB 6 ts))
def tZ (a:List T->R T)(c:List T->R T)(d:List T->R T):En->RS:=
  zn (zC 3 (zb 3 a (za (vE 0) (za (vE 1) (za (cE (.int 5)) (ze))))))
  (zn (mD (nz (zp my (vB 2) (cE (.int 1))) (zp om (vB 3) (cE (.int 2)))) (zr (zb 2 c (za (vE 0) (za (zd zv (vE 1) (cE (.int 1))) (ze))))) (mC))
  (zn (mD (zp om (vB 3) (cE (.int 4))) (zn (zC 4 (zA (Zi (zd zv (cE (.int 1)) (zb 3 a (za (vE 0) (za (zd zv (vE 1) (cE (.int 1))) (za (cE (.int 3)) (ze))))))) (zw 0) (zV) (zb 3 d (za (vE 1) (za (zd zv (zd zv (zd zU (cE (.int 3)) (vE 2)) (cE (.int 40))) (zd zU (cE (.int 50)) (vE 0))) (za (zd jK (vE 3) (cE (.int 1))) (ze))))) 1 [0,1,2]))
  (zr (Za (za (cE (.str "row")) (za (mw sD (vE 4)) (ze)))))) (mC))
  (zn (zC 5 (zb 3 a (za (vE 0) (za (zd zv (vE 1) (cE (.int 1))) (za (cE (.int 3)) (ze))))))
  (zr (Za (za (cE (.str "many")) (za (zb 3 d (za (vE 0) (za (zd zv (zd zU (cE (.int 3)) (vE 1)) (cE (.int 40))) (za (zd jK (vE 2) (cE (.int 1))) (ze))))) (za (vE 5) (za (zd wH (cE (.int 3)) (zd zv (vE 5) (zb 3 a (za (vE 0) (za (zd zv (vE 1) (cE (.int 2))) (za (cE (.int 3)) (ze))))))) (ze))))))))))
def ox:Nat->Nat->List T->R T
 | 0,_=>λ_=> .bad
 | n+1,_=>λts=>zk (tZ (np) (rm) (ox n 0) (mB 6 ts))
abbrev oE (n:Nat):List T->R T:=ox n 0
def AM:En->RS:=
  zn (zC 1 (Zc (za (Za (ze)) (ze))))
  (zn (ZD (Z5 (vE 0)) (zw 2) (zn (uO 3 (ze))
  (zn (ZD (Z5 (vE 1)) (zw 4) (vY 3 (zA (Z5 (vE 2)) (zw 0) (zV) (zd zv (vE 1) (Za (za (vE 0) (ze)))) 1 [4])))
  (tP 1 3))))
  (zr (vE 1)))
def nk:List T->R T:=λts=>zk (AM  (mB 5 ts))
def nA (a:List T->R T)(c:List T->R T):En->RS:=
  zn (mD (zp my (zd kj (vE 0) (cE (.int 0))) (cE (.str "whole"))) (zr (As (Jy (zd kj (vE 0) (cE (.int 1))) (zd zv (zd kj (vE 0) (cE (.int 2))) (cE (.int 1)))))) (mC))
  (zn (mD (zp my (zd kj (vE 0) (cE (.int 0))) (cE (.str "pick"))) (zr (zA (Z5 (zd kj (vE 0) (cE (.int 1)))) (zN 0 1) (zV) (vE 0) 2 [])) (mC))
  (zn (mD (zp my (zd kj (vE 0) (cE (.int 0))) (cE (.str "row"))) (zr (zb 1 c (za (zA (Z5 (zd kj (vE 0) (cE (.int 1)))) (zw 0) (zV) (zb 1 a (za (vE 0) (ze))) 1 []) (ze)))) (mC))
  (zn (uO 1 (ze))
  (zn (ZD (Jy (zd kj (vE 0) (cE (.int 2))) (zd zv (zd kj (vE 0) (cE (.int 3))) (cE (.int 1)))) (zw 2) (vY 1 (zb 1 c (za (zd zU (Zc (za (zb 1 a (za (zd kj (vE 0) (cE (.int 1))) (ze))) (ze))) (vE 2)) (ze)))))
  (zr (vE 1))))))
def pP:Nat->Nat->List T->R T
 | 0,_=>λ_=> .bad
 | n+1,_=>λts=>zk (nA (pP n 0) (nk) (mB 3 ts))
abbrev oo (n:Nat):List T->R T:=pP n 0
def nR (c:List T->R T)(a:List T->R T):En->RS:=
  zn (mD (zp nv (zd kj (vE 0) (cE (.int 0))) (Za (za (cE (.str "whole")) (za (cE (.str "pick")) (ze))))) (zr (mw Z6 (zb 1 c (za (vE 0) (ze))))) (mC))
  (zn (zC 1 (mZ (zp my (zd kj (vE 0) (cE (.int 0))) (cE (.str "row"))) (zA (Z5 (zd kj (vE 0) (cE (.int 1)))) (zw 0) (zV) (zb 1 a (za (vE 0) (ze))) 1 []) (Zc (ze))))
  (zn (zC 2 (cE (.int 1)))
  (zn (ZD (Z5 (vE 1)) (zw 3) (zC 2 (zd zU (vE 2) (vE 3))))
  (zn (mD (zp my (zd kj (vE 0) (cE (.int 0))) (cE (.str "many"))) (zn (zC 4 (zb 1 a (za (zd kj (vE 0) (cE (.int 1))) (ze))))
  (zn (zC 2 (zd zv (mw qe (ZL my (zd kj (vE 0) (cE (.int 2))) (cE (.int 0)))) (zd zU (vE 4) (mw qe (ny mL mL (zd kj (vE 0) (cE (.int 2))) (cE (.int 1)) (zd kj (vE 0) (cE (.int 3))))))))
  (zn (zC 2 (zd zv (vE 2) (zd zU (zd zU (vE 4) (vE 4)) (mw qe (ny mL mL (zd kj (vE 0) (cE (.int 2))) (cE (.int 2)) (zd kj (vE 0) (cE (.int 3))))))))
  (zC 2 (zd zv (vE 2) (zd zU (zd zU (zd zU (vE 4) (vE 4)) (vE 4)) (mw qe (ZL my (zd kj (vE 0) (cE (.int 3))) (cE (.int 3)))))))))) (mC))
  (zr (vE 2))))))
def Ai:Nat->Nat->List T->R T
 | 0,_=>λ_=> .bad
 | n+1,_=>λts=>zk (nR (oo 8) (Ai n 0) (mB 5 ts))
abbrev sP (n:Nat):List T->R T:=Ai n 0
def tm (a:List T->R T)(c:List T->R T):En->RS:=
  zn (zC 3 (zb 3 a (za (vE 0) (za (vE 1) (za (cE (.int 3)) (ze))))))
  (zn (ZD (Zi (cE (.int 3))) (zw 4) (zn (mD (zp mL (zb 1 c (za (vE 3) (ze))) (vB 2)) (zr (vE 3)) (mC))
  (zC 3 (zb 3 a (za (vE 0) (za (zd zv (zd zv (vE 1) (cE (.int 500))) (zd zU (cE (.int 700)) (vE 4))) (za (cE (.int 2)) (ze))))))))
  (zr (mZ (zp mL (zb 1 c (za (vE 3) (ze))) (vB 2)) (vE 3) (Za (za (cE (.str "whole")) (za (YG (cE (.int 1))) (za (cE (.int 2)) (ze))))))))
def AF:List T->R T:=λts=>zk (tm (oE 8) (sP 8) (mB 5 ts))
def tR (a:List T->R T)(c:List T->R T):En->RS:=
  zn (zC 3 (zb 3 a (za (vE 0) (za (vE 1) (za (cE (.int 9)) (ze))))))
  (zn (mD (X0 (zp nt (vB 2) (cE (.int 1))) (zp nt (vB 3) (cE (.int 5)))) (zn (zC 4 (zb 3 c (za (vE 0) (za (zd zv (zd zU (cE (.int 2)) (vE 1)) (cE (.int 11))) (za (zd jK (vE 2) (cE (.int 1))) (ze))))))
  (zn (mD (zp my (vB 3) (cE (.int 6))) (zr (Za (za (cE (.str "no")) (za (vE 4) (ze))))) (mC))
  (zr (Za (za (zd kj (Zc (za (cE (.str "all")) (za (cE (.str "some")) (ze)))) (zd jK (vE 3) (cE (.int 7)))) (za (vE 4) (za (zb 3 c (za (vE 0) (za (zd zv (zd zU (cE (.int 2)) (vE 1)) (cE (.int 24))) (za (zd jK (vE 2) (cE (.int 1))) (ze))))) (ze)))))))) (mC))
  (zn (zC 5 (zd jK (zb 3 a (za (vE 0) (za (zd zv (vE 1) (cE (.int 1))) (za (cE (.int 9)) (ze))))) (cE (.int 4))))
  (zn (mD (zp om (zd jL (vE 3) (cE (.int 6))) (cE (.int 2))) (zr (Za (za (cE (.str "sum")) (za (vE 5) (za (zd jK (zd zv (vE 5) (zb 3 a (za (vE 0) (za (zd zv (vE 1) (cE (.int 2))) (za (cE (.int 5)) (ze)))))) (cE (.int 1))) (ze)))))) (mC))
  (zn (mD (zp my (zd jL (vE 3) (cE (.int 6))) (cE (.int 2))) (zr (Za (za (cE (.str "size")) (za (zb 3 a (za (vE 0) (za (zd zv (vE 1) (cE (.int 1))) (za (cE (.int 3)) (ze))))) (za (zb 3 a (za (vE 0) (za (zd zv (vE 1) (cE (.int 2))) (za (cE (.int 4)) (ze))))) (ze)))))) (mC))
  (zn (mD (zp my (zd jL (vE 3) (cE (.int 6))) (cE (.int 3))) (zr (Za (za (cE (.str "word")) (za (zd kj (Zc (za (cE (.str "a")) (za (cE (.str "b")) (za (cE (.str "ab")) (za (cE (.str "zz")) (ze)))))) (zb 3 a (za (vE 0) (za (zd zv (vE 1) (cE (.int 1))) (za (cE (.int 4)) (ze)))))) (ze))))) (mC))
  (zr (mZ (zp my (zd jL (vE 3) (cE (.int 6))) (cE (.int 4))) (Za (za (cE (.str "rising")) (ze))) (Za (za (cE (.str "unlike")) (ze))))))))))
def oN:Nat->Nat->List T->R T
 | 0,_=>λ_=> .bad
 | n+1,_=>λts=>zk (tR (np) (oN n 0) (mB 6 ts))
abbrev Es (n:Nat):List T->R T:=oN n 0
def Ev:En->RS:=
  zr (j8 (mw (WS "int") (vB 0)) (vX (mw (WS "bool") (vB 0))))
def nU:List T->R T:=λts=>zk (Ev  (mB 1 ts))
def Df (a:List T->R T):En->RS:=
  zr (j8 (zb 1 a (za (vE 0) (ze))) (ny mL mL (YG (cE (.int 50))) (vB 0) (cE (.int 50))))
def Aw:List T->R T:=λts=>zk (Df (nU) (mB 1 ts))
def D6:En->RS:=
  zn (mD (nz (jW (ZX (mw (WS "str") (vB 0)))) (jW (Ea mL mL (cE (.int 1)) (mw Z6 (vB 0)) (cE (.int 3))))) (zr (cE (.bl false))) (mC))
  (zr (mw Vn (zA (Z5 (vE 0)) (zw 0) (zV) (ny mL mL (cE (.str "a")) (vB 0) (cE (.str "z"))) 1 [])))
def ph:List T->R T:=λts=>zk (D6  (mB 1 ts))
def AA (d:List T->R T)(c:List T->R T)(a:List T->R T):En->RS:=
  zn (mD (nz (zp my (vB 1) (cE (.int 0))) (nz (jW (ZX (mw (WS "tuple") (vB 0)))) (zp my (mw Z6 (vB 0)) (cE (.int 0))))) (zr (cE (.bl false))) (mC))
  (zn (mD (nz (zp my (zd kj (vE 0) (cE (.int 0))) (cE (.str "sum"))) (zp my (zd kj (vE 0) (cE (.int 0))) (cE (.str "size")))) (zr (j8 (ZL my (mw Z6 (vB 0)) (cE (.int 3))) (j8 (zb 1 a (za (zd kj (vE 0) (cE (.int 1))) (ze))) (zb 1 a (za (zd kj (vE 0) (cE (.int 2))) (ze)))))) (mC))
  (zn (mD (zp my (zd kj (vE 0) (cE (.int 0))) (cE (.str "word"))) (zr (j8 (ZL my (mw Z6 (vB 0)) (cE (.int 2))) (zb 1 d (za (zd kj (vE 0) (cE (.int 1))) (ze))))) (mC))
  (zn (mD (nz (zp my (zd kj (vE 0) (cE (.int 0))) (cE (.str "rising"))) (zp my (zd kj (vE 0) (cE (.int 0))) (cE (.str "unlike")))) (zr (ZL my (mw Z6 (vB 0)) (cE (.int 1)))) (mC))
  (zn (mD (zp my (zd kj (vE 0) (cE (.int 0))) (cE (.str "no"))) (zr (j8 (ZL my (mw Z6 (vB 0)) (cE (.int 2))) (zb 2 c (za (zd kj (vE 0) (cE (.int 1))) (za (zd jK (vE 1) (cE (.int 1))) (ze)))))) (mC))
  (zn (mD (nz (zp my (zd kj (vE 0) (cE (.int 0))) (cE (.str "all"))) (zp my (zd kj (vE 0) (cE (.int 0))) (cE (.str "some")))) (zr (j8 (ZL my (mw Z6 (vB 0)) (cE (.int 3))) (j8 (zb 2 c (za (zd kj (vE 0) (cE (.int 1))) (za (zd jK (vE 1) (cE (.int 1))) (ze)))) (zb 2 c (za (zd kj (vE 0) (cE (.int 2))) (za (zd jK (vE 1) (cE (.int 1))) (ze))))))) (mC))
  (zr (cE (.bl false))))))))
def sW:Nat->Nat->List T->R T
 | 0,_=>λ_=> .bad
 | n+1,_=>λts=>zk (AA (ph) (sW n 0) (Aw) (mB 2 ts))
abbrev DP (n:Nat):List T->R T:=sW n 0
def Eh (a:List T->R T):En->RS:=
  zr (zb 2 a (za (vE 0) (za (cE (.int 3)) (ze))))
def Bs:List T->R T:=λts=>zk (Eh (DP 8) (mB 1 ts))
def A2 (a:List T->R T):En->RS:=
  mD (jW (ZX (zb 1 a (za (vE 0) (ze))))) (Kk) (mC)
def oU:List T->R T:=λts=>zk (A2 (Bs) (mB 1 ts))
def rR (a:List T->R T):En->RS:=
  zr (j8 (zb 1 a (za (vE 0) (ze))) (j8 (zb 1 a (za (vE 1) (ze))) (rk mL mL mL (vB 2) (vB 0) (vB 1) (vB 3))))
def Ak:List T->R T:=λts=>zk (rR (nU) (mB 4 ts))
def Ek:En->RS:=
  zr (j8 (mw (WS "tuple") (vB 0)) (ny mL mL (vB 1) (mw Z6 (vB 0)) (vB 2)))
def nO:List T->R T:=λts=>zk (Ek  (mB 3 ts))
def Aj (c:List T->R T)(d:List T->R T)(a:List T->R T):En->RS:=
  zr (j8 (zb 3 d (za (vE 0) (za (cE (.int 2)) (za (cE (.int 2)) (ze))))) (j8 (zb 1 a (za (zd kj (vE 0) (cE (.int 0))) (ze))) (j8 (zb 1 c (za (zd kj (vE 0) (cE (.int 1))) (ze))) (ny mL mL (cE (.int 1)) (zd kj (vE 0) (cE (.int 1))) (cE (.int 20))))))
def pW:List T->R T:=λts=>zk (Aj (nU) (nO) (ph) (mB 1 ts))
def tM (c:List T->R T)(a:List T->R T):En->RS:=
  zn (mD (nz (jW (ZX (zb 3 c (za (vE 0) (za (cE (.int 1)) (za (cE (.int 4)) (ze))))))) (jW (ZX (mw Vn (zA (Z5 (vE 0)) (zw 0) (zV) (zb 1 a (za (vE 0) (ze))) 1 []))))) (zr (cE (.bl false))) (mC))
  (zn (zC 1 (zA (Z5 (vE 0)) (zw 0) (zV) (zd kj (vE 0) (cE (.int 0))) 1 []))
  (zr (ZL my (mw Vw (vB 1)) (mw Z6 (vB 1)))))
def rn:List T->R T:=λts=>zk (tM (nO) (pW) (mB 2 ts))
def tY (a:List T->R T)(e:List T->R T)(c:List T->R T)(d:List T->R T):En->RS:=
  zn (mD (nz (zp my (vB 1) (cE (.int 0))) (nz (jW (ZX (mw (WS "tuple") (vB 0)))) (zp my (mw Z6 (vB 0)) (cE (.int 0))))) (zr (cE (.bl false))) (mC))
  (zn (mD (zp my (zd kj (vE 0) (cE (.int 0))) (cE (.str "whole"))) (zr (j8 (ZL my (mw Z6 (vB 0)) (cE (.int 3))) (zb 4 a (za (zd kj (vE 0) (cE (.int 1))) (za (zd kj (vE 0) (cE (.int 2))) (za (YG (cE (.int 20))) (za (cE (.int 20)) (ze)))))))) (mC))
  (zn (mD (zp my (zd kj (vE 0) (cE (.int 0))) (cE (.str "pick"))) (zr (j8 (ZL my (mw Z6 (vB 0)) (cE (.int 2))) (zb 1 c (za (zd kj (vE 0) (cE (.int 1))) (ze))))) (mC))
  (zn (mD (zp my (zd kj (vE 0) (cE (.int 0))) (cE (.str "row"))) (zr (j8 (ZL my (mw Z6 (vB 0)) (cE (.int 2))) (zb 2 d (za (zd kj (vE 0) (cE (.int 1))) (za (zd jK (vE 1) (cE (.int 1))) (ze)))))) (mC))
  (zn (mD (zp my (zd kj (vE 0) (cE (.int 0))) (cE (.str "many"))) (zr (j8 (ZL my (mw Z6 (vB 0)) (cE (.int 4))) (j8 (zb 4 a (za (zd kj (vE 0) (cE (.int 2))) (za (zd kj (vE 0) (cE (.int 3))) (za (cE (.int 0)) (za (cE (.int 3)) (ze)))))) (zb 2 e (za (zd kj (vE 0) (cE (.int 1))) (za (zd jK (vE 1) (cE (.int 1))) (ze))))))) (mC))
  (zr (cE (.bl false)))))))
def sY (a:List T->R T)(c:List T->R T):En->RS:=
  zr (j8 (zb 3 a (za (vE 0) (za (cE (.int 1)) (za (cE (.int 3)) (ze))))) (mw Vn (zA (Z5 (vE 0)) (zw 0) (zV) (zb 2 c (za (vE 0) (za (vE 1) (ze)))) 1 [1])))
def nG:Nat->Nat->List T->R T
 | 0,_=>λ_=> .bad
 | n+1,0=>λts=>zk (tY (Ak) (nG n 0) (rn) (nG n 1) (mB 2 ts))
 | n+1,_=>λts=>zk (sY (nO) (nG n 0) (mB 2 ts))
abbrev B8 (n:Nat):List T->R T:=nG n 0
abbrev Bj (n:Nat):List T->R T:=nG n 1
def sZ (a:List T->R T):En->RS:=
  zr (zb 2 a (za (vE 0) (za (cE (.int 3)) (ze))))
def Ag:List T->R T:=λts=>zk (sZ (B8 20) (mB 1 ts))
def AR (a:List T->R T):En->RS:=
  mD (jW (ZX (zb 1 a (za (vE 0) (ze))))) (Kk) (mC)
def A5:List T->R T:=λts=>zk (AR (Ag) (mB 1 ts))
def AL (a:List T->R T)(c:List T->R T):En->RS:=
  zn (mD (zp my (zd kj (vE 0) (cE (.int 0))) (cE (.str "whole"))) (zr (zd zv (zd jK (zd kj (vE 0) (cE (.int 2))) (zd kj (vE 0) (cE (.int 1)))) (cE (.int 1)))) (mC))
  (zn (mD (zp my (zd kj (vE 0) (cE (.int 0))) (cE (.str "pick"))) (zr (mw Z6 (zd kj (vE 0) (cE (.int 1))))) (mC))
  (zn (mD (zp my (zd kj (vE 0) (cE (.int 0))) (cE (.str "row"))) (zr (zb 1 a (za (zd kj (vE 0) (cE (.int 1))) (ze)))) (mC))
  (zr (zb 2 c (za (vE 0) (za (zd zv (zd kj (vE 0) (cE (.int 3))) (cE (.int 1))) (ze)))))))
def rF (a:List T->R T):En->RS:=
  zn (zC 1 (cE (.int 1)))
  (zn (ZD (Z5 (vE 0)) (zw 2) (zC 1 (zd zU (vE 1) (zb 1 a (za (vE 2) (ze))))))
  (zr (vE 1)))
def rD (a:List T->R T):En->RS:=
  zr (mw qh (zA (Jy (zd kj (vE 0) (cE (.int 2))) (vE 1)) (zw 0) (zV) (zb 1 a (za (zd zU (Zc (za (zd kj (vE 1) (cE (.int 1))) (ze))) (vE 0)) (ze))) 1 [0]))
def nS:Nat->Nat->List T->R T
 | 0,_=>λ_=> .bad
 | n+1,0=>λts=>zk (AL (nS n 1) (nS n 2) (mB 1 ts))
 | n+1,1=>λts=>zk (rF (nS n 0) (mB 3 ts))
 | n+1,_=>λts=>zk (rD (nS n 1) (mB 2 ts))
abbrev pA (n:Nat):List T->R T:=nS n 0
abbrev B6 (n:Nat):List T->R T:=nS n 1
abbrev pQ (n:Nat):List T->R T:=nS n 2
def Av:En->RS:=
  zr (zA (Z5 (zd kj (vE 0) (cE (.int 1)))) (zw 0) (zV) (zd kj (vE 0) (cE (.int 0))) 1 [])
def nK:List T->R T:=λts=>zk (Av  (mB 1 ts))
def tj (d:List T->R T)(a:List T->R T)(c:List T->R T):En->RS:=
  zn (mD (zp my (zd kj (vE 0) (cE (.int 0))) (cE (.str "whole"))) (zr (zd zv (zd kj (vE 0) (cE (.int 1))) (vE 1))) (mC))
  (zn (mD (zp my (zd kj (vE 0) (cE (.int 0))) (cE (.str "pick"))) (zr (zd kj (zb 1 d (za (vE 0) (ze))) (vE 1))) (mC))
  (zn (mD (zp my (zd kj (vE 0) (cE (.int 0))) (cE (.str "row"))) (zr (zb 2 c (za (zd kj (vE 0) (cE (.int 1))) (za (vE 1) (ze))))) (mC))
  (zr (zb 2 a (za (vE 0) (za (vE 1) (ze)))))))
def sI (a:List T->R T)(c:List T->R T):En->RS:=
  zn (zC 2 (zd kj (vE 0) (cE (.int 2))))
  (zn (Zo (zp mL (zb 2 a (za (vE 0) (za (zd zv (vE 2) (cE (.int 1))) (ze)))) (vB 1)) (zC 2 (zd zv (vE 2) (cE (.int 1)))) (8))
  (zr (zb 2 c (za (zd zU (Zc (za (zd kj (vE 0) (cE (.int 1))) (ze))) (vE 2)) (za (zd jK (vE 1) (zb 2 a (za (vE 0) (za (vE 2) (ze))))) (ze))))))
def rh (a:List T->R T)(c:List T->R T):En->RS:=
  zn (uO 2 (ze))
  (zn (zC 3 (vE 1))
  (zn (ZD (Dx (vE 0)) (zw 4) (zn (zC 5 (zb 1 a (za (vE 4) (ze))))
  (zn (Us 2 (zb 2 c (za (vE 4) (za (zd jL (vE 3) (vE 5)) (ze)))))
  (zC 3 (zd Wb (vE 3) (vE 5))))))
  (zr (mw VG (vE 2)))))
def nY:Nat->Nat->List T->R T
 | 0,_=>λ_=> .bad
 | n+1,0=>λts=>zk (tj (nK) (nY n 1) (nY n 2) (mB 2 ts))
 | n+1,1=>λts=>zk (sI (pQ 20) (nY n 2) (mB 3 ts))
 | n+1,_=>λts=>zk (rh (pA 20) (nY n 0) (mB 6 ts))
abbrev sE (n:Nat):List T->R T:=nY n 0
abbrev BJ (n:Nat):List T->R T:=nY n 1
abbrev CC (n:Nat):List T->R T:=nY n 2
def tJ (a:List T->R T)(c:List T->R T)(d:List T->R T):En->RS:=
  zn (jA (zb 1 a (za (vE 0) (ze))))
  (zn (zC 1 (zb 1 c (za (vE 0) (ze))))
  (zn (mD (zp nt (vB 1) (cE (.int 500))) (Kk) (mC))
  (Ao (Zi (vE 1)) (zw 0) (zV) (zb 2 d (za (vE 1) (za (vE 0) (ze)))) 1 [0])))
def pE:List T->R T:=λts=>zk (tJ (A5) (pA 20) (sE 20) (mB 2 ts))
def AD (a:List T->R T):En->RS:=
  zn (mD (jW (ZX (mw (WS "tuple") (vB 0)))) (zr (Zc (za (vE 0) (ze)))) (mC))
  (zn (uO 1 (ze))
  (zn (ZD (Z5 (vE 0)) (zw 2) (vY 1 (zb 1 a (za (vE 2) (ze)))))
  (zr (vE 1))))
def sQ:Nat->Nat->List T->R T
 | 0,_=>λ_=> .bad
 | n+1,_=>λts=>zk (AD (sQ n 0) (mB 3 ts))
abbrev pL (n:Nat):List T->R T:=sQ n 0
def Cq (c:List T->R T)(a:List T->R T):En->RS:=
  zr (zA (Z5 (zb 1 a (za (vE 0) (ze)))) (zw 0) (ZX (zb 1 c (za (vE 0) (ze)))) (vE 0) 1 [])
def AV:List T->R T:=λts=>zk (Cq (nU) (pL 8) (mB 1 ts))
def rN:En->RS:=
  zr (mZ (ZX (mw (WS "tuple") (vB 0))) (vE 0) (Za (za (vE 0) (ze))))
def AZ:List T->R T:=λts=>zk (rN  (mB 1 ts))
def Bq:En->RS:=
  zr (mw Vn (zA (Yb (vE 0) (nj (vE 0) (Zj (cE (.int 1))) (nr))) (zN 0 1) (zV) (ZL mL (vB 0) (vB 1)) 2 []))
def Bm:List T->R T:=λts=>zk (Bq  (mB 1 ts))
def Ca:En->RS:=
  zr (vX (mw C5 (zA (wa (vE 0)) (zN 0 1) (zV) (ZL nv (vB 1) (nj (vE 2) (nr) (Zj (vE 0)))) 2 [0])))
def Du:List T->R T:=λts=>zk (Ca  (mB 1 ts))
def tI (c:List T->R T)(f:List T->R T)(a:List T->R T)(e:List T->R T)(d:List T->R T):En->RS:=
  zn (mD (zp my (zd kj (vE 0) (cE (.int 0))) (cE (.str "sum"))) (zr (ny mL mL (zd kj (vE 0) (cE (.int 1))) (mw qh (zb 1 a (za (vE 1) (ze)))) (zd kj (vE 0) (cE (.int 2))))) (mC))
  (zn (mD (zp my (zd kj (vE 0) (cE (.int 0))) (cE (.str "size"))) (zr (ny mL mL (zd kj (vE 0) (cE (.int 1))) (mw Z6 (zb 1 c (za (vE 1) (ze)))) (zd kj (vE 0) (cE (.int 2))))) (mC))
  (zn (mD (zp my (zd kj (vE 0) (cE (.int 0))) (cE (.str "word"))) (zr (ZL nv (zd kj (vE 0) (cE (.int 1))) (zb 1 f (za (vE 1) (ze))))) (mC))
  (zn (mD (zp my (zd kj (vE 0) (cE (.int 0))) (cE (.str "rising"))) (zr (zb 1 e (za (zb 1 a (za (vE 1) (ze))) (ze)))) (mC))
  (zr (zb 1 d (za (zb 1 c (za (vE 1) (ze))) (ze)))))))
def ro:List T->R T:=λts=>zk (tI (AZ) (pL 8) (AV) (Bm) (Du) (mB 2 ts))
def AJ (a:List T->R T)(c:List T->R T):En->RS:=
  zn (mD (zp my (zd kj (vE 0) (cE (.int 0))) (cE (.str "no"))) (zr (vX (zb 2 a (za (zd kj (vE 0) (cE (.int 1))) (za (vE 1) (ze)))))) (mC))
  (zn (mD (zp my (zd kj (vE 0) (cE (.int 0))) (cE (.str "all"))) (zr (j8 (zb 2 a (za (zd kj (vE 0) (cE (.int 1))) (za (vE 1) (ze)))) (zb 2 a (za (zd kj (vE 0) (cE (.int 2))) (za (vE 1) (ze)))))) (mC))
  (zn (mD (zp my (zd kj (vE 0) (cE (.int 0))) (cE (.str "some"))) (zr (pR (zb 2 a (za (zd kj (vE 0) (cE (.int 1))) (za (vE 1) (ze)))) (zb 2 a (za (zd kj (vE 0) (cE (.int 2))) (za (vE 1) (ze)))))) (mC))
  (zr (zb 2 c (za (vE 0) (za (vE 1) (ze)))))))
def ou:Nat->Nat->List T->R T
 | 0,_=>λ_=> .bad
 | n+1,_=>λts=>zk (AJ (ou n 0) (ro) (mB 2 ts))
abbrev n9 (n:Nat):List T->R T:=ou n 0
def Ad:En->RS:=
  zr (zd wH (zd DR (cE (.int 0)) (zd kj (vE 0) (cE (.int 1)))) (zd kj (vE 0) (cE (.int 2))))
def oK:List T->R T:=λts=>zk (Ad  (mB 1 ts))
def o8 (d:List T->R T)(c:List T->R T)(a:List T->R T):En->RS:=
  zn (mD (zp my (zd kj (vE 0) (cE (.int 0))) (cE (.str "whole"))) (zr (mw G9 (zd jK (vE 1) (zb 1 c (za (vE 0) (ze)))))) (mC))
  (zn (mD (zp my (zd kj (vE 0) (cE (.int 0))) (cE (.str "pick"))) (zr (G8 Xc (zb 1 d (za (vE 0) (ze))) (vB 1))) (mC))
  (zn (mD (zp my (zd kj (vE 0) (cE (.int 0))) (cE (.str "row"))) (zr (zb 2 a (za (zd kj (vE 0) (cE (.int 1))) (za (vE 1) (ze))))) (mC))
  (zr (zd jK (zd zv (zb 2 a (za (zd zU (Zc (za (zd kj (vE 0) (cE (.int 1))) (ze))) (mw Z6 (vB 1))) (za (vE 1) (ze)))) (mw Z6 (vB 1))) (zd kj (vE 0) (cE (.int 2)))))))
def tE (a:List T->R T):En->RS:=
  zr (mw qh (zA (Yb (vE 0) (vE 1)) (zN 0 1) (zV) (zb 2 a (za (vE 0) (za (vE 1) (ze)))) 2 []))
def nV:Nat->Nat->List T->R T
 | 0,_=>λ_=> .bad
 | n+1,0=>λts=>zk (o8 (nK) (oK) (nV n 1) (mB 2 ts))
 | n+1,_=>λts=>zk (tE (nV n 0) (mB 2 ts))
abbrev oG (n:Nat):List T->R T:=nV n 0
abbrev sM (n:Nat):List T->R T:=nV n 1
def AW (d:List T->R T)(c:List T->R T)(e:List T->R T)(a:List T->R T):En->RS:=
  zn (jA (zb 1 c (za (vE 1) (ze))))
  (zn (zC 2 (zA (Z5 (zb 1 d (za (vE 0) (ze)))) (zw 0) (jW (ZX (zb 2 e (za (vE 1) (za (vE 0) (ze)))))) (vE 0) 1 [1]))
  (zr (VS [0] (zb 2 a (za (vE 1) (za (vE 0) (ze)))) (vE 2) (cE .non))))
def Dl:List T->R T:=λts=>zk (AW (pE) (oU) (n9 8) (oG 20) (mB 3 ts))
def A7 (a:List T->R T):En->RS:=
  zn (mD (jW (ZX (mw (DO "list" "tuple") (vE 0)))) (Kk) (mC))
  (ZD (Z5 (vE 0)) (zw 1) (jA (zb 1 a (za (vE 1) (ze)))))
def pr:List T->R T:=λts=>zk (A7 (oU) (mB 2 ts))
def CZ (a:List T->R T):En->RS:=
  zr (mw sD (zA (Z5 (vE 0)) (zw 0) (zV) (zb 2 a (za (vE 0) (za (vE 1) (ze)))) 1 [1]))
def AC:List T->R T:=λts=>zk (CZ (n9 8) (mB 2 ts))
def zP:List T->R (List WE):=Eg (pE) (AC)
def J6:List T->R T:=λa=>BD (DX (pr) (zP) a)
def Ax (a:List T->R T):En->RS:=
  zn (mD (jW (ZX (mw (WS "tuple") (vB 0)))) (zr (Zc (za (vE 0) (ze)))) (mC))
  (zn (zC 1 (Zc (ze)))
  (zn (ZD (Z5 (vE 0)) (zw 2) (zC 1 (zd zv (vE 1) (zb 1 a (za (vE 2) (ze))))))
  (zr (vE 1))))
def rH:Nat->Nat->List T->R T
 | 0,_=>λ_=> .bad
 | n+1,_=>λts=>zk (Ax (rH n 0) (mB 3 ts))
abbrev sj (n:Nat):List T->R T:=rH n 0
def Ab (a:List T->R T)(c:List T->R T):En->RS:=
  zn (zC 2 (zA (Z5 (zb 1 a (za (vE 1) (ze)))) (zw 0) (ZX (mw (WS "int") (vB 0))) (vE 0) 1 []))
  (zn (zC 3 (mZ (ZX (mw (WS "tuple") (vB 1))) (vE 1) (Za (za (vE 1) (ze)))))
  (zn (mD (zp my (zd kj (vE 0) (cE (.int 0))) (cE (.str "sum"))) (zn (zC 4 (cE (.int 0)))
  (zn (ZD (Z5 (vE 2)) (zw 5) (zC 4 (zd zv (vE 4) (vE 5))))
  (zr (j8 (ZL mL (zd kj (vE 0) (cE (.int 1))) (vB 4)) (ZL mL (vB 4) (zd kj (vE 0) (cE (.int 2)))))))) (mC))
  (zn (mD (zp my (zd kj (vE 0) (cE (.int 0))) (cE (.str "size"))) (zr (j8 (ZL oy (mw Z6 (vB 3)) (zd kj (vE 0) (cE (.int 1)))) (ZL mL (mw Z6 (vB 3)) (zd kj (vE 0) (cE (.int 2)))))) (mC))
  (zn (mD (zp my (zd kj (vE 0) (cE (.int 0))) (cE (.str "word"))) (zr (ZL mW (zA (Z5 (zb 1 a (za (vE 1) (ze)))) (zw 0) (zp my (vB 0) (zd kj (vE 1) (cE (.int 1)))) (vE 0) 1 [0]) (Zc (ze)))) (mC))
  (zn (mD (zp my (zd kj (vE 0) (cE (.int 0))) (cE (.str "rising"))) (zr (ZL my (vB 2) (mw VH (vB 2)))) (mC))
  (zn (mD (zp my (zd kj (vE 0) (cE (.int 0))) (cE (.str "unlike"))) (zr (ZL my (zA (Zi (mw Z6 (vB 3))) (zw 0) (zp nv (zd kj (vE 1) (vE 0)) (nj (vE 1) (nr) (Zj (vE 0)))) (vE 0) 1 [3]) (Zc (ze)))) (mC))
  (zn (mD (zp my (zd kj (vE 0) (cE (.int 0))) (cE (.str "no"))) (zr (vX (zb 2 c (za (zd kj (vE 0) (cE (.int 1))) (za (vE 1) (ze)))))) (mC))
  (zn (zC 6 (zA (Z5 (nj (vE 0) (Zj (cE (.int 1))) (nr))) (zw 0) (zV) (zb 2 c (za (vE 0) (za (vE 1) (ze)))) 1 [1]))
  (zr (mZ (zp my (zd kj (vE 0) (cE (.int 0))) (cE (.str "all"))) (j8 (zd kj (vE 6) (cE (.int 0))) (zd kj (vE 6) (cE (.int 1)))) (pR (zd kj (vE 6) (cE (.int 0))) (zd kj (vE 6) (cE (.int 1))))))))))))))
def nC:Nat->Nat->List T->R T
 | 0,_=>λ_=> .bad
 | n+1,_=>λts=>zk (Ab (sj 8) (nC n 0) (mB 7 ts))
abbrev pK (n:Nat):List T->R T:=nC n 0
def Au:En->RS:=
  zn (Zo (zp mW (vB 1) (cE (.int 0))) (zn (zC 2 (zd jL (vE 0) (vE 1)))
  (zn (zC 0 (vE 1))
  (zC 1 (vE 2)))) (2 ^ 9000))
  (zr (vE 0))
def AU:List T->R T:=λts=>zk (Au  (mB 3 ts))
def Bb (a:List T->R T):En->RS:=
  zn (zC 2 (zb 2 a (za (mw G9 (vB 0)) (za (vE 1) (ze)))))
  (zr (Za (za (zd Ga (vE 0) (vE 2)) (za (zd Ga (vE 1) (vE 2)) (ze)))))
def pT:List T->R T:=λts=>zk (Bb (AU) (mB 3 ts))
def tU (a:List T->R T):En->RS:=
  zr (zb 2 a (za (zd zv (zd ot (zd kj (vE 0) (cE (.int 0))) (zd kj (vE 1) (cE (.int 1)))) (zd ot (zd kj (vE 1) (cE (.int 0))) (zd kj (vE 0) (cE (.int 1))))) (za (zd ot (zd kj (vE 0) (cE (.int 1))) (zd kj (vE 1) (cE (.int 1)))) (ze))))
def Ba:List T->R T:=λts=>zk (tU (pT) (mB 2 ts))
def AX (a:List T->R T):En->RS:=
  zn (zC 1 (Za (za (cE (.int 0)) (za (cE (.int 1)) (ze)))))
  (zn (ZD (Z5 (vE 0)) (zw 2) (zC 1 (zb 2 a (za (vE 1) (za (vE 2) (ze))))))
  (zr (vE 1)))
def BW:List T->R T:=λts=>zk (AX (Ba) (mB 3 ts))
def C3 (a:List T->R T):En->RS:=
  VM 1 (zd kj (vE 0) (cE (.int 1))) a
def A3:List T->R T:=λts=>zk (C3 (pT) (mB 3 ts))
def AN (a:List T->R T):En->RS:=
  zr (zb 2 a (za (zd ot (zd kj (vE 0) (cE (.int 0))) (zd kj (vE 1) (cE (.int 0)))) (za (zd ot (zd kj (vE 0) (cE (.int 1))) (zd kj (vE 1) (cE (.int 1)))) (ze))))
def py:List T->R T:=λts=>zk (AN (pT) (mB 2 ts))
def pp (d:List T->R T)(e:List T->R T)(c:List T->R T)(a:List T->R T):En->RS:=
  zn (mD (zp my (zd kj (vE 0) (cE (.int 0))) (cE (.str "whole"))) (zr (Za (za (cE (.int 1)) (za (zb 1 d (za (vE 0) (ze))) (ze))))) (mC))
  (zn (mD (zp my (zd kj (vE 0) (cE (.int 0))) (cE (.str "pick"))) (zr (zb 2 c (za (vE 0) (za (vE 1) (ze))))) (mC))
  (zn (mD (zp my (zd kj (vE 0) (cE (.int 0))) (cE (.str "row"))) (zr (zb 2 a (za (zd kj (vE 0) (cE (.int 1))) (za (vE 1) (ze))))) (mC))
  (zn (zC 2 (Za (za (cE (.int 1)) (za (zd zv (zd jK (zd kj (vE 0) (cE (.int 3))) (zd kj (vE 0) (cE (.int 2)))) (cE (.int 1))) (ze)))))
  (zr (zb 2 e (za (vE 2) (za (zb 2 a (za (zd zU (Zc (za (zd kj (vE 0) (cE (.int 1))) (ze))) (mw Z6 (vB 1))) (za (vE 1) (ze)))) (ze))))))))
def tF (a:List T->R T)(c:List T->R T):En->RS:=
  zn (zC 2 (Za (za (cE (.int 1)) (za (cE (.int 1)) (ze)))))
  (zn (ZD (Yb (vE 0) (vE 1)) (zN 3 4) (zC 2 (zb 2 a (za (vE 2) (za (zb 2 c (za (vE 3) (za (vE 4) (ze)))) (ze))))))
  (zr (vE 2)))
def n5:Nat->Nat->List T->R T
 | 0,_=>λ_=> .bad
 | n+1,0=>λts=>zk (pp (pA 20) (py) (A3) (n5 n 1) (mB 3 ts))
 | n+1,_=>λts=>zk (tF (py) (n5 n 0) (mB 5 ts))
abbrev A9 (n:Nat):List T->R T:=n5 n 0
abbrev DA (n:Nat):List T->R T:=n5 n 1
def Dj (a:List T->R T)(c:List T->R T):En->RS:=
  zr (zb 1 a (za (zA (Z5 (vE 1)) (zw 0) (zV) (zb 2 c (za (vE 1) (za (vE 0) (ze)))) 1 [0]) (ze)))
def A6:List T->R T:=λts=>zk (Dj (BW) (A9 20) (mB 2 ts))
def AI (c:List T->R T)(d:List T->R T)(a:List T->R (List WE)):En->RS:=
  zn (jA (zb 1 d (za (vE 1) (ze))))
  (Xp 2 a (za (vE 0) (za (vE 1) (ze))) (zN 0 1) (zV) (Za (za (vE 0) (za (mw Z6 (vB 1)) (za (zb 2 c (za (vE 2) (za (vE 1) (ze)))) (ze))))) 2 [0])
def rY:List T->R T:=λts=>zk (AI (A6) (pr) (zP) (mB 3 ts))
def oi (e:List T->R T)(c:List T->R T)(d:List T->R T)(a:List T->R T):En->RS:=
  zn (mD (zp my (zd kj (vE 0) (cE (.int 0))) (cE (.str "whole"))) (zr (j8 (zb 1 e (za (vE 1) (ze))) (ny mL mL (zd kj (vE 0) (cE (.int 1))) (vB 1) (zd kj (vE 0) (cE (.int 2)))))) (mC))
  (zn (mD (zp my (zd kj (vE 0) (cE (.int 0))) (cE (.str "pick"))) (zr (ZL nv (vB 1) (zb 1 d (za (vE 0) (ze))))) (mC))
  (zn (mD (zp my (zd kj (vE 0) (cE (.int 0))) (cE (.str "row"))) (zr (j8 (zb 3 c (za (vE 1) (za (mw Z6 (zd kj (vE 0) (cE (.int 1)))) (za (mw Z6 (zd kj (vE 0) (cE (.int 1)))) (ze))))) (zb 2 a (za (zd kj (vE 0) (cE (.int 1))) (za (vE 1) (ze)))))) (mC))
  (zr (j8 (zb 3 c (za (vE 1) (za (zd kj (vE 0) (cE (.int 2))) (za (zd kj (vE 0) (cE (.int 3))) (ze))))) (zb 2 a (za (zd zU (Zc (za (zd kj (vE 0) (cE (.int 1))) (ze))) (mw Z6 (vB 1))) (za (vE 1) (ze))))))))
def tQ (a:List T->R T):En->RS:=
  zr (mw Vn (zA (Yb (vE 0) (vE 1)) (zN 0 1) (zV) (zb 2 a (za (vE 0) (za (vE 1) (ze)))) 2 []))
def n8:Nat->Nat->List T->R T
 | 0,_=>λ_=> .bad
 | n+1,0=>λts=>zk (oi (nU) (nO) (nK) (n8 n 1) (mB 2 ts))
 | n+1,_=>λts=>zk (tQ (n8 n 0) (mB 2 ts))
abbrev D8 (n:Nat):List T->R T:=n8 n 0
abbrev Cj (n:Nat):List T->R T:=n8 n 1
def sX (a:List T->R T)(c:List T->R T):En->RS:=
  zn (jA (zb 1 a (za (vE 0) (ze))))
  (zr (zb 2 c (za (vE 0) (za (vE 1) (ze)))))
def CH:List T->R T:=λts=>zk (sX (A5) (D8 20) (mB 2 ts))
def A4 (a:List T->R T):En->RS:=
  mD (jW (ZX (zb 2 a (za (vE 0) (za (vE 1) (ze)))))) (Kk) (mC)
def pX:List T->R T:=λts=>zk (A4 (CH) (mB 2 ts))
def A8 (c:List T->R T)(a:List T->R T):En->RS:=
  zn (jA (zb 2 c (za (vE 0) (za (vE 1) (ze)))))
  (zr (zb 2 a (za (vE 0) (za (vE 1) (ze)))))
def oH:List T->R T:=λts=>zk (A8 (pX) (oG 20) (mB 2 ts))
def AB (a:List T->R T):En->RS:=
  zn (zC 2 (zb 1 a (za (vE 0) (ze))))
  (zn (mD (zp my (vB 1) (vB 2)) (zr (Zc (ze))) (mC))
  (zr (mZ (zp nt (vB 1) (vB 2)) (Zc (za (zd jK (vE 1) (cE (.int 1))) (ze))) (Zc (za (zd zv (vE 1) (cE (.int 1))) (ze))))))
def rM:List T->R T:=λts=>zk (AB (oK) (mB 3 ts))
def At (a:List T->R T):En->RS:=
  zn (zC 2 (zb 1 a (za (vE 0) (ze))))
  (zn (zC 3 (G8 Xc (vB 2) (vB 1)))
  (zr (mZ (zp nt (vB 3) (cE (.int 0))) (Zc (za (zd kj (vE 2) (zd jK (vE 3) (cE (.int 1)))) (ze))) (Zc (ze)))))
def su:List T->R T:=λts=>zk (At (nK) (mB 4 ts))
def AS:En->RS:=
  zn (mD (zp my (mw Z6 (vB 1)) (zd kj (vE 0) (cE (.int 2)))) (zr (Zc (ze))) (mC))
  (zr (zA (Zi (mw Z6 (vB 1))) (zw 0) (zV) (zd zv (nj (vE 1) (nr) (Zj (vE 0))) (nj (vE 1) (Zj (zd zv (vE 0) (cE (.int 1)))) (nr))) 1 [1]))
def sK:List T->R T:=λts=>zk (AS  (mB 2 ts))
def o7 (d:List T->R T)(c:List T->R T)(e:List T->R T)(a:List T->R T):En->RS:=
  zn (mD (zp my (zd kj (vE 0) (cE (.int 0))) (cE (.str "whole"))) (zr (zb 2 d (za (vE 0) (za (vE 1) (ze))))) (mC))
  (zn (mD (zp my (zd kj (vE 0) (cE (.int 0))) (cE (.str "pick"))) (zr (zb 2 c (za (vE 0) (za (vE 1) (ze))))) (mC))
  (zn (mD (zp my (zd kj (vE 0) (cE (.int 0))) (cE (.str "row"))) (zr (zb 2 a (za (zd kj (vE 0) (cE (.int 1))) (za (vE 1) (ze))))) (mC))
  (zr (zd zv (zb 2 e (za (vE 0) (za (vE 1) (ze)))) (zb 2 a (za (zd zU (Zc (za (zd kj (vE 0) (cE (.int 1))) (ze))) (mw Z6 (vB 1))) (za (vE 1) (ze))))))))
def tN (a:List T->R T):En->RS:=
  zn (uO 2 (ze))
  (zn (ZD (wa (vE 1)) (zN 3 4) (ZD (Z5 (zb 2 a (za (zd kj (vE 0) (vE 3)) (za (vE 4) (ze))))) (zw 5) (Us 2 (zd zv (zd zv (nj (vE 1) (nr) (Zj (vE 3))) (Za (za (vE 5) (ze)))) (nj (vE 1) (Zj (zd zv (vE 3) (cE (.int 1)))) (nr))))))
  (zr (vE 2)))
def n6:Nat->Nat->List T->R T
 | 0,_=>λ_=> .bad
 | n+1,0=>λts=>zk (o7 (rM) (su) (sK) (n6 n 1) (mB 2 ts))
 | n+1,_=>λts=>zk (tN (n6 n 0) (mB 6 ts))
abbrev tK (n:Nat):List T->R T:=n6 n 0
abbrev BC (n:Nat):List T->R T:=n6 n 1
def Dc (a:List T->R T)(c:List T->R T):En->RS:=
  zr (zA (Z5 (zb 2 c (za (vE 0) (za (vE 1) (ze))))) (zw 0) (jW (ZX (zb 2 a (za (vE 1) (za (vE 0) (ze)))))) (vE 0) 1 [2])
def Ge:List T->R T:=λts=>zk (Dc (n9 8) (tK 20) (mB 3 ts))
def Al (d:List T->R T)(c:List T->R T)(e:List T->R T)(a:List T->R T):En->RS:=
  zn (jA (zb 1 c (za (vE 2) (ze))))
  (zn (jA (zb 2 d (za (vE 0) (za (vE 1) (ze)))))
  (zn (mD (ZX (zb 2 e (za (vE 2) (za (vE 1) (ze))))) (Kk) (mC))
  (zn (uO 3 (za (vE 1) (ze)))
  (zn (zC 4 (zb 3 a (za (vE 0) (za (vE 1) (za (vE 2) (ze))))))
  (zn (Zo (zp nt (mw Z6 (vB 4)) (cE (.int 0))) (zn (Us 3 (zd kj (vE 4) (cE (.int 0))))
  (zC 4 (zb 3 a (za (vE 0) (za (zd kj (vE 4) (cE (.int 0))) (za (vE 2) (ze))))))) (1000000))
  (zr (vE 3)))))))
def sS:List T->R T:=λts=>zk (Al (pX) (oU) (n9 8) (Ge) (mB 5 ts))
def AY (a:List T->R T)(c:List T->R T):En->RS:=
  zn (jA (zb 2 a (za (vE 0) (za (vE 1) (ze)))))
  (zr (zb 2 c (za (vE 0) (za (vE 1) (ze)))))
def tT:List T->R T:=λts=>zk (AY (pX) (tK 20) (mB 2 ts))
def Ah (c:List T->R T)(a:List T->R T)(d:List T->R T):En->RS:=
  zn (jA (zb 1 a (za (vE 1) (ze))))
  (zr (zA (Z5 (zb 1 c (za (vE 0) (ze)))) (zw 0) (ZX (zb 2 d (za (vE 1) (za (vE 0) (ze))))) (vE 0) 1 [1]))
def Br:List T->R T:=λts=>zk (Ah (pE) (oU) (n9 8) (mB 2 ts))
def Ae (c:List T->R T)(a:List T->R T)(d:List T->R T):En->RS:=
  zn (jA (zb 1 d (za (Za (za (vE 1) (za (vE 2) (ze)))) (ze))))
  (zr (mw Vn (zA (Z5 (zb 2 a (za (vE 0) (za (vE 1) (ze))))) (zw 0) (zV) (zb 2 c (za (vE 1) (za (vE 0) (ze)))) 1 [2])))
def Gf:List T->R T:=λts=>zk (Ae (n9 8) (Br) (pr) (mB 3 ts))
def tH (o:List T->R T)(j:List T->R T)(k:List T->R T)(g:List T->R T)(l:List T->R T)(e:List T->R T)(a:List T->R T)(d:List T->R T)(i:List T->R T)(f:List T->R T)(c:List T->R T):En->RS:=
  zn (zC 1 (zb 3 j (za (vE 0) (za (cE (.int 0)) (za (cE (.int 40)) (ze))))))
  (zn (rL (Za (za (zb 3 k (za (vE 0) (za (cE (.int 3000)) (za (cE (.int 2)) (ze))))) (za (zb 3 k (za (vE 0) (za (cE (.int 3200)) (za (cE (.int 2)) (ze))))) (ze)))) (zN 2 3))
  (zn (rL (Za (za (zb 2 c (za (vE 1) (za (vE 2) (ze)))) (za (Zc (ze)) (ze)))) (zN 4 5))
  (zn (ZD (Z5 (zb 2 a (za (vE 1) (za (Zc (za (vE 2) (ze))) (ze))))) (zw 6) (mD (jW (ZX (zb 2 g (za (vE 2) (za (zd kj (vE 6) (cE (.int 0))) (ze)))))) (zC 5 (vE 6)) (mC)))
  (zn (mD (zp mW (ZL uU (vB 4) (cE .non)) (ZL my (vB 5) (Zc (ze)))) (zr (cE (.bl false))) (mC))
  (zn (mD (zp mW (mw Z6 (vB 5)) (mw qh (zA (Z5 (zb 2 e (za (vE 1) (za (Zc (za (vE 2) (ze))) (ze))))) (zw 0) (zp my (zd kj (vE 0) (cE (.int 0))) (Za (za (cE (.bl false)) (ze)))) (zd kj (vE 0) (cE (.int 1))) 1 []))) (zr (cE (.bl false))) (mC))
  (zn (mD (zp jV (vB 4) (cE .non)) (zn (zC 7 (mw Kq (zA (Z5 (vE 5)) (zw 0) (zV) (zb 2 d (za (vE 1) (za (vE 0) (ze)))) 1 [1])))
  (mD (zp mW (vB 4) (zd kj (zA (Z5 (vE 5)) (zw 0) (zp my (zb 2 d (za (vE 1) (za (vE 0) (ze)))) (vB 2)) (vE 0) 1 [1,7]) (cE (.int 0)))) (zr (cE (.bl false))) (mC))) (mC))
  (zn (ZD (Zi (zd wH (cE (.int 3)) (mw Z6 (vB 5)))) (zw 8) (zn (zC 9 (zd kj (vE 5) (zb 3 o (za (vE 0) (za (zd zv (cE (.int 100)) (vE 8)) (za (mw Z6 (vB 5)) (ze)))))))
  (zn (zC 10 (zb 3 f (za (vE 1) (za (vE 9) (za (vE 2) (ze))))))
  (zn (mD (nz (zp mW (zd kj (vE 10) (cE (.int 0))) (vB 9)) (zp mW (zA (Z5 (vE 10)) (zw 0) (zp Y8 (vB 0) (vB 1)) (cE (.int 1)) 1 [5]) (Zc (ze)))) (zr (cE (.bl false))) (mC))
  (zn (zC 11 (zA (Z5 (vE 10)) (zw 0) (zV) (zb 2 d (za (vE 1) (za (vE 0) (ze)))) 1 [1]))
  (zn (mD (zp mW (zA (Yb (vE 11) (nj (vE 11) (Zj (cE (.int 1))) (nr))) (zN 0 1) (zp oy (vB 1) (vB 0)) (cE (.int 1)) 2 []) (Zc (ze))) (zr (cE (.bl false))) (mC))
  (mD (zp mW (zA (Z5 (zb 2 i (za (vE 1) (za (zd kj (vE 10) (YG (cE (.int 1)))) (ze))))) (zw 0) (jW (ZX (zb 2 g (za (vE 1) (za (vE 0) (ze)))))) (vE 0) 1 [2]) (Zc (ze))) (zr (cE (.bl false))) (mC))))))))
  (zn (zC 12 (zb 2 c (za (vE 1) (za (vE 3) (ze)))))
  (zn (mD (X0 (ZX (zb 3 l (za (vE 1) (za (vE 2) (za (vE 3) (ze)))))) (zp jV (vB 12) (cE .non))) (mD (nz (zp uU (vB 4) (cE .non)) (zp nt (zb 2 d (za (vE 1) (za (vE 4) (ze)))) (zb 2 d (za (vE 1) (za (vE 12) (ze)))))) (zr (cE (.bl false))) (mC)) (mC))
  (zr (ZL my (zb 2 c (za (vE 1) (za (Za (za (cE (.str "all")) (za (vE 2) (za (vE 2) (ze))))) (ze)))) (vB 4))))))))))))
def oB:List T->R T:=λts=>zk (tH (np) (AF) (Es 8) (pK 8) (Gf) (rY) (J6) (oH) (tT) (sS) (Dl) (mB 13 ts))
end G
namespace G
open PySem L2 PV
noncomputable abbrev mN (ns:List Int):T:= .fz (ns.map T.int)
theorem KQ (d:List Int)(k:Int)(q:0<=k):∃c,rS [mN d,.int k]= .ok (.int c):=by
 have l:rS [mN d,.int k]=zk (if decide (k < ((d.map T.int).length))=true then (mS (d.map T.int) k).s (λt=> .rt t) else
   match (my (mN d) (.lst [])).s (λb=>if b=true then RS.rt (.int 0) else .nx [.vl (mN d),.vl (.int k)]) with
   | .nx ρ' =>zr (zd zv (zd zU (zd kj (vE 0) (zd jL (vE 1) (mw Z6 (vB 0)))) (cE (.int 31))) (vE 1)) ρ'
   | r=>r):=by
  show zk (match (if decide _=true then (mS _ k).s (λt=>RS.rt t) else .nx _) with
   | .nx ρ' =>_
   | r=>r)=_
  cases decide (k < ((d.map _).length:Int)) with
  | true=>
   unfold mS;cases nw _ k <;> rfl
  | false=>rfl
 rw[l,ae]
 by_cases i:k < (d.length)
 ·obtain⟨v,f⟩:∃v,d[k.toNat]? =some v:=⟨d[k.toNat]'(by omega),ah (by omega)⟩
  have g:nw (d.map T.int) k=some (.int v):=by
   have:k=((k.toNat):Int):=by omega
   rw[this];exact Zv (by rw[ao,f];rfl)
  rw[decide_eq_true i];exact⟨v,by unfold mS;rw[g];rfl⟩
 ·rw[decide_eq_false i];cases d with
  | nil=>exact⟨0,rfl⟩
  | cons x xs=>
   have p:=mn k (show (((x :: xs).length):Int) ≠ 0 by simp only[aw];omega)
   have o:=ly k (show (0) < (((x :: xs).length):Int) by simp only[aw];omega)
   obtain⟨v,f⟩:∃v,(x :: xs)[(k % (((x :: xs).length):Int)).toNat]? =some v:=⟨_,ah (by omega)⟩
   have g:nw ((x :: xs).map T.int) (k % (((x :: xs).length):Int))=some (.int v):=by
    have e:k % (((x :: xs).length):Int)=(((k % (((x :: xs).length):Int)).toNat:Nat):Int):=by omega
    rw[e];exact Zv (by rw[ao,f];rfl)
   have j:uN v 31:= .inr ⟨by decide,by decide⟩
   have hp:(0:Int) < (((x :: xs).map T.int).length):=by simp only[ae,aw];omega
   refine⟨v*31+k, ?_⟩;show zk (((((if 0 < (((x :: xs).map _).length:Int) then R.ok _ else .bad).bind λy=>kj _ y).bind λa=>zU a _).bind λa=>zv a _).s λt=> .rt t)=_
   rw[if_pos hp];show zk ((((mS _ _).bind λa=>zU a _).bind λa=>zv a _).s λt=> .rt t)=_;rw[ae];unfold mS;rw[g];show zk ((((if uN v 31 then R.ok _ else .bad)).bind λa=>zv a _).s λt=> .rt t)=_
   rw[if_pos j];rfl
theorem zO (f:List Int)(k m:Int)(i:0<=k)(g:0 < m):∃p,np [mN f,.int k,.int m]= .ok (.int p)/\0<=p/\p < m:=by
 obtain⟨c,l⟩:=KQ f k i;have e:uN (c+6151*(k+1)) 40692:= .inr ⟨by decide,by decide⟩
 generalize hd:(c+6151*(k+1))*40692 % 2147483399=d;have a:uN d d:= .inl ⟨by omega,by omega⟩
 refine⟨(d*d+d / 31) % 2147483629 % m, ?_,mn _ (by omega),ly _ g⟩
 have j:np [mN f,.int k,.int m]=zk (match ((((((rS _).bind λx=>(zU (.int 6151) (.int _)).bind λy=>zv x y).bind λx=>zU x _).bind λx=>jL x _)).s λt=>RS.nx _) with
   | .nx ρ' =>zr _ ρ'
   | r=>r):=rfl
 rw[j,l];show zk (match ((((if uN _ _ then R.ok _ else .bad)).bind λx=>jL x _).s λt=>RS.nx _) with
   | .nx ρ' =>_
   | r=>r)=_
 rw[if_pos e];show zk (zr _ _)=_;rw[hd];show zk (((((if uN d d then R.ok _ else .bad).bind λx=>zv x _).bind λx=>jL x _).bind λx=>jL x _).s λt=>RS.rt t)=_
 rw[if_pos a];show zk ((if 0 < m then R.ok _ else .bad).s λt=>RS.rt t)=_
 rw[if_pos g];rfl
theorem Q1:∀(ts:List T) (ρ:En) (x:Sl),zx (zw 0) ft fe ts (ρ.set 0 x)=zx (zw 0) ft fe ts ρ
 | [],_,_=>rfl
 | t :: ts,ρ,x=>by
  unfold zx zw;rw[List.set_set]
theorem Zq {p:T->Bool}{h:T->T}:∀(ts:List T) (ρ:En),(∀t∈ts,ft (ρ.set 0 (.vl t))= .ok (p t)/\(p t=true->fe (ρ.set 0 (.vl t))= .ok (h t)))->zx (zw 0) ft fe ts ρ= .ok ((ts.filter p).map h)
 | [],_,_=>rfl
 | t :: ts,ρ,H=>by
  obtain⟨d,a⟩:=H t aa;have f:=Zq ts ρ λu c=>H u (a9 _ c);have e:zx (zw 0) ft fe (t :: ts) ρ=(ft _).bind λk=>if k=true then (fe _).bind λv=>(zx _ ft fe ts _).bind λvs=> .ok _ else zx _ ft fe ts _:=rfl
  rw[e,d,Q1,f];show (if p t=true then _ else _)=_
  cases hp:p t with
  | true=>rw[a hp,List.filter_cons_of_pos hp];rfl
  | false=>rw[if_neg ax,List.filter_cons_of_neg (by rw[hp];exact ax)]
theorem Q2 {h:T->T}(ts:List T)(ρ:En)(H:∀t∈ts,fe (ρ.set 0 (.vl t))= .ok (h t)):zx (zw 0) zV fe ts ρ= .ok (ts.map h):=by
 have:=Zq (ft:=zV) ts ρ λt a=>⟨rfl,λ_=>H t a⟩;rw[this,List.filter_eq_self.mpr (λ_ _=>rfl)]
theorem zK {h:T->T}{js:List Nat}(ts:List T)(a:ts.length<=mF)(H:∀t∈ts,fe ((Jp k js ρ).set 0 (.vl t))= .ok (h t)):zq (zw 0) zV fe k js ρ ts= .ok (ts.map h):=by
 unfold zq;rw[if_pos a,Q2 ts _ H];rfl
theorem J7 (p:T->Bool):∀ts:List T,WT (ts.map λt=>T.bl (p t))=some (ts.all p)
 | []=>rfl
 | t :: ts=>by
  show (match WT (ts.map λt=>T.bl _) with | some j=>some _ | none=>none)=_
  rw[J7 p ts];rfl
noncomputable def Dn:T->Bool
 | .int _=>true
 | _=>false
theorem Wt (t:T):nU [t]= .ok (.bl (Dn t)):=by cases t <;> rfl
noncomputable def xh (a b:Nat):T->Bool
 | .tup xs=>decide (a<=xs.length) && decide (xs.length<=b)
 | _=>false
theorem ZH (t:T)(a b:Nat):nO [t,.int a,.int b]= .ok (.bl (xh a b t)):=by
 cases t with
 | tup xs=>
  show zk ((if decide _=true then R.ok _ else .ok _).s λt=> .rt t)=_
  have c:decide ((a:Int)<=(xs.length))=decide (a<=xs.length):=by simp
  have d:decide ((xs.length:Int)<=(b))=decide (xs.length<=b):=by simp
  rw[c,d];show _=R.ok (T.bl (decide _ && decide _));cases decide (a<=xs.length) <;> rfl
 | _=>rfl
noncomputable def Jt (lo hi:Int):T->T->Bool
 | .int i,.int j=>decide (lo<=i) && decide (i<=j) && decide (j<=hi)
 | _,_=>false
theorem Q3 (t u:T)(lo hi:Int):Ak [t,u,.int lo,.int hi]= .ok (.bl (Jt lo hi t u)):=by
 cases t with
 | int i=>
  cases u with
  | int j=>
   show zk ((if decide _=true then (if decide _=true then R.ok _ else .ok _) else .ok _).s λt=> .rt t)=_
   show _=R.ok (T.bl (decide _ && decide _ && decide _));cases decide (lo<=i) <;> cases decide (i<=j) <;> rfl
  | _=>rfl
 | _=>cases u <;> rfl
noncomputable def Zy (c:Nat):Bool:=decide (97<=c) && decide (c<=122)
def Zr:T->Bool
 | .str x=>decide (1<=x.length) && decide (x.length<=3) && x.cps.toList.all Zy
 | _=>false
theorem Xq (a b:Nat):decide ([a] < [b])=decide (a < b):=by
 by_cases h:a < b
 ·rw[decide_eq_true h];exact decide_eq_true (List.Lex.rel h)
 ·rw[decide_eq_false h];refine decide_eq_false λz=> ?_;cases z with
  | rel h' =>exact h h'
  | cons h' =>cases h'
theorem KR (c:Nat)(ρ:En):ny mL mL (cE (.str "a")) (vB 0) (cE (.str "z")) ((Sl.vl (.str ⟨#[c]⟩)) :: ρ)= .ok (.bl (Zy c)):=by
 have e:mL (.str "a") (.str ⟨#[c]⟩)= .ok (decide (97<=c)):=by
  show R.ok (!decide ([c] < [97]))=_;rw[Xq]
  by_cases h:c < 97
  ·rw[decide_eq_true h,decide_eq_false (by omega)];rfl
  ·rw[decide_eq_false h,decide_eq_true (by omega)];rfl
 have a:mL (.str ⟨#[c]⟩) (.str "z")= .ok (decide (c<=122)):=by
  show R.ok (!decide ([122] < [c]))=_;rw[Xq]
  by_cases h:122 < c
  ·rw[decide_eq_true h,decide_eq_false (by omega)];rfl
  ·rw[decide_eq_false h,decide_eq_true (by omega)];rfl
 show (mL (.str "a") (.str _)).bind (λk=>if k=true then (mL (.str _) (.str "z")).bind λd =>R.ok (T.bl d) else R.ok _)=_
 rw[e,a];unfold Zy;cases decide (97<=c) <;> rfl
def KS:T->Prop
 | .str x=>x.length<=mF
 | _=>True
theorem Q4 (t:T)(a:KS t):ph [t]= .ok (.bl (Zr t)):=by
 cases t with
 | str x=>
  have d:=a;have o:Z6 (.str x)= .ok _:=if_pos d;have f:zq (zw 0) zV (ny mL mL (cE (.str "a")) (vB 0) (cE (.str "z"))) 1 [] [.vl (.str x)] (JV x)= .ok (x.cps.toList.map λc=>T.bl (Zy c)):=by
   have i:(JV x).length<=mF:=by unfold JV;rw[ae];exact d
   have:=zK (h:=λt=>match t with | .str y=>T.bl (Zy (y.cps.toList.headD 0)) | t=>t) (k:=1) (js:=[]) (ρ:=[.vl (.str x)]) _ i λt a=>by
    obtain⟨c,_,rfl⟩:=aA.mp a;exact KR c []
   rw[this];unfold JV;rw[aZ];rfl
  have l:WT (x.cps.toList.map λc=>T.bl (Zy c))=some (x.cps.toList.all Zy):=by
   have:=J7 (λt=>match t with | .str y=>Zy (y.cps.toList.headD 0) | _=>true) (JV x)
   unfold JV at this;rw[aZ,lK]at this;exact this
  have e:ph [.str x]=zk (match ((((Z6 (.str x)).bind λy=>(mL _ y).bind λk=>if k=true then mL y _ else .ok _).bind λb=> .ok _).s λk=>if k=true then RS.rt _ else .nx _) with
    | .nx ρ' =>zr _ ρ'
    | r=>r):=rfl
  rw[e,o];have g:decide ((1:Int)<=(x.length))=decide (1<=x.length):=by
   by_cases h:1<=x.length
   ·rw[decide_eq_true h];exact decide_eq_true (by omega)
   ·rw[decide_eq_false h];exact decide_eq_false (by omega)
  have j:decide ((x.length:Int)<=(3))=decide (x.length<=3):=by
   by_cases h:x.length<=3
   ·rw[decide_eq_true h];exact decide_eq_true (by omega)
   ·rw[decide_eq_false h];exact decide_eq_false (by omega)
  show zk (match ((((if decide _=true then R.ok _ else .ok _)).bind λb=> .ok _).s λk=>if k=true then RS.rt _ else .nx _) with
    | .nx ρ' =>_
    | r=>r)=_
  rw[g,j];show _=R.ok (T.bl (decide _ && decide _ && x.cps.toList.all _));cases decide (1<=x.length) with
  | false=>rfl
  | true=>
   cases decide (x.length<=3) with
   | false=>rfl
   | true=>
    show zk ((((zq _ _ _ 1 [] [.vl _] _).bind λvs=> .ok _).bind Vn).s λt=> .rt t)=_;rw[f];show zk ((match WT (x.cps.toList.map λc=>T.bl _) with | some k=>R.ok _ | none=> .bad).s λt=> .rt t)=_
    rw[l];rfl
 | _=>rfl
theorem i3 {c d:Type}(a:c)(f:c->R d):(R.ok a).bind f=f a:=rfl
theorem j1 {c:Type}(a:c)(f:c->RS):(R.ok a).s f=f a:=rfl
theorem Ju (r:R T):zk (r.s λt=> .rt t)=r:=by cases r <;> rfl
theorem Zd (f:En->R T)(ρ:En):zr f ρ=(f (frz ρ)).s λt=> .rt t:=rfl
theorem zI:zb 1 g (za f ze) ρ=(f ρ).bind λx=>g [x]:=by
 unfold zb za ze;cases f ρ <;> rfl
theorem zt:zb 2 g (za f (za f' ze)) ρ=(f ρ).bind λx=>(f' ρ).bind λy=>g [x,y]:=by
 unfold zb za ze;cases f ρ with
 | ok a=>cases f' ρ <;> rfl
 | ex c=>rfl
 | bad=>rfl
theorem Zb:zb 3 g (za f (za f' (za f'' ze))) ρ=(f ρ).bind λx=>(f' ρ).bind λy=>(f'' ρ).bind λz=>g [x,y,z]:=by
 unfold zb za ze;cases f ρ with
 | ok a=>
  cases f' ρ with
  | ok b=>cases f'' ρ <;> rfl
  | ex c=>rfl
  | bad=>rfl
 | ex c=>rfl
 | bad=>rfl
theorem HL:zb 4 g (za f (za f' (za f'' (za f3 ze)))) ρ=(f ρ).bind λx=>(f' ρ).bind λy=>(f'' ρ).bind λz=>(f3 ρ).bind λw=>g [x,y,z,w]:=by
 unfold zb za ze;cases f ρ with
 | ok a=>
  cases f' ρ with
  | ok b=>
   cases f'' ρ with
   | ok c=>cases f3 ρ <;> rfl
   | ex c=>rfl
   | bad=>rfl
  | ex c=>rfl
  | bad=>rfl
 | ex c=>rfl
 | bad=>rfl
def AE (r k:R T):R T:=r.bind λx=>match x with
 | .bl true=>k
 | .bl false=> .ok (.bl false)
 | _=> .bad
theorem J8 (f g:En->R T)(ρ:En):j8 f g ρ=AE (f ρ) (g ρ):=rfl
theorem Zw (a:Bool)(k:R T):AE (.ok (.bl a)) k=if a=true then k else .ok (.bl false):=by cases a <;> rfl
theorem v0:vE 0 (.vl t :: ρ)= .ok t:=rfl
theorem v1:vE 1 (a :: .vl t :: ρ)= .ok t:=rfl
theorem w0:vB 0 (.vl t :: ρ)= .ok t:=rfl
theorem w1:vB 1 (a :: .vl t :: ρ)= .ok t:=rfl
theorem zW:cE t ρ= .ok t:=rfl
theorem zh:zd g f f' ρ=(f ρ).bind λx=>(f' ρ).bind λy=>g x y:=rfl
theorem ji:frz (.vl t :: ρ)= .vl t :: frz ρ:=rfl
theorem Wu:frz (.un :: ρ)= .un :: frz ρ:=rfl
theorem jO:frz []=[]:=rfl
theorem Q5:ny g g' fa fb fc ρ=(fa ρ).bind λx=>(fb ρ).bind λy=>(g x y).bind λk=>if k=true then (fc ρ).bind λz=>(g' y z).bind λa => .ok (.bl a) else .ok (.bl false):=rfl
theorem Z8 {g:T->R T}:mw g f ρ=(f ρ).bind g:=rfl
theorem wJ:mL (.int i) (.int j)= .ok (decide (i<=j)):=rfl
theorem Ze:ZL g f f' ρ=(f ρ).bind λx=>(f' ρ).bind λy=>(g x y).bind λb=> .ok (.bl b):=rfl
theorem jP:Z6 (.tup xs)= .ok (.int xs.length):=rfl
theorem DS:Z6 (.lst xs)= .ok (.int xs.length):=rfl
mutual
noncomputable def sOk:T->Prop
 | .str x=>x.length<=mF
 | .tup xs=>UK xs
 | .lst xs=>UK xs
 | .fz xs=>UK xs
 | _=>True
noncomputable def UK:List T->Prop
 | []=>True
 | t :: ts=>sOk t/\UK ts
end
theorem J9:∀{ts:List T} {t:T},UK ts->t∈ts->sOk t
 | u :: ts,t,h,a=>by
  have h' :=by simpa only[UK] using h
  rcases ak.mp a with rfl | a
  ·exact h'.1
  ·exact J9 h'.2 a
theorem sOk.str (h:sOk t):KS t:=by
 cases t with
 | str x=>
  have h' :=by simpa only[sOk] using h
  exact h'
 | _=>trivial
theorem Wv {xs:List T}(h:sOk (.tup xs)):UK xs:=by simpa only[sOk] using h
def zX:T->Bool
 | .tup [w,.int i]=>Zr w && decide (1<=i) && decide (i<=20)
 | _=>false
theorem Q6 (t:T)(a:sOk t):pW [t]= .ok (.bl (zX t)):=by
 have e:pW [t]=zk (Aj _ _ _ [.vl t]):=rfl;rw[e,Aj];simp only[Zd,Ju,ji,jO,J8,Zb,zI,v0,zW,i3,zh,Q5];rw[show nO [t,.int 2,.int 2]= .ok _ from ZH t 2 2,Zw];cases t with
 | tup xs=>
  match xs,a with
  | [],_=>rfl
  | [_],_=>rfl
  | _ :: _ :: _ :: _,_=>simp[xh,zX]
  | [w,n],a=>
   have c:sOk w:=J9 (Wv a) (by simp)
   show (if true=true then AE (ph [w]) (AE (nU [n]) ((mL _ n).bind λk=>if k=true then (mL n _).bind λd =>R.ok _ else .ok _)) else _)=_
   rw[Q4 w c.str,Wt,Zw,Zw];cases n with
   | int i=>
    show (if Zr w=true then (if true=true then (if decide _=true then R.ok _ else .ok _) else _) else _)=R.ok (T.bl (Zr w && decide _ && decide _))
    cases Zr w <;> cases decide (1<=i) <;> rfl
   | _=>
    cases Zr w <;> rfl
 | _=>rfl
theorem zY (f g:En->RS)(ρ:En):zn f g ρ=match f ρ with | .nx ρ' =>g ρ' | r=>r:=rfl
theorem j9 (g:En->R Bool)(a c:En->RS)(ρ:En):mD g a c ρ=(g ρ).s λk=>if k=true then a ρ else c ρ:=rfl
theorem U2 (f g:En->R Bool)(ρ:En):nz f g ρ=(f ρ).bind λx=>if x=true then .ok true else g ρ:=rfl
theorem Jv (f:En->R Bool)(ρ:En):jW f ρ=(f ρ).bind λx=> .ok (!x):=rfl
theorem j6 (f:En->R T)(ρ:En):ZX f ρ=(f ρ).bind Ch:=rfl
theorem UL (k:Bool):Ch (.bl k)= .ok k:=rfl
theorem wg (i:Nat)(f:En->R T)(ρ:En):zC i f ρ=(f ρ).s λt=> .nx (ρ.set i (.vl t)):=rfl
theorem zB:zp g f f' ρ=(f ρ).bind λx=>(f' ρ).bind λy=>g x y:=rfl
theorem zJ {g:T->En->R En}{js:List Nat}:zA fi g ft fe k js ρ=(fi ρ).bind λts=>(zq g ft fe k js ρ ts).bind λvs=> .ok (.lst vs):=rfl
theorem Zs:Z5 f ρ=(f ρ).bind JW:=rfl
noncomputable def j7:T->Str
 | .tup (.str w :: _)=>w
 | _=>⟨#[]⟩
def UM:T->Bool
 | .tup a=>decide (1<=a.length) && decide (a.length<=4) && a.all zX && decide ((dd [] (a.map j7)).length=a.length)
 | _=>false
theorem ut (h:zX c=true):∃w n,c= .tup [.str w,n]:=by
 unfold zX at h;split at h
 ·rename_i w i;cases w with
  | str x=>exact⟨x,_,rfl⟩
  | _=>cases h
 ·cases h
theorem wW:∀{a:List T},a.all zX=true->Ya (a.map λc=>T.str (j7 c))=some (a.map j7)
 | [],_=>rfl
 | c :: a,h=>by
  rw[cX,aj]at h;have d:=wW h.2;show (match Ya (a.map λc=>T.str _) with | some e=>some _ | none=>none)=_
  rw[d];rfl
theorem yU (t:T)(r:sOk t):rn [t]= .ok (.bl (UM t)):=by
 have e:rn [t]=zk (tM _ _ [.vl t,.un]):=rfl;rw[e,tM];simp only[zY,j9,U2,Jv,j6,Zb,v0,zW,i3];rw[show nO [t,.int 1,.int 4]= .ok _ from ZH t 1 4];cases t with
 | tup a=>
  have l:xh 1 4 (.tup a)=(decide _ && decide _):=rfl;rw[l];show _=R.ok (T.bl (decide _ && decide _ && a.all _ && decide _));cases f:(decide (1<=a.length) && decide (a.length<=4)) with
  | false=>rfl
  | true=>
   rw[aj,decide_eq_true_eq,decide_eq_true_eq]at f;have j:a.length<=mF:=av f.2 (by decide)
   have p:zq _ _ (zb 1 pW (za (vE 0) ze)) 1 [] [.vl (.tup a),.un] a= .ok (a.map λc=>T.bl _):=
    zK a j λc g=>by
     exact Q6 c (J9 (Wv r) g)
   simp only[eD,aI,if_false,Z8,zJ,Zs,v0,i3,JW,p];have u:Vn (.lst (a.map λc=>T.bl (zX c)))= .ok (.bl (a.all zX)):=by
    show (match WT (a.map λc=>T.bl _) with | some k=>R.ok _ | none=> .bad)=_
    rw[J7]
   rw[u];simp only[i3,UL,j1];cases d:a.all _ with
   | false=>rfl
   | true=>
    have q:zq _ _ (zd kj (vE 0) (cE (.int 0))) 1 [] [.vl (.tup a),.un] a= .ok (a.map λc=>T.str (j7 c)):=
     zK a j λc g=>by
      obtain⟨w,n,rfl⟩:=ut (aJ.mp d c g);rfl
    simp only[eD,aI,if_false,mC,wg,zJ,Zs,v0,i3,JW,q,j1,Zd];show zk (((Vw (.lst (a.map λc=>T.str _))).bind λx=>(Z6 (.lst (a.map λc=>T.str _))).bind λy=>(my x y).bind λb=>R.ok _).s λt=> .rt t)=_;have o:Vw (.lst (a.map λc=>T.str (j7 c)))= .ok (.int (dd [] (a.map j7)).length):=by
     show (match Ya (a.map λc=>T.str _) with | some v=>if (a.map λc=>T.str _).length+1 < 4096 then R.ok _ else .bad | none=> .bad)=_
     rw[wW d];exact if_pos (by rw[ae];omega)
    rw[o,DS,ae];show R.ok _=_;congr 2
    by_cases i:(dd [] (a.map j7)).length=a.length
    ·rw[i];simp
    ·rw[decide_eq_false i];simp only[lh,beq_eq_false_iff_ne];omega
 | _=>rfl
noncomputable def isS (w:Str):T->Bool
 | .str s=>s == w
 | _=>false
theorem Md (h:T)(w:Str):my h (.str w)= .ok (isS w h):=by cases h <;> rfl
theorem nQ (i j:Int):my (.int i) (.int j)= .ok (i == j):=rfl
theorem pB:kj (.tup (h :: r)) (.int 0)= .ok h:=by
 show mS _ 0=_;unfold mS;rw[show nw _ 0=some h from Zv rfl]
theorem oY:kj (.tup (h :: a :: r)) (.int 1)= .ok a:=by
 show mS _ 1=_;unfold mS;rw[show nw _ 1=some a from Zv rfl]
theorem Bg:kj (.tup (h :: a :: b :: r)) (.int 2)= .ok b:=by
 show mS _ 2=_;unfold mS;rw[show nw _ 2=some b from Zv rfl]
theorem DZ:kj (.tup (h :: a :: b :: c :: r)) (.int 3)= .ok c:=by
 show mS _ 3=_;unfold mS;rw[show nw _ 3=some c from Zv rfl]
noncomputable def wj (k:T->Bool):T->Bool
 | .tup a=>decide (1<=a.length) && decide (a.length<=3) && a.all k
 | _=>false
def uu:List T->Bool
 | [a,b]=>Jt (-20) 20 a b
 | _=>false
def Q7:List T->Bool
 | [c]=>UM c
 | _=>false
def rX (k:T->Bool):List T->Bool
 | [c]=>wj k c
 | _=>false
def Q8 (k:T->Bool):List T->Bool
 | [c,a,b]=>Jt 0 3 a b && k c
 | _=>false
def yV (k:T->Bool):T->Bool
 | .tup (h :: r)=>if isS "whole" h=true then uu r else if isS "pick" h=true then Q7 r else if isS "row" h=true then rX k r else if isS "many" h=true then Q8 k r else false
 | _=>false
def nF:Nat->T->Bool
 | 0,_=>false
 | d+1,t=>yV (nF d) t
theorem Q9 {a:Type}(xs:List a)(n:Nat):((xs.length:Int) == (n:Int))=decide (xs.length=n):=by
 by_cases h:xs.length=n
 ·rw[h];simp
 ·rw[decide_eq_false h,beq_eq_false_iff_ne];omega
theorem Xr:YG f ρ=(f ρ).bind λx=>match x with | .int i=> .ok (.int (-i)) | _=> .bad:=rfl
theorem Zf:jK (.int i) (.int j)= .ok (.int (i - j)):=rfl
set_option maxHeartbeats 1000000 in
theorem KU {n:Nat}{d:Nat}{k:T->Bool}(x:∀t,sOk t->nG n 0 [t,.int d]= .ok (.bl (k t)))(v:∀t,sOk t->nG n 1 [t,.int d]= .ok (.bl (wj k t)))(t:T)(B:sOk t):
  nG (n+1) 0 [t,.int ((d+1:Nat):Int)]= .ok (.bl (yV k t)):=by
 have e:nG (n+1) 0 [t,.int ((d+1:Nat))]=zk (tY Ak _ rn _ [.vl t,.vl (.int _)]):=rfl;have p:(((d+1:Nat):Int) == 0)=false:=by rw[beq_eq_false_iff_ne];omega
 have g:((d+1:Nat)) - 1=(d:Int):=by omega
 rw[e,tY];simp only[zY,j9,U2,Jv,j6,zB,w0,w1,zW,i3,nQ,p,aI,if_false,Z8];cases t with
 | tup xs=>
  cases xs with
  | nil=>rfl
  | cons h r=>
   have o:=Wv B;have f:∀u∈r,sOk u:=λu y=>J9 o (a9 _ y);have q:(((h :: r).length:Int) == 0)=false:=by rw[beq_eq_false_iff_ne];simp only[aw];omega
   have l:WS "tuple" (.tup (h :: r))= .ok (.bl true):=rfl;simp only[l,i3,UL,eD,aI,if_false,jP,nQ,q,j1,mC,zh,v0,v1,zW,pB,Md,Zd,ji,jO,J8,Ze,Z8,w0,HL,zI,zt,Xr,Zf,g];show _=R.ok (T.bl (if isS "whole" h=true then uu r else if isS "pick" h=true then Q7 r else if isS "row" h=true then rX k r else if isS "many" h=true then Q8 k r else false))
   have w:(((h :: r).length:Int) == 3)=decide _:=Q9 (h :: r) 3;have i:(((h :: r).length:Int) == 2)=decide _:=Q9 (h :: r) 2;have j:(((h :: r).length:Int) == 4)=decide _:=Q9 _ 4;simp only[i,w,j,Zw];cases isS _ h with
   | true=>
    match r,f with
    | [],_=>rfl
    | [_],_=>rfl
    | _ :: _ :: _ :: _,_=>simp[uu,j1,zk]
    | [a,b],_=>
     simp only[oY,Bg,i3,Q3];rfl
   | false=>
    simp only[aI,if_false,v0,v1,w0,i3,pB,j1,ji,jO,jP,nQ,i,j,Zw,Zf,g];cases isS _ h with
    | true=>
     match r,f with
     | [],_=>rfl
     | _ :: _ :: _,_=>simp[Q7,j1,zk]
     | [c],f=>
      simp only[oY,i3,yU c (f c (by simp))]
      rfl
    | false=>
     simp only[aI,if_false,v0,v1,w0,i3,pB,j1,ji,jO,jP,nQ,i,j,Zw,Zf,g];cases isS _ h with
     | true=>
      match r,f with
      | [],_=>rfl
      | _ :: _ :: _,_=>simp[rX,j1,zk]
      | [c],f=>
       simp only[oY,i3,v c (f c (by simp))]
       rfl
     | false=>
      simp only[aI,if_false,v0,v1,w0,i3,pB,j1,ji,jO,jP,nQ,i,j,Zw,Zf,g];cases isS _ h with
      | true=>
       match r,f with
       | [],_=>rfl
       | [_],_=>rfl
       | [_,_],_=>rfl
       | _ :: _ :: _ :: _ :: _,_=>simp[Q8,j1,zk]
       | [c,a,b],f=>
        simp only[oY,Bg,DZ,i3,Q3,x c (f c (by simp)),Zw]
        show zk (match (if Jt 0 3 a b=true then R.ok _ else .ok _).s (λt=>RS.rt t) with | .nx _=>RS.rt _ | r=>r)=R.ok (T.bl (Jt 0 3 a b && k c))
        cases Jt 0 3 a b <;> rfl
      | false=>rfl
 | _=>rfl
theorem IA {k:T->Bool}(l:∀t,sOk t->nG n 0 [t,.int d]= .ok (.bl (k t)))(t:T)(o:sOk t):nG (n+1) 1 [t,.int d]= .ok (.bl (wj k t)):=by
 have e:nG (n+1) 1 [t,.int d]=zk (sY nO (nG n 0) [.vl t,.vl (.int d)]):=rfl;rw[e,sY];simp only[Zd,Ju,ji,jO,J8,Zb,v0,zW,i3];rw[show nO [t,.int 1,.int 3]= .ok (.bl (xh 1 3 t)) from ZH t 1 3,Zw];cases t with
 | tup a=>
  show (if (decide (1<=a.length) && decide (a.length<=3))=true then _ else _)=R.ok (T.bl (decide (1<=a.length) && decide (a.length<=3) && a.all k))
  cases f:(decide (1<=a.length) && decide (a.length<=3)) with
  | false=>rfl
  | true=>
   rw[aj,decide_eq_true_eq,decide_eq_true_eq]at f;have g:a.length<=mF:=av f.2 (by decide)
   have i:zq (zw 0) zV (zb 2 (nG n 0) (za (vE 0) (za (vE 1) ze))) 1 [1] [.vl (.tup a),.vl (.int d)] a= .ok (a.map λc=>T.bl (k c)):=
    zK (h:=λc=>T.bl (k c)) a g λc j=>by
     show zb 2 (nG n 0) (za (vE 0) (za (vE 1) ze)) [.vl c,.vl (.int d)]=_;rw[zt,v0,v1,i3,i3];exact l c (J9 (Wv o) j)
   simp only[if_true,Z8,zJ,Zs,v0,i3,JW,i];show (match WT (a.map λc=>T.bl (k c)) with | some k=>R.ok (T.bl k) | none=> .bad)=_
   rw[J7];rfl
 | _=>rfl
theorem U3:∀(d n:Nat),2*d+1<=n->∀t,sOk t->nG n 0 [t,.int d]= .ok (.bl (nF d t))
 | 0,n+1,_,t,_=>rfl
 | d+1,n+2,h,t,e=>KU (n:=n+1) (λu a=>U3 d (n+1) (by omega) u a) (λu a=>IA (λv c=>U3 d n (by omega) v c) u a) t e
theorem yW (t:T)(a:sOk t):Ag [t]= .ok (.bl (nF 3 t)):=by
 have e:Ag [t]=zk (sZ (B8 20) [.vl t]):=rfl;rw[e,sZ];simp only[Zd,Ju,ji,jO,zt,v0,zW,i3];exact U3 3 20 (by omega) t a
noncomputable def oV (lo hi:Int):T->Bool
 | .int i=>decide (lo<=i) && decide (i<=hi)
 | _=>false
theorem E2 (xs:List T):my (.lst xs) (.lst [])= .ok xs.isEmpty:=by cases xs <;> rfl
theorem uv:∀(a acc:List Str),(dd acc a).length<=acc.length+a.length
 | [],acc=>am _
 | w :: a,acc=>by
  unfold dd;have:=uv a (if w∈acc then acc else acc++[w])
  by_cases h:w∈acc
  ·rw[if_pos h]at this ⊢;simp only[aw];omega
  ·rw[if_neg h]at this ⊢;rw[az,aK]at this;simp only[aw];omega
theorem Ww:∀(a acc:List Str),((dd acc a).length=acc.length+a.length)↔∀(k:Nat) (w:Str),a[k]? =some w->w ∉ acc++a.take k
 | [],acc=>by simp[dd]
 | w :: a,acc=>by
  unfold dd
  by_cases h:w∈acc
  ·rw[if_pos h];have:=uv a acc;constructor
   ·intro e;simp only[aw]at e;omega
   ·intro H;exact absurd (dM _ h) (H 0 w rfl)
  ·rw[if_neg h];have c:=Ww a (acc++[w]);rw[az,aK]at c;rw[show acc.length+(w :: a).length=acc.length+1+a.length by simp only[aw];omega,c]
   constructor
   ·intro H k v e;cases k with
    | zero=>simp at e;subst e;simpa using h
    | succ k=>
     have:=H k v (by simpa using e)
     simpa[bi] using this
   ·intro H k v e;have:=H (k+1) v (by simpa using e)
    simpa[bi] using this
theorem Cd (i j:Int):om (.int i) (.int j)= .ok (decide (i < j)):=rfl
theorem v2 {t:T}{a b:Sl}{ρ:En}:vE 2 (a :: b :: .vl t :: ρ)= .ok t:=rfl
theorem v3 {t:T}{a b c:Sl}{ρ:En}:vE 3 (a :: b :: c :: .vl t :: ρ)= .ok t:=rfl
theorem w2 {t:T}{a b:Sl}{ρ:En}:vB 2 (a :: b :: .vl t :: ρ)= .ok t:=rfl
theorem w3 {t:T}{a b c:Sl}{ρ:En}:vB 3 (a :: b :: c :: .vl t :: ρ)= .ok t:=rfl
theorem w5 {t:T}{a b c d e:Sl}{ρ:En}:vB 5 (a :: b :: c :: d :: e :: .vl t :: ρ)= .ok t:=rfl
theorem v4 {t:T}{a b c d:Sl}{ρ:En}:vE 4 (a :: b :: c :: d :: .vl t :: ρ)= .ok t:=rfl
theorem Qa (f g:En->R Bool)(ρ:En):X0 f g ρ=(f ρ).bind λx=>if x=true then g ρ else .ok false:=rfl
theorem UN (w:Str):∀a:List Str,Jo (λy=>mE 30 y (.str w)) (a.map T.str)=some (decide (w∈a))
 | []=>rfl
 | x :: a=>by
  have d:=UN w a;show (match Jo (λy=>mE 30 y _) _ with | none=>none | some c=>some _)=_
  rw[d]
  by_cases h:x=w
  ·subst h;simp
  ·have h' :¬ w=x:=λz=>h z.symm;simp[h,h']
theorem Xs {xs:List T}{k:Nat}{t:T}(h:xs[k]? =some t):kj (.lst xs) (.int k)= .ok t:=by
 show mS xs k=_;unfold mS;rw[Zv h]
theorem xi {f:En->R T}{l h:En->R (Option Int)}{ρ:En}:nj f l h ρ=(f ρ).bind λt=>(l ρ).bind λlo=>(h ρ).bind λhi=>oZ t lo hi:=rfl
theorem t7 {ρ:En}:nr ρ= .ok none:=rfl
theorem DW (i j:Int):nt (.int i) (.int j)= .ok (decide (i > j)):=rfl
theorem zZ (i j:Int):zv (.int i) (.int j)= .ok (.int (i+j)):=rfl
theorem LL (p:Int)(a:0<=p)(c:p < 26):kj (.str "abcdefghijklmnopqrstuvwxyz") (.int p)= .ok (.str ⟨#[97+p.toNat]⟩):=by
 obtain⟨n,rfl⟩:=dg a;have h:n < 26:=by omega
 iterate 26 (refine(Nat.lt_or_eq_of_le (Nat.le_of_lt_succ h)).elim (λh=> ?_) (λe=>e ▸ rfl))
 exact absurd h (iP _)
abbrev sx:En->R T:=zd kj (vE 3) (zb 3 np (za (vE 1) (za (zd zv (zd zv (vE 2) (cE (.int 2))) (vE 0)) (za (cE (.int 26)) (ze)))))
theorem IS (a:List Int)(k:Int)(g:0<=k)(j:Nat):∃c:Nat,(97<=c/\c<=122)/\sx [.vl (.int (j:Int)),.vl (mN a),.vl (.int k),.vl (.str "abcdefghijklmnopqrstuvwxyz")]= .ok (.str ⟨#[c]⟩):=by
 obtain⟨p,e,f,d⟩:=zO a (k+2+j) 26 (by omega) (by omega)
 refine⟨97+p.toNat,⟨by omega,by omega⟩, ?_⟩
 simp only[sx,zh,v3,i3,Zb,v1,v2,v0,zW,zZ,e];exact LL p f d
theorem yX (c:List Int)(k:Int)(o:0<=k):∃w:Str,Gc [mN c,.int k]= .ok (.str w)/\Zr (.str w)=true:=by
 have e:Gc [mN c,.int k]=zk (tO _ [.vl _,.vl _,.un]):=rfl;obtain⟨p,B,F,D⟩:=zO c k 6 o (by omega)
 have f:∀t,([Sl.vl (mN c),Sl.vl (.int k),.un]).set 2 _=[Sl.vl _,Sl.vl _,.vl t]:=λ_=>rfl;rw[e,tO];simp only[zY,j9,wg,zW,j1,f,zB,Zb,v0,v1,i3,B,DW];cases hp:decide (p > 0) with
 | true=>
  obtain⟨q,i,y,x⟩:=zO c (k+1) 4 (by omega) (by omega)
  simp only[if_true,Zd,ji,jO,zh,Zb,v0,v1,zW,i3,zZ,i];have l:q=0\/q=1\/q=2\/q=3:=by omega
  rcases l with rfl | rfl | rfl | rfl
  ·exact⟨"a",rfl,by decide⟩
  ·exact⟨"b",rfl,by decide⟩
  ·exact⟨"ab",rfl,by decide⟩
  ·exact⟨"cab",rfl,by decide⟩
 | false=>
  obtain⟨q,i,y,x⟩:=zO c (k+1) 3 (by omega) (by omega)
  simp only[aI,if_false,mC,Zd,Ju,ji,jO,Z8,zJ];obtain⟨g,r⟩:=ma.mp (IS c k o);have C:Zi (zd zv (cE (.int 1)) (zb 3 np (za (vE 0) (za (zd zv (vE 1) (cE (.int 1))) (za (cE (.int 3)) (ze)))))) [Sl.vl (mN c),Sl.vl (.int k),.vl (.str "abcdefghijklmnopqrstuvwxyz")]= .ok (rng 0 (1+q).toNat):=by
   unfold Zi;simp only[zh,Zb,v0,v1,zW,i3,zZ,i];rw[if_pos ⟨by omega,by omega⟩]
  have u:∀n,n<=3->zq _ _ _ 1 [0,1,2] [Sl.vl _,Sl.vl _,.vl _] _= .ok ((rng 0 n).map λt=>match t with | .int j=> .str ⟨#[g j.toNat]⟩ | t=>t):=λn hn=>
   zK _ (by unfold rng;rw[ae,bJ];exact av hn (by decide)) λt v=>by
    obtain⟨j,_,rfl⟩:=aA.mp v;rw[f6];exact(r j).2
  rw[C,i3,u _ (by omega),i3]
  have d:∀j,Zy _=true:=λj=>by
   obtain⟨a,b⟩:=(r j).1;unfold Zy;rw[decide_eq_true a,decide_eq_true b];rfl
  have l:q=0\/q=1\/q=2:=by omega
  rcases l with rfl | rfl | rfl
  ·refine⟨⟨#[g 0]⟩,rfl, ?_⟩;show (Zy _ && true)=true;rw[d 0];rfl
  ·refine⟨⟨#[g 0,g 1]⟩,rfl, ?_⟩;show (Zy _ && (Zy _ && true))=true;rw[d 0,d 1];rfl
  ·refine⟨⟨#[g 0,g 1,g 2]⟩,rfl, ?_⟩;show (Zy _ && (Zy _ && (Zy _ && true)))=true;rw[d 0,d 1,d 2];rfl
theorem Lr (j:Int):zU (.int 5) (.int j)= .ok (.int (5*j)):=by
 show (if uN 5 j then R.ok _ else .bad)=_
 rw[if_pos (.inl ⟨by decide,by decide⟩)]
theorem UO (c:f ρ= .ok x)(a:g ρ= .ok y):Za (za f (za g ze)) ρ= .ok (.tup [x,y]):=by
 unfold Za za ze;rw[c,a];rfl
theorem KW (d:f ρ= .ok x)(a:g ρ= .ok y)(c:h ρ= .ok z):Za (za f (za g (za h ze))) ρ= .ok (.tup [x,y,z]):=by
 unfold Za za ze;rw[d,a,c];rfl
theorem C7 (d:f ρ= .ok x)(a:g ρ= .ok y)(c:h ρ= .ok z)(hi:i ρ= .ok w):Za (za f (za g (za h (za i ze)))) ρ= .ok (.tup [x,y,z,w]):=by
 unfold Za za ze;rw[d,a,c,hi];rfl
noncomputable def Dst (a:List Str):Prop:=∀(k:Nat) (w:Str),a[k]? =some w->w ∉ a.take k
theorem Dst.add (h:Dst ws)(e:w ∉ ws):Dst (ws++[w]):=λk x a=>by
 by_cases d:k < ws.length
 ·rw[aY d]at a;rw[List.take_append_of_le_length (by omega)]
  exact h k x a
 ·rw[aR (by omega)]at a
  have c :k=ws.length:=by
   rcases Nat.lt_or_ge (k - ws.length) 1 with z | z
   ·omega
   ·rw[aP (by simpa using z)]at a;cases a
  subst c;rw[Nat.sub_self]at a;cases a;rw[List.take_left']
  ·exact e
  ·rfl
abbrev uw:En->RS:=zn (zC 5 (zb 2 Gc (za (vE 0) (za (zd zv (zd zv (vE 1) (cE (.int 5))) (zd zU (cE (.int 5)) (vE 4))) (ze)))))
  (mD (zp Y8 (vB 5) (vB 3)) (Us 3 (vE 5)) (mC))
theorem wk (g:List Int)(k:Int)(N:0<=k):∀(js:List Nat) (d:List Str) (u l:Sl),js.length+d.length<=4->Dst d->(∀w∈d,Zr (.str w)=true)->
  ∃f q o,Zu (zw 4) uw (js.map λ(j:Nat)=>T.int (0+(j:Int))) [.vl (mN g),.vl (.int k),.un,.ow (d.map T.str),u,l]= .nx [.vl (mN g),.vl (.int k),.un,.ow (f.map T.str),q,o]/\f.length<=4/\Dst f /\(∀w∈f,Zr (.str w)=true)/\(0 < js.length+d.length->0 < f.length)
 | [],d,u,l,B,hd,v=>⟨d,u,l,rfl,by simpa using B,hd,v,λh=>by simpa using h⟩
 | j :: js,d,u,l,B,hd,v=>by
  obtain⟨w,Q,C⟩:=yX g (k+5+5*(0+(j:Int))) (by omega)
  have X :js.length+d.length+1<=4:=by simpa[aw,Nat.add_right_comm] using B
  have e:Zu (zw 4) uw ((j :: js).map λ(j:Nat)=>T.int (0+(j:Int))) [.vl (mN g),.vl (.int k),.un,.ow (d.map T.str),u,l]=match uw [.vl (mN g),.vl (.int k),.un,.ow (d.map T.str),.vl (.int (0+(j:Int))),l] with
   | .nx ρ2=>Zu (zw 4) uw (js.map λ(j:Nat)=>T.int (0+(j:Int))) ρ2
   | .ct ρ2=>Zu (zw 4) uw (js.map λ(j:Nat)=>T.int (0+(j:Int))) ρ2
   | .bk ρ2=> .nx ρ2
   | r=>r:=rfl
  have O:uw [.vl (mN g),.vl (.int k),.un,.ow (d.map T.str),.vl (.int (0+(j:Int))),l]= .nx [.vl (mN g),.vl (.int k),.un,.ow ((if w∈d then d else d++[w]).map T.str),.vl (.int (0+(j:Int))),.vl (.str w)]:=by
   have D:∀(a b c:Sl) (ts:List T) (ρ:En),vB 3 (a :: b :: c :: .ow ts :: ρ)= .ok _:=λ_ _ _ _ _=>rfl;have p:∀t,([.vl _,.vl (.int k),.un,.ow (d.map T.str),.vl (.int (0+(j:Int))),l]:En).set 5 (.vl t)=[.vl (mN g),.vl (.int k),.un,.ow (d.map T.str),.vl _,.vl t]:=λ_=>rfl;have P:Y8 (.str w) (.lst (d.map T.str))= .ok (!decide (w∈d)):=by
    show ((match Jo (λy=>mE 30 y (.str w)) (d.map _) with | some b=>R.ok b | none=> .bad)).bind (λb=>R.ok _)=_
    rw[UN];rfl
   simp only[uw,zY,wg,zt,v0,v1,v4,zh,zW,i3,zZ,Lr,Q,j1,p,j9,zB,w5,D,P]
   by_cases i:w∈d
   ·rw[decide_eq_true i,if_pos i];rfl
   ·rw[decide_eq_false i,if_neg i];have U:(d.map T.str).length < mF:=by rw[ae];exact bq (show d.length<=4 by omega) (by decide)
    show (if (d.map _).length < mF then RS.nx _ else .bad)=_
    rw[if_pos U,cM];rfl
  rw[e,O]
  by_cases i:w∈d
  ·rw[if_pos i];obtain⟨f,q,o,G,F,J,M,I⟩:=wk g k N js d _ _ (by omega) hd v
   exact⟨f,q,o,G,F,J,M,λ_=>I (by have:=List.length_pos_of_mem i;omega)⟩
  ·rw[if_neg i];obtain⟨f,q,o,G,F,J,M,I⟩:=wk g k N js _ _ _ (by simp only[az,aw,cN];omega) (hd.add i) (λx S=>by
    rcases aW.mp S with z | z
    ·exact v x z
    ·rw[aq.mp z];exact C)
   exact⟨f,q,o,G,F,J,M,λ_=>I (by simp only[az,aw,cN];omega)⟩
abbrev Dq:En->R T:=Za (za (vE 1) (za (zd zv (cE (.int 1)) (zb 3 np (za (vE 2) (za (zd zv (zd zv (vE 3) (cE (.int 30))) (vE 0)) (za (cE (.int 20)) (ze)))))) (ze)))
theorem UP (c:List Int)(k:Int)(l:0<=k):∀(a:List Str) (i:Nat) (g f:Sl),(∀w∈a,Zr (.str w)=true)->∃d:List T,zx (zN 0 1) zV Dq (((a.map T.str).zipIdx i).map λp=>T.tup [.int (p.2:Nat),p.1]) [g,f,.vl (mN c),.vl (.int k)]= .ok d/\d.all zX=true/\d.map j7=a
 | [],i,g,f,_=>⟨[],rfl,rfl,rfl⟩
 | w :: a,i,g,f,j=>by
  obtain⟨p,e,F,D⟩:=zO c (k+30+i) 20 (by omega) (by omega)
  obtain⟨d,C,q,y⟩:=UP c k l a _ _ _ λx u=>j x (a9 _ u);have o:Dq [.vl (.int (i)),.vl (.str w),.vl (mN c),.vl (.int k)]= .ok (.tup [.str w,.int (1+p)]):=by
   have B:zb 3 np (za (vE 2) (za (zd zv (zd zv (vE 3) (cE (.int 30))) (vE 0)) (za (cE (.int 20)) (ze)))) [.vl (.int (i)),.vl (.str w),.vl (mN c),.vl (.int k)]= .ok (.int p):=by
    simp only[Zb,v2,v3,v0,zh,zW,i3,zZ,e]
   have r:zd zv (cE (.int 1)) (zb 3 np (za (vE 2) (za (zd zv (zd zv (vE 3) (cE (.int 30))) (vE 0)) (za (cE (.int 20)) (ze))))) [.vl (.int (i)),.vl (.str w),.vl (mN c),.vl (.int k)]= .ok (.int (1+p)):=by
    rw[zh,B];rfl
   exact UO v1 r
  refine⟨.tup [.str w,.int (1+p)] :: d, ?_, ?_, ?_⟩
  ·show ((Dq [.vl _,.vl _,.vl _,.vl _]).bind λv=>(zx _ _ _ (((a.map _).zipIdx _).map λp=>T.tup _) [.vl _,.vl _,.vl _,.vl _]).bind λvs=>R.ok _)=_;rw[o,C];rfl
  ·rw[cX,q,Bool.and_true];show (Zr _ && decide _ && decide _)=true;rw[j w aa,decide_eq_true (by omega),decide_eq_true (by omega)];rfl
  ·rw[ar,y];rfl
theorem Xt (i j:Int):wH (.int i) (.int j)= .ok (.int (if j < i then j else i)):=rfl
theorem KY (a:List Int)(k:Int)(B:0<=k):∃t,rm [mN a,.int k]= .ok t/\∀d,nF (d+1) t=true:=by
 have e:rm [mN a,.int k]=zk (tX np Gc [.vl (mN a),.vl (.int k),.un,.un,.un,.un]):=rfl;obtain⟨p,X,p0,p1⟩:=zO a k 3 B (by omega)
 rw[e,tX,zY];simp only[j9,zB,Zb,v0,v1,zW,i3,X,DW,j1];cases hp:decide (p > 0) with
 | true=>
  obtain⟨q,u,U,P⟩:=zO a (k+1) 7 (by omega) (by omega)
  obtain⟨q3,e3,_,_⟩:=zO a (k+3) 8 (by omega) (by omega)
  obtain⟨G,F,a4,b4⟩:=zO a (k+4) 3 (by omega) (by omega)
  obtain⟨J,e2,a2,b2⟩:=zO a (k+2) 4 (by omega) (by omega)
  have f:∀t x,([.vl (mN a),.vl (.int k),x,.un,.un,.un]:En).set 2 (.vl t)=[.vl (mN a),.vl (.int k),.vl t,.un,.un,.un]:=λ_ _=>rfl;have g:∀c:Int, -20<=c->c<=20->∃t,zk (zr (Za (za (cE (.str "whole")) (za (vE 2) (za (zd wH (cE (.int 20)) (zd zv (vE 2) (zb 3 np (za (vE 0) (za (zd zv (vE 1) (cE (.int 2))) (za (cE (.int 4)) (ze))))))) (ze))))) [.vl (mN a),.vl (.int k),.vl (.int c),.un,.un,.un])= .ok t/\∀d,nF (d+1) t=true:=by
   intro c C S;refine⟨.tup [.str "whole",.int c,.int (if c+J < 20 then c+J else 20)], ?_,λd=> ?_⟩
   ·rw[Zd,Ju];refine KW rfl rfl ?_;simp only[ji,Wu,jO,zh,v2,v0,v1,Zb,zW,i3,zZ,e2,Xt]
   ·show (decide (-20<=c) && decide (c<=_) && decide (_<=(20:Int)))=true;rw[decide_eq_true C,decide_eq_true (by split <;> omega),decide_eq_true (by split <;> omega)];rfl
  simp only[if_true,zY,wg,j9,zh,Zb,v0,v1,zW,i3,zZ,u,Zf,j1,f,zB,e3,nQ];cases hq:(q3 == 0) with
  | true=>
   have h3:G=0\/G=1\/G=2:=by omega
   rcases h3 with rfl | rfl | rfl
   ·obtain⟨t,r,s⟩:=g (-20) (by omega) (by omega)
    refine⟨t, ?_,s⟩;rw[← r];simp only[if_true,F,i3];have l:∀ρ,(Zc (za (YG (cE (.int 20))) (za (cE (.int 17)) (za (cE (.int 20)) (ze)))) ρ)= .ok (.lst _):=λ_=>rfl;simp only[l,i3];have o:kj (.lst [.int (-20),.int 17,.int 20]) (.int 0)= .ok (.int (-20)):=rfl;simp only[o,j1,f,Zd];generalize Za _ _=z;cases z <;> rfl
   ·obtain⟨t,r,s⟩:=g (17) (by omega) (by omega)
    refine⟨t, ?_,s⟩;rw[← r];simp only[if_true,F,i3];have l:∀ρ,(Zc (za (YG (cE (.int 20))) (za (cE (.int 17)) (za (cE (.int 20)) (ze)))) ρ)= .ok (.lst _):=λ_=>rfl;simp only[l,i3];have o:kj (.lst [.int (-20),.int 17,.int 20]) (.int 1)= .ok (.int (17)):=rfl;simp only[o,j1,f,Zd];generalize Za _ _=z;cases z <;> rfl
   ·obtain⟨t,r,s⟩:=g (20) (by omega) (by omega)
    refine⟨t, ?_,s⟩;rw[← r];simp only[if_true,F,i3];have l:∀ρ,(Zc (za (YG (cE (.int 20))) (za (cE (.int 17)) (za (cE (.int 20)) (ze)))) ρ)= .ok (.lst _):=λ_=>rfl;simp only[l,i3];have o:kj (.lst [.int (-20),.int 17,.int 20]) (.int 2)= .ok (.int (20)):=rfl;simp only[o,j1,f,Zd];generalize Za _ _=z;cases z <;> rfl
  | false=>
   obtain⟨t,r,s⟩:=g (q - 3) (by omega) (by omega)
   refine⟨t, ?_,s⟩;rw[← r];simp only[aI,if_false,mC,Zd];generalize Za _ _=z;cases z <;> rfl
 | false=>
  obtain⟨q,u,U,P⟩:=zO a (k+1) 4 (by omega) (by omega)
  simp only[aI,if_false,mC,zY];have ei:Zi (zd zv (cE (.int 1)) (zb 3 np (za (vE 0) (za (zd zv (vE 1) (cE (.int 1))) (za (cE (.int 4)) (ze)))))) [.vl (mN a),.vl (.int k),.un,.ow [],.un,.un]= .ok (rng 0 (1+q).toNat):=by
   unfold Zi;simp only[zh,Zb,v0,v1,zW,i3,zZ,u];rw[if_pos ⟨by omega,by omega⟩]
  have O:uO 3 ze [.vl (mN a),.vl (.int k),.un,.un,.un,.un]= .nx [.vl (mN a),.vl (.int k),.un,.ow [],.un,.un]:=rfl;rw[O];have hn:(aN (1+q).toNat).length=(1+q).toNat:=bJ;obtain⟨i,D,v,Z,N,r3,r4,r5⟩:=wk a k B _ [] .un .un (by rw[hn,cN];omega) (λk w h=>by cases h) (λw h=>by cases h)
  have M:ZD (Zi (zd zv (cE (.int 1)) (zb 3 np (za (vE 0) (za (zd zv (vE 1) (cE (.int 1))) (za (cE (.int 4)) (ze))))))) (zw 4) uw [.vl (mN a),.vl (.int k),.un,.ow [],.un,.un]= .nx [.vl (mN a),.vl (.int k),.un,.ow (i.map T.str),D,v]:=by
   unfold ZD;rw[ei,j1];exact Z
  obtain⟨j,s1,Q,I⟩:=UP a k B i 0 .un .un r4;have y:j.length=i.length:=by rw[← I,ae]
  refine⟨.tup [.str "pick",.tup j], ?_,λd=> ?_⟩
  ·dsimp only;rw[M];dsimp only;rw[Zd,Ju];refine UO rfl ?_;rw[Z8,zJ];have ee:K5 (vE 3) (frz [.vl (mN a),.vl (.int k),.un,.ow (i.map T.str),D,v])= .ok _:=rfl;rw[ee,i3];unfold zq;rw[if_pos (by unfold jM;rw[ae,lA,ae];exact av N (by decide))]
   have ec:zx _ _ _ (jM _) (Jp 2 [0,1] (frz [.vl _,.vl _,.un,.ow (i.map T.str),D,v]))= .ok j:=s1;rw[ec];rfl
  ·show (decide _ && decide _ && j.all _ && decide _)=true;have hd:(dd [] (j.map j7)).length=j.length:=by
    rw[I,y];have:=(Ww i []).mpr (λk w h=>by simpa using r3 k w h)
    simpa using this
   rw[decide_eq_true (by omega),decide_eq_true (by omega),Q,decide_eq_true hd];rfl
theorem Qb (c:Int)(j:Int)(a:uN c j):zU (.int c) (.int j)= .ok (.int (c*j)):=by
 show (if uN c j then R.ok _ else .bad)=_
 rw[if_pos a]
theorem D4 (j:Int):zU (.int 3) (.int j)= .ok (.int (3*j)):=Qb _ _ (.inl ⟨by decide,by decide⟩)
theorem Ma (j:Int):zU (.int 50) (.int j)= .ok (.int (50*j)):=Qb _ _ (.inl ⟨by decide,by decide⟩)
abbrev tf (c:List T->R T):En->R T:=zb 3 c (za (vE 1) (za (zd zv (zd zv (zd zU (cE (.int 3)) (vE 2)) (cE (.int 40))) (zd zU (cE (.int 50)) (vE 0))) (za (zd jK (vE 3) (cE (.int 1))) (ze))))
theorem U4 (f:List Int):∀(d n:Nat),d<=n->1<=d->∀k:Int,0<=k->∃t,ox n 0 [mN f,.int k,.int (d:Int)]= .ok t/\nF d t=true
 | d+1,n+1,hn,_,k,Z=>by
  have e:ox (n+1) 0 [mN f,.int k,.int ((d+1:Nat))]=zk (tZ np rm (ox n 0) [.vl (mN f),.vl (.int k),.vl _,.un,.un,.un]):=rfl;obtain⟨p,X,p0,p1⟩:=zO f k 5 Z (by omega)
  obtain⟨l,Q,P⟩:=KY f (k+1) (by omega)
  have x:([.vl (mN f),.vl (.int k),.vl (.int ((d+1:Nat))),.un,.un,.un]:En).set 3 (.vl (.int p))=[.vl (mN f),.vl (.int k),.vl _,.vl (.int p),.un,.un]:=rfl;rw[e,tZ];simp only[zY,wg,j9,U2,zB,Zb,zt,v0,v1,v2,zW,i3,X,j1,x,w2,w3,nQ,Cd,zZ,Zd,ji,Wu,jO,zh,Q];have I:((((d+1:Nat):Int) == 1))=decide (d=0):=by
   by_cases h:d=0
   ·subst h;rfl
   ·rw[decide_eq_false h,beq_eq_false_iff_ne];omega
  rw[I]
  by_cases i:d=0\/p < 2
  ·refine⟨l, ?_,P d⟩;rcases i with h | h
   ·rw[decide_eq_true h];rfl
   ·rw[decide_eq_true h];cases decide (d=0) <;> rfl
  ·have D:¬ d=0:=λz=>i (.inl z);have B:¬ p < 2:=λz=>i (.inr z);have o:((d+1:Nat)) - 1=(d:Int):=by omega
   rw[decide_eq_false D,decide_eq_false B];simp only[aI,if_false,j1,mC,w3,v0,v1,v2,i3,Cd,zW];cases hp:decide (p < 4) with
   | true=>
    obtain⟨q,C,U,S⟩:=zO f (k+1) 3 (by omega) (by omega)
    have hj:∀j:Nat,∃t,tf (ox n 0) [.vl (.int (0+(j:Int))),.vl (mN f),.vl (.int k),.vl (.int ((d+1:Nat)))]= .ok t/\nF d t=true:=λj=>by
     obtain⟨t,r,s⟩:=U4 f d n (by omega) (by omega) (3*k+40+50*(0+(j:Int))) (by omega)
     refine⟨t, ?_,s⟩;simp only[tf,Zb,v0,v1,v2,v3,zh,zW,i3,D4,Ma,zZ,Zf,o,r]
    obtain⟨g,O⟩:=ma.mp hj;have ei:Zi (zd zv (cE (.int 1)) (zb 3 np (za (vE 0) (za (zd zv (vE 1) (cE (.int 1))) (za (cE (.int 3)) (ze)))))) [.vl (mN f),.vl (.int k),.vl (.int ((d+1:Nat))),.vl (.int p),.un,.un]= .ok (rng 0 (1+q).toNat):=by
     unfold Zi;simp only[zh,Zb,v0,v1,zW,i3,zZ,C];rw[if_pos ⟨by omega,by omega⟩]
    have M:zq (zw 0) zV (tf (ox n 0)) 1 [0,1,2] [.vl (mN f),.vl (.int k),.vl _,.vl (.int p),.un,.un] _= .ok ((rng 0 (1+q).toNat).map λt=>match t with | .int j=>g j.toNat | t=>t):=
     zK _ (by unfold rng;rw[ae,bJ];exact av (show (1+q).toNat<=3 by omega) (by decide)) λt y=>by
      obtain⟨j,_,rfl⟩:=aA.mp y;show tf (ox n 0) [.vl _,.vl (mN f),.vl (.int k),.vl _]= .ok (g _);rw[(O j).1,f6,b9]
    generalize v:((rng 0 (1+q).toNat).map λt=>match t with | .int j=>g j.toNat | t=>t)=cs at M
    have J:cs.length=(1+q).toNat:=by rw[← v];unfold rng;rw[ae,ae,bJ]
    have w:∀t∈cs,nF d t=true:=λt y=>by
     rw[← v]at y;obtain⟨u,hu,rfl⟩:=aA.mp y;obtain⟨j,_,rfl⟩:=aA.mp hu;exact(O _).2
    refine⟨.tup [.str "row",.tup cs], ?_, ?_⟩
    ·have F:([.vl (mN f),.vl (.int k),.vl (.int ((d+1:Nat))),.vl (.int p),.un,.un]:En).set 4 (.vl (.lst cs))=[.vl (mN f),.vl (.int k),.vl _,.vl (.int p),.vl (.lst cs),.un]:=rfl;simp only[if_true,zJ,ei,i3,M,j1,F,ji,Wu,jO];rfl
    ·show (decide _ && decide _ && cs.all _)=true;rw[decide_eq_true (by omega),decide_eq_true (by omega),aJ.mpr w];rfl
   | false=>
    obtain⟨q,C,U,S⟩:=zO f (k+1) 3 (by omega) (by omega)
    obtain⟨N,e2,_,_⟩:=zO f (k+2) 3 (by omega) (by omega)
    obtain⟨t,r,s⟩:=U4 f d n (by omega) (by omega) (3*k+40) (by omega)
    refine⟨.tup [.str "many",t,.int q,.int (if q+N < 3 then q+N else 3)], ?_, ?_⟩
    ·have G:([.vl (mN f),.vl (.int k),.vl (.int ((d+1:Nat))),.vl (.int p),.un,.un]:En).set 5 (.vl (.int q))=[.vl _,.vl _,.vl _,.vl _,.un,.vl _]:=rfl;simp only[aI,if_false,v0,v1,zh,zW,i3,zZ,C,j1,G,ji,Wu,jO,Ju];refine C7 rfl ?_ rfl ?_
     ·simp only[Zb,v0,v1,v2,zh,zW,i3,D4,zZ,Zf,o,r]
     ·have v5:∀{t:T} {a b c d e:Sl} {ρ:En},vE 5 (a :: b :: c :: d :: e :: .vl t :: ρ)= .ok t:=rfl;simp only[Zb,v0,v1,v5,zh,zW,i3,zZ,e2,Xt]
    ·show (Jt 0 3 _ _ && nF d t)=true;rw[s,Bool.and_true];show (decide _ && decide _ && decide _)=true;rw[decide_eq_true (by omega),decide_eq_true (by split <;> omega),decide_eq_true (by split <;> omega)];rfl
mutual
noncomputable def o4:T->Nat
 | .tup xs=>V0 xs+1
 | .lst xs=>V0 xs+1
 | _=>1
noncomputable def V0:List T->Nat
 | []=>0
 | t :: ts=>max (o4 t) (V0 ts)
end
mutual
noncomputable def oX:T->Nat
 | .tup xs=>V1 xs+1
 | .lst xs=>V1 xs+1
 | _=>1
noncomputable def V1:List T->Nat
 | []=>0
 | t :: ts=>oX t+V1 ts
end
theorem Jw (h:isS w t=true):t= .str w:=by
 cases t with
 | str s=>
  have:=h;rw[eq_of_beq this]
 | _=>cases h
theorem Qc (h:oV lo hi t=true):∃i,t= .int i:=by
 cases t with
 | int i=>exact⟨i,rfl⟩
 | _=>cases h
theorem JC (h:Jt lo hi a b=true):∃i j,a= .int i/\b= .int j:=by
 cases a with
 | int i=>
  cases b with
  | int j=>exact⟨i,j,rfl,rfl⟩
  | _=>cases h
 | _=>cases h
structure DM (D S:Nat) (t:T):Prop where
 so:sOk t
 dp:o4 t<=D
 sz:oX t<=S
theorem yY (h:zX c=true):DM 2 3 c:=by
 unfold zX at h;split at h
 ·rename_i w i;have a:=by
   rw[aj,aj]at h;exact h.1.1
  cases w with
  | str x=>
   have d:(decide _ && decide _ && x.cps.toList.all _)=true:=a;rw[aj,aj,decide_eq_true_eq,decide_eq_true_eq]at d;refine⟨?_, ?_, ?_⟩
   ·simp only[sOk,UK,and_true];exact av d.1.2 (by decide)
   ·simp[o4,V0]
   ·simp[oX,V1]
  | _=>cases a
 ·cases h
theorem DC {D S:Nat}:∀{e:List T},(∀c∈e,DM D S c)->UK e/\V0 e<=D/\V1 e<=S*e.length
 | [],_=>⟨by simp only[UK],bf _,bf _⟩
 | c :: e,h=>by
  obtain⟨a,b,d⟩:=DC λx f=>h x (a9 _ f);obtain⟨x,y,z⟩:=h c aa;refine⟨?_, ?_, ?_⟩
  ·exact⟨x,a⟩
  ·simp only[V0];omega
  ·simp only[V1,aw,Nat.mul_add,Nat.mul_one];omega
theorem Wx:∀(d:Nat) (t:T),nF d t=true->DM (2*d+2) (15*4 ^ d) t
 | 0,_,h=>by cases h
 | d+1,t,h=>by
  have g:1<=4 ^ d:=Nat.pow_pos (by omega)
  have h:yV _ t=true:=h;unfold yV at h;split at h
  ·rename_i hd r;split at h
   ·rename_i e;rw[Jw e];unfold uu at h;split at h
    ·obtain⟨i,j,rfl,rfl⟩:=JC h;refine⟨by simp only[sOk,UK,and_true];decide,by simp only[o4,V0];omega,by simp only[oX,V1];omega⟩
    ·cases h
   ·split at h
    ·rename_i e;rw[Jw e];unfold Q7 at h;split at h
     ·unfold UM at h;split at h
      ·rw[aj,aj,aj,decide_eq_true_eq,decide_eq_true_eq]at h;obtain⟨a,b,z⟩:=DC λc f=>yY (aJ.mp h.1.2 c f);refine⟨by simp only[sOk,UK,and_true];exact⟨by decide,a⟩,by simp only[o4,V0];omega,by simp only[oX,V1];omega⟩
      ·cases h
     ·cases h
    ·split at h
     ·rename_i e;rw[Jw e];unfold rX at h;split at h
      ·unfold wj at h;split at h
       ·rename_i k;rw[aj,aj,decide_eq_true_eq,decide_eq_true_eq]at h;obtain⟨a,b,z⟩:=DC λc f=>Wx d c (aJ.mp h.2 c f);have:15*4 ^ d*k.length<=15*4 ^ d*3:=Nat.mul_le_mul_left _ h.1.2;refine⟨by simp only[sOk,UK,and_true];exact⟨by decide,a⟩,by simp only[o4,V0];omega,by simp only[oX,V1];omega⟩
       ·cases h
      ·cases h
     ·split at h
      ·rename_i e;rw[Jw e];unfold Q8 at h;split at h
       ·rename_i c a b;rw[aj]at h;obtain⟨i,j,rfl,rfl⟩:=JC h.1;obtain⟨x,y,z⟩:=Wx d c h.2;refine⟨by simp only[sOk,UK,and_true];exact⟨by decide,x⟩,by simp only[o4,V0];omega,by simp only[oX,V1];omega⟩
       ·cases h
      ·cases h
  ·cases h
theorem Bf (a:f ρ= .ok x):Za (za f ze) ρ= .ok (.tup [x]):=by
 unfold Za za ze;rw[a];rfl
theorem Hd {xs:List T}{j:Nat}{x:T}(h:xs[j]? =some x):kj (.tup xs) (.int (j:Int))= .ok x:=by
 show mS xs j=_;unfold mS;rw[Zv h]
theorem Xu {xs:List T}{i:Nat}(h:i < xs.length):oZ (.tup xs) none (some (i:Int))= .ok (.tup (xs.take i)):=by
 show R.ok _=_;have:nJ xs none (some (i))=xs.take i:=by
  unfold nJ;rw[HT.sIx_none,HT.sIx_nat,fU (by omega),Nat.sub_zero,dN]
 rw[this]
theorem Xv {xs:List T}{i:Nat}(h:i<=xs.length):oZ (.tup xs) (some (i:Int)) none= .ok (.tup (xs.drop i)):=by
 show R.ok _=_;have:nJ xs (some (i)) none=xs.drop i:=by
  unfold nJ;rw[HT.sIx_none,HT.sIx_nat,fU h];exact eT (by rw[dR];omega)
 rw[this]
theorem UQ (h:xs.length+ys.length<=mF):zv (.tup xs) (.tup ys)= .ok (.tup (xs++ys)):=if_pos h
theorem UR (h:f ρ= .ok (.int i)):Zj f ρ= .ok (some i):=by
 unfold Zj;rw[h];rfl
theorem KZ {xs:List T}{j:Nat}{x:T}(h:xs[j]? =some x):kj (.lst xs) (.int (j:Int))= .ok x:=by
 show mS xs j=_;unfold mS;rw[Zv h]
theorem EE {xs:List T}{i:Int}(c:0<=i)(d:i < (xs.length:Int)):∃x,kj (.lst xs) (.int i)= .ok x/\x∈xs:=by
 have a:i.toNat < xs.length:=by omega
 have e:i=((i.toNat):Int):=by omega
 have q:=KZ (ah a);rw[← e]at q;exact⟨xs[i.toNat],q,iD a⟩
theorem wX (ρ:En):mC ρ= .nx ρ:=rfl
inductive Kd where
 | whole (lo hi:Int)
 | pick (cs:List (Str×Int))
 | row (ks:List Kd)
 | many (k:Kd) (lo hi:Nat)
noncomputable def Jz (c:Str×Int):T:= .tup [.str c.1,.int c.2]
mutual
noncomputable def Kd.t:Kd->T
 | .whole lo hi=> .tup [.str "whole",.int lo,.int hi]
 | .pick a=> .tup [.str "pick",.tup (a.map Jz)]
 | .row c=> .tup [.str "row",.tup (Kd.ts c)]
 | .many k lo hi=> .tup [.str "many",k.t,.int (lo:Int),.int (hi:Int)]
noncomputable def Kd.ts:List Kd->List T
 | []=>[]
 | k :: a=>k.t :: Kd.ts a
end
theorem Kd.ts_map:∀a:List Kd,Kd.ts a=a.map Kd.t
 | []=>by simp only[Kd.ts,bI]
 | k :: a=>by simp only[Kd.ts,ar,Kd.ts_map a]
def Kd.Ok:Nat->Kd->Prop
 | 0,_=>False
 | _+1,.whole lo hi=> -20<=lo/\lo<=hi/\hi<=20
 | _+1,.pick a=>1<=a.length/\a.length<=4/\(∀c∈a,Zr (.str c.1)=true/\1<=c.2/\c.2<=20)/\Dst (a.map (·.1))
 | d+1,.row e=>1<=e.length/\e.length<=3/\∀k∈e,Kd.Ok d k
 | d+1,.many k lo hi=>lo<=hi/\hi<=3/\Kd.Ok d k
theorem Qd (h:zX c=true):∃p:Str×Int,c=Jz p/\Zr (.str p.1)=true/\1<=p.2/\p.2<=20:=by
 unfold zX at h;split at h
 ·rename_i w i;rw[aj,aj,decide_eq_true_eq,decide_eq_true_eq]at h;cases w with
  | str x=>exact⟨(x,i),rfl,h.1.1,h.1.2,h.2⟩
  | _=>cases h.1.1
 ·cases h
theorem U5 {e:Type}{P:T->Prop}{Q:e->Prop}{f:e->T}(H:∀t,P t->∃a,t=f a/\Q a):∀(ts:List T),(∀t∈ts,P t)->∃c:List e,ts=c.map f/\∀a∈c,Q a
 | [],_=>⟨[],rfl,λ_ h=>nomatch h⟩
 | t :: ts,h=>by
  obtain⟨a,rfl,i⟩:=H t (h t aa);obtain⟨c,rfl,has⟩:=U5 H ts λu g=>h u (a9 _ g);exact⟨a :: c,rfl,λb d=>by
   rcases ak.mp d with rfl | d
   ·exact i
   ·exact has b d⟩
theorem U6:∀(d:Nat) (t:T),nF d t=true->∃k:Kd,t=k.t/\k.Ok d
 | 0,_,h=>by cases h
 | d+1,t,h=>by
  have h:yV _ t=true:=h;unfold yV at h;split at h
  ·rename_i hd r;split at h
   ·rename_i e;rw[Jw e];unfold uu at h;split at h
    ·obtain⟨i,j,rfl,rfl⟩:=JC h;have h:(decide _ && decide _ && decide _)=true:=h;rw[aj,aj,decide_eq_true_eq,decide_eq_true_eq,decide_eq_true_eq]at h;exact⟨.whole i j,by simp only[Kd.t],h.1.1,h.1.2,h.2⟩
    ·cases h
   ·split at h
    ·rename_i e;rw[Jw e];unfold Q7 at h;split at h
     ·unfold UM at h;split at h
      ·rename_i u;rw[aj,aj,aj,decide_eq_true_eq,decide_eq_true_eq,decide_eq_true_eq]at h;obtain⟨⟨⟨f,g⟩,I⟩,x⟩:=h;obtain⟨l,rfl,has⟩:=U5 (λt q=>Qd q) u λc o=>aJ.mp I c o;rw[ae]at f g;refine⟨.pick l,by simp only[Kd.t],f,g,has, ?_⟩
       have y:(l.map Jz).map j7=l.map (·.1):=by rw[aZ];rfl
       rw[y]at x;have:=(Ww _ []).mp (by rw[x,ae];simp)
       exact λk w G B=>this k w G (by simpa using B)
      ·cases h
     ·cases h
    ·split at h
     ·rename_i e;rw[Jw e];unfold rX at h;split at h
      ·unfold wj at h;split at h
       ·rename_i u;rw[aj,aj,decide_eq_true_eq,decide_eq_true_eq]at h;obtain⟨D,rfl,p⟩:=U5 (λt q=>U6 d t q) u λc o=>aJ.mp h.2 c o;rw[ae]at h;exact⟨.row D,by simp only[Kd.t,Kd.ts_map],h.1.1,h.1.2,p⟩
       ·cases h
      ·cases h
     ·split at h
      ·rename_i e;rw[Jw e];unfold Q8 at h;split at h
       ·rename_i c a b;rw[aj]at h;obtain⟨f,g⟩:=h;obtain⟨i,j,rfl,rfl⟩:=JC f;obtain⟨k,rfl,F⟩:=U6 d c g;have f:(decide _ && decide _ && decide _)=true:=f;rw[aj,aj,decide_eq_true_eq,decide_eq_true_eq,decide_eq_true_eq]at f;obtain⟨⟨v,C⟩,J⟩:=f;obtain⟨m,rfl⟩:=dg v;obtain⟨n,rfl⟩:=dg (eU v C);exact⟨.many k m n,by simp only[Kd.t],by omega,by omega,F⟩
       ·cases h
      ·cases h
  ·cases h
noncomputable def ZB (c:List (List T)):List (List T)->List (List T)
 | []=>c
 | d :: r=>ZB (c.flatMap λa=>d.map λx=>a++[x]) r
abbrev Yd (ls:List (List T)):List T:=(ZB [[]] ls).map T.tup
mutual
noncomputable def Kd.all:Kd->List T
 | .whole lo hi=>(aN (hi+1 - lo).toNat).map λ(i:Nat)=>T.int (lo+(i:Int))
 | .pick a=>a.map λc=>T.str c.1
 | .row d=>Yd (Kd.alls d)
 | .many k lo hi=>(aN (hi+1 - lo)).flatMap λi=>Yd (ag (lo+i) k.all)
noncomputable def Kd.alls:List Kd->List (List T)
 | []=>[]
 | k :: a=>k.all :: Kd.alls a
end
theorem Kd.alls_map:∀a:List Kd,Kd.alls a=a.map Kd.all
 | []=>by simp only[Kd.alls,bI]
 | k :: a=>by simp only[Kd.alls,ar,Kd.alls_map a]
noncomputable def mR:List Nat->Nat
 | []=>1
 | n :: r=>n*mR r
theorem wl:∀{a:List Nat},(∀n∈a,1<=n)->1<=mR a
 | [],_=>am _
 | n :: a,h=>dj (h n aa) (wl λm c=>h m (a9 _ c))
theorem JD {d g:Type}(f:d->List g)(n:Nat):∀c:List d,(∀a∈c,(f a).length=n)->(c.flatMap f).length=c.length*n
 | [],_=>by simp
 | a :: c,h=>by
  rw[bW,az,h a aa,JD f n c λb e=>h b (a9 _ e),aw,fO,cz,dU]
theorem wm:∀(d:List (List T)) (c:List (List T)),(ZB c d).length=c.length*mR (d.map (·.length))
 | [],c=>by simp[ZB,mR]
 | l :: d,c=>by
  rw[ZB,wm d,JD _ _ _ λa _=>ae ..,ar,mR,dF]
abbrev Az:En->RS:=vY 3 (zA (Z5 (vE 2)) (zw 0) (zV) (zd zv (vE 1) (Za (za (vE 0) (ze)))) 1 [4])
theorem US (f:l.length<=mF):∀(c:List (List T)) (acc:List T) (x:Sl),(∀a∈c,a.length<=1000)->acc.length+c.length*l.length<=mF->
  ∃y,Zu (zw 4) Az (c.map T.tup) [.vl L,.vl M,.vl (.lst l),.ow acc,x]= .nx [.vl L,.vl M,.vl (.lst l),.ow (acc++(c.flatMap λa=>l.map λx=>a++[x]).map T.tup),y]
 | [],acc,x,_,_=>⟨x,by simp[Zu]⟩
 | a :: c,acc,x,g,d=>by
  have p:=g a aa;have j:mF=16777216:=rfl;rw[aw,fO]at d;have i:zq _ _ (zd zv (vE 1) (Za (za (vE 0) (ze)))) 1 [4] [.vl L,.vl M,.vl (.lst l),.ow acc,.vl (.tup a)] l= .ok (l.map λx=>T.tup _):=
   zK l f λx q=>by
    exact UQ (by rw[aK];omega)
  have k:Az [.vl L,.vl M,.vl (.lst l),.ow acc,.vl (.tup a)]= .nx [.vl L,.vl M,.vl (.lst l),.ow (acc++l.map λx=>T.tup (a++[x])),.vl (.tup a)]:=by
   show (((zq _ _ _ _ _ _ l).bind _).s _)=_;rw[i,i3];show (if _ then _ else _)=_
   rw[if_pos (by rw[ae];omega)]
   rfl
  obtain⟨y,o⟩:=US f c (acc++l.map λx=>T.tup _) _ (λb d=>g b (a9 _ d)) (by rw[az,ae];omega)
  refine⟨y, ?_⟩;have e:Zu (zw 4) _ ((a :: c).map T.tup) [.vl L,.vl M,.vl (.lst l),.ow acc,x]=match Az [.vl L,.vl M,.vl _,.ow acc,.vl _] with
   | .nx ρ2=>Zu _ _ _ ρ2
   | .ct ρ2=>Zu _ _ _ ρ2
   | .bk ρ2=> .nx ρ2
   | r=>r:=rfl
  rw[e,k];dsimp only;rw[o,bW,cM,aZ,bi];rfl
abbrev xj:En->RS:=(zn (uO 3 (ze))
  (zn (ZD (Z5 (vE 1)) (zw 4) Az)
  (tP 1 3)))
theorem ux (m:Nat):∀(f:List (List T)) (c:List (List T)) (k:Nat) (x y z:Sl),(∀a∈c,a.length<=k)->k+f.length<=1000->(∀l∈f,1<=l.length)->c.length*mR (f.map (·.length))<=mF->1<=c.length->
  ∃q F B,Zu (zw 2) xj (f.map T.lst) [.vl L,.vl (.lst (c.map T.tup)),x,y,z]= .nx [.vl L,.vl (.lst ((ZB c f).map T.tup)),q,F,B]
 | [],c,k,x,y,z,_,_,_,_,_=>⟨x,y,z,by simp[Zu,ZB]⟩
 | l :: f,c,k,x,y,z,I,j,d,i,G=>by
  have p:=wl λn hn=>by
   obtain⟨v,g,rfl⟩:=aA.mp hn;exact d v (a9 _ g)
  rw[ar,mR,← dF]at i;have C:=av (dh _ p) i;have D:=av (Nat.le_mul_of_pos_left _ G) C;rw[aw]at j;obtain⟨w,Q⟩:=US D _ [] z (λa o=>av (I a o) (by omega)) (by rw[cN];omega)
  have P:xj [.vl L,.vl (.lst (c.map T.tup)),.vl (.lst l),y,z]= .nx [.vl L,.vl (.lst ((c.flatMap λa=>l.map λx=>a++[x]).map T.tup)),.vl (.lst l),.vl (.lst ((c.flatMap λa=>l.map λx=>a++[x]).map T.tup)),w]:=by
   have M:uO 3 (ze) [.vl L,.vl (.lst (c.map T.tup)),.vl (.lst l),y,z]= .nx [.vl L,.vl _,.vl _,.ow [],z]:=rfl;have J:ZD (Z5 (vE 1)) _ _ [.vl L,.vl (.lst _),.vl _,.ow [],z]= .nx [.vl L,.vl _,.vl _,.ow ((c.flatMap λa=>l.map λx=>a++[x]).map _),w]:=Q;unfold xj;rw[zY,M];dsimp only;rw[zY,J];rfl
  obtain⟨q,F,B,O⟩:=ux m f (c.flatMap λa=>l.map λx=>a++[x]) (k+1) _ (.vl (.lst ((c.flatMap λa=>l.map λx=>a++[x]).map _))) w (λa o=>by
   obtain⟨b,i,N⟩:=di.mp o;obtain⟨u,_,rfl⟩:=aA.mp N;have:=I b i;rw[az,aK];omega) (by omega) (λv g =>d v (a9 _ g)) (by
    rw[JD _ _ _ λa _=>ae ..];exact i) (by
    rw[JD _ _ _ λa _=>ae ..];exact dj G (d l aa))
  refine⟨q,F,B, ?_⟩;have e:Zu (zw 2) _ ((l :: f).map T.lst) [.vl L,.vl (.lst (c.map T.tup)),x,y,z]=match xj [.vl L,.vl _,.vl _,y,z] with
   | .nx ρ2=>Zu _ _ _ ρ2
   | .ct ρ2=>Zu _ _ _ ρ2
   | .bk ρ2=> .nx ρ2
   | r=>r:=rfl
  rw[e,P];exact O
theorem Qe (c:List (List T))(o:c.length<=1000)(d:∀l∈c,1<=l.length)(f:mR (c.map (·.length))<=mF):nk [.lst (c.map T.lst)]= .ok (.lst (Yd c)):=by
 obtain⟨p,r,q,k⟩:=ux 0 c [[]] 0 .un .un .un (λa i=>by rw[aq.mp i];exact am _) (by omega) d (by rw[aK,cz];exact f) (am _)
 have e:nk [.lst (c.map T.lst)]=zk (AM [.vl _,.un,.un,.un,.un]):=rfl;have j:zC 1 (Zc (za (Za (ze)) (ze))) [.vl (.lst (c.map T.lst)),.un,.un,.un,.un]= .nx [.vl _,.vl _,.un,.un,.un]:=rfl;have g:ZD (Z5 (vE 0)) _ _ [.vl (.lst _),.vl (.lst [.tup []]),.un,.un,.un]= .nx _:=k;rw[e,AM,zY,j];dsimp only;rw[zY,g];rfl
theorem jj (n:Nat):∀m:Nat,mR (ag m n)=n ^ m
 | 0=>rfl
 | m+1=>by rw[bv,mR,jj n m,iL,dm]
theorem JE (a:List (List T)):(Yd a).length=mR (a.map (·.length)):=by
 rw[ae,wm,aK,cz]
noncomputable def pw (n lo hi:Nat):Nat:=((aN (hi+1 - lo)).map λi=>n ^ (lo+i)).sum
theorem jx (k:Kd)(lo hi:Nat):(Kd.many k lo hi).all.length=pw k.all.length lo hi:=by
 rw[Kd.all,List.length_flatMap,pw];congr 1
 refine c6 λi _=> ?_;rw[JE,aS,jj]
theorem Jh (a:List Kd):(Kd.row a).all.length=mR (a.map λk=>k.all.length):=by
 rw[Kd.all,JE,Kd.alls_map,aZ];rfl
theorem jk (lo hi:Int):(Kd.whole lo hi).all.length=(hi+1 - lo).toNat:=by
 rw[Kd.all,ae,bJ]
theorem Wy (a:List (Str×Int)):(Kd.pick a).all.length=a.length:=by
 rw[Kd.all,ae]
theorem g6 (h:lo<=hi)(a:hi<=3):(lo=0/\hi=0)\/(lo=0/\hi=1)\/(lo=0/\hi=2)\/(lo=0/\hi=3)\/(lo=1/\hi=1)\/(lo=1/\hi=2)\/(lo=1/\hi=3)\/(lo=2/\hi=2)\/(lo=2/\hi=3)\/(lo=3/\hi=3):=(by decide:∀hi lo:Fin 4,lo.1<=hi.1->(lo.1=0/\hi.1=0)\/(lo.1=0/\hi.1=1)\/(lo.1=0/\hi.1=2)\/(lo.1=0/\hi.1=3)\/(lo.1=1/\hi.1=1)\/(lo.1=1/\hi.1=2)\/(lo.1=1/\hi.1=3)\/(lo.1=2/\hi.1=2)\/(lo.1=2/\hi.1=3)\/(lo.1=3/\hi.1=3)) ⟨hi,lR a⟩ ⟨lo,lR (av h a)⟩ h
noncomputable def iv (b:Bool):Nat:=if b then 1 else 0
theorem g9 (n:Nat)(h:lo<=hi)(a:hi<=3):pw n lo hi=iv (lo == 0)+n*iv (decide (lo<=1) && decide (1<=hi))+n*n*iv (decide (lo<=2) && decide (2<=hi))+n*n*n*iv (hi == 3):=by
 rcases g6 h a with ⟨rfl,rfl⟩ | ⟨rfl,rfl⟩ | ⟨rfl,rfl⟩ | ⟨rfl,rfl⟩ | ⟨rfl,rfl⟩ | ⟨rfl,rfl⟩ | ⟨rfl,rfl⟩ | ⟨rfl,rfl⟩ | ⟨rfl,rfl⟩ | ⟨rfl,rfl⟩ <;>
  simp[pw,iN,iv,iL]
 all_goals omega
theorem F9 (hn:1<=n)(h:lo<=hi)(a:hi<=3):1<=pw n lo hi:=by
 have c:=dj hn hn;have d:=dj c hn;rw[g9 n h a];rcases g6 h a with ⟨rfl,rfl⟩ | ⟨rfl,rfl⟩ | ⟨rfl,rfl⟩ | ⟨rfl,rfl⟩ | ⟨rfl,rfl⟩ | ⟨rfl,rfl⟩ | ⟨rfl,rfl⟩ | ⟨rfl,rfl⟩ | ⟨rfl,rfl⟩ | ⟨rfl,rfl⟩ <;>
  simp[iv] <;> omega
theorem FD (hn:n<=N)(h:lo<=hi)(a:hi<=3):pw n lo hi<=1+N+N*N+N*N*N:=by
 have c:=bo hn hn;have d:=bo c hn;rw[g9 n h a];rcases g6 h a with ⟨rfl,rfl⟩ | ⟨rfl,rfl⟩ | ⟨rfl,rfl⟩ | ⟨rfl,rfl⟩ | ⟨rfl,rfl⟩ | ⟨rfl,rfl⟩ | ⟨rfl,rfl⟩ | ⟨rfl,rfl⟩ | ⟨rfl,rfl⟩ | ⟨rfl,rfl⟩ <;>
  simp[iv] <;> omega
theorem Xw (d:1<=N):∀(a:List Nat),(∀n∈a,n<=N)->mR a<=N ^ a.length
 | [],_=>am _
 | n :: a,h=>by
  rw[mR,dm];exact bo (Xw d a λm c=>h m (a9 _ c)) (h n aa)
theorem ZT:∀(d:Nat) (k:Kd),k.Ok d->1<=k.all.length
 | 0,_,h=>h.elim
 | d+1,.whole lo hi,h=>by
  obtain⟨_,c,_⟩:=h;rw[jk];omega
 | d+1,.pick e,h=>by
  rw[Wy];exact h.1
 | d+1,.row f,h=>by
  rw[Jh];refine wl λn hn=> ?_;obtain⟨k,a,rfl⟩:=aA.mp hn;exact ZT d k (h.2.2 k a)
 | d+1,.many k lo hi,h=>by
  rw[jx];exact F9 (ZT d k h.2.2) h.1 h.2.1
noncomputable def mx:Nat->Nat
 | 0=>0
 | 1=>41
 | d+1=>1+mx d+mx d*mx d+mx d*mx d*mx d
theorem Xx (d:Nat):41<=mx (d+1):=by
 induction d with
 | zero=>exact am _
 | succ d a=>
  show 41<=1+mx _+mx _*mx _+mx _*mx _*mx _;omega
theorem Qf (d:Nat)(n:Nat)(h:n<=41):n<=mx (d+1):=av h (Xx d)
theorem gc (a:1<=N)(h:m<=3):N ^ m<=1+N+N*N+N*N*N:=by
 have:m=0\/m=1\/m=2\/m=3:=by omega
 rcases this with rfl | rfl | rfl | rfl <;> simp[iL] <;> omega
theorem jD:∀(d:Nat) (k:Kd),k.Ok d->k.all.length<=mx d
 | 0,_,h=>h.elim
 | d+1,.whole lo hi,h=>by
  obtain⟨e,c,a⟩:=h;rw[jk];exact Qf d _ (by omega)
 | d+1,.pick i,h=>by
  rw[Wy];exact Qf d _ (av h.2.1 (by omega))
 | 1,.row f,h=>by
  obtain⟨e,c,a⟩:=h
  match f,e,a with
  | k :: _,_,a=>exact(a k aa).elim
 | d+2,.row f,h=>by
  obtain⟨e,c,a⟩:=h;rw[Jh];have hp:=av (by omega:1<=41) (Xx d)
  have:=Xw hp (f.map λk=>k.all.length) λn hn=>by
   obtain⟨k,g,rfl⟩:=aA.mp hn;exact jD _ k (a k g)
  rw[ae]at this;exact av this (gc hp c)
 | 1,.many k lo hi,h=>h.2.2.elim
 | d+2,.many k lo hi,h=>by
  rw[jx];exact FD (jD _ k h.2.2) h.1 h.2.1
theorem zc (h:f ρ= .nx ρ'):zn f g ρ=g ρ' :=by rw[zY,h]
theorem nL:zp my (zd kj (vE 0) (cE (.int 0))) (cE (.str w)) (.vl (.tup (.str x :: r)) :: ρ)= .ok (x == w):=by
 rw[zB,zh,v0,i3,zW,i3,pB,zW,i3];rfl
theorem jE:zd kj (vE 0) (cE (.int 1)) (.vl (.tup (a :: b :: r)) :: ρ)= .ok b:=by
 rw[zh,v0,i3,zW,i3,oY]
theorem Wz:zd kj (vE 0) (cE (.int 2)) (.vl (.tup (a :: b :: c :: r)) :: ρ)= .ok c:=by
 rw[zh,v0,i3,zW,i3,Bg]
theorem Gg:zd kj (vE 0) (cE (.int 3)) (.vl (.tup (a :: b :: c :: d :: r)) :: ρ)= .ok d:=by
 rw[zh,v0,i3,zW,i3,DZ]
theorem U7 (h:f ρ= .ok (.int i)):zd zv f (cE (.int 1)) ρ= .ok (.int (i+1)):=by
 rw[zh,h,i3,zW,i3,zZ]
theorem U8 (c:f ρ= .ok (.int i))(a:g ρ= .ok (.int j))(h: -1000000 < i/\i < 1000000/\ -1000000 < j/\j < 1000000):Jy f g ρ= .ok (rng i (j - i).toNat):=by
 unfold Jy;rw[c,a];exact if_pos h
theorem Qg:∀(a:List (Str×Int)) (x y:Sl),zx (zN 0 1) zV (vE 0) (a.map Jz) [x,y]= .ok (a.map λc=>T.str c.1)
 | [],_,_=>rfl
 | c :: a,x,y=>by
  have e:zx (zN 0 1) zV (vE 0) ((c :: a).map Jz) [x,y]=(zx _ _ _ _ [.vl _,.vl _]).bind λvs=> .ok _:=rfl;rw[e,Qg a];rfl
theorem wq {x:T}{m:Nat}(h:m<=3):zU (.lst [x]) (.int (m:Int))= .ok (.lst (ag m [x]).flatten):=by
 unfold zU;dsimp only;have c:0<=(m:Int)/\(m:Int) < 1000000/\[x].length*(m:Int).toNat<=mF:=by
  have a:3<=mF:=by decide
  refine⟨by omega,by omega, ?_⟩
  rw[aK,cz];exact av h a
 rw[if_pos c,b9]
theorem ZP {a:Type}(x:a):∀m:Nat,(ag m [x]).flatten=ag m x
 | 0=>rfl
 | m+1=>by rw[bv,i7,ZP x m];rfl
abbrev U9 (ca cr:List T->R T):En->RS:=vY 1 (zb 1 cr (za (zd zU (Zc (za (zb 1 ca (za (zd kj (vE 0) (cE (.int 1))) (ze))) (ze))) (vE 2)) (ze)))
theorem V2 (a:f ρ= .ok x):Zc (za f ze) ρ= .ok (.lst [x]):=by
 unfold Zc za ze;rw[a];rfl
theorem uy {ca:List T->R T}{k:Kd}{t:T}{lo:Nat}{d:List T}(p:ca [t]= .ok (.lst d))(f:1<=d.length){a b c:T}:∀(js:List Nat) (acc:List T) (x:Sl),(∀j∈js,lo+j<=3)->acc.length+(js.map λj=>d.length ^ (lo+j)).sum<=mF->
  ∃y,Zu (zw 2) (U9 ca nk) (js.map λ(j:Nat)=>T.int ((lo:Int)+(j:Int))) [.vl (.tup [a,t,b,c]),.ow acc,x]= .nx [.vl (.tup [a,t,b,c]),.ow (acc++js.flatMap λj=>Yd (ag (lo+j) d)),y]
 | [],acc,x,_,_=>⟨x,by simp[Zu]⟩
 | j :: js,acc,x,q,G=>by
  have w:=q j aa;rw[ar,cg]at G;have I:nk [.lst ((ag (lo+j) d).map _)]= .ok _:=Qe _ (by rw[aV];omega) (λl u=>by rw[bF u];exact f) (by rw[aS,jj];omega)
  have o:(Yd (ag (lo+j) d)).length=d.length ^ (lo+j):=by rw[JE,aS,jj]
  have v:zU (.lst [.lst d]) (.int ((lo)+(j)))= .ok (.lst ((ag (lo+j) d).map T.lst)):=by
   have g:(lo:Int)+(j)=((lo+j:Nat)):=by omega
   rw[g,wq (by omega),ZP,aS]
  have B:U9 ca nk [.vl (.tup [a,t,b,c]),.ow acc,.vl (.int ((lo)+(j)))]= .nx [.vl (.tup [a,t,b,c]),.ow (acc++Yd (ag (lo+j) d)),.vl (.int ((lo)+(j)))]:=by
   have g:zb 1 nk (za (zd zU (Zc (za (zb 1 ca (za (zd kj (vE 0) (cE (.int 1))) (ze))) (ze))) (vE 2)) (ze)) [.vl (.tup [a,t,b,c]),.ow acc,.vl (.int ((lo)+(j)))]= .ok (.lst (Yd (ag (lo+j) d))):=by
    have C:zb 1 ca (za (zd kj (vE 0) (cE (.int 1))) (ze)) [.vl (.tup [a,t,b,c]),.ow acc,.vl (.int ((lo)+(j)))]= .ok (.lst d):=by
     rw[zI,jE,i3,p]
    rw[zI,zh,V2 C,i3,v2,i3,v,i3,I]
   show ((zb 1 _ _ _).s λt=>match t with | .lst D=>if acc.length+D.length<=mF then RS.nx _ else .bad | _=> .bad)=_
   rw[g];show (if _ then _ else _)=_
   rw[if_pos (by omega)]
   rfl
  obtain⟨y,F⟩:=uy (k:=k) p f js (acc++Yd (ag (lo+j) d)) _ (λi hi=>q i (a9 _ hi)) (by rw[az];omega)
  refine⟨y, ?_⟩;have e:Zu (zw 2) (U9 ca nk) ((j :: js).map λ(j:Nat)=>T.int ((lo)+(j))) [.vl (.tup [a,t,b,c]),.ow acc,x]=match U9 ca _ [.vl _,.ow acc,.vl _] with
   | .nx ρ2=>Zu _ _ (js.map λ(j)=>T.int _) ρ2
   | .ct ρ2=>Zu _ _ (js.map λ(j)=>T.int _) ρ2
   | .bk ρ2=> .nx ρ2
   | r=>r:=rfl
  rw[e,B];dsimp only;rw[F,bW,bi]
theorem xk (g:lo<=hi)(f:hi<=3){r:RS}
  (d:Zu (zw 2) (U9 ca nk) ((aN (hi+1 - lo)).map λ(j:Nat)=>T.int ((lo:Int)+(j:Int))) [.vl (.tup [a,t,.int (lo:Int),.int (hi:Int)]),.ow acc,x]=r):
  ZD (Jy (zd kj (vE 0) (cE (.int 2))) (zd zv (zd kj (vE 0) (cE (.int 3))) (cE (.int 1)))) (zw 2) (U9 ca nk) [.vl (.tup [a,t,.int (lo:Int),.int (hi:Int)]),.ow acc,x]=r:=by
 have hn:((hi:Int)+1 - (lo)).toNat=hi+1 - lo:=by omega
 have c: -1000000 < (lo:Int)/\(lo:Int) < 1000000/\ -1000000 < (hi:Int)+1/\(hi:Int)+1 < 1000000:=by omega
 have e:ZD (Jy (zd kj (vE 0) (cE (.int 2))) (zd zv (zd kj (vE 0) (cE (.int 3))) (cE (.int 1)))) (zw 2) (U9 ca nk) [.vl (.tup [a,t,.int (lo),.int (hi)]),.ow acc,x]=(Jy _ _ _).s λts=>Zu _ _ ts _:=rfl;rw[e,U8 Wz (U7 Gg) c,hn];exact d
theorem Ig (e:L=pw n lo hi)(h:L<=1000000):([]:List T).length+((aN (hi+1 - lo)).map λj=>n ^ (lo+j)).sum<=mF:=by
 have h' :pw n lo hi<=mF:=av (e ▸ h) (by decide)
 rw[cN,fZ];exact h'
theorem Qh (d:Nat)(lo hi:Int)(h:(Kd.whole lo hi).Ok (d+1))(c:(Kd.whole lo hi).all.length<=1000000)(H:∀a :Kd,a.Ok d->ca [a.t]= .ok (.lst a.all)):zk (nA ca nk (mB 3 [(Kd.whole lo hi).t]))= .ok (.lst (Kd.whole lo hi).all):=by
 have e:zk (nA ca nk (mB 3 [(Kd.whole lo hi).t]))=zk (nA ca _ [.vl _,.un,.un]):=rfl;rw[e,nA,zY,j9];obtain⟨i,f,g⟩:=h;simp only[Kd.t];rw[Zd,ji,Wu];unfold As;rw[U8 jE (U7 Wz) ⟨by omega,by omega,by omega,by omega⟩]
 rfl
theorem xl (d:Nat)(a:List (Str×Int))(h:(Kd.pick a).Ok (d+1))(j:(Kd.pick a).all.length<=1000000)(H:∀f :Kd,f.Ok d->ca [f.t]= .ok (.lst f.all)):zk (nA ca nk (mB 3 [(Kd.pick a).t]))= .ok (.lst (Kd.pick a).all):=by
 have i:mF=16777216:=rfl;have e:zk (nA ca nk (mB 3 [(Kd.pick a).t]))=zk (nA ca _ [.vl _,.un,.un]):=rfl;rw[e,nA,zY,j9];simp only[Kd.t];rw[nL,j1,show (("pick":Str) == "whole")=false from rfl,if_neg ax,wX];dsimp only;rw[zY,j9,Zd,ji,Wu,Wu,jO,zJ,Zs,jE];have k:=h.2.1;have g:zq (zN 0 1) zV (vE 0) 2 [] [.vl (.tup [.str "pick",.tup (a.map Jz)]),.un,.un] (a.map Jz)= .ok (a.map λc=>T.str c.1):=by
  unfold zq;rw[if_pos (by rw[ae];omega)]
  show quiet (zx _ _ _ _ [.un,.un])=_;rw[Qg];rfl
 show zk (match ((((R.ok _).bind λts=>(zq _ _ _ 2 [] _ ts).bind λvs=> .ok _)).s λt=> .rt t) with | .nx ρ' =>_ | r=>r)=_
 rw[i3,g];rfl
theorem gh (d:Nat)(a:List Kd)(h:(Kd.row a).Ok (d+1))(i:(Kd.row a).all.length<=1000000)(H:∀c :Kd,c.Ok d->ca [c.t]= .ok (.lst c.all)):zk (nA ca nk (mB 3 [(Kd.row a).t]))= .ok (.lst (Kd.row a).all):=by
 have u:mF=16777216:=rfl;have e:zk (nA ca nk (mB 3 [(Kd.row a).t]))=zk (nA ca _ [.vl _,.un,.un]):=rfl;rw[e,nA,zY,j9];obtain⟨C,B,o⟩:=h;simp only[Kd.t];rw[nL,j1,show (("row":Str) == "whole")=false from rfl,if_neg ax,wX];dsimp only;rw[zY,j9,nL,j1,show (("row":Str) == "pick")=false from rfl,if_neg ax,wX];dsimp only;rw[zY,j9,Zd,ji,Wu,Wu,jO,zI,Kd.ts_map];have q:zq (zw 0) zV (zb 1 ca (za (vE 0) (ze))) 1 [] [.vl (.tup [.str "row",.tup (a.map Kd.t)]),.un,.un] (a.map Kd.t)= .ok ((a.map Kd.all).map T.lst):=by
  unfold zq;rw[if_pos (by rw[ae];omega)]
  show quiet (zx _ _ _ _ [.un])=_;have:∀(a:List Kd) (x:Sl),(∀k∈a,k.Ok d)->zx (zw 0) zV (zb 1 ca (za (vE 0) (ze))) (a.map Kd.t) [x]= .ok ((a.map Kd.all).map T.lst):=by
   intro a
   induction a with
   | nil=>intro _ _;rfl
   | cons k a w=>
    intro x f;have p:zx (zw 0) zV (zb 1 ca (za (vE 0) (ze))) ((k :: a).map _) [x]=(zb 1 ca _ [.vl k.t]).bind λv=>(zx _ _ _ _ [.vl k.t]).bind λvs=> .ok _:=rfl;rw[p,zI,v0,i3,H k (f k aa),w _ λc g =>f c (a9 _ g)];rfl
  rw[this a .un o];rfl
 have j:=Jh a;have y:nk [.lst ((a.map Kd.all).map _)]= .ok _:=Qe _ (by rw[ae];omega) (λl i=>by
  obtain⟨k,f,rfl⟩:=aA.mp i;exact ZT d k (o k f)) (by
  rw[aZ];show mR (a.map λk=>k.all.length)<=mF;omega)
 show zk (match ((((R.ok _).bind λts=>(zq _ _ _ 1 [] _ ts).bind λvs=> .ok _).bind λx=>nk [x]).s λt=> .rt t) with | .nx ρ' =>_ | r=>r)=_
 rw[i3,q,i3,i3,y,Kd.all,Kd.alls_map];rfl
theorem xm {ca:List T->R T}(d:Nat)(k:Kd)(lo hi:Nat)(h:(Kd.many k lo hi).Ok (d+1))(o:(Kd.many k lo hi).all.length<=1000000)(H:∀f :Kd,f.Ok d->ca [f.t]= .ok (.lst f.all)):zk (nA ca nk (mB 3 [(Kd.many k lo hi).t]))= .ok (.lst (Kd.many k lo hi).all):=by
 have q:mF=16777216:=rfl;have e:zk (nA ca nk (mB 3 [(Kd.many k lo hi).t]))=zk (nA ca nk [.vl (Kd.many k lo hi).t,.un,.un]):=rfl;rw[e,nA,zY,j9];obtain⟨u,p,l⟩:=h;have g:=jx k lo hi;simp only[Kd.t];rw[nL,j1,show (("many":Str) == "whole")=false from rfl,if_neg ax,wX];dsimp only;rw[zY,j9,nL,j1,show (("many":Str) == "pick")=false from rfl,if_neg ax,wX];dsimp only;rw[zY,j9,nL,j1,show (("many":Str) == "row")=false from rfl,if_neg ax,wX];dsimp only;have w:uO 1 (ze) [.vl (.tup [.str "many",k.t,.int (lo:Int),.int (hi:Int)]),.un,.un]= .nx [.vl (.tup [.str "many",k.t,.int (lo:Int),.int (hi:Int)]),.ow [],.un]:=rfl;rw[zY,w];dsimp only;obtain⟨y,v⟩:=uy (k:=k) (lo:=lo) (H k l) (ZT d k l) (a:= .str "many") (b:= .int (lo:Int)) (c:= .int (hi:Int)) (aN (hi+1 - lo)) [] .un (λj r=>by have:=aT.mp r;omega) (Ig g o)
 have i:=xk (ca:=ca) (t:=k.t) u p v;rw[bP]at i;rw[zc i,Kd.all];rfl
theorem xn (d:Nat)(k:Kd)(h:k.Ok (d+1))(a:k.all.length<=1000000)(H:∀c :Kd,c.Ok d->ca [c.t]= .ok (.lst c.all)):zk (nA ca nk (mB 3 [k.t]))= .ok (.lst k.all):=by
 cases k with
 | whole lo hi=>exact Qh d lo hi h a H
 | pick e=>exact xl d e h a H
 | row f=>exact gh d f h a H
 | many k lo hi=>exact xm d k lo hi h a H
theorem Xy:∀(d n:Nat),d<=n->d<=3->∀k:Kd,k.Ok d->k.all.length<=1000000->pP n 0 [k.t]= .ok (.lst k.all)
 | 0,_,_,_,_,h,_=>h.elim
 | d+1,0,hn,_,_,_,_=>by omega
 | d+1,n+1,hn,hd,k,h,f=>by
  have e:pP (n+1) 0 [k.t]=zk (nA (pP n 0) nk (mB 3 [k.t])):=rfl;rw[e];refine xn d k h f λc a =>Xy d n (by omega) (by omega) c a ?_
  have g:=jD d c a;have:mx d<=1000000:=by
   have:d=0\/d=1\/d=2:=by omega
   rcases this with rfl | rfl | rfl <;> decide
  omega
theorem HQ:zp nv (zd kj (vE 0) (cE (.int 0))) (Za (za (cE (.str a)) (za (cE (.str b)) (ze)))) (.vl (.tup (.str x :: r)) :: ρ)=nv (.str x) (.tup [.str a,.str b]):=by
 rw[zB,zh,v0,i3,zW,i3,pB,i3,UO zW zW,i3]
theorem jF (h:g ρ= .ok true):mD g f1 f2 ρ=f1 ρ:=by rw[j9,h,j1,if_pos rfl]
theorem DE (h:g ρ= .ok false):mD g f1 f2 ρ=f2 ρ:=by rw[j9,h,j1,if_neg ax]
theorem zj (h:g ρ= .ok false):mD g f1 mC ρ= .nx ρ:=by rw[DE h];rfl
theorem zE (h:f ρ= .ok t):zC i f ρ= .nx (ρ.set i (.vl t)):=by rw[wg,h,j1]
theorem zg (h:f (frz ρ)= .ok t):zr f ρ= .rt t:=by rw[Zd,h,j1]
theorem ZI {g:T->En->R En}(c:g t ρ= .ok ρ1)(a:fb ρ1= .nx ρ2):Zu g fb (t :: ts) ρ=Zu g fb ts ρ2:=by
 rw[Zu,c];dsimp only;rw[a]
theorem Ck (i:Nat)(t:T)(ρ:En):zw i t ρ= .ok (ρ.set i (.vl t)):=rfl
theorem zu (h:f ρ= .rt t):zn f g ρ= .rt t:=by rw[zY,h]
theorem Qi {i j:Nat}(h:i < 2 ^ 60):zU (.int (i:Int)) (.int (j:Int))= .ok (.int ((i*j:Nat):Int)):=by
 rw[Qb _ _ (.inl ⟨by omega,by omega⟩),fR]
theorem DN (h:n<=mx d)(hd:d<=3):n < 2 ^ 60:=by
 have:d=0\/d=1\/d=2\/d=3:=by omega
 have e:mx 3 < 2 ^ 60:=by decide
 have c:mx 2 < 2 ^ 60:=by decide
 have f:mx 1 < 2 ^ 60:=by decide
 have a:mx 0 < 2 ^ 60:=by decide
 rcases this with rfl | rfl | rfl | rfl <;> omega
theorem UT {a b:Sl}:∀(c:List Nat) (m:Nat) (x y:Sl),(∀n∈c,1<=n)->m*mR c < 2 ^ 60->∃e,Zu (zw 3) (zC 2 (zd zU (vE 2) (vE 3))) (c.map λ(n:Nat)=>T.int (n:Int)) [a,b,.vl (.int (m:Int)),x,y]= .nx [a,b,.vl (.int ((m*mR c:Nat):Int)),e,y]
 | [],m,x,y,_,_=>⟨x,by simp[Zu,mR]⟩
 | n :: c,m,x,y,hp,g=>by
  have j:=wl λk i=>hp k (a9 _ i);have hn:=hp n aa;have f:m<=m*mR (n :: c):=dh _ (dj hn j);have d:=bq f g;rw[mR,← dF]at g;obtain⟨e,l⟩:=UT c _ _ y (λk i=>hp k (a9 _ i)) g;refine⟨e, ?_⟩;have o:zC 2 (zd zU (vE 2) (vE 3)) [a,b,.vl (.int (m)),.vl (.int (n)),y]= .nx [a,b,.vl (.int ((m*n):Int)),.vl (.int (n)),y]:=by
   rw[wg,zh,v2,i3,v3,i3,Qi d];rfl
  have p:zw 3 (T.int (n)) [a,b,.vl (.int (m)),x,y]= .ok _:=rfl;rw[ar,ZI p o,mR,← dF];exact l
theorem UU:∀(d:Nat) (lo hi:Int),(Kd.whole lo hi).Ok (d+1)->(Kd.whole lo hi).Ok 1
 | _,_,_,h=>h
theorem xo:∀(d:Nat) (a:List (Str×Int)),(Kd.pick a).Ok (d+1)->(Kd.pick a).Ok 1
 | _,_,h=>h
theorem uz (k:Kd)(h:k.Ok 1)(g:k.t= .tup (.str x :: r))(f:nv (.str x) (.tup [.str "whole",.str "pick"])= .ok true):zk (nR (oo 8) cs (mB 5 [k.t]))= .ok (.int (k.all.length:Int)):=by
 have d:oo 8 _= .ok _:=Xy 1 8 (by omega) (by omega) k h (av (jD 1 k h) (by decide))
 have e:zk (nR (oo 8) cs (mB 5 [k.t]))=zk (nR _ cs [.vl k.t,.un,.un,.un,.un]):=rfl;have a:zp nv (zd kj (vE 0) (cE (.int 0))) (Za (za (cE (.str "whole")) (za (cE (.str "pick")) (ze)))) [.vl k.t,.un,.un,.un,.un]= .ok true:=by
  rw[g,HQ,f]
 have c:zr (mw Z6 (zb 1 (oo 8) (za (vE 0) (ze)))) [.vl k.t,.un,.un,.un,.un]= .rt (.int (k.all.length)):=by
  refine zg ?_;rw[ji,Z8,zI,v0,i3,d,i3,DS]
 rw[e,nR,zu (by rw[jF a,c])]
 rfl
theorem Iq (b:Bool):b2 b=(iv b:Int):=by cases b <;> rfl
theorem xp (hd:d+1<=3)(c:List Kd)(h:(Kd.row c).Ok (d+1))(H:∀k:Kd,k.Ok d->cs [k.t]= .ok (.int (k.all.length:Int))):zk (nR (oo 8) cs (mB 5 [(Kd.row c).t]))= .ok (.int ((Kd.row c).all.length:Int)):=by
 have f:=DN (jD _ _ h) hd;rw[Jh]at f ⊢;obtain⟨F,p,o⟩:=h;simp only[Kd.t,Kd.ts_map];have e:zk (nR (oo 8) cs (mB 5 [.tup [.str "row",.tup (c.map Kd.t)]]))=zk (nR _ cs [.vl _,.un,.un,.un,.un]):=rfl;have j:zp nv (zd kj (vE 0) (cE (.int 0))) (Za (za (cE (.str "whole")) (za (cE (.str "pick")) (ze)))) [.vl (.tup [.str "row",.tup (c.map Kd.t)]),.un,.un,.un,.un]= .ok false:=by
  rfl
 have q:zq (zw 0) zV (zb 1 cs (za (vE 0) (ze))) 1 [] [.vl (.tup [.str "row",.tup (c.map Kd.t)]),.un,.un,.un,.un] (c.map Kd.t)= .ok ((c.map λk=>k.all.length).map λ(n:Nat)=>T.int (n)):=by
  unfold zq;rw[if_pos (by rw[ae];exact av p (by decide))]
  have:∀(c:List Kd) (x:Sl),(∀k∈c,k.Ok d)->zx (zw 0) zV (zb 1 cs (za (vE 0) (ze))) (c.map Kd.t) [x]= .ok ((c.map λk=>k.all.length).map λ(n:Nat)=>T.int (n)):=by
   intro c
   induction c with
   | nil=>intro _ _;rfl
   | cons k c w=>
    intro x g;have j:zx (zw 0) zV (zb 1 cs (za (vE 0) (ze))) ((k :: c).map _) [x]=(zb 1 cs _ [.vl k.t]).bind λv=>(zx _ _ _ _ [.vl k.t]).bind λvs=> .ok _:=rfl;rw[j,zI,v0,i3,H k (g k aa),w _ λy i =>g y (a9 _ i)];rfl
  show quiet (zx _ _ _ _ [.un])=_;rw[this c .un o];rfl
 have u:mZ (zp my (zd kj (vE 0) (cE (.int 0))) (cE (.str "row"))) (zA (Z5 (zd kj (vE 0) (cE (.int 1)))) (zw 0) (zV) (zb 1 cs (za (vE 0) (ze))) 1 []) (Zc (ze)) [.vl (.tup [.str "row",.tup (c.map Kd.t)]),.un,.un,.un,.un]= .ok (.lst ((c.map λk=>k.all.length).map λ(n:Nat)=>T.int (n))):=by
  unfold mZ;rw[nL,i3,show (("row":Str) == "row")=true from rfl,if_pos rfl,zJ,Zs,jE];show ((R.ok _).bind _)=_;rw[i3,q,i3]
 obtain⟨D,l⟩:=UT (a:= .vl _) (c.map λk=>k.all.length) 1 .un .un (λn hn=>by
  obtain⟨k,g,rfl⟩:=aA.mp hn;exact ZT d k (o k g)) (by rw[cz];exact f)
 rw[cz]at l;have C:ZD (Z5 (vE 1)) _ _ [.vl _,.vl (.lst ((c.map λk=>k.all.length).map λ(n:Nat)=>T.int (n))),.vl (.int 1),.un,.un]=_:=l;rw[e,nR,zc (zj j),zc (zE u)];have r:([.vl (.tup [.str "row",.tup (c.map Kd.t)]),.un,.un,.un,.un]:En).set 1 (.vl (.lst ((c.map λk=>k.all.length).map λ(n:Nat)=>T.int (n))))=[.vl _,.vl (.lst ((c.map λk=>k.all.length).map λ(n:Nat)=>T.int (n))),.un,.un,.un]:=rfl;rw[r,zc (zE zW)];have B:([.vl (.tup [.str "row",.tup (c.map Kd.t)]),.vl (.lst ((c.map λk=>k.all.length).map λ(n:Nat)=>T.int (n))),.un,.un,.un]:En).set 2 (.vl (.int 1))=[.vl _,.vl (.lst ((c.map λk=>k.all.length).map λ(n)=>T.int _)),.vl _,.un,.un]:=rfl;rw[B,zc C];rfl
theorem DU (d:f ρ= .ok (.int i))(a:g ρ= .ok (.int j)):ny mL mL f (cE (.int c)) g ρ= .ok (.bl (decide (i<=c) && decide (c<=j))):=by
 rw[Q5,d,i3,zW,i3,wJ,a];cases decide (i<=c) <;> rfl
theorem wY (a b:Nat):decide ((a:Int)<=(b:Int))=decide (a<=b):=by
 by_cases h:a<=b
 ·rw[decide_eq_true h];exact decide_eq_true (by omega)
 ·rw[decide_eq_false h];exact decide_eq_false (by omega)
theorem UV (a b:Nat):((a:Int) == (b:Int))=(a == b):=by
 by_cases h:a=b
 ·subst h;simp
 ·rw[beq_eq_false_iff_ne.mpr h,beq_eq_false_iff_ne];omega
theorem An (h:f ρ= .ok (.bl b)):mw qe f ρ= .ok (.int ((iv b:Nat):Int)):=by
 rw[Z8,h];show R.ok _=_;rw[Iq]
theorem Qj (c:f ρ= .ok (.int (i:Int)))(a:g ρ= .ok (.int (j:Int))):zd zv f g ρ= .ok (.int ((i+j:Nat):Int)):=by
 rw[zh,c,i3,a,i3,zZ,Int.natCast_add]
theorem Ji (h:i < 2 ^ 60)(a:f ρ= .ok (.int (i:Int)))(c:g ρ= .ok (.int (j:Int))):zd zU f g ρ= .ok (.int ((i*j:Nat):Int)):=by
 rw[zh,a,i3,c,i3,Qi h]
theorem gm (h:n<=mx d)(hd:d+1<=3)(j:1<=d):n*n*n < 2 ^ 60/\n*n < 2 ^ 60/\n < 2 ^ 60:=by
 have a:n<=70644:=by
  have:d=1\/d=2:=by omega
  have c:mx 2=70644:=by decide
  have a:mx 1=41:=by decide
  rcases this with rfl | rfl <;> omega
 have c:=bo a a;have f:=bo c a;have g:70644*70644*70644 < 2 ^ 60:=by decide
 have e:70644*70644 < 2 ^ 60:=by decide
 have i:70644 < 2 ^ 60:=by decide
 exact⟨bq f g,bq c e,bq a i⟩
noncomputable abbrev mt (t:T)(lo hi:Nat):T:= .tup [.str "many",t,.int (lo:Int),.int (hi:Int)]
theorem pJ :vE 4 (a :: b :: c :: d :: .vl t :: ρ)= .ok t:=rfl
theorem Qk {t:T}{a x:Sl}{lo hi n:Nat}(l:n*n*n < 2 ^ 60)(k:n*n < 2 ^ 60)(d:n < 2 ^ 60):
  zn (zC 2 (zd zv (mw qe (ZL my (zd kj (vE 0) (cE (.int 2))) (cE (.int 0)))) (zd zU (vE 4) (mw qe (ny mL mL (zd kj (vE 0) (cE (.int 2))) (cE (.int 1)) (zd kj (vE 0) (cE (.int 3))))))))
  (zn (zC 2 (zd zv (vE 2) (zd zU (zd zU (vE 4) (vE 4)) (mw qe (ny mL mL (zd kj (vE 0) (cE (.int 2))) (cE (.int 2)) (zd kj (vE 0) (cE (.int 3))))))))
  (zC 2 (zd zv (vE 2) (zd zU (zd zU (zd zU (vE 4) (vE 4)) (vE 4)) (mw qe (ZL my (zd kj (vE 0) (cE (.int 3))) (cE (.int 3))))))))
  [.vl (mt t lo hi),a,.vl (.int 1),x,.vl (.int (n:Int))]= .nx [.vl (mt t lo hi),a,.vl (.int ((iv (lo == 0)+n*iv (decide (lo<=1) && decide (1<=hi))+n*n*iv (decide (lo<=2) && decide (2<=hi))+n*n*n*iv (hi == 3):Nat):Int)),x,.vl (.int (n:Int))]:=by
 have j:∀{p q r s:Sl},mw _ (ny mL mL _ _ _) [.vl (mt t lo hi),p,q,r,s]= .ok (.int ((iv (decide (lo<=1) && decide (1<=hi))):Int)):=λ{p q r s}=>An (by
  rw[DU Wz Gg];rw[show decide ((lo:Int)<=1)=decide _ from wY lo 1,show decide ((1:Int)<=(hi))=decide _ from wY 1 hi])
 have e:∀{p q r s:Sl},mw _ (ny mL mL _ _ _) [.vl (mt t lo hi),p,q,r,s]= .ok (.int ((iv (decide (lo<=2) && decide (2<=hi))):Int)):=λ{p q r s}=>An (by
  rw[DU Wz Gg];rw[show decide ((lo:Int)<=2)=decide _ from wY lo 2,show decide ((2:Int)<=(hi))=decide _ from wY 2 hi])
 have c:∀{p q r s:Sl},mw _ (ZL my (zd kj _ _) (cE _)) [.vl (mt t lo hi),p,q,r,s]= .ok _:=λ{p q r s}=>An (by
  rw[Ze,Wz,i3,zW,i3,nQ,i3,show ((lo:Int) == 0)=(lo == 0) from UV lo 0])
 have g:∀{p q r s:Sl},mw _ (ZL my (zd kj _ _) (cE _)) [.vl (mt t lo hi),p,q,r,s]= .ok _:=λ{p q r s}=>An (by
  rw[Ze,Gg,i3,zW,i3,nQ,i3,show ((hi:Int) == 3)=(hi == 3) from UV hi 3])
 have f:=zE (i:=2) (Qj (c (p:=a) (q:= .vl (.int 1)) (r:=x)) (Ji d pJ j));have f:zC 2 _ _= .nx [.vl _,a,.vl _,x,.vl _]:=f;rw[zc f];generalize iv _+n*iv _=m1;have o:=zE (i:=2) (Qj (v2 (t:= .int (m1)) (b:=a) (ρ:=[x,.vl _])) (Ji k (Ji d pJ pJ) e));rw[zc o];generalize m1+n*n*iv _=m2;have u:=zE (i:=2) (Qj (v2 (t:= .int (m2)) (b:=a) (ρ:=[x,.vl _])) (Ji l (Ji k (Ji d pJ pJ) pJ) g));exact u
theorem Ql {c:List T->R T}{d:Nat}(hd:d+1<=3)(k:Kd)(lo hi:Nat)(h:(Kd.many k lo hi).Ok (d+1))(H:∀k:Kd,k.Ok d->c [k.t]= .ok (.int (k.all.length:Int))):zk (nR (oo 8) c (mB 5 [(Kd.many k lo hi).t]))= .ok (.int ((Kd.many k lo hi).all.length:Int)):=by
 obtain⟨q,l,f⟩:=h;have g:1<=d:=by
  cases d with
  | zero=>exact f.elim
  | succ d=>omega
 obtain⟨o,p,B⟩:=gm (jD d k f) hd g;rw[jx,g9 _ q l];simp only[Kd.t];have F:=H k f;generalize k.all.length=n at*;generalize k.t=t at*;have e:zk (nR (oo 8) c (mB 5 [mt t lo hi]))=zk (nR _ c [.vl _,.un,.un,.un,.un]):=rfl;have j:zp nv (zd kj (vE 0) (cE (.int 0))) (Za (za (cE (.str "whole")) (za (cE (.str "pick")) (ze)))) [.vl (mt t lo hi),.un,.un,.un,.un]= .ok false:=by
  rfl
 have u:mZ (zp my (zd kj (vE 0) (cE (.int 0))) (cE (.str "row"))) (zA (Z5 (zd kj (vE 0) (cE (.int 1)))) (zw 0) (zV) (zb 1 c (za (vE 0) (ze))) 1 []) (Zc (ze)) [.vl (mt t lo hi),.un,.un,.un,.un]= .ok (.lst []):=by
  rfl
 have r:([.vl (mt t lo hi),.un,.un,.un,.un]:En).set 1 (.vl (.lst []))=[.vl _,.vl _,.un,.un,.un]:=rfl;have D:([.vl (mt t lo hi),.vl (.lst []),.un,.un,.un]:En).set 2 (.vl (.int 1))=[.vl _,.vl _,.vl _,.un,.un]:=rfl;have C:ZD (Z5 (vE 1)) (zw 3) (zC 2 (zd zU (vE 2) (vE 3))) [.vl (mt t lo hi),.vl (.lst []),.vl (.int 1),.un,.un]= .nx _:=rfl;have y:zp my (zd kj (vE 0) (cE (.int 0))) (cE (.str "many")) [.vl (mt t lo hi),.vl (.lst []),.vl (.int 1),.un,.un]= .ok true:=by
  rfl
 have e5:zb 1 c (za (zd kj (vE 0) (cE (.int 1))) (ze)) [.vl (mt t lo hi),.vl (.lst []),.vl (.int 1),.un,.un]= .ok (.int (n)):=by
  rw[zI,jE,i3,F]
 have w:([.vl (mt t lo hi),.vl (.lst []),.vl (.int 1),.un,.un]:En).set 4 (.vl (.int (n)))=[.vl _,.vl _,.vl _,.un,.vl _]:=rfl;have v:=Qk (t:=t) (a:= .vl (.lst [])) (x:= .un) (lo:=lo) (hi:=hi) o p B;rw[e,nR,zc (zj j),zc (zE u),r,zc (zE zW),D,zc C];have i:∀(P:En->RS),mD _ (zn _ P) mC _=P _:=λP=>by
  rw[jF y,zc (zE e5),w]
 rw[zc (Eq.trans (i _) v)];rfl
theorem Qm:∀(d n:Nat),d<=n->d<=3->∀k:Kd,k.Ok d->Ai n 0 [k.t]= .ok (.int (k.all.length:Int))
 | 0,_,_,_,_,h=>h.elim
 | d+1,0,hn,_,_,_=>by omega
 | d+1,n+1,hn,hd,k,h=>by
  have H:=λe a =>Qm d n (by omega) (by omega) e a
  cases k with
  | whole lo hi=>exact uz _ (UU d lo hi h) (x:="whole") (r:=[.int lo,.int hi]) (by simp only[Kd.t]) rfl
  | pick c=>exact uz _ (xo d c h) (x:="pick") (r:=[.tup (c.map Jz)]) (by simp only[Kd.t]) rfl
  | row f=>exact xp (by omega) f h H
  | many k lo hi=>exact Ql (by omega) k lo hi h H
theorem Ok.mono:∀(d:Nat) (k:Kd),k.Ok d->k.Ok (d+1)
 | 0,_,h=>h.elim
 | d+1,.whole _ _,h=>h
 | d+1,.pick _,h=>h
 | d+1,.row c,h=>⟨h.1,h.2.1,λk a=>Ok.mono d k (h.2.2 k a)⟩
 | d+1,.many k _ _,h=>⟨h.1,h.2.1,Ok.mono d k h.2.2⟩
theorem gp (j:Int):zU (.int 700) (.int j)= .ok (.int (700*j)):=Qb _ _ (.inl ⟨by decide,by decide⟩)
theorem D7 (a:List Int)(d:Nat)(f:1<=d)(e:d<=8)(k:Int)(c:0<=k):∃q:Kd,oE 8 [mN a,.int k,.int (d:Int)]= .ok q.t/\q.Ok d:=by
 obtain⟨t,i,hi⟩:=U4 a d 8 e f k c;obtain⟨q,rfl,g⟩:=U6 d t hi;exact⟨q,i,g⟩
abbrev oW:En->RS:=zn (mD (zp mL (zb 1 (sP 8) (za (vE 3) (ze))) (vB 2)) (zr (vE 3)) (mC))
  (zC 3 (zb 3 (oE 8) (za (vE 0) (za (zd zv (zd zv (vE 1) (cE (.int 500))) (zd zU (cE (.int 700)) (vE 4))) (za (cE (.int 2)) (ze))))))
abbrev oj (ns:List Int)(a:Int)(m:Nat)(k:Kd)(x:Sl):En:=[.vl (mN ns),.vl (.int a),.vl (.int (m:Int)),.vl k.t,x]
theorem Qn (c:k.Ok 3):zp mL (zb 1 (sP 8) (za (vE 3) (ze))) (vB 2) (oj ns a m k x)= .ok (decide (k.all.length<=m)):=by
 have e:sP 8 _= .ok _:=Qm 3 8 (by omega) (by omega) k c
 rw[zB,zI,v3,i3,e,i3,w2,i3,wJ,wY]
theorem gq (c:List Int)(l:0<=a)(g:k.Ok 3)(j:Nat):(k.all.length<=m/\oW (oj c a m k (.vl (.int (0+(j:Int)))))= .rt k.t)\/∃f :Kd,f.Ok 3/\oW (oj c a m k (.vl (.int (0+(j:Int)))))= .nx (oj c a m f (.vl (.int (0+(j:Int))))):=by
 by_cases h:k.all.length<=m
 ·refine .inl ⟨h, ?_⟩;refine zu ?_;rw[jF (by rw[Qn g,decide_eq_true h])]
  exact zg rfl
 ·obtain⟨q,d,i⟩:=D7 c 2 (by omega) (by omega) (a+500+700*(0+(j))) (by omega)
  refine .inr ⟨q,Ok.mono 2 q i, ?_⟩;unfold oW;rw[zc (zj (by rw[Qn g,decide_eq_false h]))]
  have d:oE 8 [mN c,.int _,.int 2]= .ok q.t:=d;have e:zb 3 (oE 8) (za (vE 0) (za (zd zv (zd zv (vE 1) (cE (.int 500))) (zd zU (cE (.int 700)) (vE 4))) (za (cE (.int 2)) (ze)))) (oj c a m k (.vl (.int (0+(j)))))= .ok q.t:=by
   rw[Zb,v0,i3,zh,zh,v1,i3,zW,i3,zZ,i3,zh,zW,i3,v4,i3,gp,i3,zZ,i3,zW,i3,d]
  rw[zE e];rfl
theorem Hh {g:T->En->R En}(c:g t ρ= .ok ρ1)(a:fb ρ1= .rt r):Zu g fb (t :: ts) ρ= .rt r:=by
 rw[Zu,c];dsimp only;rw[a]
theorem Qo (d:List Int)(l:0<=a):∀(js:List Nat) (k:Kd) (x:Sl),k.Ok 3->(∃c :Kd,c.Ok 3/\c.all.length<=m/\Zu (zw 4) oW (js.map λ(j:Nat)=>T.int (0+(j:Int))) (oj d a m k x)= .rt c.t)\/
  ∃(c :Kd) (o :Sl),c.Ok 3/\Zu (zw 4) oW (js.map λ(j:Nat)=>T.int (0+(j:Int))) (oj d a m k x)= .nx (oj d a m c o)
 | [],k,x,e=> .inr ⟨k,x,e,rfl⟩
 | j :: js,k,x,e=>by
  have i:zw 4 (T.int (0+(j))) (oj d a m k x)= .ok _:=rfl;rw[ar];rcases gq d l e j with ⟨g,f⟩ | ⟨c,g,f⟩
  ·exact .inl ⟨k,e,g,Hh i f⟩
  ·rw[ZI i f];exact Qo d l js c _ g
theorem xq (c:List Int)(a:Int)(l:0<=a)(m:Nat)(r:4<=m):∃k:Kd,k.Ok 3/\k.all.length<=m/\AF [mN c,.int a,.int (m:Int)]= .ok k.t:=by
 obtain⟨q,g,u⟩:=D7 c 3 (by omega) (by omega) a l
 have g:oE 8 [mN c,.int a,.int 3]= .ok q.t:=g;have e:AF [mN c,.int a,.int (m)]=zk (tm _ _ [.vl _,.vl _,.vl _,.un,.un]):=rfl;have o:zb 3 (oE 8) (za (vE 0) (za (vE 1) (za (cE (.int 3)) (ze)))) [.vl (mN c),.vl (.int a),.vl (.int (m)),.un,.un]= .ok q.t:=by
  rw[Zb,v0,i3,v1,i3,zW,i3,g]
 have v:([.vl _,.vl _,.vl _,.un,.un]:En).set 3 _=oj c a m q .un:=rfl;rw[e,tm,zc (zE o),v];rcases Qo c l _ q .un u with ⟨k,d,p,f⟩ | ⟨k,x,d,f⟩
 ·refine⟨k,d,p, ?_⟩;have i:ZD (Zi (cE (.int 3))) (zw 4) oW _= .rt k.t:=f;rw[zu i];rfl
 ·have i:ZD (Zi (cE (.int 3))) (zw 4) oW _= .nx _:=f;rw[zc i];have j:zp mL _ _ (frz (oj c a m k x))= .ok _:=Qn d
  by_cases h:k.all.length<=m
  ·refine⟨k,d,h, ?_⟩;rw[zg]
   ·rfl
   ·unfold mZ;rw[j,decide_eq_true h];rfl
  ·refine⟨.whole (-1) 2,⟨by omega,by omega,by omega⟩,by exact r, ?_⟩
   rw[zg]
   ·rfl
   ·unfold mZ;rw[j,i3,decide_eq_false h,if_neg ax];rfl
mutual
noncomputable def Kd.has:Kd->T->Bool
 | .whole lo hi=>λt=>oV lo hi t
 | .pick d=>λt=>match t with | .str x=>d.any λc=>c.1 == x | _=>false
 | .row a=>λt=>match t with | .tup xs=>xs.length == a.length && Kd.hass a xs | _=>false
 | .many k lo hi=>λt=>match t with | .tup xs=>decide (lo<=xs.length) && decide (xs.length<=hi) && xs.all k.has | _=>false
noncomputable def Kd.hass:List Kd->List T->Bool
 | []=>λ_=>true
 | k :: a=>λxs=>match xs with | []=>true | x :: xs=>k.has x && Kd.hass a xs
end
theorem JF:∀(a:List Kd) (xs:List T),Kd.hass a xs=(a.zip xs).all λq=>q.1.has q.2
 | [],_=>by simp[Kd.hass]
 | k :: a,[]=>by simp[Kd.hass]
 | k :: a,x :: xs=>by simp[Kd.hass,JF a xs]
noncomputable def yZ:List (List T)->List T->Prop
 | [],[]=>True
 | l :: a,x :: xs=>x∈l/\yZ a xs
 | _,_=>False
theorem wu:∀(g c:List (List T)) (xs:List T),xs∈ZB c g↔∃a∈c,∃b,yZ g b/\xs=a++b
 | [],c,xs=>by
  rw[ZB];constructor
  ·exact λh=>⟨xs,h,[],trivial,by simp⟩
  ·rintro⟨a,f,b,d,rfl⟩
   cases b with
   | nil=>simpa using f
   | cons=>exact d.elim
 | l :: g,c,xs=>by
  rw[ZB,wu g];constructor
  ·rintro⟨o,i,b,d,rfl⟩
   obtain⟨a,f,k⟩:=di.mp i;obtain⟨x,j,e⟩:=aA.mp k;exact⟨a,f,x :: b,⟨j,d⟩,by rw[← e];simp⟩
  ·rintro⟨a,f,b,d,rfl⟩
   cases b with
   | nil=>exact d.elim
   | cons x b=>exact⟨a++[x],di.mpr ⟨a,f,aA.mpr ⟨x,d.1,rfl⟩⟩,b,d.2,by simp⟩
theorem WA (c:List (List T))(t:T):t∈Yd c↔∃xs,yZ c xs/\t= .tup xs:=by
 rw[aA];constructor
 ·rintro⟨xs,h,rfl⟩
  obtain⟨a,e,b,d,rfl⟩:=(wu c _ xs).mp h;rw[aq.mp e];exact⟨b,d,rfl⟩
 ·rintro⟨xs,h,rfl⟩
  exact⟨xs,(wu c _ xs).mpr ⟨[],aq.mpr rfl,xs,h,rfl⟩,rfl⟩
theorem WB (l:List T):∀(m:Nat) (xs:List T),yZ (ag m l) xs↔xs.length=m/\∀x∈xs,x∈l
 | 0,[]=>by simp[yZ]
 | 0,x :: xs=>by simp[yZ]
 | m+1,[]=>by simp[yZ,bv]
 | m+1,x :: xs=>by
  show x∈l/\yZ _ xs↔_;rw[WB l m xs];simp;constructor
  ·rintro⟨a,b,c⟩;exact⟨b,a,c⟩
  ·rintro⟨a,b,c⟩;exact⟨b,a,c⟩
theorem uA:∀(d:List Kd),(∀k∈d,∀x,x∈k.all↔k.has x=true)->∀xs,yZ (d.map Kd.all) xs↔(xs.length == d.length && Kd.hass d xs)=true
 | [],_,[]=>by simp[yZ,Kd.hass]
 | [],_,x :: xs=>by simp[yZ]
 | k :: d,h,[]=>by simp[yZ]
 | k :: d,h,x :: xs=>by
  show x∈k.all/\yZ _ xs↔_;rw[uA d (λf e =>h f (a9 _ e)) xs,h k aa x];simp[Kd.hass];constructor
  ·rintro⟨a,b,c⟩;exact⟨b,a,c⟩
  ·rintro⟨a,b,c⟩;exact⟨b,a,c⟩
mutual
theorem ZU:∀(k:Kd) (x:T),x∈k.all↔k.has x=true
 | .whole lo hi,x=>by
  rw[Kd.all,Kd.has,aA];constructor
  ·rintro⟨i,a,rfl⟩
   rw[aT]at a;simp[oV];omega
  ·intro h;obtain⟨i,rfl⟩:=Qc h;simp[oV]at h;exact⟨(i - lo).toNat,by rw[aT];omega,by congr 1;omega⟩
 | .pick g,x=>by
  rw[Kd.all,Kd.has,aA];constructor
  ·rintro⟨c,d,rfl⟩
   simp only[fB];exact⟨c,d,by simp⟩
  ·intro h;dsimp only at h;split at h
   ·rw[fB]at h;obtain⟨c,d,e⟩:=h;exact⟨c,d,by rw[eq_of_beq e]⟩
   ·cases h
 | .row f,x=>by
  rw[Kd.all,Kd.has,WA,Kd.alls_map];have:=uA f (UW f);constructor
  ·rintro⟨xs,h,rfl⟩
   exact(this xs).mp h
  ·intro h;dsimp only at h;split at h
   ·rename_i xs;exact⟨xs,(this xs).mpr h,rfl⟩
   ·cases h
 | .many k lo hi,x=>by
  rw[Kd.all,Kd.has,di];constructor
  ·rintro⟨i,a,h⟩
   rw[WA]at h;obtain⟨xs,h,rfl⟩:=h;rw[WB]at h;rw[aT]at a;simp only[aj,decide_eq_true_eq,aJ];exact⟨⟨by omega,by omega⟩,λy hy=>(ZU k y).mp (h.2 y hy)⟩
  ·intro h;dsimp only at h;split at h
   ·rename_i xs;simp only[aj,decide_eq_true_eq,aJ]at h;refine⟨xs.length - lo,by rw[aT];omega, ?_⟩
    rw[WA];exact⟨xs,(WB _ _ _).mpr ⟨by omega,λy hy=>(ZU k y).mpr (h.2 y hy)⟩,rfl⟩
   ·cases h
theorem UW:∀(a:List Kd),∀k∈a,∀x,x∈k.all↔k.has x=true
 | [],_,h=>nomatch h
 | k :: a,c,h=>by
  rcases ak.mp h with e | h
  ·intro x;rw[e];exact ZU k x
  ·exact UW a c h
end
theorem wZ:∀(qs:List (Kd×T)) (x y:Sl),(∀q∈qs,c [q.1.t,q.2]= .ok (.bl (q.1.has q.2)))->zx (zN 0 1) zV (zb 2 c (za (vE 0) (za (vE 1) (ze)))) (qs.map λq=>T.tup [q.1.t,q.2]) [x,y]= .ok (qs.map λq=>T.bl (q.1.has q.2))
 | [],_,_,_=>rfl
 | q :: qs,x,y,h=>by
  have e:zb 2 c (za (vE 0) (za (vE 1) (ze))) [.vl q.1.t,.vl q.2]= .ok (.bl (q.1.has q.2)):=by
   rw[zt,v0,i3,v1,i3,h q aa]
  have a:=wZ qs (.vl q.1.t) (.vl q.2) λr hr=>h r (a9 _ hr);have d:zx (zN 0 1) zV (zb 2 c (za (vE 0) (za (vE 1) (ze)))) ((q :: qs).map λq=>T.tup [q.1.t,q.2]) [x,y]=
   (zb 2 c _ [.vl _,.vl q.2]).bind λv=>(zx _ _ _ (qs.map λq=>T.tup _) [.vl _,.vl q.2]).bind λvs=> .ok _:=rfl
  rw[d,e,i3,a,i3,ar]
theorem WC {a:Type}(p:a->Bool):∀qs:List a,WT (qs.map λq=>T.bl (p q))=some (qs.all p)
 | []=>rfl
 | q :: qs=>by
  have e:WT ((q :: qs).map λq=>T.bl (p q))=match WT (qs.map λq=>T.bl _) with | some j=>some _ | none=>none:=rfl
  rw[e,WC p qs];rfl
theorem gr (a:List Kd)(xs:List T):yG (a.map Kd.t) xs=(a.zip xs).map λq=>T.tup [q.1.t,q.2]:=by
 unfold yG;rw[List.zip_map_left,aZ];rfl
theorem UX (a:List Kd)(xs:List T)(i:jN s= .ok (a.map Kd.t))(d:a.length<=3)(H:∀q∈a.zip xs,c [q.1.t,q.2]= .ok (.bl (q.1.has q.2))):
  zk (tQ c (mB 2 [s,.tup xs]))= .ok (.bl ((a.zip xs).all λq=>q.1.has q.2)):=by
 have g:Yb (vE 0) (vE 1) [.vl s,.vl (.tup xs)]= .ok ((a.zip xs).map λq=>T.tup [q.1.t,q.2]):=by
  show (jN s).bind _=_;rw[i,← gr];rfl
 have e:((a.zip xs).map λq=>T.tup [q.1.t,q.2]).length<=mF:=by
  rw[ae,dE];exact av (mo _ _) (av d (by decide))
 have f:zq (zN 0 1) zV (zb 2 c (za (vE 0) (za (vE 1) (ze)))) 2 [] [.vl s,.vl (.tup xs)] ((a.zip xs).map λq=>T.tup [q.1.t,q.2])= .ok ((a.zip xs).map λq=>T.bl (q.1.has q.2)):=by
  unfold zq;rw[if_pos e];show quiet (zx _ _ _ _ [.un,.un])=_;rw[wZ _ _ _ H];rfl
 rw[tQ,zg]
 ·rfl
 ·show mw _ _ [.vl s,.vl _]=_;rw[Z8,zJ,g,i3,f,i3];show (match WT ((a.zip xs).map λq=>T.bl _) with | some k=>_ | none=>_)=_
  rw[WC]
theorem JG (a:List (Str×Int))(h:a.length<=4):nK [(Kd.pick a).t]= .ok (.lst (a.map λc=>T.str c.1)):=by
 have e:nK [(Kd.pick a).t]=zk (Av [.vl (.tup [.str "pick",.tup (a.map Jz)])]):=by rfl
 have d:(a.map Jz).length<=mF:=by rw[ae];exact av h (by decide)
 have f:zq _ _ (zd kj (vE 0) (cE (.int 0))) 1 [] [.vl (.tup [.str "pick",.tup (a.map Jz)])] _= .ok ((a.map Jz).map λc=>match c with | .tup (w :: _)=>w | _=>c):=
  zK _ d λt g=>by
   obtain⟨c,_,rfl⟩:=aA.mp g;rfl
 rw[e,Av,zg]
 ·rfl
 ·show zA _ _ _ _ _ _ [.vl _]=_;show ((zq _ _ _ _ _ _ _).bind _)=_;rw[f,aZ];rfl
theorem UY (t:T):∀a:List (Str×Int),Jo (λy=>mE 30 y t) (a.map λc=>T.str c.1)=some ((Kd.pick a).has t)
 | []=>by cases t <;> rfl
 | c :: a=>by
  have f:=UY t a;have e:Jo (λy=>mE 30 y t) ((c :: a).map λc=>T.str c.1)=match mE 30 _ t with
   | none=>none
   | some b=>match Jo (λy=>mE 30 y t) (a.map λc=>T.str c.1) with
    | none=>none
    | some d=>some _:=rfl
  rw[e,f];cases t <;> rfl
abbrev mG (a b:T):En:=[.vl a,.vl b]
theorem JH (h:(x == w)=false):mD (zp my (zd kj (vE 0) (cE (.int 0))) (cE (.str w))) f mC (mG (.tup (.str x :: r)) b)= .nx (mG (.tup (.str x :: r)) b):=
 zj (by rw[nL,h])
theorem Qp:mD (zp my (zd kj (vE 0) (cE (.int 0))) (cE (.str x))) f mC (mG (.tup (.str x :: r)) b)=f (mG (.tup (.str x :: r)) b):=
 jF (by rw[nL,beq_self_eq_true])
theorem Qq (lo hi:Int)(x:T):zk (oi nU nO nK cp (mB 2 [(Kd.whole lo hi).t,x]))= .ok (.bl ((Kd.whole lo hi).has x)):=by
 have e:mB 2 [(Kd.whole lo hi).t,x]=mG (.tup [.str "whole",.int lo,.int hi]) x:=by rfl
 rw[e,oi,zu]
 ·rfl
 ·rw[Qp,zg];show j8 _ _ (mG _ x)=_;rw[J8,zI,v1,i3,Wt];cases x with
  | int i=>
   rw[Q5,jE,i3,w1,i3,wJ,i3,Wz,i3,wJ];show _=R.ok (T.bl (decide _ && decide _));cases decide (lo<=i) <;> rfl
  | _=>rfl
theorem xr (a:List (Str×Int))(f:a.length<=4)(x:T):zk (oi nU nO nK cp (mB 2 [(Kd.pick a).t,x]))= .ok (.bl ((Kd.pick a).has x)):=by
 have e:mB 2 [(Kd.pick a).t,x]=mG (.tup [.str "pick",.tup (a.map Jz)]) x:=by rfl
 have d:=JG a f;rw[Kd.t]at d;rw[e,oi,zc (JH (by decide)),zu]
 ·rfl
 ·rw[Qp,zg];show ZL _ _ _ (mG _ x)=_;rw[Ze,w1,i3,zI,v0,i3,d];show ((match Jo (λy=>mE 30 y x) (a.map λ(c:Str×Int)=>T.str c.1) with | some b=>R.ok b | none=> .bad).bind _)=_
  rw[UY];rfl
theorem gu (a:List Kd)(d:a.length<=3)(x:T)(H:∀xs,x= .tup xs->cp [.tup (a.map Kd.t),x]= .ok (.bl ((a.zip xs).all λq=>q.1.has q.2))):zk (oi nU nO nK cp (mB 2 [(Kd.row a).t,x]))= .ok (.bl ((Kd.row a).has x)):=by
 have e:mB 2 [(Kd.row a).t,x]=mG (.tup [.str "row",.tup (a.map Kd.t)]) x:=by rw[Kd.t,Kd.ts_map];rfl
 rw[e,oi,zc (JH (by decide)),zc (JH (by decide)),zu]
 ·rfl
 ·rw[Qp,zg];show j8 _ _ (mG _ x)=_;have c:mw Z6 (zd kj (vE 0) (cE (.int 1))) (mG (.tup [.str "row",.tup (a.map Kd.t)]) x)= .ok (.int (a.length)):=by
   rw[Z8,jE,i3,jP,ae]
  rw[J8,Zb,v1,i3,c,i3,i3,ZH,Zw,zt,jE,i3,v1,i3];cases x with
  | tup xs=>
   rw[H xs rfl];show (if (decide _ && decide _)=true then _ else _)=R.ok (T.bl (xs.length == a.length && Kd.hass a xs))
   rw[JF]
   by_cases h:xs.length=a.length
   ·simp[h]
   ·rw[if_neg (by simp;omega)]
    simp[h]
  | _=>rfl
theorem Qr (k:Kd):∀xs:List T,((ag xs.length k).zip xs).all (λq=>q.1.has q.2)=xs.all k.has
 | []=>rfl
 | x :: xs=>by
  rw[aw,bv,dz,cX,cX,Qr k xs]
theorem xt (k:Kd)(lo hi:Nat)(f:hi<=3)(x:T)(H:∀xs,x= .tup xs->xs.length<=3->cp [.lst ((ag xs.length k).map Kd.t),x]= .ok (.bl (((ag xs.length k).zip xs).all λq=>q.1.has q.2))):zk (oi nU nO nK cp (mB 2 [(Kd.many k lo hi).t,x]))= .ok (.bl ((Kd.many k lo hi).has x)):=by
 have e:mB 2 [(Kd.many k lo hi).t,x]=mG (.tup [.str "many",k.t,.int (lo),.int (hi)]) x:=by rfl
 rw[e,oi,zc (JH (by decide)),zc (JH (by decide)),zc (JH (by decide)),zg]
 ·rfl
 ·show j8 _ _ (mG _ x)=_;rw[J8,Zb,v1,i3,Wz,i3,Gg,i3,ZH,Zw];cases x with
  | tup xs=>
   show (if (decide _ && decide _)=true then _ else _)=R.ok (T.bl (decide _ && decide _ && xs.all _))
   cases d:(decide (lo<=xs.length) && decide (xs.length<=hi)) with
   | false=>rfl
   | true=>
    rw[aj,decide_eq_true_eq,decide_eq_true_eq]at d;have a:xs.length<=3:=by omega
    have c:zd zU (Zc (za (zd kj (vE 0) (cE (.int 1))) (ze))) (mw Z6 (vB 1)) (mG (.tup [.str "many",k.t,.int (lo),.int (hi)]) (.tup xs))= .ok (.lst ((ag xs.length k).map Kd.t)):=by
     rw[zh,V2 jE,i3,Z8,w1,i3,jP,i3,wq a,ZP,aS]
    rw[zt,c,i3,v1,i3,H xs rfl a,Qr];rfl
  | _=>rfl
theorem Xz:∀(d n:Nat),2*d<=n->∀(k:Kd) (x:T),k.Ok d->n8 n 0 [k.t,x]= .ok (.bl (k.has x))
 | 0,_,_,_,_,h=>h.elim
 | d+1,n+2,hn,k,x,h=>by
  have g:=Xz d n (by omega)
  have e:n8 (n+2) 0 [k.t,x]=zk (oi nU nO nK (n8 (n+1) 1) (mB 2 [k.t,x])):=by rw[n8]
  have f:∀s y,n8 (n+1) 1 [s,y]=zk _:=λs y=>by rw[n8];intro h;cases h
  cases k with
  | whole lo hi=>exact Qq lo hi x
  | pick l=>exact xr l h.2.1 x
  | row i=>
   refine gu i h.2.1 x λxs a=> ?_;rw[f,a,UX i xs rfl h.2.1 λq c=>g q.1 q.2 (h.2.2 q.1 (c8 c).1)]
  | many k lo hi=>
   refine xt k lo hi h.2.1 x λxs a j=> ?_;rw[f,a,UX _ xs rfl (by rw[aV];exact j) λq c=>g q.1 q.2 (by
    rw[bF (c8 c).1];exact h.2.2)]
theorem Qs:∀(d:Nat) (k:Kd),k.Ok d->nF d k.t=true
 | 0,_,h=>h.elim
 | d+1,.whole lo hi,h=>by
  have e:nF (d+1) (Kd.whole lo hi).t=(decide (-20<=lo) && decide (lo<=hi) && decide (hi<=20)):=by rfl
  obtain⟨j,i,g⟩:=h;rw[e];simp;omega
 | d+1,.pick f,h=>by
  have e:nF (d+1) (Kd.pick f).t=(decide (1<=(f.map Jz).length) && decide ((f.map Jz).length<=4) && (f.map Jz).all zX && decide ((dd [] ((f.map Jz).map j7)).length=(f.map Jz).length)):=by rfl
  obtain⟨j,i,g,u⟩:=h;have q:(f.map Jz).map j7=f.map (·.1):=by rw[aZ];rfl
  have v:=(Ww _ []).mpr λk w r=>by simpa using u k w r
  rw[e,q,v,ae];simp only[aj,decide_eq_true_eq,aJ];refine⟨⟨⟨j,i⟩,λc o=> ?_⟩,by simp⟩
  obtain⟨p,hp,rfl⟩:=aA.mp o;obtain⟨a,b,c⟩:=g p hp;show (Zr _ && decide _ && decide _)=true;rw[a];simp;omega
 | d+1,.row l,h=>by
  have e:nF (d+1) (Kd.row l).t=(decide (1<=(l.map Kd.t).length) && decide ((l.map Kd.t).length<=3) && (l.map Kd.t).all (nF d)):=by rw[Kd.t,Kd.ts_map];rfl
  obtain⟨j,i,g⟩:=h;rw[e,ae];simp only[aj,decide_eq_true_eq,aJ];refine⟨⟨j,i⟩,λc o=> ?_⟩;obtain⟨k,x,rfl⟩:=aA.mp o;exact Qs d k (g k x)
 | d+1,.many k lo hi,h=>by
  have e:nF (d+1) (Kd.many k lo hi).t=((decide ((0:Int)<=(lo:Int)) && decide ((lo:Int)<=(hi)) && decide ((hi:Int)<=3)) && nF d k.t):=by rfl
  obtain⟨j,i,g⟩:=h;rw[e,Qs d k g];simp;omega
theorem UZ:∀(a:List Kd) (xs:List T),xs.length=a.length->Kd.hass a xs=true->∀x∈xs,∃k∈a,k.has x=true
 | [],[],_,_,_,h=>nomatch h
 | k :: a,[],h,_,_,_=>by cases h
 | [],x :: xs,h,_,_,_=>by cases h
 | k :: a,x :: xs,c,h,y,hy=>by
  rw[Kd.hass]at h;rw[aj]at h;rcases ak.mp hy with rfl | hy
  ·exact⟨k,aa,h.1⟩
  ·obtain⟨d,e,f⟩:=UZ a xs (by simpa using c) h.2 y hy
   exact⟨d,a9 _ e,f⟩
theorem y0 {k o:Type}(f:k->List o)(m:Nat):∀(c:List k) (i j:Nat),(∀a∈c,(f a).length=m)->j < m->(c.flatMap f)[i*m+j]? =(c[i]?).bind λa=>(f a)[j]?
 | [],i,j,_,_=>by simp
 | a :: c,0,j,h,d=>by
  have g:=h a aa;rw[bW,Nat.zero_mul,fZ,aY (by omega)]
  rfl
 | a :: c,i+1,j,h,d=>by
  have g:=h a aa;have e:(i+1)*m=i*m+m:=by rw[fO,cz]
  rw[bW,aR (by omega),g,e,show i*m+m+j - m=i*m+j by omega,y0 f m c i j (λb l=>h b (a9 _ l)) d]
  rfl
theorem uB {g i:Type}(f:g->List i):∀(c:List g) (q j:Nat) (a:g),c[q]? =some a->j < (f a).length->(c.flatMap f)[((c.take q).map λb=>(f b).length).sum+j]? =(f a)[j]?
 | [],q,j,a,h,_=>by simp at h
 | b :: c,0,j,a,h,d=>by
  have e:=by simpa using h
  subst e;rw[bW,List.take_zero,bI,List.sum_nil,fZ,aY d]
 | b :: c,q+1,j,a,h,d=>by
  rw[bW,lg,ar,cg,Nat.add_assoc,aR (by omega),Nat.add_sub_cancel_left]
  exact uB f c q j a (by simpa using h) d
theorem W1:∀(d c:List (List T)) (l:List T),ZB c (d++[l])=(ZB c d).flatMap λa=>l.map λx=>a++[x]
 | [],c,l=>rfl
 | _ :: d,c,l=>by
  rw[fE,ZB,ZB,W1 d]
theorem xu {d:List (List T)}(h:(ZB [[]] d)[i]? =some xs)(c:l[j]? =some x):(ZB [[]] (d++[l]))[i*l.length+j]? =some (xs++[x]):=by
 have e:=(ay.mp c).1;rw[W1,y0 _ _ _ i j (λa _=>ae ..) e,h];show (l.map λx=>xs++[x])[j]? =_;rw[ao,c];rfl
theorem ya:∀(a:List Nat) (n:Nat),mR (a++[n])=mR a*n
 | [],n=>by simp[mR]
 | m :: a,n=>by rw[fE,mR,mR,ya a n,dF]
theorem W2 (a:List (List T)):(ZB [[]] a).length=mR (a.map (·.length)):=by rw[wm,aK,cz]
theorem jG {a:Type}{xs:List a}(h:i < xs.length):∃x,xs[i]? =some x:=⟨_,ah h⟩
theorem EY {xs:List T}{j:Nat}{v:T}(h:xs[j]? =some v):mS xs (j:Int)= .ok v:=by unfold mS;rw[Zv h]
noncomputable def nE (c lo q:Nat):Nat:=((aN q).map λi=>c ^ (lo+i)).sum
theorem xv (c lo q:Nat):nE c lo (q+1)=nE c lo q+c ^ (lo+q):=by
 unfold nE;rw[iN,cM];simp
theorem gy (a:q < hi+1 - lo)(h:(ZB [[]] (ag (lo+q) k.all))[j]? =some xs):(Kd.many k lo hi).all[nE k.all.length lo q+j]? =some (.tup xs):=by
 have d:=(ay.mp h).1;have e:=uB (λi=>Yd (ag _ _)) _ q j q (by rw[c_ a]) (by rw[ae];exact d)
 have c:(((aN (hi+1 - lo)).take q).map λb=>(Yd (ag (lo+b) k.all)).length).sum=nE k.all.length lo q:=by
  rw[List.take_range,fU (iG a),nE];congr 1
  refine c6 λi _=> ?_;rw[JE,aS,jj]
 rw[c]at e;rw[Kd.all,e];rw[ao,h];rfl
abbrev Aa (c:List T->R T):En->RS:=zC 1 (zd zU (vE 1) (zb 1 c (za (vE 2) (ze))))
theorem Qt:∀(d:List Kd) (m:Nat) (x:Sl),(∀k∈d,c [k.t]= .ok (.int (k.all.length:Int))/\1<=k.all.length)->m*mR (d.map λk=>k.all.length) < 2 ^ 60->
  ∃y,Zu (zw 2) (Aa c) (d.map Kd.t) [S,.vl (.int (m:Int)),x]= .nx [S,.vl (.int ((m*mR (d.map λk=>k.all.length):Nat):Int)),y]
 | [],m,x,_,_=>⟨x,by simp[Zu,mR]⟩
 | k :: d,m,x,H,f=>by
  obtain⟨g,i⟩:=H k aa;have hp:=wl λn hn=>by
   obtain⟨e,a,rfl⟩:=aA.mp hn;exact(H e (a9 _ a)).2
  rw[ar,mR,← dF]at f;have l:m < 2 ^ 60:=by
   have p:m<=m*k.all.length:=dh _ i;have q:m*k.all.length<=m*k.all.length*mR (d.map λk=>k.all.length):=dh _ hp;omega
  have j:Aa c [S,.vl (.int (m)),.vl k.t]= .nx [S,.vl (.int ((m*k.all.length:Nat))),.vl k.t]:=by
   rw[Aa,zE]
   ·rfl
   ·rw[zh,v1,i3,zI,v2,i3,g,i3,Qi l]
  obtain⟨y,o⟩:=Qt (S:=S) d _ _ (λe a =>H e (a9 _ a)) f;refine⟨y, ?_⟩;rw[ar,ZI rfl j,o,ar,mR,dF]
theorem wv (a:List Kd)(g:JW s= .ok (a.map Kd.t))(H:∀k∈a,c [k.t]= .ok (.int (k.all.length:Int))/\1<=k.all.length)(d:mR (a.map λk=>k.all.length) < 2 ^ 60):
  zk (rF c (mB 3 [s]))= .ok (.int ((mR (a.map λk=>k.all.length):Nat):Int)):=by
 obtain⟨y,e⟩:=Qt a 1 .un H (by rw[cz];exact d)
 rw[cz]at e;have i:zC 1 (cE (.int 1)) [.vl s,.un,.un]= .nx [.vl s,.vl _,.un]:=rfl;have f:ZD (Z5 (vE 0)) (zw 2) (Aa c) [.vl s,.vl (.int 1),.un]= .nx [.vl s,.vl (.int ((mR (a.map λk=>k.all.length)):Int)),y]:=by
  show ((JW s).s λts=>Zu _ _ ts _)=_;rw[g];exact e
 show zk (rF c [.vl s,.un,.un])=_;rw[rF,zc i,zc f];rfl
theorem Qu {c:Type}(g:c->Nat):∀l:List c,Z2 (l.map λa=>T.int ((g a:Nat):Int))=some (l.map λa=>((g a:Nat):Int))
 | []=>rfl
 | a :: l=>by
  show (match Z2 (l.map λa=>T.int _) with | some l=>some _ | none=>none)=_
  rw[Qu g l];rfl
theorem yb {c:Type}(g:c->Nat):∀l:List c,(l.map λa=>((g a:Nat):Int)).sum=(((l.map g).sum:Nat):Int)
 | []=>rfl
 | a :: l=>by rw[ar,cg,ar,cg,yb g l];omega
theorem Fp {c:Type}(g:c->Nat)(l:List c):qh (.lst (l.map λa=>T.int ((g a:Nat):Int)))= .ok (.int (((l.map g).sum:Nat):Int)):=by
 unfold qh;dsimp only;rw[Qu,← yb]
theorem Jc (k:Kd)(m:Nat):((ag m k).map λk=>k.all.length)=ag m k.all.length:=by rw[aS]
theorem Qv (o:lo+q<=4)(H:∀m,m<=3->c [.lst (ag m t)]= .ok (.int ((n ^ m:Nat):Int))):
  zk (rD c (mB 2 [mt t lo hi,.int ((lo+q:Nat):Int)]))= .ok (.int ((nE n lo q:Nat):Int)):=by
 have k:Jy (zd kj (vE 0) (cE (.int 2))) (vE 1) [.vl (mt t lo hi),.vl (.int ((lo+q:Nat)))]= .ok (rng (lo) q):=by
  rw[U8 rfl rfl ⟨by omega,by omega,by omega,by omega⟩]
  congr 2;omega
 have e:zq _ _ (zb 1 c (za (zd _ _ _) _)) 1 [0] [.vl _,.vl (.int ((lo+q:Nat)))] _= .ok ((rng (lo) q).map λx=>match x with | .int i=>T.int ((n ^ i.toNat:Nat)) | y=>y):=
  zK _ (by unfold rng;rw[ae,bJ];have:mF=16777216:=rfl;omega) λx f=>by
   obtain⟨i,a,rfl⟩:=aA.mp f;have l:=aT.mp a;show zb 1 c _ [.vl _,.vl _]=_;have d:zd zU (Zc (za (zd kj (vE 1) (cE (.int 1))) (ze))) (vE 0) [.vl (.int ((lo)+(i))),.vl (mt t lo hi)]= .ok (.lst (ag (lo+i) t)):=by
    have j:zd kj (vE 1) (cE (.int 1)) [.vl (.int ((lo)+(i))),.vl (mt t lo hi)]= .ok t:=rfl;rw[zh,V2 j,i3,v0,i3,show (lo:Int)+(i)=((lo+i:Nat)) by omega,wq (by omega),ZP]
   rw[zI,d,i3,H _ (by omega)]
   show _=R.ok (T.int _);rw[show ((lo:Int)+(i)).toNat=lo+i by omega]
 rw[rD,zg]
 ·rfl
 ·show mw _ _ [.vl _,.vl _]=_;rw[Z8,zJ,k,i3,e,i3,i3];have g:((rng (lo) q).map λx=>match x with | .int i=>T.int ((n ^ i.toNat:Nat)) | y=>y)=(aN q).map λi=>T.int ((n ^ (lo+i):Nat)):=by
   unfold rng;rw[aZ];refine c6 λi _=> ?_;show T.int _=_;rw[show ((lo:Int)+(i)).toNat=lo+i by omega]
  rw[g,Fp (λi=>n ^ (lo+i))];rfl
theorem XA (h:n<=mx d)(hd:d<=2)(c:m<=3):n ^ m < 2 ^ 60:=by
 have a:mx d<=70644:=by
  have:d=0\/d=1\/d=2:=by omega
  rcases this with rfl | rfl | rfl <;> decide
 have e:=av (Nat.pow_le_pow_left (av h a) m) (bN (by omega) c)
 omega
theorem yc:∀(d n:Nat),3*d<=n->d<=3->∀k:Kd,k.Ok d->nS n 0 [k.t]= .ok (.int (k.all.length:Int))
 | 0,_,_,_,_,h=>h.elim
 | d+1,n+3,hn,hd,k,h=>by
  have r:=yc d n (by omega) (by omega)
  have g:=yc d (n+1) (by omega) (by omega)
  have e:nS (n+3) 0 [k.t]=zk (AL _ _ [.vl k.t]):=rfl;have q:∀s u,nS (n+2) 2 [s,u]=zk _:=λs u=>rfl;rw[e,AL];cases k with
  | whole lo hi=>
   obtain⟨i,f,a⟩:=h;rw[jk];simp only[Kd.t];rw[zu (t:= .int _)]
   ·rfl
   ·rw[jF (by rw[nL,beq_self_eq_true]),zg]
    show R.ok _=_;congr 2;omega
  | pick w=>
   rw[Wy];simp only[Kd.t];rw[zc (zj (by rfl)),zu]
   ·rfl
   ·rw[jF (by rw[nL,beq_self_eq_true]),zg]
    show R.ok _=_;rw[ae]
  | row l=>
   obtain⟨i,f,a⟩:=h;rw[Jh];simp only[Kd.t];rw[Kd.ts_map,zc (zj (by rfl)),zc (zj (by rfl)),zu]
   ·rfl
   ·rw[jF (by rw[nL,beq_self_eq_true]),zg]
    have j:=jD (d+1) (.row l) ⟨i,f,a⟩;rw[Jh]at j;exact wv l rfl (λk o=>⟨g k (a k o),ZT d k (a k o)⟩) (DN j hd)
  | many k lo hi=>
   obtain⟨i,f,a⟩:=h;rw[jx];simp only[Kd.t];rw[zc (zj (by rfl)),zc (zj (by rfl)),zc (zj (by rfl)),zg]
   ·rfl
   ·show zb 2 _ _ [.vl _]=_;rw[zt,v0,i3,U7 Gg,i3,q,show (hi:Int)+1=((lo+(hi+1 - lo):Nat)) by omega]
    refine Qv (by omega) λm p=> ?_
    have hp:mR ((ag m k).map λk=>k.all.length)=k.all.length ^ m:=by rw[Jc,jj]
    rw[← hp];refine wv _ (by rw[aS];rfl) (λv c => ?_) (by rw[hp];exact XA (jD d k a) (by omega) p)
    rw[bF c];exact⟨r k a,ZT d k a⟩
theorem jw {d:Nat}(hd:d<=3){k:Kd}(h:k.Ok d):pA 20 [k.t]= .ok (.int (k.all.length:Int)):=yc d 20 (by omega) hd k h
theorem yd {d:Nat}(hd:d<=2){k:Kd}(h:k.Ok d){lo hi q:Nat}(c:lo+q<=4):pQ 20 [mt k.t lo hi,.int ((lo+q:Nat):Int)]= .ok (.int ((nE k.all.length lo q:Nat):Int)):=by
 have e:pQ 20 [mt k.t lo hi,.int ((lo+q:Nat))]=zk (rD (nS 19 1) (mB 2 [mt k.t lo hi,.int ((lo+q):Int)])):=rfl;rw[e];refine Qv c λm f=> ?_;have hp:mR ((ag m k).map λk=>k.all.length)=k.all.length ^ m:=by rw[Jc,jj]
 rw[← hp];refine wv _ (by rw[aS];rfl) (λg a => ?_) (by rw[hp];exact XA (jD d k h) hd f)
 rw[bF a];exact⟨yc d 18 (by omega) (by omega) k h,ZT d k h⟩
abbrev AQ (cc cw:List T->R T):En->RS:=zn (zC 5 (zb 1 cc (za (vE 4) (ze))))
  (zn (Us 2 (zb 2 cw (za (vE 4) (za (zd jL (vE 3) (vE 5)) (ze)))))
  (zC 3 (zd Wb (vE 3) (vE 5))))
structure se (cc cw:List T->R T) (k:Kd):Prop where
 cnt:cc [k.t]= .ok (.int (k.all.length:Int))
 at_:∀(i:Nat) x,k.all[i]? =some x->cw [k.t,.int (i:Int)]= .ok x
 pos:1<=k.all.length
 le:k.all.length < 1000000
theorem D3 :vE 5 (a :: b :: c :: d :: e :: .vl t :: ρ)= .ok t:=rfl
theorem Qw {n c:Nat}(h:1<=c):jL (.int (n:Int)) (.int (c:Int))= .ok (.int ((n % c:Nat):Int)):=by
 unfold jL;dsimp only;rw[if_pos (by omega)];rfl
theorem gz {n c:Nat}(h:1<=c)(h' :c < 1000000):Wb (.int (n:Int)) (.int (c:Int))= .ok (.int ((n / c:Nat):Int)):=by
 unfold Wb;dsimp only;rw[if_pos (by omega)];rfl
theorem Qx (hi:ρ[i]? =some (.ow ts))(a:ts.length < mF)(h:f ρ= .ok t):Us i f ρ= .nx (ρ.set i (.ow (ts++[t]))):=by
 unfold Us;rw[hi];dsimp only;rw[h,j1,if_pos a]
theorem Qy {d e:List T->R T}{S N:Sl}:∀(rs:List Kd) (acc:List T) (n:Nat) (x y:Sl),(∀k∈rs,se d e k)->n < mR (rs.map λk=>k.all.length)->acc.length+rs.length<=1000->
  ∃xs r f l,(ZB [[]] (rs.reverse.map Kd.all))[n]? =some xs/\Zu (zw 4) (AQ d e) (rs.map Kd.t) [S,N,.ow acc,.vl (.int (n:Int)),x,y]= .nx [S,N,.ow (acc++xs.reverse),r,f,l]
 | [],acc,n,x,y,_,hn,_=>⟨[],.vl (.int (n)),x,y,by
   have:=by simp[mR]at hn;exact hn
   subst this;rfl,by simp[Zu]⟩
 | k :: rs,acc,n,x,y,H,hn,p=>by
  obtain⟨B,w,i,j⟩:=H k aa;rw[aw]at p;have I:mF=16777216:=rfl;have a:n % k.all.length < k.all.length:=mv _ i;obtain⟨v,o⟩:=jG a;have c:=Nat.div_lt_of_lt_mul hn;obtain⟨xs,r,f,l,q,C⟩:=Qy rs (acc++[v]) _ _ _ (λD g =>H D (a9 _ g)) c (by rw[az,aK];omega)
  have F:zC 5 (zb 1 d (za (vE 4) (ze))) [S,N,.ow acc,.vl (.int (n)),.vl k.t,y]= .nx [S,N,.ow acc,.vl (.int (n)),.vl k.t,.vl (.int (k.all.length))]:=by
   rw[zE]
   ·rfl
   ·rw[zI,v4,i3,B]
  have b2:Us 2 (zb 2 e (za (vE 4) (za (zd jL (vE 3) (vE 5)) (ze)))) [S,N,.ow acc,.vl (.int (n)),.vl k.t,.vl (.int (k.all.length))]= .nx [S,N,.ow (acc++[v]),.vl (.int (n)),.vl k.t,.vl (.int (k.all.length))]:=by
   rw[Qx rfl (by omega)]
   ·rfl
   ·rw[zt,v4,i3,zh,v3,i3,D3,i3,Qw i,i3,w _ v o]
  have G:zC 3 (zd Wb (vE 3) (vE 5)) [S,N,.ow (acc++[v]),.vl (.int (n)),.vl k.t,.vl (.int (k.all.length))]= .nx [S,N,.ow (acc++[v]),.vl (.int ((n / k.all.length:Nat))),.vl k.t,.vl (.int (k.all.length))]:=by
   rw[zE]
   ·rfl
   ·rw[zh,v3,i3,D3,i3,gz i j]
  have u:AQ d e [S,N,.ow acc,.vl (.int (n)),.vl k.t,y]= .nx [S,N,.ow (acc++[v]),.vl (.int ((n / k.all.length:Nat))),.vl k.t,.vl (.int (k.all.length))]:=by
   rw[AQ,zc F,zc b2,G]
  refine⟨xs++[v],r,f,l, ?_, ?_⟩
  ·have:=xu q o;rw[dm,Nat.div_add_mod]at this;rw[cR,cM];exact this
  ·rw[ar,ZI rfl u,C];simp
theorem Qz:∀a:List Nat,mR a.reverse=mR a
 | []=>rfl
 | n :: a=>by rw[cR,ya,Qz a,mR,dm]
theorem ww {j o:List T->R T}{s:T}(e:List Kd)(v:jN s= .ok (e.map Kd.t))(N:e.length<=3)(H:∀k∈e,se j o k){n:Nat}{xs:List T}(q:(ZB [[]] (e.map Kd.all))[n]? =some xs):
  zk (rh j o (mB 6 [s,.int (n:Int)]))= .ok (.tup xs):=by
 have hn:=(ay.mp q).1;rw[W2,aZ]at hn;have hr:(e.reverse.map λk=>k.all.length)=(e.map λk=>k.all.length).reverse:=by rw[md]
 obtain⟨O,r,B,M,u,F⟩:=Qy _ [] n .un .un (λk y=>H k (List.mem_reverse.mp y)) (by rw[hr,Qz];exact hn) (by rw[cu,cN];omega)
 rw[i_,q]at u;cases u;have w:uO 2 (ze) [.vl s,.vl (.int (n)),.un,.un,.un,.un]= .nx [.vl s,.vl _,.ow [],.un,.un,.un]:=rfl;have J:zC 3 (vE 1) [.vl s,.vl (.int (n)),.ow [],.un,.un,.un]= .nx [.vl s,.vl _,.ow [],.vl _,.un,.un]:=rfl;have I:ZD (Dx (vE 0)) (zw 4) (AQ j o) [.vl s,.vl (.int (n)),.ow [],.vl (.int (n)),.un,.un]= .nx [.vl s,.vl (.int (n)),.ow xs.reverse,r,B,M]:=by
  show (((jN s).bind λxs=>R.ok _).s λts=>Zu _ _ ts _)=_;rw[v,i3,← md];exact F
 have f:xs.reverse.length<=mF:=by
  have:∀(i d:List _) (m:Nat),(∀a∈d,a.length<=m)->∀a∈ZB d i,a.length<=m+i.length:=by
   intro i
   induction i with
   | nil=>intro d m h a g;exact h a g
   | cons l i G=>
    intro d m h a g;have:=G (d.flatMap λa=>l.map λx=>a++[x]) (m+1) (λb p=>by
     obtain⟨c,C,p⟩:=di.mp p;obtain⟨z,_,rfl⟩:=aA.mp p;have:=h c C;rw[az,aK];omega) a g
    rw[aw];omega
  have D:=this _ _ 0 (λa g=>by rw[aq.mp g];exact am _) xs (bg q)
  rw[ae]at D;rw[cu];have p:mF=16777216:=rfl;omega
 show zk (rh j o [.vl s,.vl _,.un,.un,.un,.un])=_;rw[rh,zc w,zc J,zc I,zg]
 ·rfl
 ·show VG (.lst _)=_;unfold VG;dsimp only;rw[if_pos f,i_]
abbrev o5:En->R Bool:=zp mL (zb 2 (pQ 20) (za (vE 0) (za (zd zv (vE 2) (cE (.int 1))) (ze)))) (vB 1)
abbrev pG:En->RS:=zC 2 (zd zv (vE 2) (cE (.int 1)))
theorem HB:vB 1 (a :: .vl t :: ρ)= .ok t:=rfl
theorem QA {d:Nat}(hd:d<=2){k:Kd}(h:k.Ok d){lo hi n:Nat}(j:lo<=hi)(i:hi<=3)(hn:n < nE k.all.length lo (hi+1 - lo)):∀(f q:Nat),q<=hi - lo->hi - lo - q < f->nE k.all.length lo q<=n->
  ∃c,c <=hi - lo/\nE k.all.length lo c <=n/\n < nE k.all.length lo (c +1)/\Zo o5 pG f [.vl (mt k.t lo hi),.vl (.int (n:Int)),.vl (.int ((lo+q:Nat):Int))]= .nx [.vl (mt k.t lo hi),.vl (.int (n:Int)),.vl (.int ((lo+c :Nat):Int))]
 | 0,q,_,o,_=>by omega
 | f+1,q,p,o,g=>by
  have l:o5 [.vl (mt k.t lo hi),.vl (.int (n)),.vl (.int ((lo+q:Nat)))]= .ok (decide (nE k.all.length lo (q+1)<=n)):=by
   rw[o5,zB,zt,v0,i3,U7 v2,i3,show ((lo+q:Nat):Int)+1=((lo+(q+1):Nat)) by omega,yd hd h (by omega),i3,HB,i3,wJ,wY]
  have v:Zo o5 pG (f+1) [.vl (mt k.t lo hi),.vl (.int (n)),.vl (.int ((lo+q:Nat)))]=(o5 _).s λu =>if u =true then match pG [.vl _,.vl _,.vl (.int _)] with
    | .nx ρ2=>Zo o5 pG f ρ2
    | .ct ρ2=>Zo o5 pG f ρ2
    | .bk ρ2=> .nx ρ2
    | r=>r
   else .nx _:=rfl
  rw[v,l,j1]
  by_cases a:nE k.all.length lo (q+1)<=n
  ·rw[if_pos (decide_eq_true a)];have e:q+1<=hi - lo:=by
    rcases Nat.lt_or_ge q _ with z | z
    ·exact z
    ·have:q=hi - lo:=by omega
     rw[this,show hi - lo+1=hi+1 - lo by omega]at a
     omega
   have w:pG [.vl (mt k.t lo hi),.vl (.int (n)),.vl (.int ((lo+q:Nat)))]= .nx [.vl (mt k.t lo hi),.vl (.int (n)),.vl (.int ((lo+(q+1):Nat)))]:=by
    rw[pG,zE]
    ·rfl
    ·rw[U7 v2,show ((lo+q:Nat):Int)+1=((lo+(q+1):Nat)) by omega]
   exact QA hd h j i hn f _ e (by omega) a
  ·rw[if_neg (by simpa using a)]
   exact⟨q,p,g,by omega,rfl⟩
theorem HX {i j:Nat}(h:j<=i):jK (.int (i:Int)) (.int (j:Int))= .ok (.int ((i - j:Nat):Int)):=by
 rw[Zf];congr 2;omega
theorem Y0 {d:Nat}(hd:d<=2){k:Kd}(h:k.Ok d){cp:List T->R T}{lo hi n:Nat}(p:lo<=hi)(o:hi<=3)(hn:n < nE k.all.length lo (hi+1 - lo))
  (H:∀(m:Nat),m<=3->∀(j:Nat) (xs:List T),(ZB [[]] (ag m k.all))[j]? =some xs->cp [.lst (ag m k.t),.int (j:Int)]= .ok (.tup xs)):
  ∃x,(Kd.many k lo hi).all[n]? =some x/\zk (sI (pQ 20) cp (mB 3 [mt k.t lo hi,.int (n:Int)]))= .ok x:=by
 obtain⟨q,u,g,a,e⟩:=QA hd h p o hn 8 0 (by omega) (by omega) (by unfold nE;simp)
 rw[xv]at a;have l:n - nE k.all.length lo q < (ZB [[]] (ag (lo+q) k.all)).length:=by
  rw[W2,aS,jj];omega
 obtain⟨xs,f⟩:=jG l;have c:=gy (hi:=hi) (by omega) f
 rw[show nE _ lo q+(n - nE _ lo q)=n by omega]at c
 refine⟨_,c, ?_⟩;have r:zC 2 (zd kj (vE 0) (cE (.int 2))) [.vl (mt k.t lo hi),.vl (.int (n:Int)),.un]= .nx [.vl _,.vl _,.vl (.int ((lo+0:Nat)))]:=rfl;show zk (sI _ cp [.vl _,.vl _,.un])=_;rw[sI,zc r,zc e,zg]
 ·rfl
 ·show zb 2 cp _ [.vl _,.vl _,.vl _]=_;have i:zd zU (Zc (za (zd kj (vE 0) (cE (.int 1))) (ze))) (vE 2) [.vl (mt k.t lo hi),.vl (.int (n)),.vl (.int ((lo+q:Nat)))]= .ok (.lst (ag (lo+q) k.t)):=by
   rw[zh,V2 jE,i3,v2,i3,wq (by omega),ZP]
  rw[zt,i,i3,zh,v1,i3,zt,v0,i3,v2,i3,yd hd h (by omega),i3,HX g,i3,H _ (by omega) _ xs f]
theorem QB {d:Nat}(hd:d<=2){k:Kd}(h:k.Ok d):k.all.length < 1000000:=by
 have c:=jD d k h;have a:mx d<=70644:=by
  have:d=0\/d=1\/d=2:=by omega
  rcases this with rfl | rfl | rfl <;> decide
 omega
theorem jQ:∀(d n:Nat),3*d<=n->d<=3->∀k:Kd,k.Ok d->∀(i:Nat) (x:T),k.all[i]? =some x->nY n 0 [k.t,.int (i:Int)]= .ok x
 | 0,_,_,_,_,h=>h.elim
 | d+1,n+3,hn,hd,k,h=>by
  intro i x a;have B:=jQ d n (by omega) (by omega)
  have q:=jQ d (n+1) (by omega) (by omega)
  have e:nY (n+3) 0 [k.t,.int (i:Int)]=zk (tj nK _ _ (mG k.t (.int (i:Int)))):=rfl;have f :=(ay.mp a).1;rw[e,tj];cases k with
  | whole lo hi=>
   rw[Kd.all,ao]at a;rw[jk]at f;rw[c_ f]at a;cases a;rw[zu]
   ·rfl
   ·rfl
  | pick C=>
   have r:=JG C h.2.1;simp only[Kd.t]at r ⊢;rw[zc (JH (by decide)),zu]
   ·rfl
   ·rw[Qp,zg];show zd kj _ _ (mG _ _)=_;rw[zh,zI,v0,i3,r,v1];exact EY a
  | row y=>
   obtain⟨u,p,c⟩:=h;rw[Kd.all,Kd.alls_map,ao]at a;cases hr:(ZB _ _)[i]? with
   | none=>rw[hr]at a;cases a
   | some xs=>
    rw[hr]at a;cases a;simp only[Kd.t];rw[Kd.ts_map,zc (JH (by decide)),zc (JH (by decide)),zu]
    ·rfl
    ·rw[Qp,zg];refine ww y rfl p (λk l=>⟨jw (by omega) (c k l),q k (c k l),ZT d k (c k l),QB (by omega) (c k l)⟩) hr
  | many k lo hi=>
   obtain⟨u,p,c⟩:=h;rw[jx]at f;obtain⟨D,g,v⟩:=Y0 (cp:=nY (n+1) 2) (by omega) c u p f (λm w j xs hr=>by
    refine ww _ (by rw[aS];rfl) (by rw[aV];exact w) (λF o => ?_) (by rw[aS];exact hr)
    rw[bF o];exact⟨jw (by omega) c,B k c,ZT d k c,QB (by omega) c⟩)
   rw[a]at g;cases g;simp only[Kd.t];rw[zc (JH (by decide)),zc (JH (by decide)),zc (JH (by decide)),zg]
   ·rfl
   ·show zb 2 _ _ (mG _ _)=_;rw[zt,v0,i3,v1,i3];exact v
theorem Hq {k:Kd}(h:k.Ok 3){i:Nat}{x:T}(a:k.all[i]? =some x):sE 20 [k.t,.int (i:Int)]= .ok x:=jQ 3 20 (by omega) (by omega) k h i x a
theorem QC (x:Str):∀a:List (Str×Int),oA (.str x) (a.map λc=>T.str c.1)=some (a.map λc=>c.1 == x)
 | []=>rfl
 | c :: a=>by
  show (match mE 30 (.str c.1) (.str x) with
   | none=>none
   | some b=>match oA _ (a.map λ(c:Str×Int)=>T.str c.1) with
    | none=>none
    | some bs=>some _)=_
  rw[QC x a];rfl
theorem uC:∀(bs:List Bool) (i:Nat),bs[i]? =some true->(∀j,j < i->bs[j]? =some false)->bs.idxOf true=i
 | [],i,h,_=>by simp at h
 | b :: bs,0,h,_=>by
  have:=by simpa using h
  subst this;rfl
 | b :: bs,i+1,h,a=>by
  have c:=by simpa using a 0 (by omega)
  subst c;have:=uC bs i (by simpa using h) λj h' =>by simpa using a (j+1) (by omega)
  rw[List.idxOf_cons,this];rfl
theorem xw {a:List (Str×Int)}(hd:Dst (a.map (·.1))){i:Nat}{c:Str×Int}(h:a[i]? =some c):Xc (.str c.1) (a.map λc=>T.str c.1)= .ok (.int (i:Int)):=by
 unfold Xc;rw[QC];dsimp only;have hi:=(ay.mp h).1;have f:(a.map λd=>d.1 == c.1)[i]? =some true:=by rw[ao,h];simp
 rw[if_pos (bg f),uC _ i f λj l=> ?_];rw[ao];cases g:a[j]? with
 | none=>rw[List.getElem?_eq_none_iff]at g;omega
 | some d=>
  have k:=hd i c.1 (by rw[ao,h];rfl)
  have:d.1 ≠ c.1:=λe=>k (by
   rw[← e];refine bg (i:=j) ?_;rw[eA l,ao,g];rfl)
  show some (d.1 == c.1)=some _;rw[beq_eq_false_iff_ne.mpr this]
noncomputable def Pl:Nat->T->Prop
 | 0,_=>False
 | n+1,.tup xs=>∀x∈xs,Pl n x
 | n+1,.lst xs=>∀x∈xs,Pl n x
 | _+1,.fz _=>False
 | _+1,_=>True
theorem JI {f:T->T->Option Bool}:∀(xs a:List T),(∀x∈xs,∀y,∃b,f x y=some b)->∃b,nu f xs a=some b
 | [],[],_=>⟨_,rfl⟩
 | [],_ :: _,_=>⟨_,rfl⟩
 | _ :: _,[],_=>⟨_,rfl⟩
 | x :: xs,y :: a,h=>by
  obtain⟨b,d⟩:=h x aa y;obtain⟨c,e⟩:=JI xs a λz hz=>h z (a9 _ hz);exact⟨b && c,by unfold nu;rw[d,e]⟩
theorem Zl {f:T->T->Option Bool}:∀(xs:List T),(∀x∈xs,f x x=some true)->nu f xs xs=some true
 | [],_=>rfl
 | x :: xs,h=>by
  unfold nu;rw[h x aa,Zl xs λz hz=>h z (a9 _ hz)];rfl
theorem JJ:∀(n:Nat) (y x:T),Pl n y->∃b,mE n y x=some b
 | 0,_,_,h=>h.elim
 | n+1,y,x,h=>by
  cases y with
  | tup xs=>
   cases x with
   | tup a=>exact JI xs a λz hz u=>JJ n z u (h z hz)
   | _=>exact⟨false,by rw[mE] <;> intros <;> first | rfl | contradiction | (intro z)⟩
  | lst xs=>
   cases x with
   | lst a=>exact JI xs a λz hz u=>JJ n z u (h z hz)
   | fz a=>exact JI xs a λz hz u=>JJ n z u (h z hz)
   | _=>exact⟨false,by rw[mE] <;> intros <;> first | rfl | contradiction | (intro z)⟩
  | fz xs=>exact h.elim
  | non=>cases x <;> exact⟨_,rfl⟩
  | bl b=>cases x <;> exact⟨_,rfl⟩
  | int i=>cases x <;> exact⟨_,rfl⟩
  | str i=>cases x <;> exact⟨_,rfl⟩
theorem Z3:∀(n:Nat) (y:T),Pl n y->mE n y y=some true
 | 0,_,h=>h.elim
 | n+1,y,h=>by
  cases y with
  | tup xs=>exact Zl xs λz hz=>Z3 n z ((h) z hz)
  | lst xs=>exact Zl xs λz hz=>Z3 n z ((h) z hz)
  | fz xs=>exact h.elim
  | non=>rfl
  | bl b=>show some _=_;simp
  | int i=>show some _=_;simp
  | str i=>show some _=_;simp
theorem Pl.up:∀(n:Nat) (y:T),Pl n y->Pl (n+1) y
 | 0,_,h=>h.elim
 | n+1,y,h=>by
  cases y with
  | tup xs=>exact λz hz=>Pl.up n z ((h) z hz)
  | lst xs=>exact λz hz=>Pl.up n z ((h) z hz)
  | fz xs=>exact h.elim
  | _=>exact trivial
theorem Pl.le (c:n<=m)(h:Pl n y):Pl m y:=by
 obtain⟨j,rfl⟩:∃j,m=n+j:=⟨m - n,by omega⟩
 clear c
 induction j with
 | zero=>exact h
 | succ j a=>exact Pl.up _ _ a
theorem Ua (h:Pl 30 t):mW t t= .ok false:=by unfold mW;rw[Z3 30 t h];rfl
theorem xx (h:Pl 30 t):my t t= .ok true:=by unfold my;rw[Z3 30 t h]
theorem uD {f:T->Option Bool}:∀(ts:List T),(∀t∈ts,∃b,f t=some b)->∃b,Jo f ts=some b/\(b=false->∀t∈ts,f t=some false)
 | [],_=>⟨false,rfl,λ_ _ h=>nomatch h⟩
 | t :: ts,h=>by
  obtain⟨b,d⟩:=h t aa;obtain⟨c,g,h'⟩:=uD ts λu a=>h u (a9 _ a);refine⟨b || c,by unfold Jo;rw[d,g],λe u a=> ?_⟩
  rw[Bool.or_eq_false_iff]at e;rcases ak.mp a with rfl | a
  ·rw[d,e.1]
  ·exact h' e.2 u a
theorem ZJ (h:f ρ= .ok t):jA f ρ= .nx ρ:=by unfold jA;rw[h,j1]
theorem nT (k:Kd):((rng 0 k.all.length).map λt=>match t with | .int i=>(k.all[i.toNat]?).getD .non | y=>y)=k.all:=by
 unfold rng;rw[aZ];refine dL λi=> ?_;rw[ao]
 by_cases hi:i < k.all.length
 ·rw[c_ hi];show some ((k.all[((0:Int)+(i)).toNat]?).getD _)=_;rw[show ((0:Int)+(i)).toNat=i by omega]
  obtain⟨x,a⟩:=jG hi;rw[a];rfl
 ·rw[aP (by simpa using hi),aP (by omega)];rfl
theorem WD (a:f ρ= .ok (.int j))(h: -1000000 < j/\j < 1000000):Zi f ρ= .ok (rng 0 j.toNat):=by
 unfold Zi;rw[a];exact if_pos h
theorem gC:nt (.int i) (.int j)= .ok (decide (j < i)):=rfl
inductive W:Nat->T->Prop where
 | int (d:Nat) (i:Int):W d (.int i)
 | str (d:Nat) (s:Str):W d (.str s)
 | tup {d:Nat} {xs:List T} (h:xs.length<=3) (r:∀x∈xs,W d x):W (d+1) (.tup xs)
theorem QD:∀(d:Nat) (k:Kd) (x:T),k.Ok (d+1)->k.has x=true->W d x
 | d,.whole lo hi,x,_,h=>by
  cases x <;> first | exact .int _ _ | (simp[Kd.has,oV]at h)
 | d,.pick q,x,_,h=>by
  cases x <;> first | exact .str _ _ | (simp[Kd.has]at h)
 | 0,.row g,x,a,h=>by
  obtain⟨e,l,a⟩:=a
  match g,e,a with
  | k :: _,_,a=>exact(a k aa).elim
 | 0,.many k lo hi,x,a,h=>a.2.2.elim
 | d+1,.row g,x,a,h=>by
  obtain⟨e,l,a⟩:=a;cases x with
  | tup xs=>
   rw[Kd.has]at h;simp only[aj,beq_iff_eq]at h;obtain⟨j,i⟩:=h;refine .tup (by omega) λx f=> ?_
   obtain⟨k,o,c⟩:=UZ g xs j i x f;exact QD d k x (a k o) c
  | _=>simp[Kd.has]at h
 | d+1,.many k lo hi,x,a,h=>by
  obtain⟨e,l,a⟩:=a;cases x with
  | tup xs=>
   rw[Kd.has]at h;simp only[aj,decide_eq_true_eq,aJ]at h;obtain⟨⟨j,p⟩,i⟩:=h;refine .tup (by omega) λx f=> ?_
   exact QD d k x a (i x f)
  | _=>simp[Kd.has]at h
mutual
noncomputable def lv:T->List T
 | .tup xs=>nW xs
 | .non=>[.non]
 | .bl b=>[.bl b]
 | .int b=>[.int b]
 | .str b=>[.str b]
 | .lst b=>[.lst b]
 | .fz b=>[.fz b]
noncomputable def nW:List T->List T
 | []=>[]
 | x :: xs=>lv x++nW xs
end
theorem L3 (xs:List T):lv (.tup xs)=nW xs:=by rw[lv]
theorem WF (x:T)(xs:List T):nW (x :: xs)=lv x++nW xs:=by rw[nW]
theorem QE:nW []=[]:=by rw[nW]
theorem QF:∀xs:List T,(∀x∈xs,(lv x).length<=n)->(nW xs).length<=xs.length*n
 | [],_=>by exact bf _
 | x :: xs,h=>by
  rw[WF,az,aw,fX];have c:=h x aa;have a:=QF xs λy hy=>h y (a9 _ hy);omega
theorem rA (d:Nat):1<=3 ^ d:=Nat.one_le_pow _ _ (by omega)
theorem QG (h:W d x):(lv x).length<=3 ^ d:=by
 induction h with
 | int d i=>exact rA d
 | str d i=>exact rA d
 | @tup d xs h r a=>
  rw[L3];have:=QF xs a;have c:=cU (3 ^ d) h;omega
inductive Lf:T->Prop where
 | int (i:Int):Lf (.int i)
 | str (i:Str):Lf (.str i)
theorem XB:∀(xs:List T),(∀x∈xs,∀y∈lv x,Lf y)->∀y∈nW xs,Lf y
 | [],_,y,hy=>by cases hy
 | x :: xs,h,y,hy=>by
  rcases aW.mp hy with hy | hy
  ·exact h x aa y hy
  ·exact XB xs (λz hz=>h z (a9 _ hz)) y hy
theorem FZ (h:W d x):∀y∈lv x,Lf y:=by
 induction h with
 | int d i=>intro y hy;rw[aq.mp hy];exact .int _
 | str d i=>intro y hy;rw[aq.mp hy];exact .str _
 | @tup d xs h r a=>intro y hy;exact XB xs a y hy
theorem F5 (hi:ρ[i]? =some (.ow ts))(h:f ρ= .ok (.lst us))(a:ts.length+us.length<=mF):vY i f ρ= .nx (ρ.set i (.ow (ts++us))):=by
 unfold vY;rw[hi];dsimp only;rw[h,j1];dsimp only;rw[if_pos a]
abbrev Bv (c:List T->R T):En->RS:=vY 1 (zb 1 c (za (vE 2) (ze)))
theorem QH (hn:n<=1000):∀(xs:List T) (acc:List T) (x:Sl),(∀x∈xs,c [x]= .ok (.lst (lv x))/\(lv x).length<=n)->acc.length+xs.length*n<=1000000->
  ∃d,Zu (zw 2) (Bv c) xs [a,.ow acc,x]= .nx [a,.ow (acc++nW xs),d]
 | [],acc,x,_,_=>⟨x,by rw[QE,bw];rfl⟩
 | y :: xs,acc,x,H,f=>by
  obtain⟨e,i⟩:=H y aa;rw[aw,fX]at f;have j:mF=16777216:=rfl;obtain⟨d,h⟩:=QH hn xs (acc++lv y) _ (λz hz=>H z (a9 _ hz)) (by rw[az];omega)
  refine⟨d, ?_⟩;have g:zw 2 y [a,.ow acc,x]= .ok _:=rfl;have b2:Bv c [a,.ow acc,.vl y]= .nx [a,.ow (acc++lv y),.vl y]:=by
   have z:zb 1 c (za (vE 2) (ze)) [a,.ow acc,.vl y]= .ok (.lst (lv y)):=by rw[zI,v2,i3,e]
   exact F5 rfl z (by omega)
  rw[ZI g b2,h,WF,bi]
theorem XD:jW (ZX (mw (WS "tuple") (vB 0))) (.vl x :: r)= .ok (!(match x with | .tup _=>true | _=>false)):=by
 all_goals (cases x <;> rfl)
theorem wx:∀(n d:Nat),d < n->d<=3->∀x:T,W d x->sQ n 0 [x]= .ok (.lst (lv x))
 | 0,d,h,_,_,_=>absurd h (iP _)
 | n+1,d,h,k,x,g=>by
  show zk (AD _ [.vl x,.un,.un])=_;rw[AD];cases g with
  | int d i=>
   rfl
  | str d i=>
   rfl
  | @tup d xs a r=>
   have hp:3 ^ d<=27:=bN (by omega) (show d<=3 by omega)
   obtain⟨c,f⟩:=QH (by omega) xs [] .un (λy hy=>⟨wx n d (by omega) (by omega) y (r y hy),QG (r y hy)⟩) (by have:=bo a hp;simp;omega)
   have e:uO 1 ze [.vl (.tup xs),.un,.un]= .nx [.vl _,.ow [],.un]:=rfl;have j:ZD (Z5 (vE 0)) (zw 2) (Bv (sQ n 0)) [.vl (.tup xs),.ow [],.un]= .nx [.vl (.tup xs),.ow ([]++nW xs),c]:=by
    exact f
   rw[zc (zj XD),zc e,zc j,bP];rfl
abbrev CJ (c:List T->R T):En->RS:=zC 1 (zd zv (vE 1) (zb 1 c (za (vE 2) (ze))))
theorem Ia (h:xs.length+ys.length<=1000000):zv (.lst xs) (.lst ys)= .ok (.lst (xs++ys)):=by
 unfold zv;dsimp only;rw[if_pos (by have a:mF=16777216:=rfl;omega)]
theorem QI (hn:n<=1000):∀(xs:List T) (acc:List T) (x:Sl),(∀x∈xs,c [x]= .ok (.lst (lv x))/\(lv x).length<=n)->acc.length+xs.length*n<=1000000->
  ∃d,Zu (zw 2) (CJ c) xs [a,.vl (.lst acc),x]= .nx [a,.vl (.lst (acc++nW xs)),d]
 | [],acc,x,_,_=>⟨x,by rw[QE,bw];rfl⟩
 | y :: xs,acc,x,H,f=>by
  obtain⟨e,i⟩:=H y aa;rw[aw,fX]at f;obtain⟨d,h⟩:=QI hn xs (acc++lv y) _ (λz hz=>H z (a9 _ hz)) (by rw[az];omega)
  refine⟨d, ?_⟩;have g:zw 2 y [a,.vl (.lst acc),x]= .ok _:=rfl;have b2:CJ c [a,.vl (.lst acc),.vl y]= .nx [a,.vl (.lst (acc++lv y)),.vl y]:=by
   have z:zd zv (vE 1) (zb 1 c (za (vE 2) (ze))) [a,.vl (.lst acc),.vl y]= .ok (.lst (acc++lv y)):=by rw[zh,v1,i3,zI,v2,i3,e,i3,Ia (by omega)]
   exact zE z
  rw[ZI g b2,h,WF,bi]
theorem ye:∀(n d:Nat),d < n->d<=3->∀x:T,W d x->rH n 0 [x]= .ok (.lst (lv x))
 | 0,d,h,_,_,_=>absurd h (iP _)
 | n+1,d,h,k,x,g=>by
  show zk (Ax _ [.vl x,.un,.un])=_;rw[Ax];cases g with
  | int d i=>
   rfl
  | str d i=>
   rfl
  | @tup d xs a r=>
   have hp:3 ^ d<=27:=bN (by omega) (show d<=3 by omega)
   obtain⟨c,f⟩:=QI (by omega) xs [] .un (λy hy=>⟨ye n d (by omega) (by omega) y (r y hy),QG (r y hy)⟩) (by have:=bo a hp;simp;omega)
   have e:zC 1 (Zc ze) [.vl (.tup xs),.un,.un]= .nx [.vl _,.vl _,.un]:=rfl;have j:ZD (Z5 (vE 0)) (zw 2) (CJ (rH n 0)) [.vl (.tup xs),.vl (.lst []),.un]= .nx [.vl (.tup xs),.vl (.lst ([]++nW xs)),c]:=by
    exact f
   rw[zc (zj XD),zc e,zc j,bP];rfl
theorem Z4 {p:T->Bool}{js:List Nat}(ts:List T)(c:ts.length<=mF)(H:∀t∈ts,ft ((Jp k js ρ).set 0 (.vl t))= .ok (p t)/\fe ((Jp k js ρ).set 0 (.vl t))= .ok t):zq (zw 0) ft fe k js ρ ts= .ok (ts.filter p):=by
 unfold zq;rw[if_pos c,Zq (h:=id) ts _ λt a=>⟨(H t a).1,λ_=>(H t a).2⟩,List.map_id];rfl
noncomputable def ZV:List T->List Int
 | []=>[]
 | .int i :: r=>i :: ZV r
 | .non :: r=>ZV r
 | .bl _ :: r=>ZV r
 | .str _ :: r=>ZV r
 | .tup _ :: r=>ZV r
 | .lst _ :: r=>ZV r
 | .fz _ :: r=>ZV r
theorem wA:∀ts:List T,ts.filter Dn=(ZV ts).map T.int
 | []=>rfl
 | t :: ts=>by
  have a:=wA ts;rw[ce,a];cases t <;> rfl
theorem Ub:∀a:List Int,Z2 (a.map T.int)=some a
 | []=>rfl
 | i :: a=>by
  have e:Z2 ((i :: a).map T.int)=match Z2 _ with | some l=>some _ | none=>none:=rfl
  rw[e,Ub a]
theorem WG:∀ts:List T,(ZV ts).length<=ts.length
 | []=>am _
 | t :: ts=>by
  have a:=WG ts;cases t <;> simp only[ZV,aw] <;> omega
theorem w9 (hd:d<=2)(h:W d x):(lv x).length<=9:=av (QG h) (bN (by omega) hd)
theorem Y1 (hd:d<=2)(h:W d x):AV [x]= .ok (.lst ((ZV (lv x)).map T.int)):=by
 show zk _=_;have e:=w9 hd h;have c:zq _ (ZX (zb 1 nU (za (vE 0) _))) (vE 0) 1 [] [.vl x] (lv x)= .ok _:=
  Z4 _ (by have f:mF=16777216:=rfl;omega) λt _=>⟨by
   show ZX _ [.vl t]=_;rw[j6,zI,v0,i3,Wt,i3,UL],rfl⟩
 rw[Cq,zg]
 ·rfl
 ·show zA _ _ _ _ _ _ [.vl x]=_;have a:pL 8 [x]= .ok _:=wx 8 d (by omega) (by omega) x h
  rw[zJ,Zs,zI,v0,i3,a];show ((zq _ _ _ _ _ _ _).bind _)=_;rw[c,i3,wA]
noncomputable def oh (a:List Int):Bool:=(a.zip (a.drop 1)).all λq=>decide (q.1<=q.2)
theorem QJ:∀(qs:List (Int×Int)) (x y:Sl),zx (zN 0 1) zV (ZL mL (vB 0) (vB 1)) (qs.map λq=>T.tup [.int q.1,.int q.2]) [x,y]= .ok (qs.map λq=>T.bl (decide (q.1<=q.2)))
 | [],_,_=>rfl
 | q :: qs,x,y=>by
  have a:=QJ qs (.vl (.int q.1)) (.vl (.int q.2));have c:zx (zN 0 1) zV (ZL mL (vB 0) (vB 1)) ((q :: qs).map λq=>T.tup [.int q.1,.int q.2]) [x,y]=
   (R.ok (T.bl _)).bind λv=>(zx _ _ _ (qs.map λq=>T.tup [.int q.1,.int q.2]) [.vl _,.vl _]).bind λvs=> .ok _:=rfl
  rw[c,i3,a,i3,ar]
theorem QK (xs:List T):nJ xs (some ((1:Nat):Int)) none=xs.drop 1:=by
 unfold nJ;rw[HT.sIx_nat,HT.sIx_none]
 by_cases h:1<=xs.length
 ·rw[fU h,eT (by rw[dR];omega)]
 ·have:xs=[]:=bK.mp (by omega)
  subst this;rfl
theorem QL (a:List Int)(d:a.length<=100):Bm [.lst (a.map T.int)]= .ok (.bl (oh a)):=by
 show zk _=_;have hz:Yb (vE 0) (nj (vE 0) (Zj (cE (.int 1))) (nr)) [.vl (.lst (a.map T.int))]= .ok ((a.zip (a.drop 1)).map λq=>T.tup [.int q.1,.int q.2]):=by
  show R.ok (yG _ (nJ _ (some ((1:Nat))) _))=_;rw[QK,← List.map_drop];unfold yG;rw[List.zip_map,aZ];rfl
 have c:zq (zN 0 1) zV (ZL mL (vB 0) (vB 1)) 2 [] [.vl (.lst (a.map T.int))] ((a.zip (a.drop 1)).map λq=>T.tup [.int q.1,.int q.2])= .ok ((a.zip (a.drop 1)).map λq=>T.bl (decide (q.1<=q.2))):=by
  unfold zq;rw[if_pos (by rw[ae,dE];have e:mF=16777216:=rfl;omega)]
  show quiet (zx _ _ _ _ [.un,.un])=_;rw[QJ];rfl
 rw[Bq,zg]
 ·rfl
 ·show mw _ _ [.vl _]=_;rw[Z8,zJ,hz,i3,c,i3];show (match WT _ with | some k=>R.ok _ | none=> .bad)=_
  rw[WC (λq=>decide _)];rfl
theorem Zt (x y:Int)(r:List Int):oh (x :: y :: r)=(decide (x<=y) && oh (y :: r)):=by
 unfold oh;rw[d_,dN,dz,cX,d_,dN]
theorem QM (x:Int):∀l:List Int,oh l=true->oh (UC x l)=true/\∀y,(∀z∈l,y<=z)->y<=x->∀z∈UC x l,y<=z
 | [],_=>⟨rfl,λy _ h z hz=>by rw[aq.mp hz];exact h⟩
 | [a],_=>by
  rw[UC];split
  ·rename_i h;exact⟨by rw[Zt,decide_eq_true h];rfl,λy d e z hz=>by
    rcases ak.mp hz with rfl | hz
    ·exact e
    ·exact d z hz⟩
  ·rw[UC];exact⟨by rw[Zt,decide_eq_true (by omega)];rfl,λy d e z hz=>by
    rcases ak.mp hz with rfl | hz
    ·exact d _ aa
    ·rw[aq.mp hz];exact e⟩
 | a :: b :: r,h=>by
  rw[Zt,aj,decide_eq_true_eq]at h;obtain⟨c,g⟩:=QM x _ h.2;rw[UC];split
  ·rename_i j;exact⟨by rw[Zt,decide_eq_true j,Zt,decide_eq_true h.1,h.2];rfl,λy d e z hz=>by
    rcases ak.mp hz with rfl | hz
    ·exact e
    ·exact d z hz⟩
  ·refine⟨?_,λy d e z hz=>by
    rcases ak.mp hz with rfl | hz
    ·exact d _ aa
    ·exact g y (λw i=>d w (a9 _ i)) e z hz⟩
   rw[UC]at c ⊢;split
   ·rename_i f;rw[if_pos f]at c;rw[Zt,decide_eq_true (by omega),c];rfl
   ·rename_i f;rw[if_neg f]at c;rw[Zt,decide_eq_true h.1,c];rfl
theorem QN:∀l:List Int,oh (qt l)=true
 | []=>rfl
 | x :: l=>by rw[qt];exact(QM x _ (QN l)).1
theorem QO:∀l:List Int,oh l=true->qt l=l
 | [],_=>rfl
 | [x],_=>rfl
 | x :: y :: r,h=>by
  rw[Zt,aj,decide_eq_true_eq]at h;rw[qt,QO _ h.2,UC,if_pos h.1]
theorem yf:∀xs a:List Int,∃b,nu (mE n) (xs.map T.int) (a.map T.int)=some b/\(b=true↔xs=a)
 | [],[]=>⟨true,rfl,by simp⟩
 | [],y :: a=>⟨false,rfl,by simp⟩
 | x :: xs,[]=>⟨false,rfl,by simp⟩
 | x :: xs,y :: a=>by
  obtain⟨b,e,h⟩:=yf xs a;have f:nu _ ((x :: xs).map T.int) ((y :: a).map T.int)=match mE n _ _ with
   | none=>none
   | some b=>match nu _ _ _ with
    | none=>none
    | some c=>some _:=rfl
  have d:mE n (.int x) (.int y)=some (x == y):=by cases n <;> rfl
  refine⟨(x == y) && b,by rw[f,d,e], ?_⟩
  rw[aj,beq_iff_eq,h,iO]
theorem QP (a:List Int):my (.lst (a.map T.int)) (.lst ((qt a).map T.int))= .ok (oh a):=by
 obtain⟨b,e,h⟩:=yf a _;have f:mE 30 (.lst _) (.lst _)=some b:=e;unfold my;rw[f];show R.ok b=_;congr 1
 cases c:b with
 | true=>
  have:=h.mp c;rw[this];exact(QN a).symm
 | false=>
  cases d:oh a with
  | false=>rfl
  | true=>rw[c]at h;exact absurd (h.mpr (QO a d).symm) ax
theorem U0 (a:List Int)(c:a.length<=60):VH (.lst (a.map T.int))= .ok (.lst ((qt a).map T.int)):=by
 unfold VH;dsimp only;rw[Ub];dsimp only;rw[if_pos (by rw[ae];omega)]
theorem LG (a:List Int):qh (.lst (a.map T.int))= .ok (.int a.sum):=by
 unfold qh;dsimp only;rw[Ub]
def inB (xs:List T)(x:T):Bool:=(Jo (λy=>mE 30 y x) xs).getD false
theorem FV (x:T)(h:∀y∈xs,Pl 30 y):Jo (λy=>mE 30 y x) xs=some (inB xs x):=by
 obtain⟨b,e,_⟩:=uD xs λt a=>JJ 30 t x (h t a);unfold inB;rw[e];rfl
theorem W.pl (h:W d x):Pl (d+1) x:=by
 induction h with
 | int d i=>exact trivial
 | str d i=>exact trivial
 | @tup d xs h r a=>exact a
theorem W.pl30 (h:W d x)(hd:d<=2):Pl 30 x:=h.pl.le (by omega)
noncomputable def Z9:T->List T
 | .tup xs=>xs
 | .non=>[.non]
 | .bl b=>[.bl b]
 | .int b=>[.int b]
 | .str b=>[.str b]
 | .lst b=>[.lst b]
 | .fz b=>[.fz b]
theorem gE (h:W d x):AZ [x]= .ok (.tup (Z9 x)):=by cases h <;> rfl
theorem uE (h:W d x):(Z9 x).length<=3:=by
 cases h with
 | int=>exact(by decide:1<=3)
 | str=>exact(by decide:1<=3)
 | tup h _=>exact h
theorem yg (h:W d x)(hd:d<=2):∀y∈Z9 x,Pl 30 y:=by
 cases h with
 | int=>intro y hy;rw[aq.mp hy];exact trivial
 | str=>intro y hy;rw[aq.mp hy];exact trivial
 | @tup d xs h r=>intro y hy;exact(r y hy).pl30 (by omega)
def un (a:List T):Bool:= !(a.zipIdx.any λp=>inB (a.take p.2) p.1)
theorem uF {xs:List T}{k:Nat}:oZ (.tup xs) none (some (k:Int))= .ok (.tup (xs.take k)):=by
 show R.ok _=_;have:nJ xs none (some (k))=xs.take k:=by
  unfold nJ;rw[HT.sIx_none,HT.sIx_nat];simp only[dN,Nat.sub_zero];rw[List.take_eq_take_iff];omega
 rw[this]
theorem QR {a:List T}(h:∀y∈a,Pl 30 y)(k:Nat)(x:T):nv x (.tup (a.take k))= .ok (inB (a.take k) x):=by
 show (match Jo (λy=>mE 30 y x) _ with | some b=>R.ok b | none=> .bad)=_
 rw[FV x λy hy=>h y (j_ hy)]
abbrev oz:En->R T:=ZL nv (vB 1) (nj (vE 2) (nr) (Zj (vE 0)))
theorem QS {a:List T}(h:∀y∈a,Pl 30 y):∀(qs:List (T×Nat)) (x y:Sl),zx (zN 0 1) zV oz (qs.map λp=>T.tup [.int (p.2:Nat),p.1]) [x,y,.vl (.tup a)]= .ok (qs.map λp=>T.bl (inB (a.take p.2) p.1))
 | [],_,_=>rfl
 | q :: qs,x,y=>by
  have c:=QS h qs (.vl (.int (q.2))) (.vl q.1);have e:oz [.vl (.int (q.2)),.vl q.1,.vl (.tup a)]= .ok (.bl (inB (a.take q.2) q.1)):=by
   have d:nj (vE 2) nr (Zj (vE 0)) [.vl (.int (q.2)),.vl q.1,.vl (.tup a)]=oZ (.tup a) _ _:=rfl;unfold oz;rw[Ze,w1,i3,d,uF,i3,QR h,i3]
  have f:zx (zN 0 1) zV oz ((q :: qs).map λp=>T.tup [.int (p.2),p.1]) [x,y,.vl (.tup a)]=
   (oz [.vl _,.vl q.1,.vl _]).bind λv=>(zx _ _ oz (qs.map λp=>T.tup _) [.vl _,.vl q.1,.vl _]).bind λvs=> .ok _:=rfl
  rw[f,e,i3,c,i3,ar]
theorem uG {a:Type}(p:a->Bool):∀qs:List a,wI (qs.map λq=>T.bl (p q))=some (qs.any p)
 | []=>rfl
 | q :: qs=>by
  have e:wI ((q :: qs).map λq=>T.bl (p q))=match wI (qs.map λq=>T.bl _) with | some j=>some _ | none=>none:=rfl
  rw[e,uG p qs];rfl
theorem QT (h:∀y∈ps,Pl 30 y)(e:ps.length<=100):Du [.tup ps]= .ok (.bl (un ps)):=by
 show zk _=_;have c:zq (zN 0 1) zV oz 2 [0] [.vl (.tup ps)] (jM ps)= .ok (ps.zipIdx.map λp=>T.bl (inB (ps.take p.2) p.1)):=by
  unfold zq;rw[if_pos (by unfold jM;rw[ae,lA];have f:mF=16777216:=rfl;omega)]
  show quiet (zx _ _ _ _ [.un,.un,.vl _])=_;unfold jM;rw[QS h];rfl
 rw[Ca,zg]
 ·rfl
 ·have a:zA (wa (vE 0)) (zN 0 1) zV oz 2 [0] [.vl (.tup ps)]= .ok (.lst (ps.zipIdx.map λp=>T.bl (inB (ps.take p.2) p.1))):=by
   show ((R.ok _).bind _)=_;rw[i3,c,i3]
  have d:mw C5 (zA (wa (vE 0)) (zN 0 1) zV oz 2 [0]) [.vl (.tup ps)]= .ok (.bl (ps.zipIdx.any λp=>inB (ps.take p.2) p.1)):=by
   rw[Z8,a];show (match wI _ with | some k=>R.ok _ | none=> .bad)=_
   rw[uG (λp:T×Nat=>inB _ p.1)]
  show vX _ [.vl _]=_;unfold vX;rw[d];rfl
theorem xy {d:List T}(h:∀y∈d,Pl 30 y)(v:d.length<=100){a b c:Sl}{ρ:En}:∃r,zq (zw 0) (zp nv (zd kj (vE 1) (vE 0)) (nj (vE 1) (nr) (Zj (vE 0)))) (vE 0) 1 [3] (a :: b :: c :: .vl (.tup d) :: ρ) (rng 0 d.length)= .ok r/\r.isEmpty=un d:=by
 let p:T->Bool:=λt=>match t with
  | .int i=>match d[i.toNat]? with | some w=>inB (d.take i.toNat) w | none=>false
  | _=>false
 refine⟨(rng 0 _).filter p,Z4 _ (by unfold rng;rw[ae,bJ];have B:mF=16777216:=rfl;omega) λt j=> ?_, ?_⟩
 ·obtain⟨k,f,rfl⟩:=aA.mp j;have e :=aT.mp f;refine⟨?_,rfl⟩;show zp nv _ _ [.vl _,.vl _]=_;rw[show (0:Int)+(k)=(k) by omega]
  have l:kj (.tup d) (.int k)= .ok d[k]:=by
   show mS d k=_;unfold mS;rw[Zv (ah e)]
  have u:nj (vE 1) nr (Zj (vE 0)) [.vl (.int (k)),.vl (.tup d)]=oZ (.tup d) _ _:=rfl;rw[zB,zh,v1,i3,v0,i3,l,i3,u,uF,i3,QR h];show _=R.ok (match d[((k:Int)).toNat]? with | some w=>inB _ w | none=>false)
  rw[b9,ah e]
 ·rw[fV,List.isEmpty_iff,f7];unfold un;rw[lQ,lE];constructor
  ·intro H q o;obtain⟨x,k⟩:=q;have f:=List.mem_zipIdx' o;have:=H _ (by exact aA.mpr ⟨k,aT.mpr f.1,rfl⟩)
   intro g;apply this
   show (match d[((0:Int)+(k)).toNat]? with | some w=>inB _ w | none=>false)=true
   rw[show ((0:Int)+(k)).toNat=k by omega,ah f.1,← f.2]
   exact g
  ·intro H t j g;obtain⟨k,f,rfl⟩:=aA.mp j;have e :=aT.mp f;have g:(match d[((0:Int)+(k)).toNat]? with | some w=>inB _ w | none=>false)=true:=g
   rw[show ((0:Int)+(k)).toNat=k by omega,ah e]at g
   exact H _ (List.mk_mem_zipIdx_iff_getElem?.mpr (ah e)) g
noncomputable def V3 (w:Str):T->Bool
 | .str x=>x == w
 | _=>false
theorem Ee (w:Str)(n:Nat):∀t:T,mE n t (.str w)=some (V3 w t)
 | .str x=>by cases n <;> rfl
 | .non=>by cases n <;> rfl
 | .bl _=>by cases n <;> rfl
 | .int _=>by cases n <;> rfl
 | .tup _=>by cases n <;> rfl
 | .lst _=>by cases n <;> rfl
 | .fz _=>by cases n <;> rfl
theorem QU (w:Str):∀ts:List T,Jo (λy=>mE 30 y (.str w)) ts=some (ts.any (V3 w))
 | []=>rfl
 | t :: ts=>by
  have e:Jo (λy=>mE 30 y (.str w)) (t :: ts)=match mE 30 t _ with
   | none=>none
   | some b=>match Jo (λy=>mE 30 y _) ts with
    | none=>none
    | some d=>some _:=rfl
  rw[e,Ee,QU w ts];rfl
theorem gG (w:Str)(ts:List T):(ts.filter (V3 w)).isEmpty= !(ts.any (V3 w)):=by
 induction ts with
 | nil=>rfl
 | cons t ts a=>
  rw[ce,ib];cases V3 w t with
  | true=>rfl
  | false=>rw[if_neg ax,a,Bool.false_or]
inductive Ru where
 | sum (a b:Int) | size (a b:Int) | word (w:Str) | rising | unlike | no (r:Ru) | all (r s:Ru) | some (r s:Ru)
def Ru.t:Ru->T
 | .sum a b=> .tup [.str "sum",.int a,.int b]
 | .size a b=> .tup [.str "size",.int a,.int b]
 | .word w=> .tup [.str "word",.str w]
 | .rising=> .tup [.str "rising"]
 | .unlike=> .tup [.str "unlike"]
 | .no r=> .tup [.str "no",r.t]
 | .all r s=> .tup [.str "all",r.t,s.t]
 | .some r s=> .tup [.str "some",r.t,s.t]
inductive ZK:Nat->Ru->Prop where
 | sum {d:Nat} {a b:Int} (ha: -50<=a/\a<=50) (hb: -50<=b/\b<=50):ZK (d+1) (.sum a b)
 | size {d:Nat} {a b:Int} (ha: -50<=a/\a<=50) (hb: -50<=b/\b<=50):ZK (d+1) (.size a b)
 | word {d:Nat} {w:Str} (h:Zr (.str w)=true):ZK (d+1) (.word w)
 | rising {d:Nat}:ZK (d+1) .rising
 | unlike {d:Nat}:ZK (d+1) .unlike
 | no {d:Nat} {r:Ru} (h:ZK d r):ZK (d+1) (.no r)
 | all {d:Nat} {r s:Ru} (h:ZK d r) (h' :ZK d s):ZK (d+1) (.all r s)
 | some {d:Nat} {r s:Ru} (h:ZK d r) (h' :ZK d s):ZK (d+1) (.some r s)
theorem ZK.up (h:ZK d r):ZK (d+1) r:=by
 induction h with
 | sum f e=>exact .sum f e
 | size f e=>exact .size f e
 | word h=>exact .word h
 | rising=>exact .rising
 | unlike=>exact .unlike
 | no h c=>exact .no c
 | all h h' c a =>exact .all c a
 | some h h' c a =>exact .some c a
def kp:Ru->T->Bool
 | .sum a b,x=>decide (a<=(ZV (lv x)).sum) && decide ((ZV (lv x)).sum<=b)
 | .size a b,x=>decide (a<=((Z9 x).length:Int)) && decide (((Z9 x).length:Int)<=b)
 | .word w,x=>(lv x).any (V3 w)
 | .rising,x=>oh (ZV (lv x))
 | .unlike,x=>un (Z9 x)
 | .no r,x=> !kp r x
 | .all r s,x=>kp r x && kp s x
 | .some r s,x=>kp r x || kp s x
theorem JK (h: -50<=i/\i<=50):Aw [.int i]= .ok (.bl true):=by
 show zk _=_;rw[Df,zg]
 ·rfl
 ·show j8 _ _ [.vl _]=_;rw[J8,zI,v0,i3,Q5,Xr,zW,i3];rw[i3,w0,i3,wJ,decide_eq_true h.1,i3,i3,wJ,decide_eq_true h.2];rfl
theorem Zx (b:Bool)(h:(x == w)=b):zp my (zd kj (vE 0) (cE (.int 0))) (cE (.str w)) (.vl (.tup (.str x :: r)) :: ρ)= .ok b:=by rw[nL,h]
theorem Ye (h:f ρ= .ok false)(h' :g ρ= .ok b):nz f g ρ= .ok b:=by rw[U2,h,i3,if_neg ax,h']
theorem Dp (h:f ρ= .ok true):nz f g ρ= .ok true:=by rw[U2,h,i3,if_pos rfl]
theorem wK (h:f ρ= .ok (.bl true))(h' :g ρ=r):j8 f g ρ=r:=by rw[J8,h,Zw,if_pos rfl,h']
theorem XF (h:((xs.length:Int) == n)=true):ZL my (mw Z6 (vB 0)) (cE (.int n)) (.vl (.tup xs) :: ρ)= .ok (.bl true):=by
 rw[Ze,Z8,w0,i3,jP,i3,zW,i3,nQ,h,i3]
theorem jl:nz (zp my (vB 1) (cE (.int 0))) (nz (jW (ZX (mw (WS "tuple") (vB 0)))) (zp my (mw Z6 (vB 0)) (cE (.int 0)))) (mG (.tup (x :: xs)) (.int ((d+1:Nat):Int)))= .ok false:=by
 refine Ye ?_ (Ye ?_ ?_)
 ·rw[zB,w1,i3,zW,i3,nQ,beq_eq_false_iff_ne.mpr (by omega)]
 ·rfl
 ·rw[zB,Z8,w0,i3,jP,i3,zW,i3,nQ,beq_eq_false_iff_ne.mpr (by rw[aw];omega)]
theorem xz (h:Zr (.str w)=true):KS (.str w):=by
 have h:(decide _ && decide _ && w.cps.toList.all _)=true:=h;simp only[aj,decide_eq_true_eq]at h;exact av h.1.2 (by decide)
theorem Jj:∀(n d:Nat),d<=n->∀r:Ru,ZK d r->sW n 0 [r.t,.int (d:Int)]= .ok (.bl true)
 | 0,d,h,r,hr=>by
  have:d=0:=by omega
  subst this;cases hr
 | n+1,d,h,r,hr=>by
  show zk (AA ph (sW n 0) Aw (mG r.t (.int (d:Int))))=_;rw[AA];cases hr with
  | @sum d a b i f=>
   rw[Ru.t,zc (zj jl),zu (t:= .bl true)]
   ·rfl
   ·exact zg (wK (XF rfl) (wK (by show zb 1 _ _ (mG _ _)=_;rw[zI,jE,i3,JK i]) (by show zb 1 _ _ (mG _ _)=_;rw[zI,Wz,i3,JK f])))
  | @size d a b i f=>
   rw[Ru.t,zc (zj jl),zu (t:= .bl true)]
   ·rfl
   ·exact zg (wK (XF rfl) (wK (by show zb 1 _ _ (mG _ _)=_;rw[zI,jE,i3,JK i]) (by show zb 1 _ _ (mG _ _)=_;rw[zI,Wz,i3,JK f])))
  | @word d w j=>
   rw[Ru.t,zc (zj jl),zc (zj (Ye (Zx false (by decide)) (Zx false (by decide)))),zu (t:= .bl true)]
   ·rfl
   ·exact zg (wK (XF rfl) (by show zb 1 _ _ (mG _ _)=_;rw[zI,jE,i3,Q4 _ (xz j),j]))
  | rising=>
   rw[Ru.t,zc (zj jl),zc (zj (Ye (Zx false (by decide)) (Zx false (by decide)))),zc (zj (Zx false (by decide))),zu (t:= .bl true)]
   ·rfl
   ·rw[jF (Dp (Zx true (by decide)))]
    exact zg (XF rfl)
  | unlike=>
   rw[Ru.t,zc (zj jl),zc (zj (Ye (Zx false (by decide)) (Zx false (by decide)))),zc (zj (Zx false (by decide))),zu (t:= .bl true)]
   ·rfl
   ·rw[jF (Ye (Zx false (by decide)) (Zx true (by decide)))]
    exact zg (XF rfl)
  | @no d r hr=>
   have e:=Jj n d (by omega) r hr
   rw[Ru.t,zc (zj jl),zc (zj (Ye (Zx false (by decide)) (Zx false (by decide)))),zc (zj (Zx false (by decide))),zc (zj (Ye (Zx false (by decide)) (Zx false (by decide)))),zu (t:= .bl true)]
   ·rfl
   ·rw[jF (Zx true (by decide))]
    exact zg (wK (XF rfl) (by show zb 2 _ _ (mG _ _)=_;rw[zt,jE,i3,zh,v1,i3,zW,i3,Zf,i3,show ((d+1:Nat)) - 1=(d:Int) by omega,e]))
  | @all d r s hr g=>
   have e:=Jj n d (by omega) r hr
   have c :=Jj n d (by omega) s g
   rw[Ru.t,zc (zj jl),zc (zj (Ye (Zx false (by decide)) (Zx false (by decide)))),zc (zj (Zx false (by decide))),zc (zj (Ye (Zx false (by decide)) (Zx false (by decide)))),zc (zj (Zx false (by decide))),zu (t:= .bl true)]
   ·rfl
   ·exact zg (wK (XF rfl) (wK (by show zb 2 _ _ (mG _ _)=_;rw[zt,jE,i3,zh,v1,i3,zW,i3,Zf,i3,show ((d+1:Nat):Int) - 1=(d) by omega,e]) (by show zb 2 _ _ (mG _ _)=_;rw[zt,Wz,i3,zh,v1,i3,zW,i3,Zf,i3,show ((d+1:Nat):Int) - 1=(d) by omega,c])))
  | @some d r s hr g=>
   have e:=Jj n d (by omega) r hr
   have c :=Jj n d (by omega) s g
   rw[Ru.t,zc (zj jl),zc (zj (Ye (Zx _ (by decide)) (Zx _ (by decide)))),zc (zj (Zx _ (by decide))),zc (zj (Ye (Zx _ (by decide)) (Zx _ (by decide)))),zc (zj (Zx _ (by decide))),zu]
   ·rfl
   ·exact zg (wK (XF rfl) (wK (by show zb 2 _ _ (mG _ _)=_;rw[zt,jE,i3,zh,v1,i3,zW,i3,Zf,i3,show ((d+1:Nat):Int) - 1=(d) by omega,e]) (by show zb 2 _ _ (mG _ _)=_;rw[zt,Wz,i3,zh,v1,i3,zW,i3,Zf,i3,show ((d+1:Nat):Int) - 1=(d) by omega,c])))
theorem Ef (d:f ρ= .ok (.int i))(a:g ρ= .ok (.int j))(c:h ρ= .ok (.int k)):ny mL mL f g h ρ= .ok (.bl (decide (i<=j) && decide (j<=k))):=by
 rw[Q5,d,i3,a,i3,wJ,i3];cases decide (i<=j) with
 | true=>rw[if_pos rfl,c,i3,wJ,i3,lh]
 | false=>rw[if_neg ax,Bool.false_and]
theorem QV (hd:d<=2)(h:W d x)(b:Bool)(hr:(match r with | .no _=>False | .all _ _=>False | .some _ _=>False | _=>True)):ro [r.t,x]= .ok (.bl (kp r x)):=by
 have hn:=Y1 hd h;have hp:=gE h;have c:pL 8 [x]= .ok (.lst (lv x)):=wx 8 d (by omega) (by omega) x h
 have hi:=av (WG _) (w9 hd h);show zk (tI AZ (pL 8) AV _ _ (mG r.t x))=_;rw[tI];cases r with
 | sum a b=>
  rw[zu]
  ·rfl
  ·refine zg ?_;show ny _ _ _ _ _ (mG _ x)=_;exact Ef jE (by rw[Z8,zI,v1,i3,hn,i3,LG]) Wz
 | size a b=>
  rw[Ru.t,zc (zj (Zx _ (by decide))),zu]
  ·rfl
  ·rw[jF (Zx _ (by decide))]
   refine zg ?_;show ny _ _ _ _ _ (mG _ x)=_;exact Ef jE (by rw[Z8,zI,v1,i3,hp,i3,jP]) Wz
 | word w=>
  rw[Ru.t,zc (zj (Zx false (by decide))),zc (zj (Zx false (by decide))),zu]
  ·rfl
  ·rw[jF (Zx true (by decide))]
   refine zg ?_;show ZL _ _ _ (mG _ x)=_;rw[Ze,jE,i3,zI,v1,i3,c];show ((match Jo (λy=>mE 30 y (.str w)) (lv x) with | some b=>R.ok b | none=> .bad).bind _)=_
   rw[QU];rfl
 | rising=>
  rw[Ru.t,zc (zj (Zx false (by decide))),zc (zj (Zx _ (by decide))),zc (zj (Zx _ (by decide))),zu (t:= .bl (kp _ x))]
  ·rfl
  ·rw[jF (Zx true (by decide))]
   refine zg ?_;show zb 1 _ _ (mG _ x)=_;rw[zI,zI,v1,i3,hn,i3,QL _ (by omega)]
   rfl
 | unlike=>
  rw[Ru.t,zc (zj (Zx false (by decide))),zc (zj (Zx _ (by decide))),zc (zj (Zx false (by decide))),zc (zj (Zx _ (by decide))),zg]
  ·rfl
  ·show zb 1 _ _ (mG _ x)=_;rw[zI,zI,v1,i3,hp,i3,QT (yg h hd) (av (uE h) (by omega))]
   rfl
 | no=>exact hr.elim
 | all=>exact hr.elim
 | some=>exact hr.elim
theorem QW (h:f ρ= .ok (.bl b)):vX f ρ= .ok (.bl (!b)):=by unfold vX;rw[h];rfl
theorem WH (h:f ρ= .ok (.bl a))(h' :g ρ= .ok (.bl b)):j8 f g ρ= .ok (.bl (a && b)):=by
 rw[J8,h,h'];cases a <;> rfl
theorem XG (h:f ρ= .ok (.bl a))(h' :g ρ= .ok (.bl b)):pR f g ρ= .ok (.bl (a || b)):=by
 unfold pR;rw[h];cases a with
 | true=>rfl
 | false=>exact h'
theorem Jk (i:e<=2)(j:W e x):∀(n d:Nat),d<=n->∀r:Ru,ZK d r->ou n 0 [r.t,x]= .ok (.bl (kp r x))
 | 0,d,h,r,hr=>by
  have:d=0:=by omega
  subst this;cases hr
 | n+1,d,h,r,hr=>by
  show zk (AJ (ou n 0) ro (mG r.t x))=_;rw[AJ];have c:∀(r:Ru) (s:Str) (q:List T),r.t= .tup (.str s :: q)->(s == "no")=false->(s == "all")=false->(s == "some")=false->(match r with | .no _=>False | .all _ _=>False | .some _ _=>False | _=>True)->
    zk (zn (mD (zp my (zd kj (vE 0) (cE (.int 0))) (cE (.str "no"))) (zr (vX (zb 2 (ou n 0) (za (zd kj (vE 0) (cE (.int 1))) (za (vE 1) (ze)))))) (mC))
  (zn (mD (zp my (zd kj (vE 0) (cE (.int 0))) (cE (.str "all"))) (zr (j8 (zb 2 (ou n 0) (za (zd kj (vE 0) (cE (.int 1))) (za (vE 1) (ze)))) (zb 2 (ou n 0) (za (zd kj (vE 0) (cE (.int 2))) (za (vE 1) (ze)))))) (mC))
  (zn (mD (zp my (zd kj (vE 0) (cE (.int 0))) (cE (.str "some"))) (zr (pR (zb 2 (ou n 0) (za (zd kj (vE 0) (cE (.int 1))) (za (vE 1) (ze)))) (zb 2 (ou n 0) (za (zd kj (vE 0) (cE (.int 2))) (za (vE 1) (ze)))))) (mC))
  (zr (zb 2 ro (za (vE 0) (za (vE 1) (ze))))))) (mG r.t x))= .ok (.bl (kp r x)):=by
   intro r s q e v p u o;have g:=QV i j true o;rw[e]at g ⊢;rw[zc (zj (Zx _ v)),zc (zj (Zx false p)),zc (zj (Zx _ u)),zg]
   ·rfl
   ·show zb 2 _ _ (mG _ x)=_;rw[zt,v0,i3,v1,i3,g]
  cases hr with
  | @sum d a b l y=>exact c (.sum a b) "sum" _ rfl (by decide) (by decide) (by decide) trivial
  | @size d a b l y=>exact c _ "size" _ rfl (by decide) (by decide) (by decide) trivial
  | @word d w B=>exact c _ _ _ rfl (by decide) (by decide) (by decide) trivial
  | rising=>exact c .rising _ _ rfl (by decide) (by decide) (by decide) trivial
  | unlike=>exact c .unlike _ _ rfl (by decide) (by decide) (by decide) trivial
  | @no d r hr=>
   have k:=Jk i j n d (by omega) r hr
   rw[Ru.t,zu]
   ·rfl
   ·exact zg (QW (by show zb 2 _ _ (mG _ x)=_;rw[zt,jE,i3,v1,i3,k]))
  | @all d r s hr g=>
   have k:=Jk i j n d (by omega) r hr
   have f :=Jk i j n d (by omega) s g
   rw[Ru.t,zc (zj (Zx _ (by decide))),zu]
   ·rfl
   ·exact zg (WH (by show zb 2 _ _ (mG _ x)=_;rw[zt,jE,i3,v1,i3,k]) (by show zb 2 _ _ (mG _ x)=_;rw[zt,Wz,i3,v1,i3,f]))
  | @some d r s hr g=>
   have k:=Jk i j n d (by omega) r hr
   have f :=Jk i j n d (by omega) s g
   rw[Ru.t,zc (zj (Zx _ (by decide))),zc (zj (Zx _ (by decide))),zu]
   ·rfl
   ·exact zg (XG (by show zb 2 _ _ (mG _ x)=_;rw[zt,jE,i3,v1,i3,k]) (by show zb 2 _ _ (mG _ x)=_;rw[zt,Wz,i3,v1,i3,f]))
abbrev lk (r x a b:T):En:=[.vl r,.vl x,.vl a,.vl b,.un,.un,.un]
theorem mX (c:Bool)(h:(x == w)=c):zp my (zd kj (vE 0) (cE (.int 0))) (cE (.str w)) (lk (.tup (.str x :: r)) y a b)= .ok c:=Zx c h
theorem yh:∀(c:List Int) (m:Int) (y:Sl),∃d,Zu (zw 5) (zC 4 (zd zv (vE 4) (vE 5))) (c.map T.int) [.vl r,.vl x,.vl a,.vl b,.vl (.int m),y,z]= .nx [.vl r,.vl x,.vl a,.vl b,.vl (.int (m+c.sum)),d,z]
 | [],m,y=>⟨y,by rw[List.sum_nil,Int.add_zero];rfl⟩
 | i :: c,m,y=>by
  obtain⟨d,h⟩:=yh (r:=r) (x:=x) (a:=a) (b:=b) (z:=z) c (m+i) (.vl (.int i));refine⟨d, ?_⟩;have e:zw 5 (.int i) [.vl r,.vl x,.vl a,.vl b,.vl (.int m),y,z]= .ok [.vl r,.vl x,.vl a,.vl b,.vl (.int m),.vl (.int i),z]:=rfl;have b2:zC 4 (zd zv (vE 4) (vE 5)) [.vl r,.vl x,.vl a,.vl b,.vl (.int m),.vl (.int i),z]= .nx [.vl r,.vl x,.vl a,.vl b,.vl (.int (m+i)),.vl (.int i),z]:=rfl;rw[ar,ZI e b2,h,cg,Int.add_assoc]
theorem Bu (c:f ρ= .ok (.int i))(a:g ρ= .ok (.int j)):ZL mL f g ρ= .ok (.bl (decide (i<=j))):=by rw[Ze,c,i3,a,i3,wJ,i3]
theorem Db (c:f ρ= .ok (.int i))(a:g ρ= .ok (.int j)):ZL oy f g ρ= .ok (.bl (decide (j<=i))):=by
 rw[Ze,c,i3,a,i3];rfl
theorem uH:frz (lk r x a b)=lk r x a b:=rfl
theorem jy (g:e<=2)(f:W e x):∀(n d:Nat),d<=n->∀r:Ru,ZK d r->nC n 0 [r.t,x]= .ok (.bl (kp r x))
 | 0,d,h,r,hr=>by
  have:d=0:=by omega
  subst this;cases hr
 | n+1,d,h,r,hr=>by
  show zk (Ab (sj 8) (nC n 0) [.vl r.t,.vl x,.un,.un,.un,.un,.un])=_;have C:sj 8 [x]= .ok (.lst (lv x)):=ye 8 e (by omega) (by omega) x f
  have I:=w9 g f;have hB:mF=16777216:=rfl;have hi:(ZV (lv x)).length<=9:=av (WG _) I;have J:zC 2 (zA (Z5 (zb 1 (sj 8) (za (vE 1) (ze)))) (zw 0) (ZX (mw (WS "int") (vB 0))) (vE 0) 1 []) [.vl r.t,.vl x,.un,.un,.un,.un,.un]= .nx [.vl r.t,.vl x,.vl (.lst ((ZV (lv x)).map T.int)),.un,.un,.un,.un]:=by
   have k:zq (zw 0) (ZX (mw (WS "int") (vB 0))) (vE 0) 1 [] [.vl r.t,.vl x,.un,.un,.un,.un,.un] (lv x)= .ok ((lv x).filter Dn):=
    Z4 _ (by omega) λt F=>⟨by cases FZ f t F <;> rfl,rfl⟩
   rw[zE (t:= .lst ((ZV (lv x)).map T.int))]
   ·rfl
   ·rw[zJ,Zs,zI,v1,i3,C,i3];show ((zq _ _ _ _ _ _ (lv x)).bind _)=_;rw[k,i3,wA]
  have S:zC 3 (mZ (ZX (mw (WS "tuple") (vB 1))) (vE 1) (Za (za (vE 1) (ze)))) [.vl r.t,.vl x,.vl (.lst ((ZV (lv x)).map T.int)),.un,.un,.un,.un]= .nx (lk r.t x (.lst ((ZV (lv x)).map T.int)) (.tup (Z9 x))):=by
   cases f <;> rfl
  rw[Ab,zc J,zc S];cases hr with
  | @sum d a b O U=>
   obtain⟨G,D⟩:=yh (r:=(Ru.sum a b).t) (x:=x) (a:= .lst ((ZV (lv x)).map T.int)) (b:= .tup (Z9 x)) (z:= .un) (ZV (lv x)) 0 .un;rw[f6]at D;have p:zC 4 (cE (.int 0)) (lk (Ru.sum a b).t x (.lst ((ZV (lv x)).map T.int)) (.tup (Z9 x)))= .nx [.vl (Ru.sum a b).t,.vl x,.vl (.lst ((ZV (lv x)).map T.int)),.vl (.tup (Z9 x)),.vl (.int 0),.un,.un]:=rfl;have X:ZD (Z5 (vE 2)) (zw 5) (zC 4 (zd zv (vE 4) (vE 5))) [.vl (Ru.sum a b).t,.vl x,.vl (.lst ((ZV (lv x)).map T.int)),.vl (.tup (Z9 x)),.vl (.int 0),.un,.un]= .nx [.vl (Ru.sum a b).t,.vl x,.vl (.lst ((ZV (lv x)).map T.int)),.vl (.tup (Z9 x)),.vl (.int (ZV (lv x)).sum),G,.un]:=by
    unfold ZD;rw[Zs,v2,i3];exact D
   rw[zu (t:= .bl (kp (.sum a b) x))]
   ·rfl
   ·rw[jF (by rw[Ru.t];exact mX true (by decide)),zc p,zc X,zg (t:= .bl (kp (.sum a b) x))]
    show j8 _ _ [.vl (Ru.sum a b).t,.vl x,.vl (.lst ((ZV (lv x)).map T.int)),.vl (.tup (Z9 x)),.vl (.int (ZV (lv x)).sum),X2 G,.un]=_;rw[Ru.t];exact WH (Bu jE rfl) (Bu rfl Wz)
  | @size d a b O U=>
   rw[Ru.t,zc (zj (mX false (by decide))),zu (t:= .bl (kp (.size a b) x))]
   ·rfl
   ·rw[jF (mX true (by decide)),zg (t:= .bl (kp (.size a b) x))]
    rw[uH];exact WH (Db (i:=((Z9 x).length:Int)) rfl jE) (Bu (i:=((Z9 x).length:Int)) rfl Wz)
  | @word d w hw=>
   rw[Ru.t,zc (zj (mX false (by decide))),zc (zj (mX false (by decide))),zu (t:= .bl (kp (.word w) x))]
   ·rfl
   ·rw[jF (mX true (by decide)),zg (t:= .bl (kp (.word w) x))]
    rw[uH];have k:zq (zw 0) (zp my (vB 0) (zd kj (vE 1) (cE (.int 1)))) (vE 0) 1 [0] (lk (.tup [.str "word",.str w]) x (.lst ((ZV (lv x)).map T.int)) (.tup (Z9 x))) (lv x)= .ok ((lv x).filter (V3 w)):=
     Z4 _ (by omega) λt F=>⟨by
      show zp my (vB 0) (zd kj (vE 1) (cE (.int 1))) [.vl t,.vl (.tup [.str "word",.str w])]=_;rw[zB,w0,i3,zh,v1,i3,zW,i3,oY,i3];unfold my;rw[Ee],rfl⟩
    rw[Ze,zJ,Zs,zI,v1,i3,C,i3];show (((zq _ _ _ _ _ _ (lv x)).bind _).bind _)=_;rw[k,i3,i3,show Zc ze (lk (.tup [.str "word",.str w]) x (.lst ((ZV (lv x)).map T.int)) (.tup (Z9 x)))= .ok (.lst []) from rfl,i3];have Q:mW (.lst ((lv x).filter (V3 w))) (.lst [])= .ok (!((lv x).filter (V3 w)).isEmpty):=by cases (lv x).filter (V3 w) <;> rfl
    rw[Q,i3,gG,Bool.not_not];rfl
  | rising=>
   rw[Ru.t,zc (zj (mX false (by decide))),zc (zj (mX false (by decide))),zc (zj (mX false (by decide))),zu (t:= .bl (kp .rising x))]
   ·rfl
   ·rw[jF (mX true (by decide)),zg (t:= .bl (kp .rising x))]
    rw[uH,Ze,Z8,w2,i3,i3,U0 _ (by omega),i3,QP,i3]
    rfl
  | unlike=>
   rw[Ru.t,zc (zj (mX false (by decide))),zc (zj (mX false (by decide))),zc (zj (mX false (by decide))),zc (zj (mX false (by decide))),zu (t:= .bl (kp .unlike x))]
   ·rfl
   ·rw[jF (mX true (by decide)),zg (t:= .bl (kp .unlike x))]
    rw[uH];have N:=uE f;obtain⟨q,M,P⟩:=xy (yg f g) (by omega) (a:= .vl (.tup [.str "unlike"])) (b:= .vl x) (c:= .vl (.lst ((ZV (lv x)).map T.int))) (ρ:=[.un,.un,.un])
    have Z:Zi (mw Z6 (vB 3)) (lk (.tup [.str "unlike"]) x (.lst ((ZV (lv x)).map T.int)) (.tup (Z9 x)))= .ok (rng 0 (Z9 x).length):=by
     rw[WD (j:=((Z9 x).length:Int)) rfl ⟨by omega,by omega⟩,b9]
    rw[Ze,zJ,Z,i3,M,i3,i3,show Zc ze (lk (.tup [.str "unlike"]) x (.lst ((ZV (lv x)).map T.int)) (.tup (Z9 x)))= .ok (.lst []) from rfl,i3,E2,i3,P];rfl
  | @no d r hr=>
   have o:=jy g f n d (by omega) r hr
   rw[Ru.t,zc (zj (mX false (by decide))),zc (zj (mX false (by decide))),zc (zj (mX false (by decide))),zc (zj (mX false (by decide))),zc (zj (mX false (by decide))),zu (t:= .bl (kp (.no r) x))]
   ·rfl
   ·rw[jF (mX true (by decide)),zg (t:= .bl (kp (.no r) x))]
    rw[uH];exact QW (by rw[zt,jE,i3,v1,i3,o])
  | @all d r s hr u=>
   have o:=jy g f n d (by omega) r hr
   have l :=jy g f n d (by omega) s u
   have p:zC 6 (zA (Z5 (nj (vE 0) (Zj (cE (.int 1))) (nr))) (zw 0) (zV) (zb 2 (nC n 0) (za (vE 0) (za (vE 1) (ze)))) 1 [1]) (lk (.tup [.str "all",r.t,s.t]) x (.lst ((ZV (lv x)).map T.int)) (.tup (Z9 x)))= .nx [.vl (.tup [.str "all",r.t,s.t]),.vl x,.vl (.lst ((ZV (lv x)).map T.int)),.vl (.tup (Z9 x)),.un,.un,.vl (.lst [.bl (kp r x),.bl (kp s x)])]:=by
    rw[zE (t:= .lst [.bl (kp r x),.bl (kp s x)])]
    ·rfl
    ·rw[zJ];show ((zq (zw 0) zV (zb 2 (nC n 0) (za (vE 0) (za (vE 1) (ze)))) 1 [1] (lk (.tup [.str "all",r.t,s.t]) x (.lst ((ZV (lv x)).map T.int)) (.tup (Z9 x))) [r.t,s.t]).bind _)=_;have k:zq (zw 0) zV (zb 2 (nC n 0) (za (vE 0) (za (vE 1) (ze)))) 1 [1] (lk (.tup [.str "all",r.t,s.t]) x (.lst ((ZV (lv x)).map T.int)) (.tup (Z9 x))) [r.t,s.t]= .ok [.bl (kp r x),.bl (kp s x)]:=by
      unfold zq;rw[if_pos (by show 2<=mF;omega)]
      have B:zb 2 (nC n 0) (za (vE 0) (za (vE 1) (ze))) [.vl r.t,.vl x]= .ok (.bl (kp r x)):=by rw[zt,v0,i3,v1,i3,o]
      have y:zb 2 (nC n 0) (za (vE 0) (za (vE 1) (ze))) [.vl s.t,.vl x]= .ok (.bl (kp s x)):=by rw[zt,v0,i3,v1,i3,l]
      show quiet ((zb 2 (nC n 0) (za (vE 0) (za (vE 1) (ze))) [.vl r.t,.vl x]).bind λv=>((zb 2 (nC n 0) (za (vE 0) (za (vE 1) (ze))) [.vl s.t,.vl x]).bind λv=>(R.ok []).bind λvs=> .ok (v :: vs)).bind λvs=> .ok (v :: vs))=_;rw[B,y];rfl
     rw[k,i3]
   rw[Ru.t,zc (zj (mX false (by decide))),zc (zj (mX false (by decide))),zc (zj (mX false (by decide))),zc (zj (mX false (by decide))),zc (zj (mX false (by decide))),zc (zj (mX false (by decide))),zc p,zg (t:= .bl (kp (.all r s) x))]
   ·rfl
   ·show mZ _ _ _ [.vl (.tup [.str "all",r.t,s.t]),.vl x,.vl (.lst ((ZV (lv x)).map T.int)),.vl (.tup (Z9 x)),.un,.un,.vl (.lst [.bl (kp r x),.bl (kp s x)])]=_;unfold mZ;rw[Zx true (by decide),i3,if_pos rfl]
    exact WH rfl rfl
  | @some d r s hr u=>
   have o:=jy g f n d (by omega) r hr
   have l :=jy g f n d (by omega) s u
   have p:zC 6 (zA (Z5 (nj (vE 0) (Zj (cE (.int 1))) (nr))) (zw 0) (zV) (zb 2 (nC n 0) (za (vE 0) (za (vE 1) (ze)))) 1 [1]) (lk (.tup [.str "some",r.t,s.t]) x (.lst ((ZV (lv x)).map T.int)) (.tup (Z9 x)))= .nx [.vl (.tup [.str "some",r.t,s.t]),.vl x,.vl (.lst ((ZV (lv x)).map T.int)),.vl (.tup (Z9 x)),.un,.un,.vl (.lst [.bl (kp r x),.bl (kp s x)])]:=by
    rw[zE (t:= .lst [.bl (kp r x),.bl (kp s x)])]
    ·rfl
    ·rw[zJ];show ((zq (zw 0) zV (zb 2 (nC n 0) (za (vE 0) (za (vE 1) (ze)))) 1 [1] (lk (.tup [.str "some",r.t,s.t]) x (.lst ((ZV (lv x)).map T.int)) (.tup (Z9 x))) [r.t,s.t]).bind _)=_;have k:zq (zw 0) zV (zb 2 (nC n 0) (za (vE 0) (za (vE 1) (ze)))) 1 [1] (lk (.tup [.str "some",r.t,s.t]) x (.lst ((ZV (lv x)).map T.int)) (.tup (Z9 x))) [r.t,s.t]= .ok [.bl (kp r x),.bl (kp s x)]:=by
      unfold zq;rw[if_pos (by show 2<=mF;omega)]
      have B:zb 2 (nC n 0) (za (vE 0) (za (vE 1) (ze))) [.vl r.t,.vl x]= .ok (.bl (kp r x)):=by rw[zt,v0,i3,v1,i3,o]
      have y:zb 2 (nC n 0) (za (vE 0) (za (vE 1) (ze))) [.vl s.t,.vl x]= .ok (.bl (kp s x)):=by rw[zt,v0,i3,v1,i3,l]
      show quiet ((zb 2 (nC n 0) (za (vE 0) (za (vE 1) (ze))) [.vl r.t,.vl x]).bind λv=>((zb 2 (nC n 0) (za (vE 0) (za (vE 1) (ze))) [.vl s.t,.vl x]).bind λv=>(R.ok []).bind λvs=> .ok (v :: vs)).bind λvs=> .ok (v :: vs))=_;rw[B,y];rfl
     rw[k,i3]
   rw[Ru.t,zc (zj (mX false (by decide))),zc (zj (mX false (by decide))),zc (zj (mX false (by decide))),zc (zj (mX false (by decide))),zc (zj (mX false (by decide))),zc (zj (mX false (by decide))),zc p,zg (t:= .bl (kp (.some r s) x))]
   ·rfl
   ·show mZ _ _ _ [.vl (.tup [.str "some",r.t,s.t]),.vl x,.vl (.lst ((ZV (lv x)).map T.int)),.vl (.tup (Z9 x)),.un,.un,.vl (.lst [.bl (kp r x),.bl (kp s x)])]=_;unfold mZ;rw[Zx false (by decide),i3,if_neg ax]
    exact XG rfl rfl
abbrev lr (ns:List Int)(k:Int)(d:Nat)(p:Int)(a b:Sl):En:=[.vl (mN ns),.vl (.int k),.vl (.int (d:Int)),.vl (.int p),a,b]
theorem QX (h:np [mN ns,.int (k+j),.int m]= .ok (.int q)):zb 3 np (za (vE 0) (za (zd zv (vE 1) (cE (.int j))) (za (cE (.int m)) (ze)))) (lr ns k d p a b)= .ok (.int q):=by
 rw[Zb,v0,i3,zh,v1,i3,zW,i3,zZ,i3,zW,i3,h]
theorem JL (a:List Int):∀(n d:Nat),d<=n->1<=d->∀k:Int,0<=k->∃r:Ru,oN n 0 [mN a,.int k,.int (d:Int)]= .ok r.t/\ZK d r
 | 0,d,h,h1,k,hk=>by omega
 | n+1,d,h,h1,k,hk=>by
  obtain⟨p,hp,p0,p9⟩:=zO a k 9 hk (by omega)
  have e1:zC 3 (zb 3 np (za (vE 0) (za (vE 1) (za (cE (.int 9)) (ze))))) [.vl (mN a),.vl (.int k),.vl (.int (d:Int)),.un,.un,.un]= .nx (lr a k d p .un .un):=by
   rw[zE (t:= .int p)]
   ·rfl
   ·rw[Zb,v0,i3,v1,i3,zW,i3,hp]
  have e:oN (n+1) 0 [mN a,.int k,.int (d:Int)]=zk (tR np (oN n 0) [.vl (mN a),.vl (.int k),.vl (.int (d:Int)),.un,.un,.un]):=rfl;rw[e,tR,zc e1];have i:X0 (zp nt (vB 2) (cE (.int 1))) (zp nt (vB 3) (cE (.int 5))) (lr a k d p .un .un)= .ok (decide (1 < d) && decide (5 < p)):=by
   rw[Qa,zB,w2,i3,zW,i3,gC,i3,show decide ((1:Int) < (d:Int))=decide (1 < d) by rw[fV,decide_eq_true_eq,decide_eq_true_eq];omega]
   cases decide (1 < d) with
   | true=>rw[if_pos rfl,zB,w3,i3,zW,i3,gC,lh]
   | false=>rfl
  by_cases hb:1 < d/\5 < p
  ·rw[decide_eq_true hb.1,decide_eq_true hb.2]at i;obtain⟨d,rfl⟩:∃Q,d=Q +1:=⟨d - 1,by omega⟩
   obtain⟨f,F,P⟩:=JL a n d (by omega) (by omega) (2*k+11) (by omega)
   obtain⟨v,G,o2⟩:=JL a n d (by omega) (by omega) (2*k+24) (by omega)
   have m2:zU (.int 2) (.int k)= .ok (.int (2*k)):=Qb _ _ (.inl ⟨by decide,by decide⟩)
   have y:zC 4 (zb 3 (oN n 0) (za (vE 0) (za (zd zv (zd zU (cE (.int 2)) (vE 1)) (cE (.int 11))) (za (zd jK (vE 2) (cE (.int 1))) (ze))))) (lr a k (d+1) p .un .un)= .nx (lr a k (d+1) p (.vl f.t) .un):=by
    rw[zE (t:=f.t)]
    ·rfl
    ·rw[Zb,v0,i3,zh,zh,zW,i3,v1,i3,m2,i3,zW,i3,zZ,i3,zh,v2,i3,zW,i3,Zf,i3,show ((d+1:Nat):Int) - 1=(d:Int) by omega,F]
   have U:zb 3 (oN n 0) (za (vE 0) (za (zd zv (zd zU (cE (.int 2)) (vE 1)) (cE (.int 24))) (za (zd jK (vE 2) (cE (.int 1))) (ze)))) (lr a k (d+1) p (.vl f.t) .un)= .ok v.t:=by
    rw[Zb,v0,i3,zh,zh,zW,i3,v1,i3,m2,i3,zW,i3,zZ,i3,zh,v2,i3,zW,i3,Zf,i3,show ((d+1:Nat):Int) - 1=(d:Int) by omega,G]
   by_cases X:p=6
   ·subst X;refine⟨.no f, ?_,.no P⟩;rw[zu (t:=(Ru.no f).t)]
    ·rfl
    ·rw[jF i,zc y,zu (t:=(Ru.no f).t)];rw[jF rfl,Ru.t];exact zg (UO rfl rfl)
   ·have o :zp my (vB 3) (cE (.int 6)) (lr a k (d+1) p (.vl f.t) .un)= .ok false:=by
     rw[zB,w3,i3,zW,i3,nQ,beq_eq_false_iff_ne.mpr X]
    by_cases h7:p=7
    ·subst h7;refine⟨.all f v, ?_,.all P o2⟩;rw[zu (t:=(Ru.all f v).t)]
     ·rfl
     ·rw[jF i,zc y,zc (zj o),Ru.t];exact zg (KW rfl rfl U)
    ·have h8:p=8:=by omega
     subst h8;refine⟨.some f v, ?_,.some P o2⟩;rw[zu (t:=(Ru.some f v).t)]
     ·rfl
     ·rw[jF i,zc y,zc (zj o),Ru.t];exact zg (KW rfl rfl U)
  ·have i:X0 (zp nt (vB 2) (cE (.int 1))) (zp nt (vB 3) (cE (.int 5))) (lr a k d p .un .un)= .ok false:=by
    rw[i];congr 1
    rw[Bool.and_eq_false_iff,decide_eq_false_iff_not,decide_eq_false_iff_not];omega
   obtain⟨d,rfl⟩:∃Q,d=Q +1:=⟨d - 1,by omega⟩
   obtain⟨q,hq,q0,q9⟩:=zO a (k+1) 9 (by omega) (by omega)
   have y:zC 5 (zd jK (zb 3 np (za (vE 0) (za (zd zv (vE 1) (cE (.int 1))) (za (cE (.int 9)) (ze))))) (cE (.int 4))) (lr a k (d+1) p .un .un)= .nx (lr a k (d+1) p .un (.vl (.int (q - 4)))):=by
    rw[zE (t:= .int (q - 4))]
    ·rfl
    ·rw[zh,QX hq,i3,zW,i3,Zf]
   rw[zc (zj i),zc y];have D:∃m:Nat,m < 6/\zd jL (vE 3) (cE (.int 6)) (lr a k (d+1) p .un (.vl (.int (q - 4))))= .ok (.int (m:Int)):=by
    obtain⟨w,rfl⟩:=dg p0;exact⟨w % 6,mv _ (by omega),by rw[zh,v3,i3,zW,i3];exact Qw (c:=6) (by omega)⟩
   obtain⟨m,m6,D⟩:=D;have S:zp om (zd jL (vE 3) (cE (.int 6))) (cE (.int 2)) (lr a k (d+1) p .un (.vl (.int (q - 4))))= .ok (decide (m < 2)):=by
    rw[zB,D,i3,zW,i3,Cd];congr 1;rw[fV,decide_eq_true_eq,decide_eq_true_eq];omega
   have tk:∀j:Nat,zp my (zd jL (vE 3) (cE (.int 6))) (cE (.int (j:Int))) (lr a k (d+1) p .un (.vl (.int (q - 4))))= .ok (m == j):=λj=>by
    rw[zB,D,i3,zW,i3,nQ,UV]
   have C:zp my (zd jL (vE 3) (cE (.int 6))) (cE (.int 2)) (lr a k (d+1) p .un (.vl (.int (q - 4))))= .ok (m == 2):=tk 2;have x:zp my (zd jL (vE 3) (cE (.int 6))) (cE (.int 3)) (lr a k (d+1) p .un (.vl (.int (q - 4))))= .ok (m == 3):=tk 3;have B:zp my (zd jL (vE 3) (cE (.int 6))) (cE (.int 4)) (lr a k (d+1) p .un (.vl (.int (q - 4))))= .ok (m == 4):=tk 4
   by_cases h2:m < 2
   ·obtain⟨u,M,u0,u5⟩:=zO a (k+2) 5 (by omega) (by omega)
    refine⟨.sum (q - 4) (q - 4+u - 1), ?_,.sum ⟨by omega,by omega⟩ ⟨by omega,by omega⟩⟩
    rw[zu (t:=(Ru.sum (q - 4) (q - 4+u - 1)).t)]
    ·rfl
    ·rw[jF (by rw[S,decide_eq_true h2]),Ru.t]
     refine zg (KW rfl rfl ?_);show zd jK _ _ (lr a k (d+1) p .un (.vl (.int (q - 4))))=_;rw[zh,zh,QX M,show vE 5 (lr a k (d+1) p .un (.vl (.int (q - 4))))= .ok (.int (q - 4)) from rfl,i3,i3,zZ,i3,zW,i3,Zf]
   rw[zc (zj (by rw[S,decide_eq_false h2]))]
   by_cases h3:m=2
   ·subst h3;obtain⟨g,l,J,O⟩:=zO a (k+1) 3 (by omega) (by omega)
    obtain⟨u,M,u0,u4⟩:=zO a (k+2) 4 (by omega) (by omega)
    refine⟨.size g u, ?_,.size ⟨by omega,by omega⟩ ⟨by omega,by omega⟩⟩
    rw[zu (t:=(Ru.size g u).t)]
    ·rfl
    ·rw[jF C,Ru.t];exact zg (KW rfl (QX l) (QX M))
   rw[zc (zj (by rw[C,beq_eq_false_iff_ne.mpr h3]))]
   by_cases Z:m=3
   ·subst Z;obtain⟨g,l,J,O⟩:=zO a (k+1) 4 (by omega) (by omega)
    have N:∃w:Str,Zr (.str w)=true/\kj (.lst [.str "a",.str "b",.str "ab",.str "zz"]) (.int g)= .ok (.str w):=by
     have I:g =0\/g =1\/g =2\/g =3:=by omega
     rcases I with rfl | rfl | rfl | rfl
     ·exact⟨"a",by decide,rfl⟩
     ·exact⟨"b",by decide,rfl⟩
     ·exact⟨"ab",by decide,rfl⟩
     ·exact⟨"zz",by decide,rfl⟩
    obtain⟨w,N,hx⟩:=N;refine⟨.word w, ?_,.word N⟩;rw[zu (t:=(Ru.word w).t)]
    ·rfl
    ·rw[jF x,Ru.t];refine zg (UO rfl ?_);show zd kj _ _ (lr a k (d+1) p .un (.vl (.int (q - 4))))=_;rw[zh,QX l];exact hx
   rw[zc (zj (by rw[x,beq_eq_false_iff_ne.mpr Z]))]
   by_cases h5:m=4
   ·subst h5;refine⟨.rising, ?_,.rising⟩;rw[zg (t:=Ru.rising.t)]
    ·rfl
    ·show mZ _ _ _ (lr a k (d+1) p .un (.vl (.int (q - 4))))=_;unfold mZ;rw[B,i3];rfl
   ·refine⟨.unlike, ?_,.unlike⟩;rw[zg (t:=Ru.unlike.t)]
    ·rfl
    ·show mZ _ _ _ (lr a k (d+1) p .un (.vl (.int (q - 4))))=_;unfold mZ;rw[B,i3,beq_eq_false_iff_ne.mpr h5];rfl
theorem Ei {f:T->T->Option Bool}:∀xs a:List T,(∀x∈xs,∀y∈a,∃b,f x y=some b/\(b=true↔x=y))->∃b,nu f xs a=some b/\(b=true↔xs=a)
 | [],[],_=>⟨true,rfl,by simp⟩
 | [],y :: a,_=>⟨false,rfl,by simp⟩
 | x :: xs,[],_=>⟨false,rfl,by simp⟩
 | x :: xs,y :: a,H=>by
  obtain⟨b,e,h⟩:=H x aa y aa;obtain⟨c,j,h'⟩:=Ei xs a λu g v d=>H u (a9 _ g) v (a9 _ d);have i:nu f (x :: xs) (y :: a)=match f x y with
   | none=>none
   | some b=>match nu f xs a with
    | none=>none
    | some c=>some _:=rfl
  refine⟨b && c,by rw[i,e,j], ?_⟩
  rw[aj,h,h',iO]
theorem IV:∀(n d e:Nat) (x y:T),d<=n->W d x->W e y->∃b,mE n x y=some b/\(b=true↔x=y):=by
 intro n d e x y hn l
 induction l generalizing n e y with
 | int d i=>
  intro hy;cases hy with
  | int e j=>exact⟨i == j,by cases n <;> rfl,by rw[beq_iff_eq,T.int.injEq]⟩
  | str e j=>exact⟨false,by cases n <;> rfl,by simp⟩
  | tup h r=>exact⟨false,by cases n <;> rfl,by simp⟩
 | str d i=>
  intro hy;cases hy with
  | int e j=>exact⟨false,by cases n <;> rfl,by simp⟩
  | str e j=>exact⟨i == j,by cases n <;> rfl,by rw[beq_iff_eq,T.str.injEq]⟩
  | tup h r=>exact⟨false,by cases n <;> rfl,by simp⟩
 | @tup d xs h r o=>
  intro hy;obtain⟨n,rfl⟩:∃m,n=m+1:=⟨n - 1,by omega⟩
  cases hy with
  | int e j=>exact⟨false,rfl,by simp⟩
  | str e j=>exact⟨false,rfl,by simp⟩
  | @tup e g h' p =>
   obtain⟨b,a,k⟩:=Ei xs g λu f v c=>o u f n e v (by omega) (p v c)
   exact⟨b,a,by rw[k,T.tup.injEq]⟩
theorem XH (f:W 2 x):∀a:List T,(∀y∈a,W 2 y)->∃b,Jo (λy=>mE 30 y x) a=some b/\(b=true↔x∈a)
 | [],_=>⟨false,rfl,by simp⟩
 | y :: a,H=>by
  obtain⟨b,e,h⟩:=IV 30 2 2 y x (by omega) (H y aa) f
  obtain⟨c,j,h'⟩:=XH f a λv g=>H v (a9 _ g);have i:Jo (λy=>mE 30 y x) (y :: a)=match mE 30 y x with
   | none=>none
   | some b=>match Jo (λy=>mE 30 y x) a with
    | none=>none
    | some d=>some _:=rfl
  refine⟨b || c,by rw[i,e,j], ?_⟩
  rw[fS,h,h',ak];exact⟨λq=>q.elim (λz=> .inl z.symm) .inr,λq=>q.elim (λz=> .inl z.symm) .inr⟩
theorem LO (d:W 2 x)(hy:∀y∈ys,W 2 y)(h:b=true↔x∈ys):Y8 x (.lst ys)= .ok (!b):=by
 obtain⟨c,e,h'⟩:=XH d ys hy;have a:c=b:=by rw[fV,h,h']
 subst a;show ((match Jo (λy=>mE 30 y x) ys with | some b=>R.ok b | none=> .bad).bind λb=>R.ok _)=_
 rw[e];rfl
theorem xA {k:Kd}(c:k.Ok 3){x:T}(a:x∈k.all):W 2 x:=QD 2 k x c ((ZU k x).mp a)
abbrev fl (k:Kd)(r:Ru):List T:=k.all.filter (kp r)
theorem B7 {k:Kd}(c:k.Ok 3)(r:Ru):∀x∈fl k r,W 2 x:=λx a=>xA c (bA.mp a).1
theorem HG (k:Kd)(r:Ru)(a:k.all.length<=500):(fl k r).length<=mF:=av (fj _ _) (av a (by decide))
theorem ZE (a:W 2 x)(hr:ZK 3 r):n9 8 [r.t,x]= .ok (.bl (kp r x)):=Jk (by omega) a 8 3 (by omega) r hr
def imp (k:Kd)(r s:Ru):Bool:=(fl k r).all (kp s)
theorem gH:imp k r s=true↔∀x∈k.all,kp r x=true->kp s x=true:=by
 unfold imp;rw[aJ];exact⟨λh x a hr=>h x (bA.mpr ⟨a,hr⟩),λh x a=>h x (bA.mp a).1 (bA.mp a).2⟩
noncomputable def mP (q:Rat):T:= .tup [.int q.num,.int q.den]
theorem IW {b:Nat}:mW (.int (b:Int)) (.int 0)= .ok (!(b == 0)):=by
 show R.ok _=_;congr 2
 cases b with
 | zero=>rfl
 | succ n=>
  rw[show ((n+1 == 0)=false) from rfl,beq_eq_false_iff_ne];omega
theorem yi (h:g ρ= .ok true)(a:fb ρ= .nx ρ'):Zo g fb (n+1) ρ=Zo g fb n ρ' :=by
 show (g ρ).s _=_;rw[h,j1,if_pos rfl,a]
theorem QY (h:g ρ= .ok false):Zo g fb (n+1) ρ= .nx ρ:=by
 show (g ρ).s _=_;rw[h,j1,if_neg ax]
theorem Cf {a b:Nat}(h:1<=b):jL (.int (a:Int)) (.int (b:Int))= .ok (.int ((a % b:Nat):Int)):=Qw h
abbrev Er:En->RS:=zn (zC 2 (zd jL (vE 0) (vE 1))) (zn (zC 0 (vE 1)) (zC 1 (vE 2)))
theorem QZ:∀(n b a:Nat) (x:Sl),b < n->∃c,Zo (zp mW (vB 1) (cE (.int 0))) Er n [.vl (.int (a:Int)),.vl (.int (b:Int)),x]= .nx [.vl (.int ((l7 a b:Nat):Int)),.vl (.int 0),c]
 | 0,b,a,x,h=>by omega
 | n+1,0,a,x,h=>⟨x,by
  rw[Nat.gcd_zero_right];rfl⟩
 | n+1,b+1,a,x,h=>by
  have e:Er [.vl (.int (a)),.vl (.int ((b+1:Nat))),x]= .nx [.vl (.int ((b+1:Nat))),.vl (.int ((a % (b+1):Nat))),.vl (.int ((a % (b+1)):Int))]:=by
   have f:zC 2 (zd jL (vE 0) (vE 1)) [.vl (.int (a)),.vl (.int ((b+1:Nat))),x]= .nx [.vl (.int (a)),.vl (.int ((b+1):Int)),.vl (.int ((a % (b+1):Nat)))]:=by
    rw[zE]
    ·rfl
    ·rw[zh,v0,i3,v1,i3,Cf (by omega)]
   show zn _ _ _=_;rw[zc f];rfl
  have d:a % (b+1) < n:=by have:=mv a (show b+1 > 0 by omega);omega
  obtain⟨c,g⟩:=QZ n _ _ _ d;refine⟨c, ?_⟩;rw[yi (show zp mW (vB 1) (cE (.int 0)) [.vl _,.vl (.int ((b+1:Nat))),x]= .ok _ from IW) e,g,lS _,← Nat.gcd_rec,lS]
theorem gJ {a b:Nat}(h:b < 2 ^ 9000):AU [.int (a:Int),.int (b:Int)]= .ok (.int ((l7 a b:Nat):Int)):=by
 obtain⟨d,c⟩:=QZ _ b a .un h;show zk (Au [.vl _,.vl _,.un])=_;unfold Au;rw[zc c];rfl
theorem He (u:Int):G9 (.int u)= .ok (.int (u.natAbs:Int)):=by
 show R.ok _=_;congr 2
 split <;> omega
theorem XI {u:Int}{g:Nat}(a:1<=g)(h:g < 2 ^ 9000):Ga (.int u) (.int (g:Int))= .ok (.int (u / (g:Int))):=by
 show (if _ then _ else _)=_
 rw[if_pos];refine⟨by omega, ?_⟩
 exact(Nat.log2_lt (by omega)).mpr h
theorem LI (u:Int)(d:Nat)(h:1<=d):(mkRat u d).num=u / ((l7 u.natAbs d:Nat):Int)/\(((mkRat u d).den:Nat):Int)=(d:Int) / ((l7 u.natAbs d:Nat):Int):=by
 rw[ip,iq,if_neg (by omega),if_neg (by omega),lS d]
 exact⟨rfl,Int.natCast_ediv _ _⟩
theorem gK {u:Int}{d:Nat}(h:1<=d):1<=l7 u.natAbs d/\l7 u.natAbs d<=d:=⟨Nat.gcd_pos_of_pos_right _ h,Nat.gcd_le_right _ h⟩
theorem jR {u:Int}{d:Nat}(h:1<=d)(hd:d < 2 ^ 9000):pT [.int u,.int (d:Int)]= .ok (mP (mkRat u d)):=by
 obtain⟨a,i⟩:=gK h;have c:=bq i hd;obtain⟨e,g⟩:=LI u d h;show zk (Bb _ [.vl _,.vl _,.un])=_;unfold Bb;have f:zC 2 (zb 2 AU (za (mw G9 (vB 0)) (za (vE 1) (ze)))) [.vl (.int u),.vl (.int (d)),.un]= .nx [.vl (.int u),.vl (.int (d)),.vl (.int ((l7 u.natAbs d):Int))]:=by
  rw[zE]
  ·rfl
  ·rw[zt,Z8,w0,i3,He,i3,v1,i3,gJ hd]
 rw[zc f,zg]
 ·rfl
 ·unfold mP;rw[e,g];exact UO (XI a c) (XI a c)
structure Bd (q:Rat) (m:Nat):Prop where
 num:q.num.natAbs<=2 ^ m
 den:q.den<=2 ^ m
theorem Bd.le (h:Bd q m)(a:m<=n):Bd q n:=⟨av h.num (bN (by decide) a),av h.den (bN (by decide) a)⟩
theorem Bd.mk' (h:1<=d)(c:u.natAbs<=2 ^ m)(a:d<=2 ^ m):Bd (mkRat u d) m:=by
 constructor
 ·rw[ip,if_neg (by omega),Int.natAbs_ediv_of_dvd]
  ·exact av (mq _ _) c
  ·exact Int.natAbs_dvd_natAbs.mp (by simpa using Nat.gcd_dvd_right d _)
 ·rw[iq,if_neg (by omega)]
  exact av (mq _ _) a
theorem XJ (q:Rat):1<=q.den:=bX q.den_nz
theorem Bd.mul (h:Bd p m)(k:Bd q n):Bd (p*q) (m+n):=by
 rw[Rat.mul_def'];refine Bd.mk' (dj (XJ p) (XJ q)) ?_ ?_
 ·rw[k_,fP];exact bo h.num k.num
 ·rw[fP];exact bo h.den k.den
theorem gL (h:Bd p m)(k:Bd q n):(p.num*(q.den:Int)+q.num*(p.den:Int)).natAbs<=2 ^ (m+n+1):=by
 refine av (Int.natAbs_add_le _ _) ?_;rw[k_,k_,lC,lC];have d:=bo h.num k.den;have a:=bo k.num h.den;rw[iL,fP];have c:2 ^ n*2 ^ m=2 ^ m*2 ^ n:=dm _ _;omega
theorem Bd.add (h:Bd p m)(k:Bd q n):Bd (p+q) (m+n+1):=by
 rw[Rat.add_def'];refine Bd.mk' (dj (XJ p) (XJ q)) (gL h k) ?_;refine av (bo h.den k.den) ?_;rw[← fP];exact bN (by decide) (by omega)
theorem DH (h:n<=2 ^ m)(a:m < 9000):n < 2 ^ 9000:=bq h (l6 (by decide) a)
theorem EA (h:n<=2 ^ m)(a:m < 8000):n < big:=by
 exact bq h (l6 (by decide) a)
theorem FX (h:i.natAbs<=2 ^ m)(k:j.natAbs<=2 ^ n)(a:m < 8000)(hn:n < 8000):ot (.int i) (.int j)= .ok (.int (i*j)):=by
 show (if _ then _ else _)=_
 rw[if_pos ⟨EA h a,EA k hn⟩]
theorem nd (d:Nat)(h:d<=2 ^ m):((d:Int)).natAbs<=2 ^ m:=by exact h
theorem tq (h:vE i ρ= .ok (.tup [a,b])):zd kj (vE i) (cE (.int 0)) ρ= .ok a:=by rw[zh,h,i3,zW,i3,pB]
theorem pM (h:vE i ρ= .ok (.tup [a,b])):zd kj (vE i) (cE (.int 1)) ρ= .ok b:=by rw[zh,h,i3,zW,i3,oY]
theorem v6 (a:f ρ= .ok (.int i))(d:g ρ= .ok (.int j))(h:i.natAbs<=2 ^ m)(k:j.natAbs<=2 ^ n)(c:m < 8000)(hn:n < 8000):zd ot f g ρ= .ok (.int (i*j)):=by
 rw[zh,a,i3,d,i3,FX h k c hn]
theorem IE (c:f ρ= .ok (.int i))(a:g ρ= .ok (.int j)):zd zv f g ρ= .ok (.int (i+j)):=by
 rw[zh,c,i3,a,i3,zZ]
theorem yj (h:Bd p m)(k:Bd q n)(d:m+n < 8000):py [mP p,mP q]= .ok (mP (p*q)):=by
 show zk (AN _ [.vl _,.vl _])=_;unfold AN;rw[zg]
 ·rfl
 ·rw[zt];have a:vE 0 (frz [.vl (mP p),.vl (mP q)])= .ok _:=rfl;have c:vE 1 (frz [.vl (mP p),.vl (mP q)])= .ok _:=rfl;rw[v6 (tq a) (tq c) h.num k.num (by omega) (by omega),i3,v6 (pM a) (pM c) (nd _ h.den) (nd _ k.den) (by omega) (by omega),i3,← fR,
   jR (dj (XJ p) (XJ q)) (DH (by rw[fP];exact bo h.den k.den) (by omega)),← Rat.mul_def']
theorem gM (h:Bd p m)(k:Bd q n)(d:m+n < 8000):Ba [mP p,mP q]= .ok (mP (p+q)):=by
 show zk (tU _ [.vl _,.vl _])=_;unfold tU;rw[zg]
 ·rfl
 ·rw[zt];have a:vE 0 (frz [.vl (mP p),.vl (mP q)])= .ok _:=rfl;have c:vE 1 (frz [.vl (mP p),.vl (mP q)])= .ok _:=rfl;rw[IE (v6 (tq a) (pM c) h.num (nd _ k.den) (by omega) (by omega)) (v6 (tq c) (pM a) k.num (nd _ h.den) (by omega) (by omega)),i3,v6 (pM a) (pM c) (nd _ h.den) (nd _ k.den) (by omega) (by omega),i3,← fR,
   jR (dj (XJ p) (XJ q)) (DH (by rw[fP];exact bo h.den k.den) (by omega)),← Rat.add_def']
noncomputable def XL:List Rat->Rat
 | []=>0
 | q :: r=>q+XL r
abbrev Ey:En->RS:=zC 1 (zb 2 Ba (za (vE 1) (za (vE 2) (ze))))
theorem v7:∀(qs:List Rat) (p:Rat) (n:Nat) (x:Sl),(∀q∈qs,Bd q m)->Bd p n->n+qs.length*(m+1) < 8000->
  ∃c,Zu (zw 2) Ey (qs.map mP) [s,.vl (mP p),x]= .nx [s,.vl (mP (p+XL qs)),c]
 | [],p,n,x,_,_,_=>⟨x,by rw[XL,Rat.add_zero];rfl⟩
 | q :: r,p,n,x,f,hp,g=>by
  rw[aw,fO]at g;have d:=f q aa;obtain⟨c,e⟩:=v7 r _ _ _ (λa i=>f a (a9 _ i)) (hp.add d) (by omega)
  refine⟨c, ?_⟩;rw[ar,ZI (Ck 2 _ _),e,XL,Rat.add_assoc];show zC 1 _ [s,.vl _,.vl _]=_;rw[zE]
  ·rfl
  ·rw[zt,v1,i3,show vE 2 _= .ok _ from rfl,i3,gM hp d (by omega)]
theorem Fe:Bd 0 0:=⟨by decide,by decide⟩
theorem bd1:Bd 1 0:=⟨by decide,by decide⟩
theorem Uc {qs:List Rat}(h:∀q∈qs,Bd q m)(f:qs.length*(m+1) < 8000):BW [.lst (qs.map mP)]= .ok (mP (XL qs)):=by
 show zk (AX _ [.vl _,.un,.un])=_;unfold AX;have c:zC 1 (Za (za (cE (.int 0)) (za (cE (.int 1)) (ze)))) [.vl (.lst (qs.map mP)),.un,.un]= .nx [.vl (.lst (qs.map mP)),.vl (mP 0),.un]:=by
  rfl
 obtain⟨a,e⟩:=v7 qs 0 0 .un h Fe (by omega)
 have d:ZD (Z5 (vE 0)) (zw 2) Ey [.vl (.lst (qs.map mP)),.vl (mP 0),.un]= .nx [.vl (.lst (qs.map mP)),.vl (mP (XL qs)),a]:=by
  rw[Rat.zero_add]at e;exact e
 rw[zc c,zc d];rfl
noncomputable def Ja:List Rat->Rat
 | []=>1
 | q :: r=>q*Ja r
noncomputable def Y2 (a:List (Str×Int)):Int:=(a.map (·.2)).sum
mutual
noncomputable def Kd.sh:Kd->T->Rat
 | .whole lo hi=>λ_=>mkRat 1 (hi+1 - lo).toNat
 | .pick a=>λt=>match t with | .str x=>mkRat ((a.lookup x).getD 0) (Y2 a).toNat | _=>0
 | .row c=>λt=>match t with | .tup xs=>Kd.shs c xs | _=>0
 | .many k lo hi=>λt=>match t with | .tup xs=>mkRat 1 (hi+1 - lo)*Ja (xs.map k.sh) | _=>0
noncomputable def Kd.shs:List Kd->List T->Rat
 | []=>λ_=>1
 | k :: a=>λxs=>match xs with | []=>1 | x :: xs=>k.sh x*Kd.shs a xs
end
theorem v8:∀(a:List Kd) (xs:List T),Kd.shs a xs=Ja ((a.zip xs).map λq=>q.1.sh q.2)
 | [],_=>by simp[Kd.shs,Ja]
 | k :: a,[]=>by simp[Kd.shs,Ja]
 | k :: a,x :: xs=>by simp[Kd.shs,Ja,v8 a xs]
theorem v9 (k:Kd):∀xs:List T,((ag xs.length k).zip xs).map (λq=>q.1.sh q.2)=xs.map k.sh
 | []=>rfl
 | x :: xs=>by rw[aw,bv,dz,ar,ar,v9 k xs]
theorem Bd.prod:∀{qs:List Rat},(∀q∈qs,Bd q m)->Bd (Ja qs) (qs.length*m)
 | [],_=>by exact bd1.le (bf _)
 | q :: r,h=>by
  rw[aw,fO,cz,dU];exact(h q aa).mul (Bd.prod λa c=>h a (a9 _ c))
theorem vc:∀a:List (Str×Int),Jf (a.map Jz)=some a
 | []=>rfl
 | c :: a=>by
  show (match Jf _ with | some l=>some _ | none=>none)=_
  rw[vc a]
theorem Dst.nd (h:Dst ws):ws.Nodup:=by
 rw[List.Nodup,dY];intro i j hi a c e;refine h j _ (ah a) ?_;rw[← e];rw[List.mem_take_iff_getElem];exact⟨i,by omega,rfl⟩
theorem W3:∀(a:List (Str×Int)) (x:Str),(a.any λc=>c.1 == x)=true->∃i,a.lookup x=some i/\(x,i)∈a
 | [],x,h=>by simp at h
 | c :: a,x,h=>by
  rw[ib,fS]at h
  by_cases e:c.1=x
  ·refine⟨c.2, ?_, ?_⟩
   ·rw[aQ];simp[e]
   ·rw[← e];exact aa
  ·have h:=h.resolve_left (by simp[e])
   obtain⟨i,f,d⟩:=W3 a x h;refine⟨i, ?_,a9 _ d⟩;rw[aQ];have:=beq_eq_false_iff_ne.mpr (bj e);rw[this];exact f
theorem XM:∀{d:List (Str×Int)},(∀c∈d,1<=c.2/\c.2<=20)->(d.length:Int)<=Y2 d/\Y2 d<=20*d.length
 | [],_=>by simp[Y2]
 | c :: d,h=>by
  have g:=XM λa f=>h a (a9 _ f);have i:=h c aa;have e:Y2 (c :: d)=c.2+Y2 d:=by simp[Y2]
  rw[aw];omega
theorem XN {a:List (Str×Int)}(h:(Kd.pick a).Ok (d+1)):1<=Y2 a/\Y2 a<=80/\∀c∈a,1<=c.2/\c.2<=20:=by
 have e:=λc f=>(h.2.2.1 c f).2;have:=XM e;have i:=h.1;have g:=h.2.1;exact⟨by omega,by omega,e⟩
theorem vd (a:List (Str×Int))(x:Str):(Kd.pick a).sh (.str x)=mkRat ((a.lookup x).getD 0) (Y2 a).toNat:=by rw[Kd.sh]
theorem IK {a:List (Str×Int)}(hd:Dst (a.map (·.1)))(h:a.lookup x=some i):qy (.tup (a.map Jz)) (.str x)= .ok (.int i):=by
 unfold qy;dsimp only;rw[vc];dsimp only;rw[if_pos hd.nd,h]
theorem gO {a:List (Str×Int)}(hd:Dst (a.map (·.1))):uj (.tup (a.map Jz))= .ok (.int (Y2 a)):=by
 unfold uj;dsimp only;rw[vc];dsimp only;rw[if_pos hd.nd];rfl
theorem xB {a:List (Str×Int)}(h:(Kd.pick a).Ok (d+1))(c:a.lookup x=some i):A3 [(Kd.pick a).t,.str x]= .ok (mP ((Kd.pick a).sh (.str x))):=by
 obtain⟨j,e,_⟩:=XN h;show zk (C3 _ [.vl _,.vl _,.un])=_;have f:zd kj (vE 0) (cE (.int 1)) [.vl (Kd.pick a).t,.vl (.str x),.un]= .ok (.tup (a.map Jz)):=by exact jE
 have g:Y2 a=(((Y2 a).toNat):Int):=by omega
 show zk ((R.bind _ _).s _)=_;rw[f,i3,v1,i3,IK h.2.2.2 c,i3,gO h.2.2.2,i3,g,jR (by omega) (DH (m:=7) (by omega) (by decide)),vd,c]
 rfl
abbrev DQ (c:List T->R T):En->RS:=zC 2 (zb 2 py (za (vE 2) (za (zb 2 c (za (vE 3) (za (vE 4) (ze)))) (ze))))
theorem ve:∀(qs:List (Kd×T)) (p:Rat) (n:Nat) (x y:Sl),(∀q∈qs,c [q.1.t,q.2]= .ok (mP (q.1.sh q.2))/\Bd (q.1.sh q.2) m)->Bd p n->n+qs.length*m < 8000->
  ∃d f,Zu (zN 3 4) (DQ c) (qs.map λq=>T.tup [q.1.t,q.2]) [s,t,.vl (mP p),x,y]= .nx [s,t,.vl (mP (p*Ja (qs.map λq=>q.1.sh q.2))),d,f]
 | [],p,n,x,y,_,_,_=>⟨x,y,by simp only[bI,Ja,Rat.mul_one];rfl⟩
 | q :: r,p,n,x,y,h,hp,i=>by
  rw[aw,fO]at i;obtain⟨k,g⟩:=h q aa;obtain⟨d,f,e⟩:=ve r _ _ _ _ (λa j=>h a (a9 _ j)) (hp.mul g) (by omega)
  refine⟨d,f, ?_⟩;rw[ar,ar,ZI rfl,e,Ja,Rat.mul_assoc];show zC 2 _ _=_;rw[zE]
  ·rfl
  ·rw[zt,show vE 2 _= .ok _ from rfl,i3,zt,show vE 3 _= .ok _ from rfl,i3,show vE 4 _= .ok q.2 from rfl,i3,k,i3,yj hp g (by omega)]
theorem uI (a:List Kd)(xs:List T)(i:jN s= .ok (a.map Kd.t))(r:a.length<=3)(l:m<=1000)(H:∀q∈a.zip xs,c [q.1.t,q.2]= .ok (mP (q.1.sh q.2))/\Bd (q.1.sh q.2) m):
  zk (tF py c (mB 5 [s,.tup xs]))= .ok (mP (Ja ((a.zip xs).map λq=>q.1.sh q.2))):=by
 have e:mB 5 [s,.tup xs]=[.vl s,.vl _,.un,.un,.un]:=rfl;have hz:=by
  have j:(a.zip xs).length<=3:=by rw[dE];omega
  have:=bo j l;omega
 obtain⟨d,p,k⟩:=ve _ 1 0 .un .un H bd1 (by omega)
 have f:zC 2 (Za (za (cE (.int 1)) (za (cE (.int 1)) (ze)))) [.vl s,.vl (.tup xs),.un,.un,.un]= .nx [.vl s,.vl (.tup xs),.vl (mP 1),.un,.un]:=by
  rfl
 have g:Yb (vE 0) (vE 1) [.vl s,.vl (.tup xs),.vl (mP 1),.un,.un]= .ok ((a.zip xs).map λq=>T.tup [q.1.t,q.2]):=by
  show (jN s).bind _=_;rw[i,← gr];rfl
 have o:ZD (Yb (vE 0) (vE 1)) (zN 3 4) (DQ c) [.vl s,.vl (.tup xs),.vl (mP 1),.un,.un]= .nx [.vl s,.vl (.tup xs),.vl (mP (Ja ((a.zip xs).map λq=>q.1.sh q.2))),d,p]:=by
  unfold ZD;rw[g,j1,k,Rat.one_mul]
 rw[e,tF,zc f,zc o];rfl
noncomputable def sb:Nat->Nat
 | 0=>0
 | d+1=>7+3*sb d
theorem AO (d:Nat):sb (d+1)=7+3*sb d:=rfl
abbrev xC (a b:T):En:=[.vl a,.vl b,.un]
theorem Gh (h:(x == w)=false):mD (zp my (zd kj (vE 0) (cE (.int 0))) (cE (.str w))) f mC (xC (.tup (.str x :: r)) b)= .nx (xC (.tup (.str x :: r)) b):=
 zj (by rw[show zp my _ _ _= .ok _ from nL,h])
theorem CV:mD (zp my (zd kj (vE 0) (cE (.int 0))) (cE (.str x))) f mC (xC (.tup (.str x :: r)) b)=f (xC (.tup (.str x :: r)) b):=
 jF (by rw[show zp my _ _ _= .ok _ from nL,beq_self_eq_true])
theorem yk:∀(d n:Nat),2*d<=n->d<=3->∀(k:Kd) (x:T),k.Ok d->k.has x=true->n5 n 0 [k.t,x]= .ok (mP (k.sh x))/\Bd (k.sh x) (sb d)
 | 0,_,_,_,_,_,h,_=>h.elim
 | d+1,n+2,hn,N,k,x,h,f=>by
  have G:=yk d n (by omega) (by omega)
  have p:sb d<=1000:=by
   rcases(show d=0\/d=1\/d=2 by omega) with rfl | rfl | rfl <;> decide
  have e:n5 (n+2) 0 [k.t,x]=zk (pp (pA 20) py A3 (n5 (n+1) 1) (xC k.t x)):=by rfl
  have D:∀s y,n5 (n+1) 1 [s,y]=zk _:=λs y=>by rw[n5];intro h;cases h
  rw[e];cases k with
  | whole lo hi=>
   obtain⟨M,Q,Z⟩:=h;have B:=jw (d:=1) (by omega) (UU d lo hi ⟨M,Q,Z⟩)
   rw[jk]at B;constructor
   ·rw[show (Kd.whole lo hi).t= .tup _ from by rw[Kd.t]]at B ⊢
    rw[pp,zu (t:=mP _),Kd.sh]
    ·rfl
    ·rw[CV,zg (t:=mP _)];show Za _ (xC _ x)=_;have u:mP (mkRat 1 (hi+1 - lo).toNat)= .tup [.int 1,.int (((hi+1 - lo).toNat):Int)]:=by
      unfold mP;rw[ip,iq,if_neg (by omega),if_neg (by omega),show (1:Int).natAbs=1 from rfl,lT,Nat.div_one]
      rfl
     rw[u];exact UO rfl (by rw[zI,v0,i3,B])
   ·rw[Kd.sh];refine(Bd.mk' (m:=7) (by omega) (by decide) (by omega)).le ?_
    rw[AO];omega
  | pick I=>
   cases x with
   | str y=>
    have c :=by rw[Kd.has]at f;exact f
    obtain⟨i,hi,O⟩:=W3 I y c;obtain⟨P,U,w⟩:=XN h;have hw:=w _ O;constructor
    ·have F:=xB h hi;rw[show (Kd.pick I).t= .tup _ from by rw[Kd.t]]at F ⊢
     rw[pp,zc (Gh (by decide)),zu (t:=mP _)]
     ·rfl
     ·rw[CV,zg (t:=mP _)];show zb 2 _ _ (xC _ _)=_;rw[zt,v0,i3,v1,i3,F]
    ·rw[vd,hi];refine(Bd.mk' (m:=7) (by omega) ?_ (by omega)).le ?_
     ·show i.natAbs<=128;omega
     ·rw[AO];omega
   | _=>rw[Kd.has]at f;cases f
  | row l=>
   cases x with
   | tup xs=>
    have c :=by rw[Kd.has]at f;exact f
    rw[aj,beq_iff_eq,JF,aJ]at c;have H:=λq g=>G q.1 q.2 (h.2.2 q.1 (c8 g).1) (c.2 q g);have hp:=uI (s:= .tup (l.map Kd.t)) l xs rfl h.2.1 p H;have C:(Kd.row l).sh (.tup xs)=Ja ((l.zip xs).map λq=>q.1.sh q.2):=by rw[Kd.sh,← v8]
    rw[C];constructor
    ·rw[show (Kd.row l).t= .tup _ from by rw[Kd.t,Kd.ts_map]]
     rw[pp,zc (Gh (by decide)),zc (Gh (by decide)),zu]
     ·rfl
     ·rw[CV,zg];show zb 2 _ _ (xC _ _)=_;rw[zt,jE,i3,v1,i3,D,hp]
    ·have r:=Bd.prod (m:=sb d) (λq g=>by
      obtain⟨a,v,rfl⟩:=aA.mp g;exact(H a v).2)
     refine r.le ?_;have X:=h.2.1;have hz:((l.zip xs).map λq=>q.1.sh q.2).length<=3:=by rw[ae,dE];omega
     have:=cU (sb d) hz;rw[AO];omega
   | _=>rw[Kd.has]at f;cases f
  | many k lo hi=>
   cases x with
   | tup xs=>
    have c :=by rw[Kd.has]at f;exact f
    rw[aj,aj,decide_eq_true_eq,decide_eq_true_eq,aJ]at c;obtain⟨⟨l1,l2⟩,c⟩:=c;have X:=h.2.1;have j:xs.length<=3:=by omega
    have H:∀q∈(ag xs.length k).zip xs,n5 n 0 [q.1.t,q.2]= .ok (mP (q.1.sh q.2))/\Bd (q.1.sh q.2) (sb d):=λq g=>by
     have:=c8 g;have e:=bF this.1;refine G q.1 q.2 ?_ ?_
     ·rw[e];exact h.2.2
     ·rw[e];exact c q.2 this.2
    have hp:=uI (s:= .lst _) _ xs rfl (by rw[aV];exact j) p H
    rw[v9]at hp;have C:(Kd.many k lo hi).sh (.tup xs)=mkRat 1 (hi+1 - lo)*Ja (xs.map k.sh):=by rw[Kd.sh]
    have r:=Bd.prod (qs:=xs.map k.sh) (m:=sb d) (λq g=>by
      rw[← v9]at g;obtain⟨a,v,rfl⟩:=aA.mp g;exact(H a v).2)
    rw[ae]at r;have o:Bd (mkRat 1 (hi+1 - lo)) 2:=Bd.mk' (by omega) (by decide) (by omega)
    have hz:=cU (sb d) j;rw[C];constructor
    ·rw[show (Kd.many k lo hi).t= .tup _ from by rw[Kd.t]]
     have S:zd zU (Zc (za (zd kj (vE 0) (cE (.int 1))) (ze))) (mw Z6 (vB 1)) [.vl (.tup [.str "many",k.t,.int (lo:Int),.int (hi:Int)]),.vl (.tup xs),.vl (mP (mkRat 1 (hi+1 - lo)))]= .ok (.lst ((ag xs.length k).map Kd.t)):=by
      rw[zh,V2 jE,i3,Z8,w1,i3,jP,i3,wq j,ZP,aS]
     have u:mP (mkRat 1 (hi+1 - lo))= .tup [.int 1,.int ((hi:Int) - (lo:Int)+1)]:=by
      unfold mP;rw[ip,iq,if_neg (by omega),if_neg (by omega),show (1:Int).natAbs=1 from rfl,lT,Nat.div_one,show ((hi+1 - lo:Nat))=(hi:Int) - (lo:Int)+1 by omega]
      rfl
     have J:zC 2 (Za (za (cE (.int 1)) (za (zd zv (zd jK (zd kj (vE 0) (cE (.int 3))) (zd kj (vE 0) (cE (.int 2)))) (cE (.int 1))) (ze)))) (xC (.tup [.str "many",k.t,.int (lo:Int),.int (hi:Int)]) (.tup xs))= .nx [.vl (.tup [.str "many",k.t,.int (lo:Int),.int (hi:Int)]),.vl (.tup xs),.vl (mP (mkRat 1 (hi+1 - lo)))]:=by
      rw[u];rfl
     rw[pp,zc (Gh (by decide)),zc (Gh (by decide)),zc (Gh (by decide)),zc J,zg]
     ·rfl
     ·show zb 2 _ _ [.vl _,.vl _,.vl _]=_;rw[zt,show vE 2 _= .ok _ from rfl,i3,zt,S,i3,v1,i3,D,hp,i3,yj o r (by omega)]
    ·refine(o.mul r).le ?_;rw[AO];omega
   | _=>cases f
theorem vf {k:Kd}(a:k.Ok 3):A5 [k.t]= .ok .non:=by
 have hi:=Qs 3 k a;show zk (AR _ [.vl k.t])=_;rw[AR,zj]
 ·rfl
 ·rw[Jv,j6,zI,v0,i3,yW _ (Wx 3 _ hi).so,hi];rfl
theorem j2 {k:Kd}(a:k.Ok 3)(o:k.all.length<=500):pE [k.t]= .ok (.lst k.all):=by
 show zk (tJ _ _ _ [.vl k.t,.un])=_;have d:zC 1 (zb 1 (pA 20) (za (vE 0) (ze))) [.vl k.t,.un]= .nx (mG k.t (.int (k.all.length))):=by
  rw[zE]
  ·rfl
  ·rw[zI,v0,i3,jw (by omega) a]
 have g:zp nt (vB 1) (cE (.int 500)) (mG k.t (.int (k.all.length)))= .ok false:=by
  rw[zB,w1,i3,zW,i3,gC,decide_eq_false (by omega)]
 have l:Zi (vE 1) (mG k.t (.int (k.all.length)))= .ok (rng 0 k.all.length):=by
  rw[WD rfl ⟨by omega,by omega⟩,b9]
 have e:zq _ _ (zb 2 (sE 20) (za (vE 1) (za (vE 0) _))) 1 [0] (mG k.t (.int (k.all.length))) (rng 0 k.all.length)= .ok ((rng 0 _).map λt=>match t with | .int i=>(k.all[i.toNat]?).getD .non | y=>y):=
  zK _ (by unfold rng;rw[ae,bJ];have:mF=16777216:=rfl;omega) λt f=>by
   obtain⟨i,hi,rfl⟩:=aA.mp f;obtain⟨x,c⟩:=jG (aT.mp hi);show zb 2 _ _ (mG _ k.t)=R.ok ((k.all[((0:Int)+(i)).toNat]?).getD _);rw[show ((0:Int)+(i))=(i) by omega,zt,v1,i3,v0,i3,Hq a c,b9,c]
   rfl
 have j:Ao (Zi (vE 1)) (zw 0) (zV) (zb 2 (sE 20) (za (vE 1) (za (vE 0) (ze)))) 1 [0] (mG k.t (.int (k.all.length)))= .rf k.all:=by
  show ((Zi _ (mG k.t _)).s λts=>(zq _ _ _ _ _ (mG k.t _) ts).s λvs=>RS.rf vs)=_;rw[l,j1,e];exact congrArg _ (nT k)
 rw[tJ,zc (ZJ (by rw[zI,v0,i3,vf a])),zc d,zc (zj g),j]
 rfl
theorem ZQ (h:ZK 3 r):oU [r.t]= .ok .non:=by
 show zk (A2 _ [.vl r.t])=_;rw[A2,zj]
 ·rfl
 ·have e:Bs [r.t]= .ok (.bl true):=by
   show zk (zr _ _)=_;rw[zg]
   ·rfl
   ·exact Jj 8 3 (by omega) r h
  rw[Jv,j6,zI,v0,i3,e];rfl
theorem Jl:zk (zr f ρ)=f (frz ρ):=by rw[Zd,Ju]
theorem Ff {k:Kd}(a:k.Ok 3)(x:T):CH [k.t,x]= .ok (.bl (k.has x)):=by
 show zk (sX _ _ (mG k.t x))=_;unfold sX;rw[zc (ZJ (by rw[zI,v0,i3,vf a])),Jl]
 exact Xz 3 20 (by omega) k x a
theorem WI {k:Kd}(c:k.Ok 3){x:T}(a:k.has x=true):pX [k.t,x]= .ok .non:=by
 show zk (A4 _ (mG k.t x))=_;rw[A4,zj (by rw[Jv,j6,zt,v0,i3,v1,i3,Ff c,a];rfl)];rfl
noncomputable def yl (lo hi:Int):Int:=if hi < (if lo > 0 then lo else 0) then hi else (if lo > 0 then lo else 0)
noncomputable def vg (i:Int):Int:=if i < 0 then -i else i
noncomputable def mU:List (T->Int)->List T->Int
 | f :: fs,x :: xs=>f x+mU fs xs
 | _,_=>0
noncomputable def oQ (fs:List (T->List T))(xs:List T):List (List T):=(aN xs.length).flatMap λi=>match fs[i]?,xs[i]? with
 | some f,some x=>(f x).map λy=>xs.set i y
 | _,_=>[]
noncomputable def pZ (xs:List T):List (List T):=(aN xs.length).map λi=>xs.take i++xs.drop (i+1)
mutual
noncomputable def Kd.wt:Kd->T->Int
 | .whole lo hi=>λt=>match t with | .int i=>vg (i - yl lo hi) | _=>0
 | .pick a=>λt=>match t with | .str x=>((a.map (·.1)).idxOf x:Nat) | _=>0
 | .row c=>λt=>match t with | .tup xs=>mU (Kd.wtF c) xs | _=>0
 | .many k lo hi=>λt=>match t with | .tup xs=>mU (ag xs.length k.wt) xs+(xs.length:Int) - (lo:Int) | _=>0
noncomputable def Kd.wtF:List Kd->List (T->Int)
 | []=>[]
 | k :: a=>k.wt :: Kd.wtF a
end
mutual
noncomputable def Kd.less:Kd->T->List T
 | .whole lo hi=>λt=>match t with | .int i=>if i=yl lo hi then [] else if i > yl lo hi then [.int (i - 1)] else [.int (i+1)] | _=>[]
 | .pick a=>λt=>match t with | .str x=>(match (a.map (·.1)).idxOf x with | 0=>[] | j+1=>match a[j]? with | some c=>[.str c.1] | none=>[]) | _=>[]
 | .row d=>λt=>match t with | .tup xs=>(oQ (Kd.lessF d) xs).map T.tup | _=>[]
 | .many k lo hi=>λt=>match t with | .tup xs=>(if xs.length=lo then [] else (pZ xs).map T.tup)++(oQ (ag xs.length k.less) xs).map T.tup | _=>[]
noncomputable def Kd.lessF:List Kd->List (T->List T)
 | []=>[]
 | k :: a=>k.less :: Kd.lessF a
end
theorem Kd.wtF_map:∀a:List Kd,Kd.wtF a=a.map Kd.wt
 | []=>by simp only[Kd.wtF,bI]
 | k :: a=>by simp only[Kd.wtF,ar,Kd.wtF_map a]
theorem Kd.lessF_map:∀a:List Kd,Kd.lessF a=a.map Kd.less
 | []=>by simp only[Kd.lessF,bI]
 | k :: a=>by simp only[Kd.lessF,ar,Kd.lessF_map a]
structure nZ (k:Kd):Prop where
 pos:∀x,k.has x=true->0<=k.wt x
 dn:∀x y,k.has x=true->y∈k.less x->k.has y=true/\k.wt y < k.wt x
 one:∀x,k.has x=true->k.wt x ≠ 0->∃y∈k.less x,k.wt y=k.wt x - 1
 uniq:∀x y,k.has x=true->k.has y=true->k.wt x=0->k.wt y=0->x=y
theorem vh (h:lo<=hi):lo<=yl lo hi/\yl lo hi<=hi:=by
 unfold yl;split <;> split at* <;> omega
theorem ZW:oV lo hi x=true↔∃i,x= .int i/\lo<=i/\i<=hi:=by
 constructor
 ·intro h;obtain⟨i,rfl⟩:=Qc h;simp[oV]at h;exact⟨i,rfl,h⟩
 ·rintro⟨i,rfl,h⟩
  simp[oV];exact h
theorem vi (h:lo<=hi):nZ (.whole lo hi):=by
 obtain⟨p,o⟩:=vh h;refine⟨λx a=> ?_,λx y a hy=> ?_,λx a f=> ?_,λx y a hy k d=> ?_⟩
 ·simp only[Kd.wt,vg];split <;> omega
 ·obtain⟨i,rfl,c⟩:=ZW.mp a;simp only[Kd.less]at hy;split at hy
  ·cases hy
  ·split at hy
   ·simp at hy;subst hy;simp only[Kd.has,Kd.wt,vg];refine⟨ZW.mpr ⟨_,rfl,by omega,by omega⟩, ?_⟩
    split <;> split <;> omega
   ·simp at hy;subst hy;simp only[Kd.has,Kd.wt,vg];refine⟨ZW.mpr ⟨_,rfl,by omega,by omega⟩, ?_⟩
    split <;> split <;> omega
 ·obtain⟨i,rfl,c⟩:=ZW.mp a;simp only[Kd.wt,vg]at f ⊢;simp only[Kd.less]
  by_cases e:i=yl lo hi
  ·exfalso;apply f;split <;> omega
  ·rw[if_neg e]
   by_cases g:i > yl lo hi
   ·rw[if_pos g];refine⟨_,aq.mpr rfl, ?_⟩;simp only[Kd.wt,vg];split <;> split <;> omega
   ·rw[if_neg g];refine⟨_,aq.mpr rfl, ?_⟩;simp only[Kd.wt,vg];split <;> split <;> omega
 ·obtain⟨i,rfl,c⟩:=ZW.mp a;obtain⟨j,rfl,l⟩:=ZW.mp hy;simp only[Kd.wt,vg]at k d;have:i=j:=by split at k <;> split at d <;> omega
  rw[this]
theorem Zm {e:List (Str×Int)}:(Kd.pick e).has x=true↔∃w,x= .str w/\w∈e.map (·.1):=by
 have d:∀w,(e.any λc=>c.1 == w)=true↔w∈e.map _:=λw=>by
  rw[fB,aA];exact⟨λ⟨c,a,b⟩=>⟨c,a,beq_iff_eq.mp b⟩,λ⟨c,a,b⟩=>⟨c,a,beq_iff_eq.mpr b⟩⟩
 constructor
 ·intro h;cases x with
  | str w=>exact⟨w,rfl,(d w).mp h⟩
  | _=>cases h
 ·rintro⟨w,rfl,h⟩
  exact(d w).mpr h
theorem ym {a:List Str}{w:Str}(h:w∈a):a.idxOf w < a.length:=ij.mpr h
theorem vj {a:List Str}{w:Str}(h:w∈a):a[a.idxOf w]? =some w:=by
 rw[ah (ym h),lu _]
theorem gP {d:List Str}(h:Dst d){i j:Nat}{w:Str}(hi:d[i]? =some w)(e:d[j]? =some w):i=j:=by
 have c:∀{i j:Nat},d[i]? =some w->d[j]? =some w->¬ i < j:=λ{i j} hi e f=>by
  refine h j w e (bg (i:=i) ?_);rw[eA f];exact hi
 have a:=c hi e;have b:=c e hi;omega
theorem vk {a:List Str}(h:Dst a){i:Nat}{w:Str}(hi:a[i]? =some w):a.idxOf w=i:=gP h (vj (bg hi)) hi
theorem xD {g:List (Str×Int)}(h:Dst (g.map (·.1))):nZ (.pick g):=by
 refine⟨λx f=> ?_,λx y f hy=> ?_,λx f d=> ?_,λx y f hy B q=> ?_⟩
 ·obtain⟨w,rfl,d⟩:=Zm.mp f;simp only[Kd.wt];omega
 ·obtain⟨w,rfl,d⟩:=Zm.mp f;simp only[Kd.less]at hy;split at hy
  ·cases hy
  ·rename_i j e;split at hy
   ·rename_i c r;simp at hy;subst hy;have i:(g.map (·.1))[j]? =some c.1:=by rw[ao,r];rfl
    refine⟨Zm.mpr ⟨_,rfl,bg i⟩, ?_⟩;simp only[Kd.wt];rw[vk h i];omega
   ·cases hy
 ·obtain⟨w,rfl,k⟩:=Zm.mp f;simp only[Kd.wt]at d ⊢;simp only[Kd.less];have o:=ym k;cases e:(g.map _).idxOf w with
  | zero=>rw[e]at d;exact absurd rfl d
  | succ j=>
   rw[e]at o;have u:=lU (by simpa using o)
   obtain⟨c,i⟩:=jG u;dsimp only;rw[i];refine⟨_,aq.mpr rfl, ?_⟩;have l :(g.map (·.1))[j]? =some c.1:=by rw[ao,i];rfl
   simp only[Kd.wt];rw[vk h l];omega
 ·obtain⟨w,rfl,d⟩:=Zm.mp f;obtain⟨v,rfl,p⟩:=Zm.mp hy;simp only[Kd.wt]at B q;have a:=vj d;have b:=vj p;rw[show (g.map _).idxOf w=0 by omega]at a
  rw[show (g.map _).idxOf v=0 by omega,a]at b
  rw[aH b]
def Hs (a:List Kd)(xs:List T):Prop:=xs.length=a.length/\∀(i:Nat) (k:Kd) (x:T),a[i]? =some k->xs[i]? =some x->k.has x=true
theorem Ud:∀(fs:List (T->Int)) (xs:List T) (i:Nat) (f:T->Int) (x y:T),fs[i]? =some f->xs[i]? =some x->mU fs (xs.set i y)=mU fs xs - f x+f y
 | [],_,i,_,_,_,h,_=>by simp at h
 | _ :: _,[],i,_,_,_,_,h=>by simp at h
 | f :: fs,x :: xs,0,g,u,y,h,h' =>by
  simp at h h';subst h h';simp only[List.set_cons_zero,mU];omega
 | f :: fs,x :: xs,i+1,g,u,y,h,h' =>by
  have a:=Ud fs xs i g u y (by simpa using h) (by simpa using h')
  simp only[List.set_cons_succ,mU,a];omega
theorem WK {g:List Kd}:Hs (k :: g) (x :: xs)↔k.has x=true/\Hs g xs:=by
 constructor
 ·rintro⟨f,c⟩
  exact⟨c 0 k x rfl rfl,by simpa using f,λi e d a b=>c (i+1) e d (by simpa using a) (by simpa using b)⟩
 ·rintro⟨j,f,c⟩
  refine⟨by simp[f],λi e d a b=> ?_⟩
  cases i with
  | zero=>simp at a b;subst a b;exact j
  | succ i=>exact c i e d (by simpa using a) (by simpa using b)
theorem jm:∀(c:List Kd) (xs:List T),(∀k∈c,nZ k)->Hs c xs->0<=mU (c.map Kd.wt) xs
 | [],[],_,_=>by simp[mU]
 | [],_ :: _,_,h=>by simp[Hs]at h
 | _ :: _,[],_,h=>by simp[mU]
 | k :: c,x :: xs,d,h=>by
  obtain⟨e,f⟩:=WK.mp h;have a:=(d k aa).pos x e;have b:=jm c xs (λq g=>d q (a9 _ g)) f;simp only[ar,mU];omega
theorem WL:∀(c:List Kd) (xs f:List T),(∀k∈c,nZ k)->Hs c xs->Hs c f->mU (c.map Kd.wt) xs=0->mU (c.map Kd.wt) f=0->xs=f
 | [],xs,f,_,h,h',_,_=>by
  have a:=cj h.1;have b:=cj h'.1;rw[a,b]
 | k :: c,[],_,_,h,_,_,_=>by simp[Hs]at h
 | k :: c,_ :: _,[],_,_,h,_,_=>by simp[Hs]at h
 | k :: c,x :: xs,y :: f,o,h,h',e,r =>by
  obtain⟨g,j⟩:=WK.mp h;obtain⟨l,i⟩:=WK.mp h';have d :=λq p=>o q (a9 _ p);have L:=o k aa;have a:=L.pos x g;have v :=L.pos y l;have b:=jm c xs d j;have u :=jm c f d i;simp only[ar,mU]at e r;rw[L.uniq x y g l (by omega) (by omega),WL c xs f d j i (by omega) (by omega)]
theorem vm:∀(d:List Kd) (xs:List T),(∀k∈d,nZ k)->Hs d xs->mU (d.map Kd.wt) xs ≠ 0->∃(i:Nat) (k:Kd) (x:T),d[i]? =some k/\xs[i]? =some x/\k.wt x ≠ 0
 | [],xs,_,_,h=>absurd (by simp[mU]) h
 | k :: d,[],_,_,h=>absurd (by simp[mU]) h
 | k :: d,x :: xs,p,h,f=>by
  obtain⟨r,j⟩:=WK.mp h
  by_cases e:k.wt x=0
  ·simp only[ar,mU,e,f6]at f;obtain⟨i,o,g,a,b,c⟩:=vm d xs (λq l=>p q (a9 _ l)) j f;exact⟨i+1,o,g,by simpa using a,by simpa using b,c⟩
  ·exact⟨0,k,x,rfl,rfl,e⟩
theorem vn {c:List Kd}:ys∈oQ (c.map Kd.less) xs↔∃(i:Nat) (k:Kd) (x y:T),c[i]? =some k/\xs[i]? =some x/\y∈k.less x/\ys=xs.set i y:=by
 unfold oQ;rw[di];constructor
 ·rintro⟨i,hi,h⟩
  rw[ao]at h;cases e:c[i]? with
  | none=>rw[e]at h;simp at h
  | some k=>
   rw[e]at h;cases a :xs[i]? with
   | none=>rw[a]at h;simp at h
   | some x=>
    rw[a]at h;obtain⟨y,hy,rfl⟩:=aA.mp h;exact⟨i,k,x,y,e,a,hy,rfl⟩
 ·rintro⟨i,k,x,y,e,a,hy,rfl⟩
  have hi:=(ay.mp a).1;refine⟨i,aT.mpr hi, ?_⟩;rw[ao,e,a];exact aA.mpr ⟨y,hy,rfl⟩
theorem ES {c:List Kd}(h:Hs c xs)(g:c[i]? =some k)(hy:k.has y=true):Hs c (xs.set i y):=by
 refine⟨by rw[bx];exact h.1,λj f d a b=> ?_⟩
 by_cases e:i=j
 ·subst e;have hi:=by have:=(ay.mp b).1;simpa using this
  rw[be hi]at b;rw[g]at a;cases a;cases b;exact hy
 ·rw[aB e]at b;exact h.2 j f d a b
theorem Zg {c:Type}{l:List c}{i:Nat}{a:c}(h:l[i]? =some a):a∈l:=bg h
theorem vo {d:List Kd}{xs e:List T}(g:∀k∈d,nZ k)(h:Hs d xs)(hy:e∈oQ (d.map Kd.less) xs):Hs d e/\mU (d.map Kd.wt) e < mU (d.map Kd.wt) xs:=by
 obtain⟨i,k,x,y,a,b,c,rfl⟩:=vn.mp hy;obtain⟨f,j⟩:=(g k (Zg a)).dn x y (h.2 i k x a b) c;refine⟨ES h a f, ?_⟩;rw[Ud _ xs i _ x y (by rw[ao,a];rfl) b];omega
theorem vp {d:List Kd}{xs:List T}(f:∀k∈d,nZ k)(h:Hs d xs)(g:mU (d.map Kd.wt) xs ≠ 0):∃j∈oQ (d.map Kd.less) xs,mU (d.map Kd.wt) j=mU (d.map Kd.wt) xs - 1:=by
 obtain⟨i,k,x,a,b,c⟩:=vm d xs f h g;obtain⟨y,hy,e⟩:=(f k (Zg a)).one x (h.2 i k x a b) c;refine⟨xs.set i y,vn.mpr ⟨i,k,x,y,a,b,hy,rfl⟩, ?_⟩;rw[Ud _ xs i _ x y (by rw[ao,a];rfl) b];omega
theorem XO {e:List Kd}:(xs.length == e.length && Kd.hass e xs)=true↔Hs e xs:=by
 rw[aj,beq_iff_eq,JF,aJ];constructor
 ·rintro⟨d,c⟩
  refine⟨d,λi k x a b=>c (k,x) (bg (i:=i) ?_)⟩;rw[cG];exact⟨a,b⟩
 ·rintro⟨d,c⟩
  refine⟨d,λq f=> ?_⟩;obtain⟨i,hi⟩:=dJ.mp f;obtain⟨a,b⟩:=cG.mp hi;exact c i q.1 q.2 a b
theorem W4 {k:Kd}{xs:List T}:xs.all k.has=true↔Hs (ag xs.length k) xs:=by
 rw[aJ];constructor
 ·intro h;refine⟨by simp,λi d x a b=> ?_⟩
  obtain rfl:k=d :=(dA.mp (Zg a)).2.symm;exact h x (Zg b)
 ·rintro⟨_,h⟩ x e
  obtain⟨i,hi⟩:=dJ.mp e;have c:=(ay.mp hi).1;exact h i k x (by rw[aU,if_pos c]) hi
theorem j3 {a:List Kd}(h:(Kd.row a).has t=true):∃xs,t= .tup xs/\Hs a xs:=by
 simp only[Kd.has]at h;split at h
 ·exact⟨_,rfl,XO.mp h⟩
 ·cases h
theorem ZC (h:(Kd.many k lo hi).has t=true):∃xs,t= .tup xs/\lo<=xs.length/\xs.length<=hi/\Hs (ag xs.length k) xs:=by
 simp only[Kd.has]at h;split at h
 ·rw[aj,aj,decide_eq_true_eq,decide_eq_true_eq]at h;exact⟨_,rfl,h.1.1,h.1.2,W4.mp h.2⟩
 ·cases h
theorem gQ {a:List Kd}(h:Hs a xs):(Kd.row a).has (.tup xs)=true:=by exact XO.mpr h
theorem yn (c:lo<=xs.length)(a:xs.length<=hi)(h:Hs (ag xs.length k) xs):(Kd.many k lo hi).has (.tup xs)=true:=by
 simp only[Kd.has];rw[aj,aj,decide_eq_true_eq,decide_eq_true_eq];exact⟨⟨c,a⟩,W4.mpr h⟩
theorem gR {g:List Kd}(i:∀k∈g,nZ k):nZ (.row g):=by
 refine⟨λx c=> ?_,λx y c hy=> ?_,λx c l=> ?_,λx y c hy f e=> ?_⟩
 ·obtain⟨xs,rfl,h⟩:=j3 c;simp only[Kd.wt,Kd.wtF_map];exact jm g xs i h
 ·obtain⟨xs,rfl,h⟩:=j3 c;simp only[Kd.less,Kd.lessF_map]at hy;obtain⟨d,j,rfl⟩:=aA.mp hy;obtain⟨a,b⟩:=vo i h j;simp only[Kd.wt,Kd.wtF_map];exact⟨gQ a,b⟩
 ·obtain⟨xs,rfl,h⟩:=j3 c;simp only[Kd.wt,Kd.wtF_map]at l ⊢;obtain⟨d,f,e⟩:=vp i h l;refine⟨.tup d,by simp only[Kd.less,Kd.lessF_map];exact aA.mpr ⟨d,f,rfl⟩, ?_⟩
  exact e
 ·obtain⟨xs,rfl,h⟩:=j3 c;obtain⟨d,rfl,h'⟩:=j3 hy;simp only[Kd.wt,Kd.wtF_map]at f e;rw[WL g xs d i h h' f e]
theorem WM {k:Kd}:∀(xs:List T) (i:Nat) (x:T),xs[i]? =some x->mU (ag (xs.take i++xs.drop (i+1)).length k.wt) (xs.take i++xs.drop (i+1))=mU (ag xs.length k.wt) xs - k.wt x
 | [],i,x,h=>by simp at h
 | y :: a,0,x,h=>by
  simp at h;subst h;simp only[List.take_zero,bP,fZ,d_,dN,aw,bv,mU];omega
 | y :: a,i+1,x,h=>by
  have c:=WM (k:=k) a i x (by simpa using h)
  simp only[lg,d_,fE,aw,bv,mU,c];omega
theorem vq {xs:List T}{i:Nat}(h:i < xs.length):(xs.take i++xs.drop (i+1)).length=xs.length - 1:=by
 rw[az,db,dR];omega
theorem XQ (h:Hs (ag xs.length k) xs):Hs (ag (xs.take i++xs.drop (i+1)).length k) (xs.take i++xs.drop (i+1)):=by
 rw[← W4]at h ⊢;rw[aJ]at h ⊢;intro x a;rcases aW.mp a with a | a
 ·exact h x (j_ a)
 ·exact h x (List.mem_of_mem_drop a)
theorem Zh {c d:Type}(f:c->d)(n:Nat)(a:c):ag n (f a)=(ag n a).map f:=by rw[aS]
theorem xE {k:Kd}{lo hi:Nat}(w:nZ k):nZ (.many k lo hi):=by
 have hr:∀n,∀q∈ag n k,nZ q:=λn q D=>by obtain rfl:=(dA.mp D).2;exact w
 refine⟨λx j=> ?_,λx y j hy=> ?_,λx j G=> ?_,λx y j hy r o=> ?_⟩
 ·obtain⟨xs,rfl,r,o,h⟩:=ZC j;simp only[Kd.wt,Zh];have:=jm _ xs (hr _) h;omega
 ·obtain⟨xs,rfl,r,o,h⟩:=ZC j;rcases aW.mp hy with hy | hy
  ·split at hy
   ·cases hy
   ·obtain⟨d,g,rfl⟩:=aA.mp hy;obtain⟨i,v,rfl⟩:=aA.mp g;have f :=aT.mp v;obtain⟨x,c⟩:=jG f;have l:=vq f;refine⟨yn (by omega) (by omega) (XQ h), ?_⟩
    simp only[Kd.wt];rw[WM xs i x c];have:=w.pos x (aJ.mp (W4.mpr h) x (Zg c));omega
  ·rw[Zh]at hy;obtain⟨d,g,rfl⟩:=aA.mp hy;obtain⟨a,b⟩:=vo (hr _) h g;have l:=by have:=a.1;simpa using this
   refine⟨yn (by omega) (by omega) (by rw[l];exact a), ?_⟩
   simp only[Kd.wt,Zh];rw[l];omega
 ·obtain⟨xs,rfl,r,o,h⟩:=ZC j;simp only[Kd.wt,Zh]at G ⊢
  by_cases e:mU ((ag xs.length k).map Kd.wt) xs=0
  ·have u:xs.length ≠ lo:=by omega
   have B:0 < xs.length:=by omega
   obtain⟨x,c⟩:=jG B;refine⟨.tup (xs.take 0++xs.drop (0+1)), ?_, ?_⟩
   ·simp only[Kd.less,if_neg u];exact aW.mpr (.inl (aA.mpr ⟨_,aA.mpr ⟨0,aT.mpr B,rfl⟩,rfl⟩))
   ·dsimp only;rw[← Zh,WM xs 0 x c,vq B,Zh];have z:k.wt x=0:=by
     have:=WM (k:=k) xs 0 x c;have p:=jm _ _ (hr _) (XQ (i:=0) h);have F :=w.pos x (aJ.mp (W4.mpr h) x (Zg c));rw[Zh,Zh]at this;omega
    omega
  ·obtain⟨d,a,b⟩:=vp (hr _) h e;have l:=by have:=(vo (hr _) h a).1.1;simpa using this
   refine⟨.tup d, ?_, ?_⟩
   ·simp only[Kd.less,Zh];exact aW.mpr (.inr (aA.mpr ⟨d,a,rfl⟩))
   ·simp only[Zh];rw[l];omega
 ·obtain⟨xs,rfl,J,M,h⟩:=ZC j;obtain⟨d,rfl,N,b2,h'⟩:=ZC hy;simp only[Kd.wt,Zh]at r o;have p:=jm _ xs (hr _) h;have F :=jm _ d (hr _) h';have C:xs.length=lo:=by omega
  have I:d.length=lo:=by omega
  rw[C]at h r;rw[I]at h' o;rw[WL _ xs d (hr _) h h' (by omega) (by omega)]
theorem oJ:∀(d:Nat) (k:Kd),k.Ok d->nZ k
 | 0,_,h=>h.elim
 | d+1,.whole lo hi,h=>vi h.2.1
 | d+1,.pick c,h=>xD h.2.2.2
 | d+1,.row e,h=>gR λk a=>oJ d k (h.2.2 k a)
 | d+1,.many k lo hi,h=>xE (oJ d k h.2.2)
theorem vt {a:List (Str×Int)}(hd:Dst (a.map (·.1)))(h:w∈a.map (·.1)):Xc (.str w) (a.map λc=>T.str c.1)= .ok (.int (((a.map (·.1)).idxOf w:Nat):Int)):=by
 obtain⟨c,d,rfl⟩:=aA.mp h;obtain⟨i,hi⟩:=dJ.mp d;rw[xw hd hi,vk hd (by rw[ao,hi];rfl)]
theorem vv (lo hi:Int):oK [(Kd.whole lo hi).t]= .ok (.int (yl lo hi)):=by
 have e:oK [(Kd.whole lo hi).t]=zk (Ad [.vl (.tup [.str "whole",.int lo,.int hi])]):=by rfl
 rw[e,Ad,zg]
 ·rfl
 ·rfl
theorem vw:∀(a:List Kd) (xs:List T),mU (a.map Kd.wt) xs=((a.zip xs).map λq=>q.1.wt q.2).sum
 | [],xs=>by simp[mU]
 | _ :: _,[]=>by simp[mU]
 | k :: a,x :: xs=>by simp only[ar,mU,dz,cg,vw a xs]
theorem WN {c:Type}(g:c->Int):∀l:List c,Z2 (l.map λa=>T.int (g a))=some (l.map g)
 | []=>rfl
 | a :: l=>by
  show (match Z2 (l.map λa=>T.int _) with | some d =>some _ | none=>none)=_
  rw[WN g l];rfl
theorem vx {c:Type}(g:c->Int)(l:List c):qh (.lst (l.map λa=>T.int (g a)))= .ok (.int (l.map g).sum):=by
 show (match Z2 (l.map λa=>T.int _) with | some l=>_ | none=>_)=_
 rw[WN]
theorem wB:∀(qs:List (Kd×T)) (x y:Sl),(∀q∈qs,c [q.1.t,q.2]= .ok (.int (q.1.wt q.2)))->zx (zN 0 1) zV (zb 2 c (za (vE 0) (za (vE 1) (ze)))) (qs.map λq=>T.tup [q.1.t,q.2]) [x,y]= .ok (qs.map λq=>T.int (q.1.wt q.2))
 | [],_,_,_=>rfl
 | q :: qs,x,y,h=>by
  have e:zb 2 c (za (vE 0) (za (vE 1) (ze))) [.vl q.1.t,.vl q.2]= .ok (.int (q.1.wt q.2)):=by
   rw[zt,v0,i3,v1,i3,h q aa]
  have a:=wB qs (.vl q.1.t) (.vl q.2) λr hr=>h r (a9 _ hr);have d:zx (zN 0 1) zV (zb 2 c (za (vE 0) (za (vE 1) (ze)))) ((q :: qs).map λq=>T.tup [q.1.t,q.2]) [x,y]=
   (zb 2 c _ [.vl _,.vl q.2]).bind λv=>(zx _ _ _ (qs.map λq=>T.tup _) [.vl _,.vl q.2]).bind λvs=> .ok _:=rfl
  rw[d,e,i3,a,i3,ar]
theorem uJ (a:List Kd)(xs:List T)(i:jN s= .ok (a.map Kd.t))(d:a.length<=3)(H:∀q∈a.zip xs,c [q.1.t,q.2]= .ok (.int (q.1.wt q.2))):
  zk (tE c (mB 2 [s,.tup xs]))= .ok (.int (mU (a.map Kd.wt) xs)):=by
 have g:Yb (vE 0) (vE 1) [.vl s,.vl (.tup xs)]= .ok ((a.zip xs).map λq=>T.tup [q.1.t,q.2]):=by
  show (jN s).bind _=_;rw[i,← gr];rfl
 have e:((a.zip xs).map λq=>T.tup [q.1.t,q.2]).length<=mF:=by
  rw[ae,dE];exact av (mo _ _) (av d (by decide))
 have f:zq (zN 0 1) zV (zb 2 c (za (vE 0) (za (vE 1) (ze)))) 2 [] [.vl s,.vl (.tup xs)] ((a.zip xs).map λq=>T.tup [q.1.t,q.2])= .ok ((a.zip xs).map λq=>T.int (q.1.wt q.2)):=by
  unfold zq;rw[if_pos e];show quiet (zx _ _ _ _ [.un,.un])=_;rw[wB _ _ _ H];rfl
 rw[tE,zg]
 ·rfl
 ·show mw _ _ [.vl s,.vl _]=_;rw[Z8,zJ,g,i3,f,i3,i3,vx,vw]
theorem vy {c:List Kd}(h:Hs c xs):∀q∈c.zip xs,q.1.has q.2=true:=λq d=>by
 obtain⟨i,hi⟩:=dJ.mp d;obtain⟨a,b⟩:=cG.mp hi;exact h.2 i q.1 q.2 a b
theorem HZ:G9 (.int i)= .ok (.int (vg i)):=rfl
theorem gS:∀(d n:Nat),2*d<=n->∀(k:Kd) (x:T),k.Ok d->k.has x=true->nV n 0 [k.t,x]= .ok (.int (k.wt x))
 | 0,_,_,_,_,h,_=>h.elim
 | d+1,n+2,hn,k,x,h,f=>by
  have r:=gS d n (by omega)
  have e:nV (n+2) 0 [k.t,x]=zk (o8 nK oK (nV (n+1) 1) (mB 2 [k.t,x])):=by rw[nV]
  have o:∀s y,nV (n+1) 1 [s,y]=zk _:=λs y=>by rw[nV];intro h;cases h
  rw[e];cases k with
  | whole lo hi=>
   obtain⟨i,rfl,v⟩:=ZW.mp f;have e:mB 2 [(Kd.whole lo hi).t,.int i]=mG (.tup [.str "whole",.int lo,.int hi]) (.int i):=by rw[Kd.t];rfl
   have hn:=vv lo hi;rw[Kd.t]at hn;rw[e,o8,zu (t:= .int (vg _))]
   ·rfl
   ·rw[Qp,zg];show mw _ _ (mG _ _)=_;rw[Z8,zh,v1,i3,zI,v0,i3,hn,i3,Zf,i3,HZ]
  | pick g=>
   obtain⟨w,rfl,D⟩:=Zm.mp f;have e:mB 2 [(Kd.pick g).t,.str w]=mG (.tup [.str "pick",.tup (g.map Jz)]) (.str w):=by rfl
   have a :=JG g h.2.1;rw[Kd.t]at a;rw[e,o8,zc (JH (by decide)),zu (t:= .int (((g.map _).idxOf w:Nat):Int))]
   ·rfl
   ·rw[Qp,zg];show G8 _ _ _ (mG _ _)=_;unfold G8;rw[zI,v0,i3,a,i3];dsimp only;rw[w1,i3,vt h.2.2.2 D]
  | row l=>
   obtain⟨xs,rfl,j⟩:=j3 f;have e:mB 2 [(Kd.row l).t,.tup xs]=mG (.tup [.str "row",.tup (l.map Kd.t)]) (.tup xs):=by rw[Kd.t,Kd.ts_map];rfl
   rw[e,o8,zc (JH (by decide)),zc (JH (by decide)),zu]
   ·simp only[Kd.wt,Kd.wtF_map];rfl
   ·rw[Qp,zg];show zb _ _ _ (mG _ _)=_;rw[zt,jE,i3,v1,i3,o,uJ l xs rfl h.2.1 λq c=>r q.1 q.2 (h.2.2 q.1 (c8 c).1) (vy j q c)]
  | many k lo hi=>
   obtain⟨xs,rfl,F,B,j⟩:=ZC f;have p:=av B h.2.1;have e:mB 2 [(Kd.many k lo hi).t,.tup xs]=mG (.tup [.str "many",k.t,.int (lo),.int (hi)]) (.tup xs):=by rfl
   have u:zd zU (Zc (za (zd kj (vE 0) (cE (.int 1))) (ze))) (mw Z6 (vB 1)) (mG (.tup [.str "many",k.t,.int (lo),.int (hi)]) (.tup xs))= .ok (.lst ((ag xs.length k).map Kd.t)):=by
    rw[zh,V2 jE,i3,Z8,w1,i3,jP,i3,wq p,ZP,aS]
   rw[e,o8,zc (JH (by decide)),zc (JH (by decide)),zc (JH (by decide)),zg]
   ·simp only[Kd.wt,Zh];rfl
   ·show zd _ _ _ (mG _ _)=_;have C:=uJ (s:= .lst _) _ xs rfl (by rw[aV];exact p) λq c=>r q.1 q.2 (by
     rw[bF (c8 c).1];exact h.2.2) (vy j q c)
    rw[zh,zh,zt,u,i3,v1,i3,o,C,i3,Z8,w1,i3,jP,i3,zZ,i3,Wz,i3,Zf]
theorem xF {fx fi fy:En->R T}{ρ:En}{xs:List T}{i:Nat}{y:T}(a:fx ρ= .ok (.tup xs))(hi:fi ρ= .ok (.int (i:Int)))(hy:fy ρ= .ok y)(h:i < xs.length)(e:xs.length<=1000):
  zd zv (zd zv (nj fx nr (Zj fi)) (Za (za fy ze))) (nj fx (Zj (zd zv fi (cE (.int 1)))) nr) ρ= .ok (.tup (xs.set i y)):=by
 have c:mF=16777216:=rfl;have d:zd zv fi (cE (.int 1)) ρ= .ok (.int ((i+1:Nat))):=by rw[U7 hi];rfl
 rw[zh,zh,xi,a,i3,t7,i3,UR hi,i3,Xu h,i3,Bf hy,i3,UQ (by simp;omega),i3,xi,a,i3,UR d,i3,t7,i3,Xv (by omega),i3,UQ (by simp;omega)]
 rw[List.set_eq_take_append_cons_drop,if_pos h,bi];rfl
theorem xG {fx fi:En->R T}{ρ:En}{xs:List T}{i:Nat}(a:fx ρ= .ok (.tup xs))(hi:fi ρ= .ok (.int (i:Int)))(h:i < xs.length)(e:xs.length<=1000):
  zd zv (nj fx nr (Zj fi)) (nj fx (Zj (zd zv fi (cE (.int 1)))) nr) ρ= .ok (.tup (xs.take i++xs.drop (i+1))):=by
 have c:mF=16777216:=rfl;have d:zd zv fi (cE (.int 1)) ρ= .ok (.int ((i+1:Nat))):=by rw[U7 hi];rfl
 rw[zh,xi,a,i3,t7,i3,UR hi,i3,Xu h,i3,xi,a,i3,UR d,i3,t7,i3,Xv (by omega),i3,UQ (by simp;omega)]
theorem vz {fs:List (T->List T)}(h:∀(i:Nat) (f:T->List T) (x:T),fs[i]? =some f->xs[i]? =some x->(f x).length<=m):(oQ fs xs).length<=xs.length*m:=by
 have c:∀(g:Nat->List (List T)) (js:List Nat),(∀j∈js,(g j).length<=m)->(js.flatMap g).length<=js.length*m:=λg js=>by
  induction js with
  | nil=>simp
  | cons j js k=>
   intro d;rw[bW,az,aw,fX];have a:=d j aa;have b:=k λi hi=>d i (a9 _ hi);omega
 have:=c (λi=>match fs[i]?,xs[i]? with | some f,some x=>(f x).map λy=>xs.set i y | _,_=>[]) (aN xs.length) λi _=>by
  split
  ·rename_i f x e l;rw[ae];exact h i f x e l
  ·exact bf _
 rw[bJ]at this;exact this
theorem WO:∀(d:Nat) (k:Kd) (x:T),k.Ok d->k.has x=true->(k.less x).length<=4 ^ d
 | 0,_,_,h,_=>h.elim
 | d+1,.whole lo hi,x,h,c=>by
  have:1<=4 ^ (d+1):=bX (by simp)
  obtain⟨i,rfl,_⟩:=ZW.mp c;simp only[Kd.less];split
  ·simp
  ·split <;> simp <;> omega
 | d+1,.pick v,x,h,c=>by
  have:1<=4 ^ (d+1):=bX (by simp)
  obtain⟨w,rfl,_⟩:=Zm.mp c;simp only[Kd.less];split
  ·simp
  ·split <;> simp <;> omega
 | d+1,.row p,x,h,c=>by
  obtain⟨xs,rfl,g⟩:=j3 c;simp only[Kd.less,Kd.lessF_map,ae];have:=vz λi f x a b=>by
   rw[ao]at a;cases e:p[i]? with
   | none=>rw[e]at a;cases a
   | some k=>rw[e]at a;cases a;exact WO d k x (h.2.2 k (Zg e)) (g.2 i k x e b)
  have j:xs.length<=3:=by rw[g.1];exact h.2.1
  have o:xs.length*4 ^ d<=3*4 ^ d:=cU _ j;omega
 | 0+1,.many k lo hi,x,h,c=>h.2.2.elim
 | d+1+1,.many k lo hi,x,h,c=>by
  obtain⟨xs,rfl,q,l,g⟩:=ZC c;have j:=av l h.2.1;simp only[Kd.less,az,ae];have:=vz (fs:=ag xs.length _) λi f x a b=>by
   obtain rfl:=(dA.mp (Zg a)).2;exact WO _ k x h.2.2 (aJ.mp (W4.mpr g) x (Zg b))
  have o:xs.length*4 ^ (d+1)<=3*4 ^ (d+1):=cU _ j;have r:(if xs.length=lo then ([]) else (pZ xs).map T.tup).length<=3:=by
   split
   ·simp
   ·unfold pZ;simp;omega
  have u:1<=4 ^ d:=bX (by simp)
  omega
theorem Y3 (lo:Int)(n:Nat):(rng lo n).length=n:=by unfold rng;simp
theorem gT (h:t∈rng 0 n):∃i:Nat,i < n/\t= .int (i:Int):=by
 obtain⟨i,hi,rfl⟩:=aA.mp h;exact⟨i,aT.mp hi,by rw[f6]⟩
theorem Eo (n:Nat):rng 0 n=(aN n).map λ(i:Nat)=>T.int (i:Int):=by
 refine c6 λi _=> ?_;rw[f6]
theorem HI (h:f ρ= .ok (.tup xs)):mw Z6 f ρ= .ok (.int (xs.length:Int)):=by rw[Z8,h,i3,jP]
theorem Fg (h:f ρ= .ok (.tup xs))(a:xs.length<=1000):Zi (mw Z6 f) ρ= .ok (rng 0 xs.length):=by
 rw[WD (HI h) (by omega),b9]
theorem XR (h:g ρ= .ok true):mZ g f f' ρ=f ρ:=by unfold mZ;rw[h];rfl
theorem Hi (h:g ρ= .ok false):mZ g f f' ρ=f' ρ:=by unfold mZ;rw[h];rfl
theorem vA (lo hi i:Int):rM [(Kd.whole lo hi).t,.int i]= .ok (.lst ((Kd.whole lo hi).less (.int i))):=by
 have e:rM [(Kd.whole lo hi).t,.int i]=zk (AB _ [.vl _,.vl _,.un]):=rfl;have d:zC 2 (zb 1 oK (za (vE 0) (ze))) [.vl (Kd.whole lo hi).t,.vl (.int i),.un]= .nx [.vl (Kd.whole lo hi).t,.vl (.int i),.vl (.int (yl lo hi))]:=by
  rw[zE]
  ·rfl
  ·rw[zI,v0,i3,vv]
 have a:zp my (vB 1) (vB 2) [.vl (Kd.whole lo hi).t,.vl (.int i),.vl (.int (yl lo hi))]= .ok _:=rfl;have c:zp nt (vB 1) (vB 2) [.vl (Kd.whole lo hi).t,.vl (.int i),.vl (.int (yl lo hi))]= .ok _:=rfl;rw[e,AB,zc d];simp only[Kd.less]
 by_cases h:i=yl lo hi
 ·rw[if_pos h,zu]
  ·rfl
  ·rw[jF (by rw[a,beq_iff_eq.mpr h])];rfl
 ·rw[if_neg h,zc (zj (by rw[a,beq_eq_false_iff_ne.mpr h]))]
  by_cases g:i > yl lo hi
  ·rw[if_pos g,zg]
   ·rfl
   ·show mZ _ _ _ [.vl _,.vl _,.vl _]=_;rw[XR (by rw[c,decide_eq_true g])];rfl
  ·rw[if_neg g,zg]
   ·rfl
   ·show mZ _ _ _ [.vl _,.vl _,.vl _]=_;rw[Hi (by rw[c,decide_eq_false g])];rfl
theorem uK {a:List (Str×Int)}(p:a.length<=4)(hd:Dst (a.map (·.1)))(f:w∈a.map (·.1)):su [(Kd.pick a).t,.str w]= .ok (.lst ((Kd.pick a).less (.str w))):=by
 have e:su [(Kd.pick a).t,.str w]=zk (At _ [.vl _,.vl _,.un,.un]):=rfl;have l:zC 2 (zb 1 nK (za (vE 0) (ze))) [.vl (Kd.pick a).t,.vl (.str w),.un,.un]= .nx [.vl (Kd.pick a).t,.vl (.str w),.vl (.lst (a.map λc=>T.str c.1)),.un]:=by
  rw[zE]
  ·rfl
  ·rw[zI,v0,i3,JG a p]
 have q:zC 3 (G8 Xc (vB 2) (vB 1)) [.vl (Kd.pick a).t,.vl (.str w),.vl (.lst (a.map λc=>T.str c.1)),.un]= .nx [.vl (Kd.pick a).t,.vl (.str w),.vl (.lst (a.map λc=>T.str c.1)),.vl (.int (((a.map (·.1)).idxOf w):Int))]:=by
  rw[zE]
  ·rfl
  ·exact vt hd f
 have d:=ym f;rw[e,At,zc l,zc q];simp only[Kd.less];cases i:(a.map _).idxOf w with
 | zero=>
  rw[zg]
  ·rfl
  ·rfl
 | succ j=>
  rw[i]at d;have o:=lU (by simpa using d)
  obtain⟨c,g⟩:=jG o;dsimp only;rw[g];rw[zg]
  ·rfl
  ·show mZ _ _ _ [.vl _,.vl _,.vl (.lst (a.map λc=>T.str c.1)),.vl _]=_;rw[XR]
   ·rw[V2];have k:zd jK (vE 3) (cE (.int 1)) [.vl (Kd.pick a).t,.vl (.str w),.vl (.lst (a.map λc=>T.str c.1)),.vl (.int ((j+1:Nat)))]= .ok (.int (j)):=by
     show R.ok _=_;rw[show ((j+1:Nat):Int) - 1=(j) by omega]
    rw[zh,k];exact Xs (by rw[ao,g];rfl)
   ·show R.ok _=_;rw[decide_eq_true (by omega)]
theorem Y4 (f:xs.length<=3):sK [(Kd.many k lo hi).t,.tup xs]= .ok (.lst (if xs.length=lo then [] else (pZ xs).map T.tup)):=by
 have e:sK [(Kd.many k lo hi).t,.tup xs]=zk (AS (mG (.tup [.str "many",k.t,.int (lo),.int (hi)]) (.tup xs))):=by rfl
 have c:zp my (mw Z6 (vB 1)) (zd kj (vE 0) (cE (.int 2))) (mG (.tup [.str "many",k.t,.int (lo),.int (hi)]) (.tup xs))= .ok (xs.length == lo):=by
  rw[zB,Z8,w1,i3,jP,i3,Wz,i3,nQ,UV]
 rw[e,AS]
 by_cases h:xs.length=lo
 ·rw[if_pos h,zu]
  ·rfl
  ·rw[jF (by rw[c,beq_iff_eq.mpr h])];rfl
 ·rw[if_neg h,zc (zj (by rw[c,beq_eq_false_iff_ne.mpr h])),zg]
  ·rfl
  ·show zA _ _ _ _ _ _ (mG _ _)=_;have j:Zi (mw _ (vB 1)) (mG (.tup [.str "many",k.t,.int (lo),.int (hi)]) (.tup xs))= .ok _:=Fg rfl (by omega)
   have d:zq _ _ (zd _ (nj (vE 1) _ (Zj (vE 0))) _) 1 [1] (mG (.tup [.str "many",k.t,.int (lo),.int (hi)]) _) _= .ok ((rng 0 _).map λt=>match t with | .int i=> .tup (xs.take i.toNat++xs.drop (i.toNat+1)) | y=>y):=
    zK _ (by rw[Y3];exact av f (by decide)) λt g=>by
     obtain⟨i,a,rfl⟩:=gT g;exact xG rfl rfl a (by omega)
   rw[zJ,j,i3,d,Eo,aZ];unfold pZ;rw[aZ];exact congrArg (λl=>R.ok _) (c6 λi _=>rfl)
abbrev BX:En->RS:=Us 2 (zd zv (zd zv (nj (vE 1) (nr) (Zj (vE 3))) (Za (za (vE 5) (ze)))) (nj (vE 1) (Zj (zd zv (vE 3) (cE (.int 1)))) (nr)))
theorem vC {s c:T}{xs:List T}{i:Nat}(hi:i < xs.length)(f:xs.length<=3):∀(a acc:List T) (z:Sl),acc.length+a.length<=1000000->∃d,Zu (zw 5) BX a [.vl s,.vl (.tup xs),.ow acc,.vl (.int (i:Int)),.vl c,z]= .nx [.vl s,.vl (.tup xs),.ow (acc++a.map λy=>T.tup (xs.set i y)),.vl (.int (i:Int)),.vl c,d]
 | [],acc,z,_=>⟨z,by rw[bI,bw];rfl⟩
 | y :: a,acc,z,g=>by
  have j :=by simpa using g
  obtain⟨d,hz⟩:=vC hi f a (acc++[.tup _]) _ (by simp;omega)
  refine⟨d, ?_⟩;have e:BX [.vl s,.vl (.tup xs),.ow acc,.vl (.int (i)),.vl c,.vl y]= .nx [.vl s,.vl (.tup xs),.ow (acc++[.tup (xs.set i y)]),.vl (.int (i)),.vl c,.vl y]:=by
   have k:=xF (fx:=vE 1) (fi:=vE 3) (fy:=vE 5) (ρ:=[.vl s,.vl _,.ow acc,.vl _,.vl c,.vl y]) rfl rfl rfl hi (by omega)
   exact Qx rfl (bq (show acc.length<=1000000 by omega) (by decide)) k
  rw[ZI rfl e,hz,bi];rfl
def Aq (a:List Kd)(xs:List T)(i:Nat):List (List T):=match (a.map Kd.less)[i]?,xs[i]? with
 | some f,some x=>(f x).map λy=>xs.set i y
 | _,_=>[]
theorem gU {c:List Kd}(a:c[i]? =some k)(b:xs[i]? =some x):Aq c xs i=(k.less x).map λy=>xs.set i y:=by
 unfold Aq;rw[ao,a,b];rfl
theorem xH (xs:List T):jM xs=(aN xs.length).map λ(i:Nat)=>T.tup [.int (i:Int),(xs[i]?).getD .non]:=by
 refine dL λi=> ?_;unfold jM;rw[ao,iV,ao]
 by_cases h:i < xs.length
 ·rw[c_ h];simp[ah h]
 ·rw[aP (by omega),aP (by simpa using h)];rfl
abbrev AK (c:List T->R T):En->RS:=ZD (Z5 (zb 2 c (za (zd kj (vE 0) (vE 3)) (za (vE 4) (ze))))) (zw 5) BX
theorem vD {c:List T->R T}{s:T}{e:List Kd}{xs:List T}(v:∀(i:Nat) (k:Kd),e[i]? =some k->kj s (.int (i:Int))= .ok k.t)(u:xs.length<=3)(d:xs.length=e.length)
  (H:∀(i:Nat) (k:Kd) (x:T),e[i]? =some k->xs[i]? =some x->c [k.t,x]= .ok (.lst (k.less x))/\(k.less x).length<=1000):∀(js:List Nat) (acc:List T) (a b z:Sl),(∀j∈js,j < xs.length)->acc.length+js.length*1000<=1000000->
  ∃l g p,Zu (zN 3 4) (AK c) (js.map λ(i:Nat)=>T.tup [.int (i:Int),(xs[i]?).getD .non]) [.vl s,.vl (.tup xs),.ow acc,a,b,z]= .nx [.vl s,.vl (.tup xs),.ow (acc++(js.flatMap (Aq e xs)).map T.tup),l,g,p]
 | [],acc,a,b,z,_,_=>⟨a,b,z,by show RS.nx _=RS.nx _;rw[List.flatMap_nil,bI,bw]⟩
 | j :: js,acc,a,b,z,B,J=>by
  have D :=by simpa using J
  have f:=B j aa;obtain⟨x,r⟩:=jG f;obtain⟨k,o⟩:=jG (show j < e.length by omega)
  obtain⟨F,O⟩:=H j k x o r;obtain⟨w,q⟩:=vC f u (k.less x) acc z (by omega)
  obtain⟨l,g,p,I⟩:=vD v u d H js (acc++(k.less x).map λy=>T.tup _) _ _ w (λi hi=>B i (a9 _ hi)) (by simp;omega)
  refine⟨l,g,p, ?_⟩;have C:AK c [.vl s,.vl (.tup xs),.ow acc,.vl (.int (j)),.vl x,z]= .nx [.vl s,.vl (.tup xs),.ow (acc++(k.less x).map λy=>T.tup (xs.set j y)),.vl (.int (j)),.vl x,w]:=by
   have N:Z5 (zb 2 c (za (zd kj (vE 0) (vE 3)) (za (vE 4) (ze)))) [.vl s,.vl (.tup xs),.ow acc,.vl (.int (j)),.vl x,z]= .ok (k.less x):=by
    have M:zd kj (vE 0) (vE 3) [.vl s,.vl (.tup xs),.ow acc,.vl _,.vl x,z]= .ok k.t:=v j k o;rw[Zs,zt,M,i3,v4,i3,F];rfl
   unfold AK ZD;rw[N];exact q
  have G:zN 3 4 (T.tup [.int (j),(xs[j]?).getD .non]) [.vl s,.vl (.tup xs),.ow acc,a,b,z]= .ok [.vl s,.vl (.tup xs),.ow acc,.vl (.int (j)),.vl x,z]:=by rw[r];rfl
  rw[ar,ZI G C,I,bW,gU o r,cM,aZ,bi];rfl
theorem yo {d:List Kd}(p:∀(i:Nat) (k:Kd),d[i]? =some k->kj s (.int (i:Int))= .ok k.t)(f:xs.length<=3)(a:xs.length=d.length)
  (H:∀(i:Nat) (k:Kd) (x:T),d[i]? =some k->xs[i]? =some x->c [k.t,x]= .ok (.lst (k.less x))/\(k.less x).length<=1000):zk (tN c (mB 6 [s,.tup xs]))= .ok (.lst ((oQ (d.map Kd.less) xs).map T.tup)):=by
 obtain⟨r,l,o,h⟩:=vD p f a H _ [] .un .un .un (λj q=>aT.mp q) (by simp;omega)
 have e:mB 6 [s,.tup xs]=[.vl s,.vl _,.un,.un,.un,.un]:=rfl;have g:uO 2 ze [.vl s,.vl (.tup xs),.un,.un,.un,.un]= .nx [.vl s,.vl _,.ow [],.un,.un,.un]:=rfl;have u:ZD (wa (vE 1)) (zN 3 4) (AK c) [.vl s,.vl (.tup xs),.ow [],.un,.un,.un]= .nx [.vl s,.vl (.tup xs),.ow ([]++((aN xs.length).flatMap (Aq d xs)).map T.tup),r,l,o]:=by
  have v:wa (vE 1) [.vl s,.vl (.tup xs),.ow [],.un,.un,.un]= .ok ((aN xs.length).map λ(i:Nat)=>T.tup [.int (i),(xs[i]?).getD .non]):=by rw[← xH];rfl
  unfold ZD;rw[v];exact h
 rw[e,tN,zc g,zc u,zg]
 ·rfl
 ·rfl
theorem Im (h:xs.length+ys.length<=mF):zv (.lst xs) (.lst ys)= .ok (.lst (xs++ys)):=if_pos h
theorem j0 {d:Nat}(hd:d<=3){k:Kd}{x:T}(h:k.Ok d)(a:k.has x=true):(k.less x).length<=1000:=by
 have:=WO d k x h a;have c:4 ^ d<=4 ^ 3:=bN (by omega) hd
 omega
theorem XS:∀(d n:Nat),2*d<=n->d<=3->∀(k:Kd) (x:T),k.Ok d->k.has x=true->n6 n 0 [k.t,x]= .ok (.lst (k.less x))
 | 0,_,_,_,_,_,h,_=>h.elim
 | d+1,n+2,hn,hd,k,x,h,g=>by
  have u:=XS d n (by omega) (by omega)
  have e:n6 (n+2) 0 [k.t,x]=zk (o7 rM su sK (n6 (n+1) 1) (mB 2 [k.t,x])):=by rw[n6]
  have q:∀s y,n6 (n+1) 1 [s,y]=zk _:=λs y=>by rw[n6];intro h;cases h
  rw[e];cases k with
  | whole lo hi=>
   obtain⟨i,rfl,D⟩:=ZW.mp g;have e:mB 2 [(Kd.whole lo hi).t,.int i]=mG (.tup [.str "whole",.int lo,.int hi]) (.int i):=by rw[Kd.t];rfl
   have hn:=vA lo hi i;rw[Kd.t]at hn;rw[e,o7,zu (t:= .lst _)]
   ·rfl
   ·rw[Qp,zg];show zb _ _ _ (mG _ _)=_;rw[zt,v0,i3,v1,i3,hn]
  | pick B=>
   obtain⟨w,rfl,I⟩:=Zm.mp g;have e:mB 2 [(Kd.pick B).t,.str w]=mG (.tup [.str "pick",.tup (B.map Jz)]) (.str w):=by rw[Kd.t];rfl
   have f :=uK h.2.1 h.2.2.2 I;rw[Kd.t]at f;rw[e,o7,zc (JH (by decide)),zu]
   ·rfl
   ·rw[Qp,zg];show zb _ _ _ (mG _ _)=_;rw[zt,v0,i3,v1,i3,f]
  | row r=>
   obtain⟨xs,rfl,c⟩:=j3 g;have e:mB 2 [(Kd.row r).t,.tup xs]=mG (.tup [.str "row",.tup (r.map Kd.t)]) (.tup xs):=by rw[Kd.t,Kd.ts_map];rfl
   rw[e,o7,zc (JH (by decide)),zc (JH (by decide)),zu]
   ·rfl
   ·rw[Qp,zg];show zb _ _ _ (mG _ _)=_;rw[zt,jE,i3,v1,i3,q,yo (λi k l=>Hd (by rw[ao,l];rfl)) (by rw[c.1];exact h.2.1) c.1 λi k x a b=>⟨u k x (h.2.2 k (Zg a)) (c.2 i k x a b),j0 (by omega) (h.2.2 k (Zg a)) (c.2 i k x a b)⟩]
    simp only[Kd.less,Kd.lessF_map]
  | many k lo hi=>
   obtain⟨xs,rfl,J,F,c⟩:=ZC g;have o:=av F h.2.1;have e:mB 2 [(Kd.many k lo hi).t,.tup xs]=mG (.tup [.str "many",k.t,.int (lo),.int (hi)]) (.tup xs):=by rfl
   have C:zd zU (Zc (za (zd kj (vE 0) (cE (.int 1))) (ze))) (mw Z6 (vB 1)) (mG (.tup [.str "many",k.t,.int (lo),.int (hi)]) (.tup xs))= .ok (.lst ((ag xs.length k).map Kd.t)):=by
    rw[zh,V2 jE,i3,Z8,w1,i3,jP,i3,wq o,ZP,aS]
   have j:=Y4 (k:=k) (lo:=lo) (hi:=hi) o;rw[Kd.t]at j;have v:=j0 hd h g;rw[e,o7,zc (JH (by decide)),zc (JH (by decide)),zc (JH (by decide)),zg]
   ·rfl
   ·show zd _ _ _ (mG _ _)=_;have G:=yo (s:= .lst ((ag xs.length k).map _)) (λi k l=>Xs (by rw[ao,l];rfl)) o (by simp) λi p x a b=>by
     obtain rfl:=(dA.mp (Zg a)).2;exact⟨u p x h.2.2 (c.2 i p x a b),j0 (by omega) h.2.2 (c.2 i p x a b)⟩
    simp only[Kd.less,Zh,az]at v ⊢;rw[zh,zt,v0,i3,v1,i3,j,i3,zt,C,i3,v1,i3,q,G,i3,Im (av v (by decide))]
theorem vF:∀(c:List Kd) (xs:List T),(∀(i:Nat) (k:Kd) (x:T),c[i]? =some k->xs[i]? =some x->k.wt x<=B)->0<=B->mU (c.map Kd.wt) xs<=(xs.length:Int)*B
 | [],xs,_,d=>by
  exact Int.mul_nonneg (by omega) d
 | k :: c,[],_,d=>by simp[mU]
 | k :: c,x :: xs,h,d=>by
  have a:=h 0 k x rfl rfl;have b:=vF c xs (λi f e p q=>h (i+1) f e (by simpa using p) (by simpa using q)) d
  simp only[ar,mU,aw];rw[show ((xs.length+1:Nat):Int)=(xs.length)+1 by omega,Int.add_mul];omega
theorem gX:∀(d:Nat) (k:Kd) (x:T),k.Ok d->k.has x=true->k.wt x<=40*((4 ^ d:Nat):Int)
 | 0,_,_,h,_=>h.elim
 | d+1,.whole lo hi,x,h,c=>by
  have f:1<=4 ^ (d+1):=bX (by simp)
  obtain⟨i,rfl,r⟩:=ZW.mp c;obtain⟨B,v⟩:=vh h.2.1;obtain⟨a,_,b⟩:=h;simp only[Kd.wt,vg];split <;> omega
 | d+1,.pick C,x,h,c=>by
  have f:1<=4 ^ (d+1):=bX (by simp)
  obtain⟨w,rfl,o⟩:=Zm.mp c;have:=ym o;rw[ae]at this;have:=h.2.1;simp only[Kd.wt];omega
 | d+1,.row u,x,h,c=>by
  have f:1<=4 ^ d:=bX (by simp)
  obtain⟨xs,rfl,e⟩:=j3 c;simp only[Kd.wt,Kd.wtF_map];have j:xs.length<=3:=by rw[e.1];exact h.2.1
  have a:=vF u xs (λi k x p q=>gX d k x (h.2.2 k (Zg p)) (e.2 i k x p q)) (by omega)
  have b:(xs.length:Int)*(40*((4 ^ d:Nat)))<=3*(40*((4 ^ d:Nat))):=fJ (by omega) (by omega)
  omega
 | d+1,.many k lo hi,x,h,c=>by
  have f:1<=4 ^ d:=bX (by simp)
  obtain⟨xs,rfl,y,l,e⟩:=ZC c;simp only[Kd.wt,Zh];have j:=av l h.2.1;have a:=vF (ag _ k) xs (λi g x p q=>by
   obtain rfl:=(dA.mp (Zg p)).2;exact gX d g x h.2.2 (e.2 i g x p q)) (by omega)
  have b:(xs.length:Int)*(40*((4 ^ d:Nat)))<=3*(40*((4 ^ d:Nat))):=fJ (by omega) (by omega)
  omega
theorem sJ {k:Kd}(h:k.Ok 3){x:T}(a:k.has x=true):tK 20 [k.t,x]= .ok (.lst (k.less x)):=XS 3 20 (by omega) (by omega) k x h a
theorem ED {k:Kd}(h:k.Ok 3){x:T}(a:k.has x=true):oG 20 [k.t,x]= .ok (.int (k.wt x)):=gS 3 20 (by omega) k x h a
theorem vG {k:Kd}(c:k.Ok 3){x:T}(a:k.has x=true):tT [k.t,x]= .ok (.lst (k.less x)):=by
 show zk (AY _ _ (mG k.t x))=_;rw[AY,zc (ZJ (by rw[zt,v0,i3,v1,i3,WI c a])),zg]
 ·rfl
 ·show zb _ _ _ (mG k.t x)=_;rw[zt,v0,i3,v1,i3,sJ c a]
theorem jn {k:Kd}(c:k.Ok 3){x:T}(a:k.has x=true):oH [k.t,x]= .ok (.int (k.wt x)):=by
 show zk (A8 _ _ (mG k.t x))=_;rw[A8,zc (ZJ (by rw[zt,v0,i3,v1,i3,WI c a])),zg]
 ·rfl
 ·show zb _ _ _ (mG k.t x)=_;rw[zt,v0,i3,v1,i3,ED c a]
def br (k:Kd)(r:Ru):List T:=k.all.filter λx=> !(kp r x)
theorem jo:x∈br k r↔k.has x=true/\kp r x=false:=by
 unfold br;rw[bA,ZU];simp
def lb (k:Kd)(r:Ru):Option T:=match br k r with
 | []=>none
 | t :: ts=>some (ZS (k.wt t) t (ts.map k.wt) ts)
noncomputable def oT:Option T->T
 | some x=>x
 | none=> .non
theorem jp (w:T->Int):∀(ts:List T) (t:T),ZS (w t) t (ts.map w) ts∈t :: ts/\∀y∈t :: ts,w (ZS (w t) t (ts.map w) ts)<=w y
 | [],t=>by
  exact⟨List.mem_singleton_self _,λy hy=>by rw[aq.mp hy];exact i8 _⟩
 | u :: ts,t=>by
  rw[ar,ZS]
  by_cases h:w u < w t
  ·rw[if_pos h];obtain⟨a,b⟩:=jp w ts u;exact⟨a9 _ a,λy hy=>by
    rcases ak.mp hy with rfl | hy
    ·have:=b u aa;omega
    ·exact b y hy⟩
  ·rw[if_neg h];obtain⟨a,b⟩:=jp w ts t;exact⟨(ak.mp a).elim (λz=>by rw[z];exact aa) (λz=>a9 _ (a9 _ z)),λy hy=>by
    rcases ak.mp hy with rfl | hy
    ·exact b y aa
    ·rcases ak.mp hy with rfl | hy
     ·have:=b t aa;omega
     ·exact b y (a9 _ hy)⟩
theorem gY:lb k r=none↔∀x,k.has x=true->kp r x=true:=by
 have h:br k r=[]↔∀x,k.has x=true->kp r x=true:=by
  rw[fK];exact⟨λh x a=>by
   cases e:kp r x with
   | true=>rfl
   | false=>exact absurd (jo.mpr ⟨a,e⟩) (h x),λh x a=>by
   have:=jo.mp a;rw[h x this.1]at this;exact absurd this.2 (by decide)⟩
 rw[← h];unfold lb;cases br k r with
 | nil=>exact⟨λ_=>rfl,λ_=>rfl⟩
 | cons t ts=>exact⟨λz=>(nomatch z),λz=>(nomatch z)⟩
theorem Ue (h:lb k r=some x):k.has x=true/\kp r x=false/\∀y,k.has y=true->kp r y=false->k.wt x<=k.wt y:=by
 unfold lb at h;cases e:br k r with
 | nil=>rw[e]at h;cases h
 | cons t ts=>
  rw[e]at h;cases h;obtain⟨a,b⟩:=jp _ ts t;have c :=jo.mp (e ▸ a);exact⟨c.1,c.2,λy f d=>b y (e ▸ jo.mpr ⟨f,d⟩)⟩
theorem vH {f:T->R T}{w:T->Int}:∀ts:List T,(∀t∈ts,f t= .ok (.int (w t)))->Wp f ts=some (ts.map w)
 | [],_=>rfl
 | t :: ts,h=>by
  rw[Wp,h t aa,vH ts λy hy=>h y (a9 _ hy)];rfl
theorem WP (a:k.Ok 3)(g:k.all.length<=500)(hr:ZK 3 r):Dl [k.t,r.t]= .ok (oT (lb k r)):=by
 show zk (AW _ _ _ _ [.vl k.t,.vl r.t,.un])=_;have l:jA (zb 1 oU (za (vE 1) _)) [.vl k.t,.vl r.t,.un]= .nx _:=ZJ (by rw[zI,v1,i3,ZQ hr])
 have j:zq _ (jW (ZX (zb 2 (n9 8) (za (vE 1) (za (vE 0) _))))) (vE 0) 1 [1] [.vl k.t,.vl r.t,.un] _= .ok _:=
  Z4 _ (av g (by decide)) λt o=>⟨by
   show jW _ [.vl t,.vl r.t]=_;unfold jW ZX;rw[zt,v1,i3,v0,i3,ZE (xA a o) hr];rfl,rfl⟩
 have i:zC 2 (zA (Z5 (zb 1 pE (za (vE 0) (ze)))) (zw 0) (jW (ZX (zb 2 (n9 8) (za (vE 1) (za (vE 0) (ze)))))) (vE 0) 1 [1]) [.vl k.t,.vl r.t,.un]= .nx [.vl k.t,.vl r.t,.vl (.lst (br k r))]:=by
  rw[zE]
  ·rfl
  ·unfold zA Z5;rw[zI,v0,i3,j2 a g];show (zq _ _ _ _ _ _ _).bind _=_;rw[j];rfl
 rw[AW,zc l,zc i,zg]
 ·rfl
 ·show VS [0] _ _ _ [.vl k.t,.vl r.t,.vl _]=_;have f:∀x∈br k r,k.has x=true:=λx c=>(jo.mp c).1;unfold lb;cases e:br k r with
  | nil=>rfl
  | cons t ts=>
   rw[e]at f;have d:Wp (λx=>zb 2 (oG 20) (za (vE 1) (za (vE 0) ze)) ((Jp 1 [0] [Sl.vl k.t,.vl r.t,.vl (.lst (t :: ts))]).set 0 (.vl x))) _=some _:=vH _ λx c=>by
    exact gS 3 20 (by omega) k x a (f x c)
   show (match Wp _ _ with | some (k :: p)=>R.ok _ | _=> .bad)=_
   rw[d];rfl
theorem sf (h:f ρ= .ok (.lst (y :: ys))):zd kj f (cE (.int 0)) ρ= .ok y:=by
 rw[zh,h];show mS _ ((0:Nat))=_;unfold mS;rw[Zv (rfl)]
def bl (k:Kd)(r:Ru)(x:T):List T:=(k.less x).filter λy=> !(kp r y)
def nq (k:Kd)(r:Ru):Nat->T->List T
 | 0,x=>[x]
 | n+1,x=>match bl k r x with
  | []=>[x]
  | y :: _=>x :: nq k r n y
section
variable {k:Kd}{r:Ru}{x y:T}
theorem uL (g:k.Ok 3)(a:k.has x=true)(h:y∈bl k r x):k.has y=true/\kp r y=false/\k.wt y < k.wt x:=by
 obtain⟨d,f⟩:=bA.mp h;obtain⟨c,e⟩:=(oJ 3 k g).dn x y a d;exact⟨c,by simpa using f,e⟩
theorem bl_len (a:k.Ok 3)(c:k.has x=true):(bl k r x).length<=1000:=av (fj _ _) (j0 (by omega) a c)
theorem yq (a:k.Ok 3)(hr:ZK 3 r)(c:k.has x=true):Ge [k.t,x,r.t]= .ok (.lst (bl k r x)):=by
 show zk _=_;unfold Dc;rw[Jl];show zA _ _ _ _ _ _ [.vl k.t,.vl x,.vl r.t]=_;rw[zJ,Zs,zt,v0,i3,v1,i3,sJ a c];show ((zq _ _ _ _ _ _ _).bind _)=_;have f:mF=16777216:=rfl;have e:=j0 (by omega) a c
 rw[Z4 _ (by omega) λt d=>⟨?_,rfl⟩]
 ·rfl
 ·show jW _ [.vl t,.vl r.t]=_;rw[Jv,j6,zt,v1,i3,v0,i3,ZE (QD 2 k t a ((oJ 3 k a).dn x t c d).1) hr];rfl
theorem vI (d:k.Ok 3):∀(n:Nat) (x:T),k.has x=true->kp r x=false->∀y∈nq k r n x,k.has y=true/\kp r y=false
 | 0,x,a,c,y,hy=>by rw[aq.mp hy];exact⟨a,c⟩
 | n+1,x,a,c,y,hy=>by
  unfold nq at hy;cases e:bl k r x with
  | nil=>rw[e]at hy;rw[aq.mp hy];exact⟨a,c⟩
  | cons z i=>
   rw[e]at hy;obtain⟨g,f,_⟩:=uL d a (by rw[e];exact aa)
   rcases ak.mp hy with rfl | hy
   ·exact⟨a,c⟩
   ·exact vI d n z g f y hy
theorem chn_ne:∀(n:Nat) (x:T),nq k r n x ≠ []
 | 0,x=>by unfold nq;simp
 | n+1,x=>by unfold nq;split <;> simp
theorem vJ:∀(n:Nat) (x:T),(nq k r n x).length<=n+1
 | 0,x=>by unfold nq;simp
 | n+1,x=>by
  unfold nq;split
  ·simp
  ·rename_i y _ _;have:=vJ n y;simp;omega
theorem XT (l:List T)(h:vB i ρ= .ok (.lst l)):zp nt (mw Z6 (vB i)) (cE (.int 0)) ρ= .ok (!l.isEmpty):=by
 rw[zB,Z8,h];cases l with
 | nil=>rfl
 | cons a l=>
  show R.ok _=_;rw[decide_eq_true (by simp)];rfl
abbrev HP:En->RS:=zn (Us 3 (zd kj (vE 4) (cE (.int 0)))) (zC 4 (zb 3 Ge (za (vE 0) (za (zd kj (vE 4) (cE (.int 0))) (za (vE 2) (ze))))))
theorem vK (d:k.Ok 3)(hr:ZK 3 r):∀(n:Nat) (x:T) (acc:List T) (c:Nat),k.has x=true->k.wt x<=(n:Int)->acc.length+n<=100000->n < c->∃l,Zo (zp nt (mw Z6 (vB 4)) (cE (.int 0))) HP c [.vl k.t,.vl x0,.vl r.t,.ow (acc++[x]),.vl (.lst (bl k r x))]= .nx [.vl k.t,.vl x0,.vl r.t,.ow (acc++nq k r n x),l]
 | n,x,acc,0,_,_,_,j=>by omega
 | n,x,acc,c+1,o,v,w,j=>by
  have C:mF=16777216:=rfl;cases e:bl k r x with
  | nil=>
   refine⟨.vl (.lst []), ?_⟩;have i:nq k r n x=[x]:=by cases n with | zero=>rfl | succ n=>unfold nq;rw[e]
   rw[QY (XT [] rfl),i]
  | cons y a=>
   obtain⟨f,u,B⟩:=uL d o (by rw[e];exact aa)
   have hp:=(oJ 3 k d).pos y f;obtain⟨m,rfl⟩:∃m,n=m+1:=⟨n - 1,by omega⟩
   obtain⟨l,p⟩:=vK d hr m y (acc++[x]) c f (by omega) (by rw[az,aK];omega) (by omega)
   refine⟨l, ?_⟩;have g:Us 3 (zd kj (vE 4) (cE (.int 0))) [.vl k.t,.vl x0,.vl r.t,.ow (acc++[x]),.vl (.lst (y :: a))]= .nx [.vl k.t,.vl x0,.vl r.t,.ow ((acc++[x])++[y]),.vl (.lst (y :: a))]:=by
    rw[Qx rfl (by rw[az,aK];omega) (sf rfl)];rfl
   have q:zC 4 (zb 3 Ge (za (vE 0) (za (zd kj (vE 4) (cE (.int 0))) (za (vE 2) (ze))))) [.vl k.t,.vl x0,.vl r.t,.ow ((acc++[x])++[y]),.vl (.lst (y :: a))]= .nx [.vl k.t,.vl x0,.vl r.t,.ow ((acc++[x])++[y]),.vl (.lst (bl k r y))]:=by
    rw[zE]
    ·rfl
    ·rw[Zb,v0,i3,sf rfl,i3,v2,i3,yq d hr f]
   rw[yi (XT (y :: a) rfl) ((zc g).trans q),p];have:nq k r (m+1) x=x :: nq k r m y:=by rw[nq,e]
   rw[this,bi];rfl
abbrev ch (k:Kd)(r:Ru)(x:T):List T:=nq k r (k.wt x).toNat x
theorem sO (c:k.Ok 3)(a:k.has x=true):((k.wt x).toNat:Int)=k.wt x/\(k.wt x).toNat<=2560:=by
 have e:=(oJ 3 k c).pos x a;have d:=gX 3 k x c a;constructor <;> omega
theorem EX (a:k.Ok 3)(hr:ZK 3 r)(c:k.has x=true)(e:kp r x=false):sS [k.t,x,r.t]= .ok (.lst (ch k r x)):=by
 obtain⟨w1,w2⟩:=sO a c;obtain⟨l,d⟩:=vK a hr (k.wt x).toNat x [] 1000000 c (by omega) (by simp;omega) (by omega)
 rw[bP]at d;show zk (Al _ _ _ _ [.vl k.t,.vl x,.vl r.t,.un,.un])=_;have g:ZX (zb 2 (n9 8) (za (vE 2) (za (vE 1) (ze)))) [.vl k.t,.vl x,.vl r.t,.un,.un]= .ok false:=by
  rw[j6,zt,v2,i3,v1,i3,ZE (QD 2 k x a c) hr,e];rfl
 have f:uO 3 (za (vE 1) (ze)) [.vl k.t,.vl x,.vl r.t,.un,.un]= .nx [.vl k.t,.vl x,.vl r.t,.ow [x],.un]:=rfl;have e5:zC 4 (zb 3 Ge (za (vE 0) (za (vE 1) (za (vE 2) (ze))))) [.vl k.t,.vl x,.vl r.t,.ow [x],.un]= .nx [.vl k.t,.vl x,.vl r.t,.ow [x],.vl (.lst (bl k r x))]:=by
  rw[zE]
  ·rfl
  ·rw[Zb,v0,i3,v1,i3,v2,i3,yq a hr c]
 unfold Al;rw[zc (ZJ (by rw[zI,v2,i3,ZQ hr])),zc (ZJ (by rw[zt,v0,i3,v1,i3,WI a c])),zc (zj g),zc f,zc e5,zc d]
 rfl
end
theorem Y5 {d:Type}{f g:d->T}{js:List Nat}(l:List d)(e:l.length<=mF)(H:∀a∈l,fe ((Jp k js ρ).set 0 (.vl (f a)))= .ok (g a)):zq (zw 0) zV fe k js ρ (l.map f)= .ok (l.map g):=by
 rw[zK (h:=λt=>match fe ((Jp k js ρ).set 0 _) with | .ok u=>u | _=>t) _ (by rw[ae];exact e) (λt i=>by
  obtain⟨a,c,rfl⟩:=aA.mp i;rw[H a c]),aZ]
 congr 1
 refine c6 λa c=> ?_;show (match fe _ with | .ok u=>u | _=>f a)=_
 rw[H a c]
inductive Cn:(List T->T)->Prop where
 | l:Cn T.lst
 | t:Cn T.tup
theorem jq {C:List T->T}(d:Cn C){rs:List Ru}(hr:∀r∈rs,ZK 3 r)(hn:rs.length<=1000):pr [C (rs.map Ru.t)]= .ok .non:=by
 have f:∀(c:List T) (rs:List Ru) (y:Sl),(∀r∈rs,ZK 3 r)->∃a,Zu (zw 1) (jA (zb 1 oU (za (vE 1) (ze)))) (rs.map Ru.t) [.vl (C c),y]= .nx [.vl (C c),a]:=by
  intro c rs
  induction rs with
  | nil=>exact λy _=>⟨y,rfl⟩
  | cons r rs i=>
   intro y h;obtain⟨a,e⟩:=i _ λq g=>h q (a9 _ g);refine⟨a, ?_⟩;rw[ar,ZI (ρ1:=[.vl _,.vl r.t]) rfl (ZJ (by exact ZQ (h r aa))),e]
 obtain⟨a,e⟩:=f _ rs .un hr;show zk (A7 _ [.vl _,.un])=_;unfold A7;rw[zc (zj (by cases d <;> rfl))]
 have j:Z5 (vE 0) [.vl (C (rs.map Ru.t)),.un]= .ok (rs.map Ru.t):=by cases d <;> rfl
 unfold ZD;rw[j];show zk (Zu _ _ _ _)=_;rw[e];rfl
section
theorem E6 (h:f ρ= .ok t)(h' :g ρ= .ok t)(hp:Pl 30 t):ZL my f g ρ= .ok (.bl true):=by rw[Ze,h,i3,h',i3,xx hp];rfl
end
theorem D2 {k:Kd}(c:k.Ok 3){x:T}(a:k.has x=true):A9 20 [k.t,x]= .ok (mP (k.sh x))/\Bd (k.sh x) 91:=yk 3 20 (by omega) (by omega) k x c a
theorem EQ {k:Kd}(d:k.Ok 3){a:List T}(c:∀x∈a,k.has x=true)(f:a.length<=60):A6 [k.t,.lst a]= .ok (mP (XL (a.map k.sh))):=by
 show zk _=_;have g:zq _ _ (zb 2 (A9 20) (za (vE 1) (za (vE 0) _))) 1 [0] (mG k.t (.lst a)) a= .ok (a.map λx=>mP _):=
  zK _ (av f (by decide)) λt j=>by
   show zb 2 _ _ (mG t k.t)=_;rw[zt,v1,i3,v0,i3,(D2 d (c t j)).1]
 unfold Dj;rw[zg]
 ·rfl
 ·show zb 1 _ _ (mG k.t _)=_;rw[zI,zJ,Zs,v1];show ((zq _ _ _ _ _ _ a).bind _).bind _=_;rw[g,i3];have:=Uc (λq i=>by obtain⟨x,e,rfl⟩:=aA.mp i;exact(D2 d (c x e)).2) (by rw[ae];omega)
  rw[aZ]at this;exact this
def wy (rs:List Ru)(x:T):List Bool:=rs.map λr=>kp r x
theorem vL {rs:List Ru}(hr:∀r∈rs,ZK 3 r)(hn:rs.length<=1000)(c:W 2 x):AC [.lst (rs.map Ru.t),x]= .ok (.tup ((wy rs x).map T.bl)):=by
 have d:mF=16777216:=rfl;show zk _=_;unfold CZ;rw[Jl];show (((zq _ _ _ _ _ _ _).bind _).bind _)=_;rw[Y5 (g:=λr=> .bl _) rs (by omega) λr a => ?_,i3]
 ·unfold wy;rw[aZ];rfl
 ·show zb 2 _ _ (mG r.t x)=_;rw[zt,v0,i3,v1,i3,ZE c (hr r a)]
theorem JM:∀k:List Bool,ZO (k.map T.bl)=some k
 | []=>rfl
 | b :: k=>by
  show (ZO _).map (λl=>b :: l)=_;rw[JM k];rfl
def j4 (kf:T->List Bool):List T->List WE->List WE
 | [],a=>a
 | w :: c,a=>j4 kf c (wV (kf w) w a)
theorem uM {g:T->R T}{kf:T->List Bool}:∀(a:List T) (c:List WE),(∀w∈a,g w= .ok (.tup ((kf w).map T.bl)))->wc g a c= .ok (j4 kf a c)
 | [],c,_=>rfl
 | w :: a,c,h=>by
  show ((g w).bind λt=>match t with
   | .tup ts=>(match ZO ts with
    | some k=>wc g a _
    | none=> .bad)
   | _=> .bad)=_
  rw[h w aa,i3];dsimp only;rw[JM];exact uM a _ λv d=>h v (a9 _ d)
structure EOk (al:List T) (n:Nat) (es:List WE):Prop where
 nd:(es.map (·.1)).Nodup
 len:es.length<=n
 mem:∀e∈es,(∀x∈e.2,x∈al)/\e.2.length<=n
theorem WQ (k:List Bool)(w:T):∀a:List WE,(wV k w a).map (·.1)=if k∈a.map (·.1) then a.map (·.1) else a.map (·.1)++[k]
 | []=>by simp[wV]
 | (c,d) :: r=>by
  unfold wV
  by_cases h:c =k
  ·subst h;simp
  ·rw[if_neg h,ar,WQ k w r,ar];have h' :¬ k=c :=λz=>h z.symm
   by_cases m:k∈r.map (·.1)
   ·rw[if_pos m,if_pos (a9 _ m)]
   ·rw[if_neg m,if_neg (by simpa[h'] using m)];rfl
theorem vM {al:List T}{n:Nat}{k:List Bool}{w:T}(d:w∈al):∀g:List WE,(∀e∈g,(∀x∈e.2,x∈al)/\e.2.length<=n)->∀e∈wV k w g,(∀x∈e.2,x∈al)/\e.2.length<=n+1
 | [],_,e,a=>by
  simp only[wV,aq]at a;subst a;exact⟨λx f=>by rw[aq.mp f];exact d,by show 1<=n+1;omega⟩
 | (j,i) :: r,h,e,a=>by
  unfold wV at a;have c:=h _ aa;have hr:=λe a=>h e (a9 _ a);split at a
  ·rcases ak.mp a with rfl | a
   ·refine⟨λx f=> ?_,by have:i.length<=n:=c.2;rw[az,aK];omega⟩
    rcases aW.mp f with z | z
    ·exact c.1 x z
    ·rw[aq.mp z];exact d
   ·exact⟨(hr e a).1,lV (hr e a).2⟩
  ·rcases ak.mp a with rfl | a
   ·exact⟨c.1,lV c.2⟩
   ·exact vM d r hr e a
theorem EOk.ins {al:List T}{n:Nat}{c:List WE}(h:EOk al n c){k:List Bool}{w:T}(f:w∈al):EOk al (n+1) (wV k w c):=by
 have e:=WQ k w c;have j:(wV k w c).length<=c.length+1:=by
  have:=congrArg i6 e;rw[ae]at this;rw[this];split
  ·rw[ae];omega
  ·rw[az,ae];exact am _
 refine⟨?_,by have:=h.len;omega,vM f c h.mem⟩
 rw[e];split
 ·exact h.nd
 ·rename_i i;rw[i9];exact⟨h.nd,by simp,λa g b d z=>i (by rw[aq.mp d]at z;rw[← z];exact g)⟩
theorem vN {kf:T->List Bool}:∀(a:List T) (n:Nat) (c:List WE),EOk al n c->(∀w∈a,w∈al)->EOk al (n+a.length) (j4 kf a c)
 | [],n,c,h,_=>h
 | w :: a,n,c,h,d=>by
  have:=vN (kf:=kf) a _ _ (h.ins (k:=kf w) (d w aa)) λv e=>d v (a9 _ e);rw[aw,show n+(a.length+1)=n+1+a.length by omega]
  exact this
theorem vO {k:Kd}(d:k.Ok 3)(g:k.all.length<=500){rs:List Ru}(hr:∀r∈rs,ZK 3 r)(hn:rs.length<=1000):zP [k.t,.lst (rs.map Ru.t)]= .ok (j4 (wy rs) k.all [])/\EOk k.all k.all.length (j4 (wy rs) k.all []):=by
 have i:mF=16777216:=rfl;refine⟨?_, ?_⟩
 ·show ((pE _).bind λt=>match t with
   | .lst c=>if c.length<=mF then wc (λw=>AC _) c [] else .bad
   | _=> .bad)=_
  rw[j2 d g,i3];dsimp only;rw[if_pos (by omega)]
  exact uM _ [] λw a=>vL hr hn (xA d a)
 ·have:=vN (al:=k.all) (kf:=wy rs) _ 0 [] ⟨by simp,by simp,λe f=>by cases f⟩ λw a=>a
  rwa[fZ]at this
def tl (k:Kd)(e:WE):T:= .tup [.tup (e.1.map T.bl),.int (e.2.length:Int),mP (XL (e.2.map k.sh))]
theorem vP:∀(a:List WE) (x y:Sl),(∀e∈a,fe [.vl (.tup (e.1.map T.bl)),.vl (.lst e.2),.vl k.t]= .ok (tl k e))->zx (zN 0 1) zV fe (a.map rg) [x,y,.vl k.t]= .ok (a.map (tl k))
 | [],x,y,_=>rfl
 | e :: a,x,y,h=>by
  show ((zN 0 1 _ _).bind λρ1=>(zV ρ1).bind λc=>if c=true then (fe ρ1).bind λv=>(zx _ _ fe _ ρ1).bind λvs=> .ok _ else zx _ _ fe _ ρ1)=_
  rw[show zN 0 1 _ _= .ok [.vl _,.vl _,.vl k.t] from rfl,i3];unfold zV;rw[h e aa,show zx _ (λ_=>R.ok _) fe _ _=_ from vP a _ _ λq d=>h q (a9 _ d)];rfl
theorem EK (k:Kd)(e:WE):kW (tl k e)=e.1:=by
 show (ZO _).getD []=_;rw[JM];rfl
theorem EB (k:Kd)(e:WE):Pl 29 (tl k e):=λx a=>by
 simp only[ak,bR,or_false]at a;rcases a with rfl | rfl | rfl
 ·intro y hy;obtain⟨b,_,rfl⟩:=aA.mp hy;trivial
 ·trivial
 ·intro y hy;simp only[ak,bR,or_false]at hy;rcases hy with rfl | rfl <;> trivial
section
variable {k:Kd}(hk:k.Ok 3)(h4:k.all.length<=40){rs:List Ru}(hr:∀r∈rs,ZK 3 r)(hn:rs.length<=1000)
include hk h4 hr hn
theorem xI:rY [k.t,.lst (rs.map Ru.t)]= .ok (.lst (yR ((j4 (wy rs) k.all []).map (tl k))))/\(((j4 (wy rs) k.all []).map (tl k)).map kW).Nodup/\Pl 30 (.lst (yR ((j4 (wy rs) k.all []).map (tl k)))):=by
 have y:mF=16777216:=rfl;obtain⟨g,f⟩:=vO hk (by omega) hr hn
 generalize j4 _ _ []=a at*;have w:=f.len;have hd:((a.map (tl k)).map kW).Nodup:=by rw[aZ,show (kW ∘ tl k)=λe=>e.1 from funext λe=>EK k e];exact f.nd
 refine⟨?_,hd, ?_⟩
 ·show zk (AI _ _ _ [.vl k.t,.vl _,.un])=_;unfold AI;rw[zc (ZJ (by rw[zI,v1,i3,jq .l hr hn]))]
  have p:pO (zN 0 1) zV (Za (za (vE 0) (za (mw Z6 (vB 1)) (za (zb 2 A6 (za (vE 2) (za (vE 1) (ze)))) (ze))))) 2 [0] [.vl k.t,.vl (.lst (rs.map Ru.t)),.un] a= .ok (a.map (tl k)):=by
   unfold pO;rw[if_pos (by omega)]
   show quiet (zx _ _ _ _ [.un,.un,.vl k.t])=_;rw[vP a _ _ λe v=> ?_]
   ·rfl
   ·obtain⟨q,r⟩:=f.mem e v;refine KW rfl rfl ?_;rw[zt,v2,i3,v1,i3,EQ hk (λx d=>(ZU k x).mp (q x d)) (by omega)]
  have o:uq (.lst (a.map (tl k)))= .ok (.lst (yR (a.map (tl k)))):=by
   show (if _ then _ else _)=_
   rw[if_pos];refine⟨aJ.mpr λt u=> ?_,hd,by rw[ae];omega⟩
   obtain⟨e,_,rfl⟩:=aA.mp u;show (ZO _).isSome=true;rw[JM];rfl
  have i:rW zP [k.t,.lst (rs.map Ru.t)]= .ok a:=by
   show (if 2=2 then quiet _ else _)=_
   rw[g];rfl
  show zk (match rW _ _ with
   | .ok a=>(match pO _ _ _ 2 [0] [.vl k.t,.vl _,.un] a with
    | .ok vs=>(match uq _ with
     | .ok (.lst j)=>RS.rf j
     | _=> .bad)
    | _=> .bad)
   | _=> .bad)=_
  rw[i];dsimp only;rw[p];dsimp only;rw[o];rfl
 ·intro x d;have c :=(lf _ _).mem_iff.mp d;obtain⟨e,_,rfl⟩:=aA.mp c;exact EB k e
end
theorem vQ {kf:T->List Bool}:∀d:List WE,(d.map (·.1)).Nodup->(∀e∈d,e.2=pre.filter λx=>kf x=e.1)->(kf w ∉ d.map (·.1)->pre.filter (λx=>kf x=kf w)=[])->∀e∈wV (kf w) w d,e.2=(pre++[w]).filter λx=>kf x=e.1
 | [],_,_,hn,e,a=>by
  simp only[wV,aq]at a;subst a;rw[List.filter_append,hn (by simp)]
  simp
 | (f,i) :: r,nd,h,hn,e,a=>by
  rw[ar,cK]at nd;unfold wV at a;have g:i=pre.filter λx=>kf x=f :=h _ aa
  by_cases c:f =kf w
  ·rw[if_pos c]at a;rcases ak.mp a with rfl | a
   ·rw[g];simp[c]
   ·rw[h e (a9 _ a)];have:¬ kf w=e.1:=λz=>nd.1 (aA.mpr ⟨e,a,by rw[c];exact z.symm⟩)
    simp[this]
  ·rw[if_neg c]at a;rcases ak.mp a with rfl | a
   ·rw[g];simp[show ¬ kf w=f from λz=>c z.symm]
   ·exact vQ r nd.2 (λe a=>h e (a9 _ a)) (λj=>hn (by
     rw[ar,ak,not_or];exact⟨λz=>c z.symm,j⟩)) e a
theorem WR {kf:T->List Bool}:∀(i c:List T) (d:List WE),(d.map (·.1)).Nodup->(∀e∈d,e.2=c.filter λx=>kf x=e.1)->(∀k,k∈d.map (·.1)↔∃w∈c,kf w=k)->(∀e∈j4 kf i d,e.2=(c++i).filter λx=>kf x=e.1)/\∀k,k∈(j4 kf i d).map (·.1)↔∃w∈c++i,kf w=k
 | [],c,d,_,h,l=>by rw[bw];exact⟨h,l⟩
 | w :: i,c,d,nd,h,l=>by
  have o:=WQ (kf w) w d;have:=WR i _ _ (by
   rw[o];split
   ·exact nd
   ·rename_i j;rw[i9];exact⟨nd,by simp,λa p b r z=>j (by rw[aq.mp r]at z;rw[← z];exact p)⟩) (vQ d nd h λj=>by
    rw[f7];intro x q z;exact j ((l _).mpr ⟨x,q,by simpa using z⟩)) λk=>by
    have g :=l k;rw[o];simp only[aW,aq];split
    ·rename_i j;rw[g];constructor
     ·rintro⟨v,f,e⟩
      exact⟨v,.inl f,e⟩
     ·rintro⟨v,f | rfl,e⟩
      ·exact⟨v,f,e⟩
      ·exact g.mp (e ▸ j)
    ·rw[aW,aq,g];constructor
     ·rintro(⟨v,f,e⟩ | e)
      ·exact⟨v,.inl f,e⟩
      ·exact⟨w,.inr rfl,e.symm⟩
     ·rintro⟨v,f | rfl,e⟩
      ·exact .inl ⟨v,f,e⟩
      ·exact .inr e.symm
  rw[bi]at this;exact this
theorem vR (r:Ru)(x:T):wy [r] x=[kp r x]:=rfl
section
variable {k:Kd}{r:Ru}
theorem xJ {e:WE}(j:e∈j4 (wy [r]) k.all []):∃x xs,e.2=x :: xs/\k.has x=true/\e.1=[kp r x]/\(kp r x=false->e.2=br k r):=by
 obtain⟨g,f⟩:=WR _ [] [] (by simp) (by simp) (by simp)
 rw[bP]at g f;have a:=g e j;obtain⟨w,l,o⟩:=(f e.1).mp (aA.mpr ⟨e,j,rfl⟩);have i:w∈e.2:=by rw[a];exact bA.mpr ⟨l,by simpa using o⟩
 cases d:e.2 with
 | nil=>rw[d]at i;cases i
 | cons x xs=>
  have u:x∈k.all.filter λy=>wy [r] y=e.1:=by rw[← a,d];exact aa
  obtain⟨p,c⟩:=bA.mp u;have c:[kp r x]=e.1:=(show wy [r] x=e.1 by simpa using c)
  refine⟨x,xs,rfl,(ZU k x).mp p,c.symm,λq=> ?_⟩;rw[← d,a,← c,q];refine lW λy _=> ?_;rw[vR];cases kp r y <;> decide
theorem XU:[false]∈(j4 (wy [r]) k.all []).map (·.1)↔br k r ≠ []:=by
 obtain⟨_,a⟩:=WR _ [] [] (by simp) (by simp) (by simp)
 rw[a];constructor
 ·rintro⟨w,c,e⟩ z
  have:=jo.mpr ⟨(ZU k w).mp c,by rw[vR]at e;simpa using e⟩
  rw[z]at this;cases this
 ·intro h;cases e:br k r with
  | nil=>exact absurd e h
  | cons x xs=>
   have:=jo.mp (by rw[e];exact aa)
   exact⟨x,(ZU k x).mpr this.1,by rw[vR,this.2]⟩
def pF:T->Bool
 | .tup (.tup [.bl b] :: _)=> !b
 | _=>false
noncomputable def gF:T->Int
 | .tup [_,.int n,_]=>n
 | _=>0
theorem XV {N:Int}:∀a:List WE,(a.map (·.1)).Nodup->(∀e∈a,∃b,e.1=[b]/\(b=false->(e.2.length:Int)=N))->(((a.map (tl k)).filter pF).map gF).sum=if [false]∈a.map (·.1) then N else 0
 | [],_,_=>by simp
 | e :: a,nd,h=>by
  rw[ar,cK]at nd;obtain⟨b,c,g⟩:=h e aa;have f:=XV a nd.2 λe j=>h e (a9 _ j);have i:pF (tl k e)= !b:=by unfold tl;rw[c];rfl
  rw[ar,ce,i,ar];cases b with
  | false=>
   rw[c]at nd;rw[if_neg nd.1]at f;rw[if_pos (by decide),ar,cg,f,if_pos (by rw[c];exact aa),← g rfl]
   exact Int.add_zero _
  | true=>
   rw[if_neg (by decide),f,c]
   by_cases d:[false]∈a.map (·.1)
   ·rw[if_pos d,if_pos (a9 _ d)]
   ·rw[if_neg d,if_neg (by rw[ak,not_or];exact⟨by decide,d⟩)]
theorem xK {a b:List Int}(h:a.Perm b):a.sum=b.sum:=by
 induction h with
 | nil=>rfl
 | cons x _ c=>rw[cg,cg,c]
 | swap x y l=>simp only[cg];omega
 | trans _ _ i j=>exact i.trans j
theorem xL (nd:((j4 (wy [r]) k.all []).map (·.1)).Nodup):(((yR ((j4 (wy [r]) k.all []).map (tl k))).filter pF).map gF).sum=((br k r).length:Int):=by
 rw[xK (((jh _).filter pF).map gF),XV _ nd λe c=> ?_]
 ·split
  ·rfl
  ·rename_i h;rw[XU]at h;have:br k r=[]:=by
    cases e:br k r with
    | nil=>rfl
    | cons x xs=>exact absurd (λz=>by rw[e]at z;cases z) h
   rw[this];rfl
 ·obtain⟨x,xs,_,_,d,a⟩:=xJ c;exact⟨kp r x,d,λz=>by rw[a z]⟩
theorem gZ (w:T->Int):∀(ts:List T) (t:T),jg (λa b=>decide (a < b)) (w t) (ts.map w)=w (ZS (w t) t (ts.map w) ts)
 | [],t=>rfl
 | u :: ts,t=>by
  rw[ar,ZS,jg]
  by_cases h:w u < w t
  ·rw[if_pos h,if_pos (decide_eq_true h)];exact gZ w ts u
  ·rw[if_neg h,if_neg (by rw[decide_eq_false h];decide)];exact gZ w ts t
theorem Uf (w:T->Int):∀(ts:List T) (t:T),∃l,(t :: ts).filter (λx=>w x == w (ZS (w t) t (ts.map w) ts))=ZS (w t) t (ts.map w) ts :: l
 | [],t=>⟨[],by rw[ce,if_pos (by exact beq_self_eq_true _)];rfl⟩
 | u :: ts,t=>by
  rw[ar,ZS]
  by_cases h:w u < w t
  ·rw[if_pos h];obtain⟨l,e⟩:=Uf w ts u;have:=(jp w ts u).2 u aa;exact⟨l,by rw[ce,if_neg (by rw[beq_iff_eq];omega)];exact e⟩
  ·rw[if_neg h];obtain⟨l,e⟩:=Uf w ts t;have c:=(jp w ts t).2 t aa;generalize ZS _ t _ ts=b at*
   by_cases a:w t=w b
   ·rw[ce,if_pos (by rw[beq_iff_eq];exact a)]at e ⊢
    injection e with e1 e2;exact⟨_,by rw[e1]⟩
   ·rw[ce,if_neg (by rw[beq_iff_eq];exact a)]at e ⊢
    exact⟨l,by rw[ce,if_neg (by rw[beq_iff_eq];omega)];exact e⟩
theorem XW:∀(n:Nat) (x:T),∃l,nq k r n x=x :: l
 | 0,x=>⟨[],rfl⟩
 | n+1,x=>by unfold nq;split <;> exact⟨_,rfl⟩
theorem XX (d:k.Ok 3):∀(n:Nat) (x:T),k.has x=true->∀q∈(nq k r n x).zip (nq k r n x).tail,k.wt q.2 < k.wt q.1
 | 0,x,_,q,a=>by cases a
 | n+1,x,j,q,a=>by
  unfold nq at a;cases e:bl k r x with
  | nil=>rw[e]at a;cases a
  | cons y o=>
   rw[e]at a;obtain⟨g,_,f⟩:=uL d j (by rw[e];exact aa)
   have c:=XX d n y g;obtain⟨l,i⟩:=XW n y;dsimp only at a;rw[i]at c a;rcases ak.mp a with rfl | a
   ·exact f
   ·exact c q a
theorem yr (c:k.Ok 3):∀(n:Nat) (x:T),k.has x=true->k.wt x<=(n:Int)->∃l y,nq k r n x=l++[y]/\k.has y=true/\bl k r y=[]
 | 0,x,a,i=>by
  refine⟨[],x,rfl,a,fK.mpr λz hz=> ?_⟩;obtain⟨d,_,g⟩:=uL c a hz;have:=(oJ 3 k c).pos z d;omega
 | n+1,x,a,i=>by
  unfold nq;cases e:bl k r x with
  | nil=>exact⟨[],x,rfl,a,e⟩
  | cons y p=>
   obtain⟨d,_,g⟩:=uL c a (by rw[e];exact aa)
   obtain⟨l,z,f,j,o⟩:=yr c n y d (by omega)
   exact⟨x :: l,z,by dsimp only;rw[f];rfl,j,o⟩
end
section
variable {ns:List Int}{k:Kd}{r s:Ru}{o:T}{a b c d e f g:Sl}
theorem G1 (acc:List T)(x:T):mS (acc++[x]) (-1)= .ok x:=by
 unfold mS;have:nw (acc++[x]) (-1)=some x:=by
  unfold nw oD;have e:(-1+((acc.length:Int)+1)).toNat=acc.length:=by omega
  have h:(1:Int)<=(acc.length)+1:=by omega
  simp[h,e]
 rw[this]
theorem v5:vE 5 (a :: b :: c :: d :: e :: .vl x :: l)= .ok x:=rfl
theorem w4:vB 4 (a :: b :: c :: d :: .vl x :: l)= .ok x:=rfl
theorem l5:mw Z6 (vB 5) (a :: b :: c :: d :: e :: .vl (.lst x) :: l)= .ok (.int (x.length:Int)):=rfl
theorem A1 (hr:ZK 3 r):∀q∈[r],ZK 3 q:=λq i=>by rw[aq.mp i];exact hr
theorem vS (i:k.Ok 3)(j:k.all.length<=500)(hr:ZK 3 r):J6 [k.t,.lst [r.t]]= .ok (.lst ((j4 (wy [r]) k.all []).map λe=>T.lst e.2)):=by
 have e:=(vO i j (A1 hr) (show 1<=1000 by decide)).1
 show BD ((pr [.lst ([r].map _)]).bind λ_=>zP [k.t,.lst ([r].map _)])=_;rw[jq .l (A1 hr) (show 1<=1000 by decide),e];rfl
abbrev e5 (ns:List Int)(k:Kd)(r s:Ru)(o:T)(l:List T)(a b c d e f g:Sl):En:=[.vl (mN ns),.vl k.t,.vl r.t,.vl s.t,.vl o,.vl (.lst l),a,b,c,d,e,f,g]
abbrev Ew:En->RS:=mD (jW (ZX (zb 2 (pK 8) (za (vE 2) (za (zd kj (vE 6) (cE (.int 0))) (ze)))))) (zC 5 (vE 6)) (mC)
theorem Eu (j:k.Ok 3)(hr:ZK 3 r){x:T}(i:k.has x=true):pK 8 [r.t,x]= .ok (.bl (kp r x)):=jy (by omega) (QD 2 k x j i) 8 3 (by omega) r hr
theorem Ug (F:k.Ok 3)(hr:ZK 3 r):∀(u:List WE) (a:Sl) (i:List T),(∀q∈u,∃x xs,q.2=x :: xs/\k.has x=true/\(kp r x=false->q.2=br k r))->∃v l,Zu (zw 6) Ew (u.map λe=>T.lst e.2) (e5 ns k r s o i a b c d e f g)= .nx (e5 ns k r s o l v b c d e f g)/\(l=i\/l=br k r)/\((∃q∈u,∃x xs,q.2=x :: xs/\kp r x=false)->l=br k r)
 | [],a,i,_=>⟨a,i,rfl,.inl rfl,λ⟨_,h,_⟩=>by cases h⟩
 | q :: u,a,i,h=>by
  obtain⟨x,xs,ex,M,N⟩:=h q aa;have w:jW (ZX (zb 2 (pK 8) (za (vE 2) (za (zd kj (vE 6) (cE (.int 0))) (ze))))) (e5 ns k r s o i (.vl (.lst q.2)) b c d e f g)= .ok (!kp r x):=by
   rw[Jv,j6,zt,v2,i3,sf (by rw[ex];rfl),i3,Eu F hr M];rfl
  cases hp:kp r x with
  | true=>
   rw[hp]at w;obtain⟨v,l,B,G,O⟩:=Ug F hr u _ i λq D=>h q (a9 _ D);refine⟨v,l, ?_,G,λ⟨p,j,y,J,C,hy⟩=> ?_⟩
   ·rw[ar,ZI rfl (zj w)];exact B
   ·rcases ak.mp j with rfl | j
    ·rw[ex]at C;injection C with z;rw[← z,hp]at hy;cases hy
    ·exact O ⟨p,j,y,J,C,hy⟩
  | false=>
   rw[hp]at w;obtain⟨v,l,B,G,_⟩:=Ug F hr u _ q.2 λq D=>h q (a9 _ D);have I:=G.elim (λz=>z.trans (N hp)) id;refine⟨v,l, ?_,.inr I,λ_=>I⟩;rw[ar,ZI (ρ2:=e5 ns k r s o q.2 _ b c d e f g) rfl ((jF w).trans rfl)];exact B
theorem E5 (w:k.Ok 3)(F:k.all.length<=500)(hr:ZK 3 r):∃u,ZD (Z5 (zb 2 J6 (za (vE 1) (za (Zc (za (vE 2) (ze))) (ze))))) (zw 6) Ew (e5 ns k r s o [] a b c d e f g)= .nx (e5 ns k r s o (br k r) u b c d e f g):=by
 obtain⟨u,l,B,D,G⟩:=Ug w hr _ a [] λq i=>by
  obtain⟨x,xs,p,j,_,C⟩:=xJ i;exact⟨x,xs,p,j,C⟩
 have y:l=br k r:=by
  by_cases v:br k r=[]
  ·rcases D with z | z
   ·rw[z,v]
   ·exact z
  ·refine G ?_;obtain⟨q,i,e⟩:=aA.mp (XU.mpr v);obtain⟨x,xs,p,_,j,_⟩:=xJ i;exact⟨q,i,x,xs,p,by rw[j]at e;simpa using e⟩
 refine⟨u, ?_⟩;have I:Z5 (zb 2 J6 (za (vE 1) (za (Zc (za (vE 2) (ze))) (ze)))) (e5 ns k r s o [] a b c d e f g)= .ok ((j4 (wy [r]) k.all []).map λe=>T.lst e.2):=by
  rw[Zs,zt,v1,i3,V2 v2,i3,vS w F hr];rfl
 unfold ZD;rw[I,← y];exact B
theorem rJ (i:k.Ok 3)(h:lb k r=some x):W 2 x:=QD 2 k x i (Ue h).1
theorem vT:lb k r=none↔br k r=[]:=by
 unfold lb;cases br k r with
 | nil=>exact⟨λ_=>rfl,λ_=>rfl⟩
 | cons t ts=>exact⟨λz=>(nomatch z),λz=>(nomatch z)⟩
theorem XY (j:k.Ok 3):uU (oT (lb k r)) .non= .ok (br k r).isEmpty:=by
 cases e:lb k r with
 | none=>rw[vT.mp e];rfl
 | some x=>
  have hn:(br k r).isEmpty=false:=by
   cases i:br k r with
   | nil=>rw[vT.mpr i]at e;cases e
   | cons _ _=>rfl
  rw[hn];cases rJ j e <;> rfl
theorem vU (i:k.Ok 3):jV (oT (lb k r)) .non= .ok !(br k r).isEmpty:=by
 show (uU _ _).bind _=_;rw[XY i];rfl
theorem Et (i:k.Ok 3):Pl 30 (oT (lb k r)):=by
 cases e:lb k r with
 | none=>trivial
 | some x=>exact(rJ i e).pl30 (am 2)
theorem Fj (i:k.Ok 3):zp mW (ZL uU (vB 4) (cE .non)) (ZL my (vB 5) (Zc (ze))) (e5 ns k r s (oT (lb k r)) (br k r) a b c d e f g)= .ok false:=by
 rw[zB,Ze,w4,i3,zW,i3,XY i,i3];cases br k r <;> rfl
theorem Ir (j:k.Ok 3)(u:k.all.length<=40)(hr:ZK 3 r):zp mW (mw Z6 (vB 5)) (mw qh (zA (Z5 (zb 2 rY (za (vE 1) (za (Zc (za (vE 2) (ze))) (ze))))) (zw 0) (zp my (zd kj (vE 0) (cE (.int 0))) (Za (za (cE (.bl false)) (ze)))) (zd kj (vE 0) (cE (.int 1))) 1 [])) (e5 ns k r s o (br k r) a b c d e f g)= .ok false:=by
 have y:mF=16777216:=rfl;obtain⟨l,B,_⟩:=xI j u (A1 hr) (show 1<=1000 by decide)
 have i:=(vO j (by omega) (A1 hr) (show 1<=1000 by decide)).2
 rw[zB,l5,i3,Z8,zJ,Zs,zt,v1,i3,V2 v2,i3,show rY [k.t,.lst [r.t]]=_ from l];show ((((zq _ _ _ _ _ _ _).bind _).bind _).bind _)=_;have p:zq (zw 0) (zp my (zd kj (vE 0) (cE (.int 0))) (Za (za (cE (.bl false)) (ze)))) (zd kj (vE 0) (cE (.int 1))) 1 [] (e5 ns k r s o (br k r) a b c d e f g) (yR ((j4 (wy [r]) k.all []).map (tl k)))= .ok (((yR ((j4 (wy [r]) k.all []).map (tl k))).filter pF).map λt=> .int (gF t)):=by
  unfold zq;rw[if_pos (by rw[(jh _).length_eq,ae];have:=i.len;omega),Zq _ _ λt v=> ?_]
  ·rfl
  ·obtain⟨e,w,rfl⟩:=aA.mp ((jh _).mem_iff.mp v);obtain⟨x,xs,_,_,q,_⟩:=xJ w;unfold tl;rw[q];cases kp r x <;> exact⟨rfl,λ_=>rfl⟩
 rw[p,i3,i3,vx,i3,xL i.nd];exact Ua trivial
abbrev DT:En->RS:=mD (zp jV (vB 4) (cE .non)) (zn (zC 7 (mw Kq (zA (Z5 (vE 5)) (zw 0) (zV) (zb 2 oH (za (vE 1) (za (vE 0) (ze)))) 1 [1])))
  (mD (zp mW (vB 4) (zd kj (zA (Z5 (vE 5)) (zw 0) (zp my (zb 2 oH (za (vE 1) (za (vE 0) (ze)))) (vB 2)) (vE 0) 1 [1,7]) (cE (.int 0)))) (zr (cE (.bl false))) (mC))) (mC)
theorem LS (i:k.all.length<=40):(br k r).length<=40:=av (fj _ _) i
theorem IR (q:k.Ok 3)(F:k.all.length<=40):∃B,DT (e5 ns k r s (oT (lb k r)) (br k r) a b c d e f g)= .nx (e5 ns k r s (oT (lb k r)) (br k r) a B c d e f g):=by
 have G:mF=16777216:=rfl;have w:=LS (r:=r) F;have hi:zp jV (vB 4) (cE _) (e5 ns k r s (oT (lb k r)) (br k r) a b c d e f g)= .ok _:=vU q;cases j:br k r with
 | nil=>rw[j]at hi;exact⟨b,by rw[← j]at hi ⊢;exact zj (by rw[hi,j];rfl)⟩
 | cons t ts=>
  have v:∀x∈t :: ts,k.has x=true:=λx p=>(jo.mp (j ▸ p)).1;have D:oT (lb k r)=ZS (k.wt t) t (ts.map k.wt) ts:=by unfold lb;rw[j];rfl
  rw[j]at hi w;obtain⟨l,C⟩:=Uf _ ts t;have u:=gZ k.wt ts t;have pl:=Et (r:=r) q;rw[D]at hi pl ⊢;generalize ZS _ t _ ts=y at*;refine⟨.vl (.int (k.wt y)), ?_⟩;unfold DT;rw[jF hi,zc ?e1,zj ?e2]
  case e1=>
   rw[zE]
   ·rfl
   ·show (((zq _ _ _ _ _ _ _).bind _).bind _)=_;rw[zK (h:=λx=> .int _) _ (by omega) λx p=> ?_,i3]
    ·show (match Z2 ((t :: ts).map λx=>T.int _) with | some (i :: l)=>R.ok (T.int (jg (λa b=>decide _) i l)) | _=> .bad)=_
     rw[WN];exact congrArg (λz=>R.ok _) u
    ·show zb 2 _ _ (mG x k.t)=_;rw[zt,v1,i3,v0,i3,jn q (v x p)]
  case e2=>
   rw[zB,w4,i3,sf ?_,i3,Ua pl];show ((zq _ _ _ _ _ _ _).bind _)=_;rw[Z4 _ (by omega) λx p=>⟨?_,rfl⟩,i3,C]
   show zp my _ _ [.vl x,.vl k.t,.vl _]=_;rw[zB,zt,v1,i3,v0,i3,jn q (v x p)];rfl
end
section
variable {ns:List Int}{k:Kd}{r s:Ru}{o:T}{a b c d e f g:Sl}
abbrev dB:En->RS:=zn (zC 9 (zd kj (vE 5) (zb 3 np (za (vE 0) (za (zd zv (cE (.int 100)) (vE 8)) (za (mw Z6 (vB 5)) (ze)))))))
  (zn (zC 10 (zb 3 sS (za (vE 1) (za (vE 9) (za (vE 2) (ze))))))
  (zn (mD (nz (zp mW (zd kj (vE 10) (cE (.int 0))) (vB 9)) (zp mW (zA (Z5 (vE 10)) (zw 0) (zp Y8 (vB 0) (vB 1)) (cE (.int 1)) 1 [5]) (Zc (ze)))) (zr (cE (.bl false))) (mC))
  (zn (zC 11 (zA (Z5 (vE 10)) (zw 0) (zV) (zb 2 oH (za (vE 1) (za (vE 0) (ze)))) 1 [1]))
  (zn (mD (zp mW (zA (Yb (vE 11) (nj (vE 11) (Zj (cE (.int 1))) (nr))) (zN 0 1) (zp oy (vB 1) (vB 0)) (cE (.int 1)) 2 []) (Zc (ze))) (zr (cE (.bl false))) (mC))
  (mD (zp mW (zA (Z5 (zb 2 tT (za (vE 1) (za (zd kj (vE 10) (YG (cE (.int 1)))) (ze))))) (zw 0) (jW (ZX (zb 2 (pK 8) (za (vE 1) (za (vE 0) (ze)))))) (vE 0) 1 [2]) (Zc (ze))) (zr (cE (.bl false))) (mC))))))
theorem vV:∀(qs:List (T×T)) (x y:Sl),(∀q∈qs,k.wt q.2 < k.wt q.1)->zx (zN 0 1) (zp oy (vB 1) (vB 0)) (cE (.int 1)) (qs.map λq=>T.tup [.int (k.wt q.1),.int (k.wt q.2)]) [x,y]= .ok []
 | [],_,_,_=>rfl
 | q :: qs,x,y,h=>by
  have:=h q aa;show (if decide _=true then _ else zx _ _ _ (qs.map λq=>T.tup _) _)=_
  rw[if_neg (by rw[decide_eq_true_eq];omega)]
  exact vV qs _ _ λq i=>h q (a9 _ i)
theorem L7 (L:List T):yG (L.map λx=>T.int (k.wt x)) ((L.map λx=>T.int (k.wt x)).drop 1)=(L.zip L.tail).map λq=>T.tup [.int (k.wt q.1),.int (k.wt q.2)]:=by
 unfold yG;rw[← List.map_drop,List.drop_one,List.zip_map,aZ];rfl
theorem Hu (j:k.Ok 3)(X:k.all.length<=40)(hr:ZK 3 r)(i:Nat)(hi:i < (br k r).length):∃P Q O,dB (e5 ns k r s o (br k r) a b (.vl (.int (i:Int))) d e f g)= .nx (e5 ns k r s o (br k r) a b (.vl (.int (i:Int))) P Q O g):=by
 have hb:mF=16777216:=rfl;obtain⟨p,hp,I,G⟩:=zO ns (100+(i:Int)) ((br k r).length) (by omega) (by omega)
 obtain⟨x,M,J⟩:=EE I G;obtain⟨q,w⟩:=jo.mp J;obtain⟨w1,w2⟩:=sO j q;have S:=vJ (k:=k) (r:=r) (k.wt x).toNat x;have B:=vI (r:=r) j (k.wt x).toNat x q w;have hd:=XX (r:=r) j (k.wt x).toNat x q;obtain⟨U,y,hy,l,D⟩:=yr (r:=r) j (k.wt x).toNat x q (by omega)
 obtain⟨Z,F⟩:=XW (k:=k) (r:=r) (k.wt x).toNat x;have v:=EX j hr q w;have C:ch k r x=nq k r (k.wt x).toNat x:=rfl;rw[C]at v;generalize nq k r (k.wt x).toNat x=L at*;refine⟨.vl x,.vl (.lst L),.vl (.lst (L.map λz=> .int (k.wt z))), ?_⟩;unfold dB;rw[zc (ρ' :=e5 ns k r s o (br k r) a b _ (.vl x) e f g) ?s1,zc (ρ' :=e5 ns k r s o (br k r) a b _ (.vl x) (.vl (.lst L)) f g) ?s2,zc (zj ?s3),zc ?s4,zc (zj ?s5),zj ?s6]
 case s1=>
  rw[zE]
  ·rfl
  ·rw[zh,v5,i3,Zb,v0,i3,show zd _ _ _ _= .ok _ from rfl,i3,l5,i3,hp,i3,M]
 case s2=>
  rw[zE]
  ·rfl
  ·exact v
 case s3=>
  rw[U2,zB,sf (by rw[← F];rfl)]
  show (((mW x x).bind _))=_;rw[Ua ((QD 2 k x j q).pl30 (am 2)),zB];show (((zq _ _ _ _ _ _ L).bind _).bind _)=_;unfold zq;rw[if_pos (by omega),Zq (p:=λ_=>false) L _ λt u=>⟨?_,λ_=>rfl⟩]
  ·rw[f7.mpr λ_ _=>by decide];rfl
  ·exact LO (QD 2 k t j (B t u).1) (λy hy=>QD 2 k y j (jo.mp hy).1) ⟨λ_=>jo.mpr (B t u),λ_=>rfl⟩
 case s4=>
  rw[zE]
  ·rfl
  ·show ((zq _ _ _ _ _ _ L).bind _)=_;rw[zK L (by omega) λt u=> ?_,i3]
   show zb 2 _ _ (mG t k.t)=_;rw[zt,v1,i3,v0,i3,jn j (B t u).1]
 case s5=>
  show ((R.ok (yG (L.map λz=>T.int _) (nJ (L.map λz=>T.int _) (some ((1:Nat))) _))).bind _).bind _=_;rw[QK,L7,i3];unfold zq;rw[if_pos (by rw[ae,dE];omega)]
  show ((quiet (zx _ _ _ _ [.un,.un])).bind _).bind _=_;rw[vV _ _ _ hd];rfl
 case s6=>
  have N:=j0 (by omega) j l
  rw[zB,zJ,Zs,zt,v1];show (((((mS L _).bind _).bind _).bind _).bind _)=_;rw[hy,G1,i3,vG j l];show (((zq _ _ _ _ _ _ _).bind _).bind _)=_;rw[Z4 _ (by omega) λt u=>⟨?_,rfl⟩,i3]
  ·rw[show (k.less y).filter (λz=> !(kp r z))=[] from D];rfl
  ·show jW _ [.vl t,.vl r.t]=_;rw[Jv,j6,zt,v1,i3,v0,i3,Eu j hr ((oJ 3 k j).dn y t l u).1];rfl
theorem XZ (p:k.Ok 3)(q:k.all.length<=40)(hr:ZK 3 r):∀(l:List Nat) (c d e f:Sl),(∀i∈l,i < (br k r).length)->∃C N M G,Zu (zw 8) dB (l.map λ(i:Nat)=>T.int (i:Int)) (e5 ns k r s o (br k r) a b c d e f g)= .nx (e5 ns k r s o (br k r) a b C N M G g)
 | [],c,d,e,f,_=>⟨c,d,e,f,rfl⟩
 | i :: l,c,d,e,f,h=>by
  obtain⟨D,u,J,B⟩:=Hu p q hr i (h i aa);obtain⟨x,w,F,I,v⟩:=XZ p q hr l _ D u J λj y=>h j (a9 _ y);exact⟨x,w,F,I,by rw[ar,ZI rfl B,v]⟩
theorem FL (w:k.Ok 3)(v:k.all.length<=40)(hr:ZK 3 r):∃l q p j,ZD (Zi (zd wH (cE (.int 3)) (mw Z6 (vB 5)))) (zw 8) dB (e5 ns k r s o (br k r) a b c d e f g)= .nx (e5 ns k r s o (br k r) a b l q p j g):=by
 obtain⟨l,q,p,j,h⟩:=XZ w v hr (aN (min 3 (br k r).length)) c d e f λi hi=>by have:=aT.mp hi;omega
 refine⟨l,q,p,j, ?_⟩;have u:Zi (zd wH (cE (.int 3)) (mw Z6 (vB 5))) (e5 ns k r s o (br k r) a b c d e f g)= .ok (rng 0 (min 3 (br k r).length)):=by
  have:zd wH (cE (.int 3)) (mw Z6 (vB 5)) (e5 ns k r s o (br k r) a b c d e f g)= .ok (.int ((min 3 (br k r).length:Nat))):=by
   show R.ok _=_;split <;> exact congrArg (λz=>R.ok _) (by omega)
  rw[WD this (by omega),b9]
 unfold ZD;rw[u,Eo];exact h
theorem Y6 (i:k.Ok 3)(j:k.all.length<=500)(hr:ZK 3 r):Br [k.t,r.t]= .ok (.lst (fl k r)):=by
 have p:mF=16777216:=rfl;show zk (Ah _ _ _ (mG k.t r.t))=_;unfold Ah;rw[zc (ZJ (by rw[zI,v1,i3,ZQ hr])),Jl]
 show zA _ _ _ _ _ _ (mG k.t r.t)=_;rw[zJ,Zs,zI,v0,i3,j2 i j];show ((zq _ _ _ _ _ _ _).bind _)=_;rw[Z4 _ (by omega) λt l=>⟨?_,rfl⟩,i3]
 show ZX _ (mG t r.t)=_;rw[j6,zt,v1,i3,v0,i3,ZE (xA i l) hr];rfl
theorem Y7 (j:k.Ok 3)(i:k.all.length<=500)(hr:ZK 3 r)(u:ZK 3 s):Gf [k.t,r.t,s.t]= .ok (.bl (imp k r s)):=by
 have hn:pr [.tup [r.t,s.t]]= .ok _:=jq .t (rs:=[r,s]) (λq l=>by
  simp only[ak,bR,or_false]at l;rcases l with rfl | rfl <;> assumption) (show 2<=1000 by decide)
 show zk (Ae _ _ _ [.vl k.t,.vl r.t,.vl s.t])=_;have p:zq _ _ (zb 2 (n9 8) (za (vE 1) (za (vE 0) _))) 1 [2] [.vl k.t,.vl r.t,.vl s.t] _= .ok ((fl k r).map λt=> .bl _):=
  zK _ (HG k r i) λt v=>by
   show zb 2 _ _ (mG t s.t)=_;rw[zt,v1,i3,v0,i3,ZE (B7 j r t v) u]
 rw[Ae,zc (ZJ (by rw[zI,UO v1 v2,i3,hn])),Jl]
 show mw _ _ [.vl k.t,.vl r.t,.vl s.t]=_;rw[Z8,zJ,Zs,zt,v0,i3,v1,i3,Y6 j i hr];show (((zq _ _ _ _ _ _ _).bind _).bind _)=_;rw[p,i3];show (match WT _ with | some k=>R.ok _ | none=> .bad)=_
 rw[J7];rfl
end
section
theorem LX (h:imp k r s=true)(hy:lb k s=some y):∃x,lb k r=some x/\k.has x=true/\k.has y=true/\k.wt x<=k.wt y:=by
 obtain⟨a,d,_⟩:=Ue hy;have c:kp r y=false:=by
  cases e:kp r y with
  | false=>rfl
  | true=>rw[gH.mp h y ((ZU k y).mpr a) e]at d;cases d
 cases e:lb k r with
 | none=>rw[gY.mp e y a]at c;cases c
 | some x=>
  obtain⟨f,_,g⟩:=Ue e;exact⟨x,rfl,f,a,g y a c⟩
abbrev iB:En->RS:=mD (X0 (ZX (zb 3 Gf (za (vE 1) (za (vE 2) (za (vE 3) (ze)))))) (zp jV (vB 12) (cE .non))) (mD (nz (zp uU (vB 4) (cE .non)) (zp nt (zb 2 oH (za (vE 1) (za (vE 4) (ze)))) (zb 2 oH (za (vE 1) (za (vE 12) (ze)))))) (zr (cE (.bl false))) (mC)) (mC)
theorem Ci (i:k.Ok 3)(B:k.all.length<=40)(hr:ZK 3 r)(q:ZK 3 s):iB (e5 ns k r s (oT (lb k r)) l a b c d e f (.vl (oT (lb k s))))= .nx (e5 ns k r s (oT (lb k r)) l a b c d e f (.vl (oT (lb k s)))):=by
 have v:ZX (zb 3 Gf (za (vE 1) (za (vE 2) (za (vE 3) (ze))))) (e5 ns k r s (oT (lb k r)) l a b c d e f (.vl (oT (lb k s))))= .ok (imp k r s):=by
  rw[j6,Zb,v1,i3,v2,i3,v3,i3,Y7 i (by omega) hr q,i3,UL]
 have u:zp jV (vB 12) (cE _) (e5 ns k r s (oT (lb k r)) l a b c d e f (.vl (oT (lb k s))))= .ok _:=vU i;have g:X0 (ZX (zb 3 Gf (za (vE 1) (za (vE 2) (za (vE 3) (ze)))))) (zp jV (vB 12) (cE .non)) (e5 ns k r s (oT (lb k r)) l a b c d e f (.vl (oT (lb k s))))= .ok (imp k r s && !(br k s).isEmpty):=by
  rw[Qa,v];cases imp k r s with
  | false=>rfl
  | true=>exact u
 cases hi:imp k r s with
 | false=>rw[hi]at g;exact zj g
 | true=>
  rw[hi]at g;cases j:br k s with
  | nil=>rw[j]at g;exact zj g
  | cons t ts=>
   rw[j]at g;cases o:lb k s with
   | none=>rw[vT.mp o]at j;cases j
   | some y=>
    rw[o]at g;obtain⟨x,ex,p,hy,C⟩:=LX hi o;rw[ex]at g ⊢;refine(jF g).trans (zj ?_);have w:zp uU (vB 4) (cE .non) (e5 ns k r s x l a b c d e f (.vl y))= .ok false:=by
     cases QD 2 k x i p <;> rfl
    show nz _ _ (e5 ns k r s x l a b c d e f (.vl y))=_;rw[U2,w,i3,zB,zt,v1,i3,show vE 4 _=R.ok x from rfl,i3,jn i p,i3,zt,v1,i3,show vE 12 _=R.ok y from rfl,i3,jn i hy];show R.ok _=_;rw[decide_eq_false (by omega)]
end
theorem law_ok (c:List Int)(h:c.length<=63):oB [.fz (c.map T.int)]= .ok (.bl true):=by
 obtain⟨k,a,G,v⟩:=xq c 0 (by omega) 40 (by omega)
 obtain⟨r,w,e⟩:=JL c 8 2 (by omega) (by omega) 3000 (by omega)
 obtain⟨s,D,C⟩:=JL c 8 2 (by omega) (by omega) 3200 (by omega)
 have hr:=e.up;have d :=C.up;have q:=WP a (by omega) hr
 have F:=WP a (by omega) d
 have l:=WP a (by omega) (ZK.all e e)
 have f:lb k (.all r r)=lb k r:=by
  have:br k (.all r r)=br k r:=lW λx _=>by rw[kp,Bool.and_self]
  unfold lb;rw[this]
 rw[f]at l;show zk (tH _ _ _ _ _ _ _ _ _ sS _ [.vl _,.un,.un,.un,.un,.un,.un,.un,.un,.un,.un,.un,.un])=_;unfold tH;rw[zc (ρ' :=[.vl _,.vl k.t,.un,.un,.un,.un,.un,.un,.un,.un,.un,.un,.un]) ?e0]
 case e0=>
  rw[zE]
  ·rfl
  ·rw[Zb,v0,zW,i3,zW,i3];exact v
 rw[zc (ρ' :=[.vl _,.vl k.t,.vl r.t,.vl s.t,.un,.un,.un,.un,.un,.un,.un,.un,.un]) ?e1]
 case e1=>
  unfold rL;rw[UO (by exact w) (by exact D)]
  rfl
 rw[zc (ρ' :=e5 c k r s _ [] .un .un .un .un .un .un .un) ?e2]
 case e2=>
  unfold rL;rw[UO (by rw[zt,v1,i3,v2,i3,q]) rfl]
  rfl
 obtain⟨i,y⟩:=E5 a (by omega) hr
 rw[zc y,zc (zj (Fj a)),zc (zj (Ir a (by omega) hr))]
 obtain⟨p,B⟩:=IR a (by omega)
 rw[zc B];obtain⟨o,j,e1,g,u⟩:=FL a (by omega) hr
 rw[zc u,zc (ρ' :=e5 c k r s _ _ i p o j e1 g _) ?e3]
 case e3=>
  rw[zE]
  ·rfl
  ·rw[zt,v1,i3,v3,i3,F]
 rw[zc (Ci a (by omega) hr d),Jl]
 show ZL my _ _ [.vl _,.vl k.t,.vl r.t,.vl s.t,.vl _,.vl _,X2 i,X2 p,X2 o,X2 j,X2 e1,X2 g,.vl _]=_;refine E6 ?_ rfl (Et a);rw[zt,v1,i3,KW rfl rfl rfl,i3];exact l
end G
namespace G
open PySem PySem.Spec PyProof.Rows L2 PV
noncomputable def mI (i:Nat):Stmt:=PySem.Challenge.pw_worthkinds_k54_whole_least_and_tallies.main.body.getD i (.Pass ⟨0,0,0,0⟩)
set_option genInjectivity false in
set_option genSizeOf false in
structure Tx (K:ai) (mg:Str->Option Value):Prop where
 C_1o:FE K mg "_law_cell" (mI 79) ["_law_script","_law_k"]
 C_3:FE K mg "_law_pick" (mI 80) ["_law_script","_law_k","_law_many"]
 C_15:FE K mg "_law_word_of" (mI 81) ["_law_script","_law_at"]
 C_18:FE K mg "_law_leaf_kind" (mI 82) ["_law_script","_law_at"]
 C_l:FE K mg "_law_kind" (mI 83) ["_law_script","_law_at","_law_deep"]
 C_m:FE K mg "_law_rows_of" (mI 85) ["_law_lists"]
 C_8:FE K mg "_law_all" (mI 84) ["_law_kind_here"]
 C_i:FE K mg "_law_size" (mI 86) ["_law_kind_here"]
 C_1h:FE K mg "_law_small" (mI 87) ["_law_script","_law_at","_law_most"]
 C_p:FE K mg "_law_rule" (mI 88) ["_law_script","_law_at","_law_deep"]
 C_f:FE K mg "is_whole" (mI 12) ["thing"]
 C_1j:FE K mg "is_bound" (mI 50) ["thing"]
 C_z:FE K mg "is_word" (mI 14) ["thing"]
 C_r:FE K mg "is_rule_within" (mI 49) ["thing","levels"]
 C_d:FE K mg "is_rule" (mI 45) ["thing"]
 C_6:FE K mg "need_rule" (mI 47) ["rule"]
 C_1r:FE K mg "is_span" (mI 15) ["low","high","least","most"]
 C_h:FE K mg "is_tuple_of" (mI 13) ["thing","least","most"]
 C_1c:FE K mg "is_choice" (mI 18) ["thing"]
 C_1a:FE K mg "are_choices" (mI 17) ["thing"]
 C_b:FE K mg "is_kind_within" (mI 16) ["thing","levels"]
 C_1z:FE K mg "are_kinds_within" (mI 19) ["thing","levels"]
 C_5:FE K mg "is_kind" (mI 8) ["thing"]
 C_10:FE K mg "need_kind" (mI 10) ["kind"]
 C_2:FE K mg "count_of" (mI 26) ["kind"]
 C_13:FE K mg "count_of_parts" (mI 27) ["kinds"]
 C_v:FE K mg "count_shorter" (mI 28) ["kind","length"]
 C_c:FE K mg "words_of_pick" (mI 20) ["kind"]
 C_k:FE K mg "worth_at" (mI 29) ["kind","number"]
 C_1y:FE K mg "many_at" (mI 30) ["kind","number"]
 C_16:FE K mg "parts_at" (mI 31) ["kinds","number"]
 C_w:FE K mg "all_worths" (mI 25) ["kind"]
 C_o:FE K mg "leaves_of" (mI 54) ["worth"]
 C_1i:FE K mg "numbers_in" (mI 55) ["worth"]
 C_1q:FE K mg "parts_of" (mI 53) ["worth"]
 C_1u:FE K mg "are_rising" (mI 56) ["numbers"]
 C_1v:FE K mg "are_unlike" (mI 57) ["parts"]
 C_19:FE K mg "is_single_kept" (mI 52) ["rule","worth"]
 C_4:FE K mg "is_kept" (mI 51) ["rule","worth"]
 C_s:FE K mg "nearest_to_nought" (mI 65) ["kind"]
 C_7:FE K mg "weight_within" (mI 70) ["kind","worth"]
 C_12:FE K mg "weight_of_parts" (mI 71) ["kinds","parts"]
 C_1g:FE K mg "least_breaking" (mI 62) ["kind","rule"]
 C_x:FE K mg "need_rules" (mI 48) ["rules"]
 C_20:FE K mg "way_of" (mI 77) ["rules","worth"]
 C_worths_by_ways:FE K mg "worths_by_ways" (mI 76) ["kind","rules"]
 C_parted:FE K mg "parted" (mI 75) ["kind","rules"]
 C_q:FE K mg "_law_leaves" (mI 89) ["_law_worth"]
 C_a:FE K mg "_law_keeps" (mI 90) ["_law_rule_here","_law_worth"]
 C_1f:FE K mg "greatest_divisor" (mI 34) ["one","other"]
 C_u:FE K mg "fraction" (mI 33) ["up","down"]
 C_1l:FE K mg "plus" (mI 36) ["one","other"]
 C_n:FE K mg "together" (mI 37) ["fractions"]
 C_1n:FE K mg "share_of_word" (mI 40) ["kind","word"]
 C_y:FE K mg "times" (mI 35) ["one","other"]
 C_j:FE K mg "share_within" (mI 39) ["kind","worth"]
 C_1t:FE K mg "share_of_parts" (mI 41) ["kinds","parts"]
 C_1m:FE K mg "shares_together" (mI 38) ["kind","worths"]
 C_11:FE K mg "tally" (mI 74) ["kind","rules"]
 C_g:FE K mg "has_worth" (mI 21) ["kind","thing"]
 C_1w:FE K mg "have_parts" (mI 22) ["kinds","parts"]
 C_1p:FE K mg "is_worth" (mI 9) ["kind","thing"]
 C_t:FE K mg "need_worth" (mI 11) ["kind","worth"]
 C_1:FE K mg "weight" (mI 60) ["kind","worth"]
 C_1b:FE K mg "number_less" (mI 66) ["kind","number"]
 C_1d:FE K mg "word_less" (mI 67) ["kind","word"]
 C_9:FE K mg "shorter" (mI 68) ["kind","worth"]
 C_e:FE K mg "one_step_less" (mI 64) ["kind","worth"]
 C_1x:FE K mg "parts_less" (mI 69) ["kinds","parts"]
 C_14:FE K mg "breaking_less" (mI 63) ["kind","worth","rule"]
 C_1e:FE K mg "led_down" (mI 61) ["kind","worth","rule"]
 C_1k:FE K mg "lesser" (mI 59) ["kind","worth"]
 C_1s:FE K mg "keepers" (mI 46) ["kind","rule"]
 C_17:FE K mg "implies" (mI 73) ["kind","one","other"]
 C_0:FE K mg "law" (mI 91) ["_law_script"]
 z:∀x,(["abs","all","any","bool","dict","enumerate","int","isinstance","len","list","max","min","range","reversed","set","sorted","str","sum","tuple","zip"]:List Str).contains x=true->mg x=none
 c_DEEPEST:∃u,mg "DEEPEST"=some u/\∃t,u=Value.int 3 t
 c_DEEPEST_RULE:∃u,mg "DEEPEST_RULE"=some u/\∃t,u=Value.int 3 t
 c_FARTHEST_BOUND:∃u,mg "FARTHEST_BOUND"=some u/\∃t,u=Value.int 50 t
 c_MOST_TOLD:∃u,mg "MOST_TOLD"=some u/\∃t,u=Value.int 500 t
section
variable {Z:Zz}{Pt:Addr}(tx:Tx Z.K Z.mg)
include tx
set_option hygiene false
local macro_rules | `(tactic| gp_on)=> `(tactic| first
  | (show Up _ _ _ _;first
   | refine GT ?_ ?_
   | exact Iw)
  | (show Snd _ _ (.Name ..) _;first
   | exact LP _ (pv _)
   | exact tx.c_FARTHEST_BOUND.elim λ_ h=>Wi (by rfl) h.1 h.2
   | exact tx.c_DEEPEST_RULE.elim λ_ h=>Wi (by rfl) h.1 h.2
   | exact tx.c_DEEPEST.elim λ_ h=>Wi (by rfl) h.1 h.2
   | exact tx.c_MOST_TOLD.elim λ_ h=>Wi (by rfl) h.1 h.2)
  | (show Snd _ _ (.Constant ..) _;first
   | exact ID
   | exact EW
   | exact C8
   | exact EH)
  | (show We _ _ _ _;first
   | refine IG ?_ ?_
   | exact EM
   | refine xa (by assumption) hr nd (by rfl) (.inl (by rfl)) ?_ (Ed hy (by kernel_rfl) (by kernel_rfl) (by rfl) ?_ (λ_ hy _ _ _ _ _ _=> ?_) (λ_ hy _ _ _ _ _ _ _ hp=> ?_)) (pv _) (tx.z _ (by kernel_rfl))
   | refine L6 ?_)
  | (show jz _ _ _ _;first
   | exact GS _ (pv _)
   | refine Snd.b ?_)
  | (show Wd _ _ _ _;first
   | refine LK ?_
   | refine LB ?_ ?_ ?_
   | refine D9 nd (by rfl) (.inl (by rfl)) ?_
   | refine El fT (by rfl) ?_ ?_ ?_
   | refine FU ?_
   | refine LW nd (by rfl) (.inl (by rfl)) ?_
   | refine Ln (Da hy (by kernel_rfl) (by kernel_rfl) (by rfl) ?_ (λ_ hy _ _ _ _ _ _=> ?_) (λ_ hy _ _ _ _ _ _ _ hp=> ?_)) nd (by rfl) (.inl (by rfl)) (by rfl)
   | exact Li
   | refine D9 nd (by rfl) (.inr (by rfl)) ?_
   | refine E1 (pv _) ?_
   | refine Ib (pv _) ?_
   | refine YT (n:=_) fT ?_ ?_
   | refine El PassesOwn.leaving (by rfl) ?_ ?_ ?_
   | exact BI (pv _) nd (by rfl) (.inl (by rfl))
   | refine Fk (Da hy (by kernel_rfl) (by kernel_rfl) (by rfl) ?_ (λ_ hy _ _ _ _ _ _=> ?_) (λ_ hy _ _ _ _ _ _ _ hp=> ?_))
   | refine YT (n:=_ ^ _) fT ?_ ?_
   | refine Xg ?_ (YS (by rfl) nd (by rfl) (by rfl) (.inr (by rfl)) (.inl (by rfl)))
   | refine Xg ?_ (YS (by rfl) nd (by rfl) (by rfl) (.inl (by rfl)) (.inr (by rfl))))
  | (show Snd _ _ (.Call ..) _;first
   | refine II (by rfl) (tx.z _ (by kernel_rfl)) ?_
   | refine Vm (n:="tuple") (uc _) (by rfl) (tx.z _ (by kernel_rfl)) (by rfl) (tx.z _ (by kernel_rfl)) PyProof.Rows.Boot.«tuple» ?_
   | refine HE hr.hd (by rfl) (tx.z _ (by kernel_rfl)) ?_
   | refine FK (by rfl) (by rfl) (tx.z _ (by kernel_rfl)) ?_ ?_
   | refine EN (by rfl) (tx.z _ (by kernel_rfl)) ?_
   | refine Iy hr.hd (by rfl) (tx.z _ (by kernel_rfl)) ?_
   | refine kT (by rfl) (tx.z _ (by kernel_rfl)) ?_
   | refine cT hT hy hp (by assumption) hr ?_
   | refine Vm (n:="int") (kU _) (by rfl) (tx.z _ (by kernel_rfl)) (by rfl) (tx.z _ (by kernel_rfl)) PyProof.Rows.Boot.«int» ?_
   | refine Io (by rfl) (tx.z _ (by kernel_rfl)) ?_
   | refine Kj hr.units ?_ ?_
   | refine LZ ?_
   | refine Ki hr.hd (by rfl) (tx.z _ (by kernel_rfl)) (by rfl) (tx.z _ (by kernel_rfl)) ?_ ?_
   | refine Vm (n:="bool") (Vk _) (by rfl) (tx.z _ (by kernel_rfl)) (by rfl) (tx.z _ (by kernel_rfl)) PyProof.Rows.Boot.«bool» ?_
   | refine Vm (n:="str") (kX _) (by rfl) (tx.z _ (by kernel_rfl)) (by rfl) (tx.z _ (by kernel_rfl)) PyProof.Rows.Boot.«str» ?_
   | refine ET hr.hd (by rfl) (tx.z _ (by kernel_rfl)) (by rfl) (tx.z _ (by kernel_rfl)) ?_
   | refine HV hr.hd (by rfl) (tx.z _ (by kernel_rfl)) (by rfl) (tx.z _ (by kernel_rfl)) ?_
   | refine EV hr.hd (by rfl) (tx.z _ (by kernel_rfl)) ?_
   | refine IP (by rfl) (by rfl) (tx.z _ (by kernel_rfl)) ?_ ?_
   | refine mK (kE:=21) L hT hy hr (tx.z _ (by kernel_rfl)) (by kernel_rfl) (by kernel_rfl) ?_ ?_ (λ_ _ _ _ _ _ _ _ _ _ KB hy hE hr=> ?_)
   | refine IL (n:="list") (m:="tuple") (Vl _) (uc _) (by rfl) (tx.z _ (by kernel_rfl)) (by rfl) (tx.z _ (by kernel_rfl)) PyProof.Rows.Boot.«list» (by rfl) (tx.z _ (by kernel_rfl)) PyProof.Rows.Boot.«tuple» ?_
   | refine HM (by rfl) (tx.z _ (by kernel_rfl)) ?_
   | refine Mf hr.hd (by rfl) (tx.z _ (by kernel_rfl)) ?_
   | refine cZ hy (by assumption) hr ?_
   | refine cZ hy (U_weight_within _ KB) hr ?_)
  | (show Snd _ _ (.Subscript ..) _;first
   | refine Cr ?_ ?_
   | refine K0 ?_ ?_ ?_)
  | (show ua _ _ _ _;first
   | refine wG GW (xV hr.units) ?_ ?_ (ZY _)
   | refine Ik ?_
   | refine wG LQ F7 ?_ ?_ (ZY _)
   | refine wG GX (xW hr.units) ?_ ?_ (ZY _)
   | refine wG Fv GZ ?_ ?_ (ZY _)
   | refine wG Wc jU ?_ ?_ (ZY _)
   | refine wG HH (kO hr.units) ?_ ?_ (by rfl)
   | refine wG Vg (xY hr.units) ?_ ?_ (by rfl)
   | refine wG F6 kP ?_ ?_ (ZY _)
   | refine kR Wc Wc jU jU ?_ ?_ ?_
   | refine wG GY xX ?_ ?_ (ZY _)
   | refine wG Vh xZ ?_ ?_ (ZY _)
   | refine Ho ?_
   | refine Y9.t ?_)
  | (show Snd _ _ (.BinOp ..) _;first
   | refine Lb ?_ ?_
   | refine EF ?_ ?_
   | refine EJ ?_ ?_
   | refine Lq ?_ ?_
   | refine Bi ?_ ?_
   | refine GV ?_ ?_
   | refine FH ?_ ?_)
  | (show uP _ _ _ _ _;first
   | refine Fy (by rfl) (tx.z _ (by kernel_rfl)) ?_
   | refine Ij (by rfl) (tx.z _ (by kernel_rfl)) ?_ ?_
   | refine Lj (by rfl) (tx.z _ (by kernel_rfl)) ?_ ?_
   | refine Ko (by rfl) (tx.z _ (by kernel_rfl)) ?_
   | refine Lw (by rfl) (tx.z _ (by kernel_rfl)) ?_
   | refine Fl (by rfl) (tx.z _ (by kernel_rfl)) ?_
   | exact Ic
   | refine LH ?_)
  | (show Snd _ _ (.BoolOp ..) _;first
   | refine Fw ?_ ?_
   | refine B5 ?_ ?_
   | refine LU ?_)
  | (show Wg _ _ _ _;first
   | exact Ft
   | refine FB ?_)
  | (show Snd _ _ (.Compare ..) _;first
   | refine yD GW (xV hr.units) ?_ ?_ (ZY _)
   | refine kQ Wc Wc jU jU ?_ ?_ ?_
   | refine yD Wc jU ?_ ?_ (ZY _)
   | refine yD Vg (xY hr.units) ?_ ?_ (by rfl)
   | refine Vi Wc Wc Wc jU jU jU ?_ ?_ ?_ ?_
   | refine yD GY xX ?_ ?_ (ZY _)
   | refine yD GX (xW hr.units) ?_ ?_ (ZY _)
   | refine yD Vh xZ ?_ ?_ (ZY _))
  | (show Snd _ _ (.List ..) _;first
   | refine IQ ?_)
  | (show Snd _ _ (.ListComp ..) _;first
   | refine X9 (Da hy (by kernel_rfl) (by kernel_rfl) (by rfl) ?_ (λ_ hy _ _ _ _ _ _=> ?_) (λ_ hy _ _ _ _ _ _ _ hp=> ?_))
   | refine X9 (Ed hy (by kernel_rfl) (by kernel_rfl) (by rfl) ?_ (λ_ hy _ _ _ _ _ _=> ?_) (λ_ hy _ _ _ _ _ _ _ hp=> ?_)))
  | (show Snd _ _ (.Tuple ..) _;first
   | refine ER ?_)
  | (show Y9 _ _ _ _;first
   | refine CI ?_ ?_
   | refine IN ?_ ?_
   | refine Hz ?_
   | refine L5 ?_)
  | (show rQ _ _ _ _;first
   | exact X7 nd (by rfl) (.inl (by rfl))
   | exact YS (by rfl) nd (by rfl) (by rfl) (.inl (by rfl)) (.inl (by rfl))
   | exact X7 nd (by rfl) (.inr (by rfl)))
  | (show kY _ _ _ _;first
   | refine F0 ?_
   | exact HW)
  | (show Snd _ _ (.UnaryOp ..) _;first
   | refine L4 ?_
   | refine Ix ?_)
  | (show Snd _ _ (.IfExp ..) _;first
   | refine B4 ?_ ?_ ?_)
  )
local macro_rules | `(tactic| kd_all)=> `(tactic| (intro cdv A outer s H E Y hy hE hr nd hp;repeat' gp_on))
theorem F2:qP Z "_law_cell" 2 1 (oP 2 rO):=by
 refine mJ tx.C_1o ["_law_script","_law_k"] λ_=> ?_
 kd_all
theorem Cv (_:qP Z "_law_cell" 2 1 c_1o):qP Z "_law_pick" 3 2 (oP 4 (Ec c_1o)):=by
 refine mJ tx.C_3 ["_law_script","_law_k","_law_many","_law_drawn"] λ_=> ?_
 kd_all
theorem HF (_:qP Z "_law_pick" 3 2 c_3):qP Z "_law_word_of" 2 3 (oP 3 (tO c_3)):=by
 refine mJ tx.C_15 ["_law_script","_law_at","_law_letters"] λ_=> ?_
 kd_all
theorem Fu (_:qP Z "_law_pick" 3 2 c_3)(_:qP Z "_law_word_of" 2 3 c_15):qP Z "_law_leaf_kind" 2 4 (oP 6 (tX c_3 c_15)):=by
 refine mJ tx.C_18 ["_law_script","_law_at","_law_low","_law_words","_law_k","_law_word"] λ_=> ?_
 kd_all
theorem Cg {j:Nat}(a:4<=j)(_:qP Z "_law_pick" 3 2 c_3)(_:qP Z "_law_leaf_kind" 2 4 c_18)(_:qP Z "_law_kind" 3 j c_l):qP Z "_law_kind" 3 (j+1) (oP 6 (tZ c_3 c_18 c_l)):=by
 refine mJ tx.C_l ["_law_script","_law_at","_law_deep","_law_way","_law_some","_law_low"] λ_=> ?_
 kd_all
theorem Dh:qP Z "_law_rows_of" 1 1 (oP 5 AM):=by
 refine mJ tx.C_m ["_law_lists","_law_made","_law_some","_law_longer","_law_ahead"] λ_=> ?_
 kd_all
theorem B9 {j:Nat}(a:1<=j)(_:qP Z "_law_all" 1 j c_8)(_:qP Z "_law_rows_of" 1 1 c_m):qP Z "_law_all" 1 (j+1) (oP 3 (nA c_8 c_m)):=by
 refine mJ tx.C_8 ["_law_kind_here","_law_made","_law_size_here"] λ_=> ?_
 kd_all
theorem Dm {j:Nat}(a:9<=j)(_:qP Z "_law_all" 1 9 c_8)(_:qP Z "_law_size" 1 j c_i):qP Z "_law_size" 1 (j+1) (oP 5 (nR c_8 c_i)):=by
 refine mJ tx.C_i ["_law_kind_here","_law_sizes","_law_made","_law_size_here","_law_inner"] λ_=> ?_
 kd_all
theorem Lu (_:qP Z "_law_kind" 3 12 c_l)(_:qP Z "_law_size" 1 17 c_i):qP Z "_law_small" 3 18 (oP 5 (tm c_l c_i)):=by
 refine mJ tx.C_1h ["_law_script","_law_at","_law_most","_law_kind_here","_law_k"] λ_=> ?_
 kd_all
theorem Cw {j:Nat}(a:2<=j)(_:qP Z "_law_pick" 3 2 c_3)(_:qP Z "_law_rule" 3 j c_p):qP Z "_law_rule" 3 (j+1) (oP 6 (tR c_3 c_p)):=by
 refine mJ tx.C_p ["_law_script","_law_at","_law_deep","_law_way","_law_one","_law_low"] λ_=> ?_
 kd_all
theorem Dz:qP Z "is_whole" 1 1 (oP 1 Ev):=by
 refine mJ tx.C_f ["thing"] λ_=> ?_
 kd_all
theorem LD (_:qP Z "is_whole" 1 1 c_f):qP Z "is_bound" 1 2 (oP 1 (Df c_f)):=by
 refine mJ tx.C_1j ["thing"] λ_=> ?_
 kd_all
theorem DK:qP Z "is_word" 1 1 (oP 1 D6):=by
 refine mJ tx.C_z ["thing"] λ_=> ?_
 kd_all
theorem BR {j:Nat}(a:2<=j)(_:qP Z "is_word" 1 1 c_z)(_:qP Z "is_rule_within" 2 j c_r)(_:qP Z "is_bound" 1 2 c_1j):qP Z "is_rule_within" 2 (j+1) (oP 2 (AA c_z c_r c_1j)):=by
 refine mJ tx.C_r ["thing","levels"] λ_=> ?_
 kd_all
theorem Dw (_:qP Z "is_rule_within" 2 10 c_r):qP Z "is_rule" 1 11 (oP 1 (Eh c_r)):=by
 refine mJ tx.C_d ["thing"] λ_=> ?_
 kd_all
theorem DI (_:qP Z "is_rule" 1 11 c_d):qP Z "need_rule" 1 12 (oP 1 (A2 c_d)):=by
 refine mJ tx.C_6 ["rule"] λ_=> ?_
 kd_all
theorem EI (_:qP Z "is_whole" 1 1 c_f):qP Z "is_span" 4 2 (oP 4 (rR c_f)):=by
 refine mJ tx.C_1r ["low","high","least","most"] λ_=> ?_
 kd_all
theorem Bw:qP Z "is_tuple_of" 3 1 (oP 3 Ek):=by
 refine mJ tx.C_h ["thing","least","most"] λ_=> ?_
 kd_all
theorem HA (_:qP Z "is_whole" 1 1 c_f)(_:qP Z "is_tuple_of" 3 1 c_h)(_:qP Z "is_word" 1 1 c_z):qP Z "is_choice" 1 2 (oP 1 (Aj c_f c_h c_z)):=by
 refine mJ tx.C_1c ["thing"] λ_=> ?_
 kd_all
theorem F1 (_:qP Z "is_tuple_of" 3 1 c_h)(_:qP Z "is_choice" 1 2 c_1c):qP Z "are_choices" 1 3 (oP 2 (tM c_h c_1c)):=by
 refine mJ tx.C_1a ["thing","words"] λ_=> ?_
 kd_all
theorem BG {j:Nat}(a:3<=j)(_:qP Z "is_span" 4 2 c_1r)(_:qP Z "is_kind_within" 2 j c_b)(_:qP Z "are_choices" 1 3 c_1a)(_:qP Z "are_kinds_within" 2 j c_1z):qP Z "is_kind_within" 2 (j+1) (oP 2 (tY c_1r c_b c_1a c_1z)):=by
 refine mJ tx.C_b ["thing","levels"] λ_=> ?_
 kd_all
theorem FJ {j:Nat}(a:3<=j)(_:qP Z "is_tuple_of" 3 1 c_h)(_:qP Z "is_kind_within" 2 j c_b):qP Z "are_kinds_within" 2 (j+1) (oP 2 (sY c_h c_b)):=by
 refine mJ tx.C_1z ["thing","levels"] λ_=> ?_
 kd_all
theorem C0 (_:qP Z "is_kind_within" 2 23 c_b):qP Z "is_kind" 1 24 (oP 1 (sZ c_b)):=by
 refine mJ tx.C_5 ["thing"] λ_=> ?_
 kd_all
theorem Lh (_:qP Z "is_kind" 1 24 c_5):qP Z "need_kind" 1 25 (oP 1 (AR c_5)):=by
 refine mJ tx.C_10 ["kind"] λ_=> ?_
 kd_all
theorem CB {j:Nat}(a:0<=j)(_:qP Z "count_of_parts" 1 j c_13)(_:qP Z "count_shorter" 2 j c_v):qP Z "count_of" 1 (j+1) (oP 1 (AL c_13 c_v)):=by
 refine mJ tx.C_2 ["kind"] λ_=> ?_
 kd_all
theorem Ly {j:Nat}(a:0<=j)(_:qP Z "count_of" 1 j c_2):qP Z "count_of_parts" 1 (j+1) (oP 3 (rF c_2)):=by
 refine mJ tx.C_13 ["kinds","count","kind"] λ_=> ?_
 kd_all
theorem Bt {j:Nat}(a:0<=j)(_:qP Z "count_of_parts" 1 j c_13):qP Z "count_shorter" 2 (j+1) (oP 2 (rD c_13)):=by
 refine mJ tx.C_v ["kind","length"] λ_=> ?_
 kd_all
theorem sy:qP Z "words_of_pick" 1 1 (oP 1 Av):=by
 refine mJ tx.C_c ["kind"] λ_=> ?_
 kd_all
theorem CL {j:Nat}(a:20<=j)(_:qP Z "words_of_pick" 1 1 c_c)(_:qP Z "many_at" 2 j c_1y)(_:qP Z "parts_at" 2 j c_16):qP Z "worth_at" 2 (j+1) (oP 2 (tj c_c c_1y c_16)):=by
 refine mJ tx.C_k ["kind","number"] λ_=> ?_
 kd_all
theorem HN {j:Nat}(a:20<=j)(_:qP Z "count_shorter" 2 20 c_v)(_:qP Z "parts_at" 2 j c_16):qP Z "many_at" 2 (j+1) (oP 3 (sI c_v c_16)):=by
 refine mJ tx.C_1y ["kind","number","length"] λ_=> ?_
 kd_all
theorem Le {j:Nat}(a:20<=j)(_:qP Z "count_of" 1 20 c_2)(_:qP Z "worth_at" 2 j c_k):qP Z "parts_at" 2 (j+1) (oP 6 (rh c_2 c_k)):=by
 refine mJ tx.C_16 ["kinds","number","parts","rest","kind","count"] λ_=> ?_
 kd_all
theorem DG (_:qP Z "need_kind" 1 25 c_10)(_:qP Z "count_of" 1 20 c_2)(_:qP Z "worth_at" 2 40 c_k):qP Z "all_worths" 1 41 (oP 2 (tJ c_10 c_2 c_k)):=by
 refine mJ tx.C_w ["kind","count"] λ_=> ?_
 kd_all
theorem CK {j:Nat}(a:0<=j)(_:qP Z "leaves_of" 1 j c_o):qP Z "leaves_of" 1 (j+1) (oP 3 (AD c_o)):=by
 refine mJ tx.C_o ["worth","leaves","part"] λ_=> ?_
 kd_all
theorem LJ (_:qP Z "is_whole" 1 1 c_f)(_:qP Z "leaves_of" 1 8 c_o):qP Z "numbers_in" 1 9 (oP 1 (Cq c_f c_o)):=by
 refine mJ tx.C_1i ["worth"] λ_=> ?_
 kd_all
theorem L9:qP Z "parts_of" 1 1 (oP 1 rN):=by
 refine mJ tx.C_1q ["worth"] λ_=> ?_
 kd_all
theorem HR:qP Z "are_rising" 1 1 (oP 1 Bq):=by
 refine mJ tx.C_1u ["numbers"] λ_=> ?_
 kd_all
theorem Lg:qP Z "are_unlike" 1 1 (oP 1 Ca):=by
 refine mJ tx.C_1v ["parts"] λ_=> ?_
 kd_all
theorem LF (_:qP Z "parts_of" 1 1 c_1q)(_:qP Z "leaves_of" 1 8 c_o)(_:qP Z "numbers_in" 1 9 c_1i)(_:qP Z "are_rising" 1 1 c_1u)(_:qP Z "are_unlike" 1 1 c_1v):qP Z "is_single_kept" 2 10 (oP 2 (tI c_1q c_o c_1i c_1u c_1v)):=by
 refine mJ tx.C_19 ["rule","worth"] λ_=> ?_
 kd_all
theorem Do {j:Nat}(a:10<=j)(_:qP Z "is_kept" 2 j c_4)(_:qP Z "is_single_kept" 2 10 c_19):qP Z "is_kept" 2 (j+1) (oP 2 (AJ c_4 c_19)):=by
 refine mJ tx.C_4 ["rule","worth"] λ_=> ?_
 kd_all
theorem sT:qP Z "nearest_to_nought" 1 1 (oP 1 Ad):=by
 refine mJ tx.C_s ["kind"] λ_=> ?_
 kd_all
theorem sv {j:Nat}(a:1<=j)(_:qP Z "words_of_pick" 1 1 c_c)(_:qP Z "nearest_to_nought" 1 1 c_s)(_:qP Z "weight_of_parts" 2 j c_12):qP Z "weight_within" 2 (j+1) (oP 2 (o8 c_c c_s c_12)):=by
 refine mJ tx.C_7 ["kind","worth"] λ_=> ?_
 kd_all
theorem DV {j:Nat}(a:1<=j)(_:qP Z "weight_within" 2 j c_7):qP Z "weight_of_parts" 2 (j+1) (oP 2 (tE c_7)):=by
 refine mJ tx.C_12 ["kinds","parts"] λ_=> ?_
 kd_all
theorem Hg (d:FT Z.K Z.mg "least_breaking" (mI 62) ["kind","rule"] Pt)(a:Z.base.BuiltinsAt Z.mg Pt)(_:qP Z "all_worths" 1 41 c_w)(_:qP Z "need_rule" 1 12 c_6)(_:qP Z "is_kept" 2 18 c_4)(U_weight_within:∀b,Z.K.In b->qP { Z with base:=b } "weight_within" 2 21 c_7):qT Z "least_breaking" 2 42 (oP 3 (AW c_w c_6 c_4 c_7)) Pt (og "least_breaking"):=by
 refine IF d a ["kind","rule","breaking"] λ_=> ?_;intro c A outer s H E Y L hT hy hE hr nd hp
 repeat' gp_on
theorem Cp (_:qP Z "need_rule" 1 12 c_6):qP Z "need_rules" 1 13 (oP 2 (A7 c_6)):=by
 refine mJ tx.C_x ["rules","rule"] λ_=> ?_
 kd_all
theorem Fb (_:qP Z "is_kept" 2 18 c_4):qP Z "way_of" 2 19 (oP 2 (CZ c_4)):=by
 refine mJ tx.C_20 ["rules","worth"] λ_=> ?_
 kd_all
theorem CQ {j:Nat}(a:0<=j)(_:qP Z "_law_leaves" 1 j c_q):qP Z "_law_leaves" 1 (j+1) (oP 3 (Ax c_q)):=by
 refine mJ tx.C_q ["_law_worth","_law_made","_law_part"] λ_=> ?_
 kd_all
theorem C1 {j:Nat}(a:8<=j)(_:qP Z "_law_leaves" 1 8 c_q)(_:qP Z "_law_keeps" 2 j c_a):qP Z "_law_keeps" 2 (j+1) (oP 7 (Ab c_q c_a)):=by
 refine mJ tx.C_a ["_law_rule_here","_law_worth","_law_numbers","_law_parts","_law_total","_law_number","_law_some"] λ_=> ?_
 kd_all
theorem Lv:qP Z "greatest_divisor" 2 1 (oP 3 Au):=by
 refine mJ tx.C_1f ["one","other","rest"] λ_=> ?_
 kd_all
theorem C4 (_:qP Z "greatest_divisor" 2 1 c_1f):qP Z "fraction" 2 2 (oP 3 (Bb c_1f)):=by
 refine mJ tx.C_u ["up","down","divisor"] λ_=> ?_
 kd_all
theorem EO (_:qP Z "fraction" 2 2 c_u):qP Z "plus" 2 3 (oP 2 (tU c_u)):=by
 refine mJ tx.C_1l ["one","other"] λ_=> ?_
 kd_all
theorem By (_:qP Z "plus" 2 3 c_1l):qP Z "together" 1 4 (oP 3 (AX c_1l)):=by
 refine mJ tx.C_n ["fractions","total","each"] λ_=> ?_
 kd_all
theorem FG (_:qP Z "fraction" 2 2 c_u):qP Z "share_of_word" 2 3 (oP 3 (C3 c_u)):=by
 refine mJ tx.C_1n ["kind","word","weights"] λ_=> ?_
 kd_all
 refine QQ.go (by assumption) λ_ _ _ _ C F=>Ky (i:=2) (j:=1) (by decide) hy F hr (by omega) (by rfl) C.m C.F.kp C.b nd (by rfl) (.inl (by rfl)) (by rfl) (tx.z _ (by kernel_rfl)) (by rfl) (tx.z _ (by kernel_rfl)) (pv 2) (pv 1) ?_ (pi' :=pv 2)
 repeat' gp_on
theorem Cs (_:qP Z "fraction" 2 2 c_u):qP Z "times" 2 3 (oP 2 (AN c_u)):=by
 refine mJ tx.C_y ["one","other"] λ_=> ?_
 kd_all
theorem DF {j:Nat}(a:20<=j)(_:qP Z "count_of" 1 20 c_2)(_:qP Z "times" 2 3 c_y)(_:qP Z "share_of_word" 2 3 c_1n)(_:qP Z "share_of_parts" 2 j c_1t):qP Z "share_within" 2 (j+1) (oP 3 (pp c_2 c_y c_1n c_1t)):=by
 refine mJ tx.C_j ["kind","worth","one_length"] λ_=> ?_
 kd_all
theorem E9 {j:Nat}(a:20<=j)(_:qP Z "times" 2 3 c_y)(_:qP Z "share_within" 2 j c_j):qP Z "share_of_parts" 2 (j+1) (oP 5 (tF c_y c_j)):=by
 refine mJ tx.C_1t ["kinds","parts","share","kind","part"] λ_=> ?_
 kd_all
theorem Hw (_:qP Z "together" 1 4 c_n)(_:qP Z "share_within" 2 40 c_j):qP Z "shares_together" 2 41 (oP 2 (Dj c_n c_j)):=by
 refine mJ tx.C_1m ["kind","worths"] λ_=> ?_
 kd_all
theorem IB (_:qP Z "shares_together" 2 41 c_1m)(_:qP Z "need_rules" 1 13 c_x)(_:QQ "worths_by_ways" mT 42 (rj c_worths_by_ways) Z ):qP Z "tally" 2 43 (oP 3 (AI c_1m c_x c_worths_by_ways)):=by
 refine mJ tx.C_11 ["kind","rules","ways"] λ_=> ?_
 kd_all
theorem Ds {j:Nat}(a:1<=j)(_:qP Z "is_whole" 1 1 c_f)(_:qP Z "is_tuple_of" 3 1 c_h)(_:qP Z "words_of_pick" 1 1 c_c)(_:qP Z "have_parts" 2 j c_1w):qP Z "has_worth" 2 (j+1) (oP 2 (oi c_f c_h c_c c_1w)):=by
 refine mJ tx.C_g ["kind","thing"] λ_=> ?_
 kd_all
theorem Hx {j:Nat}(a:1<=j)(_:qP Z "has_worth" 2 j c_g):qP Z "have_parts" 2 (j+1) (oP 2 (tQ c_g)):=by
 refine mJ tx.C_1w ["kinds","parts"] λ_=> ?_
 kd_all
theorem IH (_:qP Z "need_kind" 1 25 c_10)(_:qP Z "has_worth" 2 21 c_g):qP Z "is_worth" 2 26 (oP 2 (sX c_10 c_g)):=by
 refine mJ tx.C_1p ["kind","thing"] λ_=> ?_
 kd_all
theorem Cy (_:qP Z "is_worth" 2 26 c_1p):qP Z "need_worth" 2 27 (oP 2 (A4 c_1p)):=by
 refine mJ tx.C_t ["kind","worth"] λ_=> ?_
 kd_all
theorem Ce (_:qP Z "need_worth" 2 27 c_t)(_:qP Z "weight_within" 2 21 c_7):qP Z "weight" 2 28 (oP 2 (A8 c_t c_7)):=by
 refine mJ tx.C_1 ["kind","worth"] λ_=> ?_
 kd_all
theorem Hr (_:qP Z "nearest_to_nought" 1 1 c_s):qP Z "number_less" 2 2 (oP 3 (AB c_s)):=by
 refine mJ tx.C_1b ["kind","number","nearest"] λ_=> ?_
 kd_all
theorem Lc (_:qP Z "words_of_pick" 1 1 c_c):qP Z "word_less" 2 2 (oP 4 (At c_c)):=by
 refine mJ tx.C_1d ["kind","word","words","place"] λ_=> ?_
 kd_all
theorem BA:qP Z "shorter" 2 1 (oP 2 AS):=by
 refine mJ tx.C_9 ["kind","worth"] λ_=> ?_
 kd_all
theorem BU {j:Nat}(a:2<=j)(_:qP Z "number_less" 2 2 c_1b)(_:qP Z "word_less" 2 2 c_1d)(_:qP Z "shorter" 2 1 c_9)(_:qP Z "parts_less" 2 j c_1x):qP Z "one_step_less" 2 (j+1) (oP 2 (o7 c_1b c_1d c_9 c_1x)):=by
 refine mJ tx.C_e ["kind","worth"] λ_=> ?_
 kd_all
theorem EC {j:Nat}(a:2<=j)(_:qP Z "one_step_less" 2 j c_e):qP Z "parts_less" 2 (j+1) (oP 6 (tN c_e)):=by
 refine mJ tx.C_1x ["kinds","parts","told","place","part","less"] λ_=> ?_
 kd_all
theorem Iu (_:qP Z "is_kept" 2 18 c_4)(_:qP Z "one_step_less" 2 22 c_e):qP Z "breaking_less" 3 23 (oP 3 (Dc c_4 c_e)):=by
 refine mJ tx.C_14 ["kind","worth","rule"] λ_=> ?_
 kd_all
theorem LM (_:qP Z "need_worth" 2 27 c_t)(_:qP Z "need_rule" 1 12 c_6)(_:qP Z "is_kept" 2 18 c_4)(_:qP Z "breaking_less" 3 23 c_14):qP Z "led_down" 3 28 (oP 5 (Al c_t c_6 c_4 c_14)):=by
 refine mJ tx.C_1e ["kind","worth","rule","told","following"] λ_=> ?_
 kd_all
theorem La (_:qP Z "need_worth" 2 27 c_t)(_:qP Z "one_step_less" 2 22 c_e):qP Z "lesser" 2 28 (oP 2 (AY c_t c_e)):=by
 refine mJ tx.C_1k ["kind","worth"] λ_=> ?_
 kd_all
theorem Ls (_:qP Z "all_worths" 1 41 c_w)(_:qP Z "need_rule" 1 12 c_6)(_:qP Z "is_kept" 2 18 c_4):qP Z "keepers" 2 42 (oP 2 (Ah c_w c_6 c_4)):=by
 refine mJ tx.C_1s ["kind","rule"] λ_=> ?_
 kd_all
theorem L1 (_:qP Z "is_kept" 2 18 c_4)(_:qP Z "keepers" 2 42 c_1s)(_:qP Z "need_rules" 1 13 c_x):qP Z "implies" 3 43 (oP 3 (Ae c_4 c_1s c_x)):=by
 refine mJ tx.C_17 ["kind","one","other"] λ_=> ?_
 kd_all
theorem Dr {f:Addr}{a:FuncData}(C:Fn Z.K Z.mg "law" (mI 91) ["_law_script"] f a)(_:qP Z "_law_pick" 3 2 c_3)(_:qP Z "_law_small" 3 18 c_1h)(_:qP Z "_law_rule" 3 10 c_p)(_:qP Z "_law_keeps" 2 16 c_a)(_:qP Z "implies" 3 43 c_17)(_:qP Z "tally" 2 43 c_11)(_:qP Z "parted" 2 43 c_parted)(_:qP Z "weight" 2 28 c_1)(_:qP Z "lesser" 2 28 c_1k)(_:qP Z "led_down" 3 28 c_1e)(_:qT Z "least_breaking" 2 42 c_1g Pt (og "least_breaking")):wD Z.P Z.w Z.K Z.mg Z.base (nc Z.P Z.w) 44 f a ["_law_script"] (qN Z.cl 1 (oP 13 (tH c_3 c_1h c_p c_a c_17 c_11 c_parted c_1 c_1k c_1e c_1g)) Pt (og "least_breaking")):=by
 refine Co C ["_law_script","_law_kind_here","_law_one","_law_other","_law_least","_law_some","_law_worths","_law_lightest","_law_k","_law_worth","_law_way","_law_heavy","_law_later"] ?_;intro cdv A outer s H E Y hT hy hE hr nd hp
 repeat' gp_on
end
section
variable {Z:Zz}{Pt:Addr}(tx:Tx Z.K Z.mg)
include tx
theorem Jm:qP Z "weight_within" 2 21 (oG 20):=by
 have c:qP Z "words_of_pick" 1 1 nK:=sy tx;have d:qP Z "nearest_to_nought" 1 1 oK:=sT tx;have a:∀n:Nat,qP Z "weight_within" 2 (1+n) (nV n 0)/\qP Z "weight_of_parts" 2 (1+n) (nV n 1):=by
  intro n
  induction n with
  | zero=>exact⟨nh tx.C_7,nh tx.C_12⟩
  | succ n f=>exact⟨sv tx (aE _ _) c d f.2,DV tx (aE _ _) f.1⟩
 have e:qP Z "weight_within" 2 21 (oG 20):=(a 20).1;have g:qP Z "weight_of_parts" 2 21 (sM 20):=(a 20).2;exact e
theorem HK (tp:FT Z.K Z.mg "least_breaking" (mI 62) ["kind","rule"] Pt)(hBT:Z.base.BuiltinsAt Z.mg Pt){f:Addr}{fd:FuncData}(C:Fn Z.K Z.mg "law" (mI 91) ["_law_script"] f fd):wD Z.P Z.w Z.K Z.mg Z.base (nc Z.P Z.w) 44 f fd ["_law_script"] (qN Z.cl 1 oB Pt (og "least_breaking")):=by
 have U_weight_within:∀b,Z.K.In b->qP { Z with base:=b } "weight_within" 2 21 (oG 20):=λb hb=>Jm (Z:={ Z with base:=b }) tx;have O_1o:qP Z "_law_cell" 2 1 rS:=F2 tx;have g:qP Z "_law_pick" 3 2 np:=Cv tx O_1o;have F:qP Z "_law_word_of" 2 3 Gc:=HF tx g;have I:qP Z "_law_leaf_kind" 2 4 rm:=Fu tx g F;have R_l:∀n:Nat,qP Z "_law_kind" 3 (4+n) (ox n 0):=by
  intro n
  induction n with
  | zero=>exact nh tx.C_l
  | succ n c=>exact Cg tx (aE _ _) g I c
 have O_l:qP Z "_law_kind" 3 12 (oE 8):=(R_l 8);have O_m:qP Z "_law_rows_of" 1 1 nk:=Dh tx;have R_8:∀n:Nat,qP Z "_law_all" 1 (1+n) (pP n 0):=by
  intro n
  induction n with
  | zero=>exact nh tx.C_8
  | succ n c=>exact B9 tx (aE _ _) c O_m
 have O_8:qP Z "_law_all" 1 9 (oo 8):=(R_8 8);have R_i:∀n:Nat,qP Z "_law_size" 1 (9+n) (Ai n 0):=by
  intro n
  induction n with
  | zero=>exact nh tx.C_i
  | succ n c=>exact Dm tx (aE _ _) O_8 c
 have O_i:qP Z "_law_size" 1 17 (sP 8):=(R_i 8);have O_1h:qP Z "_law_small" 3 18 AF:=Lu tx O_l O_i;have R_p:∀n:Nat,qP Z "_law_rule" 3 (2+n) (oN n 0):=by
  intro n
  induction n with
  | zero=>exact nh tx.C_p
  | succ n c=>exact Cw tx (aE _ _) g c
 have O_p:qP Z "_law_rule" 3 10 (Es 8):=(R_p 8);have i:qP Z "is_whole" 1 1 nU:=Dz tx;have O_1j:qP Z "is_bound" 1 2 Aw:=LD tx i;have O_z:qP Z "is_word" 1 1 ph:=DK tx;have R_r:∀n:Nat,qP Z "is_rule_within" 2 (2+n) (sW n 0):=by
  intro n
  induction n with
  | zero=>exact nh tx.C_r
  | succ n c=>exact BR tx (aE _ _) O_z c O_1j
 have O_r:qP Z "is_rule_within" 2 10 (DP 8):=(R_r 8);have O_d:qP Z "is_rule" 1 11 Bs:=Dw tx O_r;have j:qP Z "need_rule" 1 12 oU:=DI tx O_d;have O_1r:qP Z "is_span" 4 2 Ak:=EI tx i;have l:qP Z "is_tuple_of" 3 1 nO:=Bw tx;have O_1c:qP Z "is_choice" 1 2 pW:=HA tx i l O_z;have G:qP Z "are_choices" 1 3 rn:=F1 tx l O_1c;have Q:∀n:Nat,qP Z "is_kind_within" 2 (3+n) (nG n 0)/\qP Z "are_kinds_within" 2 (3+n) (nG n 1):=by
  intro n
  induction n with
  | zero=>exact⟨nh tx.C_b,nh tx.C_1z⟩
  | succ n c=>exact⟨BG tx (aE _ _) O_1r c.1 G c.2,FJ tx (aE _ _) l c.1⟩
 have O_b:qP Z "is_kind_within" 2 23 (B8 20):=(Q 20).1;have O_1z:qP Z "are_kinds_within" 2 23 (Bj 20):=(Q 20).2;have O_5:qP Z "is_kind" 1 24 Ag:=C0 tx O_b;have o:qP Z "need_kind" 1 25 A5:=Lh tx O_5;have p:∀n:Nat,qP Z "count_of" 1 (0+n) (nS n 0)/\qP Z "count_of_parts" 1 (0+n) (nS n 1)/\qP Z "count_shorter" 2 (0+n) (nS n 2):=by
  intro n
  induction n with
  | zero=>exact⟨nh tx.C_2,nh tx.C_13,nh tx.C_v⟩
  | succ n c=>exact⟨CB tx (aE _ _) c.2.1 c.2.2,Ly tx (aE _ _) c.1,Bt tx (aE _ _) c.2.1⟩
 have y:qP Z "count_of" 1 20 (pA 20):=(p 20).1;have O_13:qP Z "count_of_parts" 1 20 (B6 20):=(p 20).2.1;have O_v:qP Z "count_shorter" 2 20 (pQ 20):=(p 20).2.2;have k:qP Z "words_of_pick" 1 1 nK:=sy tx;have r:∀n:Nat,qP Z "worth_at" 2 (20+n) (nY n 0)/\qP Z "many_at" 2 (20+n) (nY n 1)/\qP Z "parts_at" 2 (20+n) (nY n 2):=by
  intro n
  induction n with
  | zero=>exact⟨nh tx.C_k,nh tx.C_1y,nh tx.C_16⟩
  | succ n c=>exact⟨CL tx (aE _ _) k c.2.1 c.2.2,HN tx (aE _ _) O_v c.2.2,Le tx (aE _ _) y c.1⟩
 have O_k:qP Z "worth_at" 2 40 (sE 20):=(r 20).1;have O_1y:qP Z "many_at" 2 40 (BJ 20):=(r 20).2.1;have O_16:qP Z "parts_at" 2 40 (CC 20):=(r 20).2.2;have q:qP Z "all_worths" 1 41 pE:=DG tx o y O_k;have R_o:∀n:Nat,qP Z "leaves_of" 1 (0+n) (sQ n 0):=by
  intro n
  induction n with
  | zero=>exact nh tx.C_o
  | succ n c=>exact CK tx (aE _ _) c
 have J:qP Z "leaves_of" 1 8 (pL 8):=(R_o 8);have O_1i:qP Z "numbers_in" 1 9 AV:=LJ tx i J;have O_1q:qP Z "parts_of" 1 1 AZ:=L9 tx;have O_1u:qP Z "are_rising" 1 1 Bm:=HR tx;have D:qP Z "are_unlike" 1 1 Du:=Lg tx;have U:qP Z "is_single_kept" 2 10 ro:=LF tx O_1q J O_1i O_1u D;have R_4:∀n:Nat,qP Z "is_kept" 2 (10+n) (ou n 0):=by
  intro n
  induction n with
  | zero=>exact nh tx.C_4
  | succ n c=>exact Do tx (aE _ _) c U
 have e:qP Z "is_kept" 2 18 (n9 8):=(R_4 8);have B:qP Z "nearest_to_nought" 1 1 oK:=sT tx;have R_7:∀n:Nat,qP Z "weight_within" 2 (1+n) (nV n 0)/\qP Z "weight_of_parts" 2 (1+n) (nV n 1):=by
  intro n
  induction n with
  | zero=>exact⟨nh tx.C_7,nh tx.C_12⟩
  | succ n c=>exact⟨sv tx (aE _ _) k B c.2,DV tx (aE _ _) c.1⟩
 have O_7:qP Z "weight_within" 2 21 (oG 20):=(R_7 20).1;have O_12:qP Z "weight_of_parts" 2 21 (sM 20):=(R_7 20).2;have O_1g:qT Z "least_breaking" 2 42 Dl Pt (og "least_breaking"):=Hg tx tp hBT q j e U_weight_within;have x:qP Z "need_rules" 1 13 pr:=Cp tx j;have O_20:qP Z "way_of" 2 19 AC:=Fb tx e;have a:QQ "worths_by_ways" mT 42 (rj zP) Z:=Cm tx.C_worths_by_ways q O_20 (by refine⟨rfl,rfl,rfl, ?_,rfl, ?_, ?_⟩ <;> decide+kernel) rfl rfl rfl rfl rfl rfl rfl (by rfl) (by rfl)
 have d:qP Z "parted" 2 43 J6:=LC (DB tx.C_parted x a (tx.z _ (by kernel_rfl)) (by refine⟨rfl,rfl,rfl, ?_,rfl, ?_, ?_⟩ <;> decide+kernel) rfl rfl rfl rfl rfl rfl (by rfl))
 have R_q:∀n:Nat,qP Z "_law_leaves" 1 (0+n) (rH n 0):=by
  intro n
  induction n with
  | zero=>exact nh tx.C_q
  | succ n c=>exact CQ tx (aE _ _) c
 have O_q:qP Z "_law_leaves" 1 8 (sj 8):=(R_q 8);have R_a:∀n:Nat,qP Z "_law_keeps" 2 (8+n) (nC n 0):=by
  intro n
  induction n with
  | zero=>exact nh tx.C_a
  | succ n c=>exact C1 tx (aE _ _) O_q c
 have O_a:qP Z "_law_keeps" 2 16 (pK 8):=(R_a 8);have X:qP Z "greatest_divisor" 2 1 AU:=Lv tx;have u:qP Z "fraction" 2 2 pT:=C4 tx X;have O_1l:qP Z "plus" 2 3 Ba:=EO tx u;have O_n:qP Z "together" 1 4 BW:=By tx O_1l;have O_1n:qP Z "share_of_word" 2 3 A3:=FG tx u;have O_y:qP Z "times" 2 3 py:=Cs tx u;have N:∀n:Nat,qP Z "share_within" 2 (20+n) (n5 n 0)/\qP Z "share_of_parts" 2 (20+n) (n5 n 1):=by
  intro n
  induction n with
  | zero=>exact⟨nh tx.C_j,nh tx.C_1t⟩
  | succ n c=>exact⟨DF tx (aE _ _) y O_y O_1n c.2,E9 tx (aE _ _) O_y c.1⟩
 have O_j:qP Z "share_within" 2 40 (A9 20):=(N 20).1;have O_1t:qP Z "share_of_parts" 2 40 (DA 20):=(N 20).2;have S:qP Z "shares_together" 2 41 A6:=Hw tx O_n O_j;have M:qP Z "tally" 2 43 rY:=IB tx S x a;have R_g:∀n:Nat,qP Z "has_worth" 2 (1+n) (n8 n 0)/\qP Z "have_parts" 2 (1+n) (n8 n 1):=by
  intro n
  induction n with
  | zero=>exact⟨nh tx.C_g,nh tx.C_1w⟩
  | succ n c=>exact⟨Ds tx (aE _ _) i l k c.2,Hx tx (aE _ _) c.1⟩
 have O_g:qP Z "has_worth" 2 21 (D8 20):=(R_g 20).1;have O_1w:qP Z "have_parts" 2 21 (Cj 20):=(R_g 20).2;have O_1p:qP Z "is_worth" 2 26 CH:=IH tx o O_g;have v:qP Z "need_worth" 2 27 pX:=Cy tx O_1p;have O_1:qP Z "weight" 2 28 oH:=Ce tx v O_7;have O_1b:qP Z "number_less" 2 2 rM:=Hr tx B;have O_1d:qP Z "word_less" 2 2 su:=Lc tx k;have O_9:qP Z "shorter" 2 1 sK:=BA tx;have R_e:∀n:Nat,qP Z "one_step_less" 2 (2+n) (n6 n 0)/\qP Z "parts_less" 2 (2+n) (n6 n 1):=by
  intro n
  induction n with
  | zero=>exact⟨nh tx.C_e,nh tx.C_1x⟩
  | succ n c=>exact⟨BU tx (aE _ _) O_1b O_1d O_9 c.2,EC tx (aE _ _) c.1⟩
 have O_e:qP Z "one_step_less" 2 22 (tK 20):=(R_e 20).1;have O_1x:qP Z "parts_less" 2 22 (BC 20):=(R_e 20).2;have O_14:qP Z "breaking_less" 3 23 Ge:=Iu tx e O_e;have O:qP Z "led_down" 3 28 sS:=LM tx v j e O_14;have O_1k:qP Z "lesser" 2 28 tT:=La tx v O_e;have O_1s:qP Z "keepers" 2 42 Br:=Ls tx q j e;have O_17:qP Z "implies" 3 43 Gf:=L1 tx e O_1s x;exact Dr tx C g O_1h O_p O_a O_17 M d O_1 O_1k O O_1g
end
theorem lz {c:List Value}{n:Nat}(h:c.length=n+1):∃a t,c=a :: t/\t.length=n:=by
 cases c with
 | nil=>cases h
 | cons a t=>exact⟨a,t,rfl,Nat.succ.inj h⟩
theorem lz1 {d:FuncData}{e:Str}(c:List Value)(f:c.length=1)(h:∀a,bindArgs d ⟨[a],[]⟩=pure ([e].zip [a])):bindArgs d ⟨c,[]⟩=pure ([e].zip c):=by
 obtain⟨a,_,rfl,g⟩:=lz f;obtain rfl:=bK.mp g;exact h a
theorem lz2 {f:FuncData}{g e:Str}(d:List Value)(i:d.length=2)(h:∀c a,bindArgs f ⟨[c,a],[]⟩=pure ([g,e].zip [c,a])):bindArgs f ⟨d,[]⟩=pure ([g,e].zip d):=by
 obtain⟨c,_,rfl,k⟩:=lz i;obtain⟨a,_,rfl,j⟩:=lz k;obtain rfl:=bK.mp j;exact h c a
theorem lz3 {g:FuncData}{j f i:Str}(e:List Value)(k:e.length=3)(h:∀c a d,bindArgs g ⟨[c,a,d],[]⟩=pure ([j,f,i].zip [c,a,d])):bindArgs g ⟨e,[]⟩=pure ([j,f,i].zip e):=by
 obtain⟨c,_,rfl,p⟩:=lz k;obtain⟨a,_,rfl,l⟩:=lz p;obtain⟨d,_,rfl,o⟩:=lz l;obtain rfl:=bK.mp o;exact h c a d
theorem lz4 {g:FuncData}{l j k i:Str}(f:List Value)(o:f.length=4)(h:∀c a d e,bindArgs g ⟨[c,a,d,e],[]⟩=pure ([l,j,k,i].zip [c,a,d,e])):bindArgs g ⟨f,[]⟩=pure ([l,j,k,i].zip f):=by
 obtain⟨c,_,rfl,u⟩:=lz o;obtain⟨a,_,rfl,p⟩:=lz u;obtain⟨d,_,rfl,q⟩:=lz p;obtain⟨e,_,rfl,r⟩:=lz q;obtain rfl:=bK.mp r;exact h c a d e
theorem fn1 {K:ai}{h:Heap}{i:Str->Option Value}{f:Addr}{r a:Option Addr}{o:Array (Option Value)}{p kV c d cd ct:Value}{x:Str}{st:Stmt}{j:List Str}(X:K.In h)(G:h.Ns mainGlobals i)(e:PySem.W.nsIn K mainGlobals x=some (some (.ref f)))(l:K.lookup f=some ⟨p,r,.func (cx x x (jc st) (Z1 st) (zf st) .none kV c d a cd ct),o⟩)(g:h9 K cd x=true)(k:d0 K (.ref f)=true)
  (q:∀F:Fun K x x st f (cx x x (jc st) (Z1 st) (zf st) .none kV c d a cd ct),L2.Binds K (cx x x (jc st) (Z1 st) (zf st) .none kV c d a cd ct) j []):Fn K i x st j f (cx x x (jc st) (Z1 st) (zf st) .none kV c d a cd ct):=
 have F:=GP (st:=st) l g k
 ⟨F,q F,PySem.W.mg_of X G e⟩
theorem zs_of {K:ai}{h:Heap}{a:Str->Option Value}{c:List Str}(X:K.In h)(G:h.Ns mainGlobals a)(hz:(c.all λx=>PySem.W.nsIn K mainGlobals x == some none)=true):∀x,c.contains x=true->a x=none:=λx d=>PySem.W.mg_none_of X G (beq_iff_eq.mp (aJ.mp hz x (List.contains_iff_mem.mp d)))
noncomputable abbrev Tx' {K:ai}{h:Heap}(_:K.In h)(mg:Str->Option Value):Prop:=Tx K mg
def vW (K:ai):Bool:=K.all λp=> !(p.2.cls == Value.type "list")
theorem G4 {K:ai}(h:vW K=true){a:Addr}{o:Obj}(e:K.lookup a=some o)(c:o.cls=Value.type "list"):False:=by
 have i:(a,o)∈K:=by
  clear h
  induction K with
  | nil=>cases e
  | cons p r g=>
   obtain⟨b,u⟩:=p
   by_cases f:a=b
   ·subst f;have d :some u=some o:=by simpa[aQ] using e
    cases d;exact aa
   ·have d :r.lookup a=some o:=by rw[aQ,(beq_eq_false_iff_ne.mpr f)]at e;exact e
    exact a9 _ (g d)
 have:=aJ.mp h _ i;rw[c]at this;simp at this
noncomputable def Bn (o:Obj):Option Addr:=match o.data with
 | .fields vs=>(match (vs[11]? :Option Value) with | some (.ref P)=>some P | _=>none)
 | _=>none
structure HY (K:ai) (c P:Addr) (o:Obj):Prop where
 t:K.lookup c=some o
 u:Bn o=some P
 h:fF K c P=true
 n:K.lookup P=none
abbrev TP {K:ai}{h:Heap}(_:K.In h)(mg:Str->Option Value):Prop:=∃f fd c Pt o,Fn K mg "least_breaking" (mI 62) ["kind","rule"] f fd/\fd.code= .ref c/\HY K c Pt o/\h.get? Pt=some (f8 #[])
theorem fin_ {l:PySem.W.OpenLaw}{w:World}{K:ai}{h:Heap}{d:Str->Option Value}{p:Addr}(X:K.In h)(G:h.Ns mainGlobals d)(k:d "law"=some (.ref p))(tx:Tx K d)(y:TP X d):∃(g:FuncData) (c a:Addr),(∀(s:Shared) (v:Value),BindsTo s g ⟨[v],[]⟩ [("_law_script",v)])/\h.get? a=some (f8 #[])/\K.lookup a=none/\fF K c a=true/\∀base:Heap,K.In base->base.BuiltinsAt d a->wD l.prog w K d base (nc l.prog w) 44 p g ["_law_script"] (qN (λ_=> .none) 1 oB a (og "least_breaking")):=by
 obtain⟨f,g,C⟩:=tx.C_0;have e:=k.symm.trans C.m;cases e;obtain⟨J,O,kV,u,M,N,cdv,ct,I,rfl,lk,D⟩:=C.F.ex;obtain⟨B,i,c,a,o,q,x,tk,r⟩:=y;exact⟨_,c,a,λs v=> .of_eq rfl,r,tk.n,tk.h,λbase KB j=>HK (Z:=⟨l.prog,w,K,d,base,(λ_=> .none)⟩) tx ⟨B,i,c,q,x,tk.h⟩ j C⟩
theorem EL {cl:Nat->Value}{H:Hp}{a e:Addr}{o:Obj}{q:Str}{c:List Int}(i:oB [.fz (c.map T.int)]= .ok (.bl true))(h:H a=some (.frz o (.lst (c.map V.int))))(f:H e=some (.tbl #[] q)):qN cl 1 oB e q [.ref a] H (λv _=>v= .bl true) λ_ _ _=>False:=by
 have d:∀c:List Int,zy H (c.map V.int) (c.map T.int):=λc=>by
  induction c with
  | nil=>exact .nil
  | cons n r g=>exact .cons (.int n) g
 refine⟨f,H,[.fz (c.map T.int)],rfl,zo.refl H,.cons (.fz h (d c)) .nil, ?_⟩;rw[i];intro v j _ r;cases r;rfl
theorem walk {l:PySem.W.OpenLaw}{q:Program}{i:List Str}{XP:(Str->Option Value)->Heap->Prop}{C:World->Heap->Prop}{d:DefRec}{K:Params->ai}{ts:List Addr}(hn:l.most=some 63)(v:d.params.defaults=[])
  (I:∀j:List Int,j.length<=63->oB [.fz (j.map T.int)]= .ok (.bl true)) (N:∀p,vW (K p)=true)
  (G:∀(w:World) (h:Heap),C w h->(K w.params).In h/\∀P∈ts,h.get? P=some (f8 #[]))
  (F:∀(w:World) (r:Str->Option Value) (B:Addr) (h:Heap),(K w.params).In h->h.Ns mainGlobals r->r d.name=some (.ref B)->(∀P∈ts,h.get? P=some (f8 #[]))->
   ∃(y:FuncData) (c g:Addr),(∀(s:Shared) (u:Value),BindsTo s y ⟨[u],[]⟩ [("_law_script",u)])/\h.get? g=some (f8 #[])/\(K w.params).lookup g=none/\fF (K w.params) c g=true/\∀base:Heap,(K w.params).In base->base.BuiltinsAt r g->wD l.prog w (K w.params) r base (nc l.prog w) 44 B y ["_law_script"] (qN (λ_=> .none) 1 oB g (og "least_breaking"))):
  PySem.W.WalkO q i XP C l.row.toRowW d [] (λf vs=>mr f vs):=
 L2.walk_ofT (n:=63) (k:=44) (x:="_law_script") (nm:=(og "least_breaking")) (CX:=λw=>(nc l.prog w)) (sp:=λw g=>qN (λ_=> .none) 1 oB g (og "least_breaking")) hn (by decide) v ⟨rfl,by decide,by decide,rfl⟩ G (λw a o e c=>G4 (N w.params) e c) F (λw H a g o j D M J=>EL (I j D) M J) λ_ _ _ _ _ ⟨_,_,_,_,_,_,_,z⟩=>z
end G
namespace PySem.W.Fast
noncomputable def tw6970750725548343675:=0
noncomputable def tw10206847381149678011:=0
noncomputable def tw5597380060343546072:=0
noncomputable def tw5224712439095934265:=0
noncomputable def tw776031242379868571:=0
noncomputable def tw15417455171492772630:=0
noncomputable def tw5648165833424906084:=0
noncomputable def tw9176046932421380045:=0
noncomputable def tw11468161876939469022:=0
noncomputable def tw12662484841124853906:=0
noncomputable def tw1192320641891740642:=0
noncomputable def tw15388375126671652065:=0
noncomputable def tw6943523274935034381:=0
noncomputable def tw11366444077929603277:=0
noncomputable def tw18306740812126784430:=0
noncomputable def tw929730712413503088:=0
noncomputable def tw6796291643178047310:=0
noncomputable def tw18034317756985332498:=0
noncomputable def tw10868061250066285606:=0
noncomputable def tw10699458975562852511:=0
noncomputable def tw9445833177946964792:=0
noncomputable def tw11031891510473965101:=0
noncomputable def tw7181007753153449502:=0
noncomputable def tw7915300910806009648:=0
noncomputable def tw15016377046931059417:=0
noncomputable def tw231890199748236240:=0
noncomputable def tw1728420057431668451:=0
noncomputable def tw5897324003649536046:=0
noncomputable def tw12285285194301703917:=0
noncomputable def tw14501741048544141541:=0
noncomputable def tw3120627994461634934:=0
noncomputable def tw5296312573540666503:=0
noncomputable def tw17522037397103529871:=0
noncomputable def tw9439728422282216369:=0
noncomputable def tw6417905917928769816:=0
noncomputable def tw2339574672853420743:=0
noncomputable def tw15620746577513953698:=0
noncomputable def tw8104119414696804296:=0
noncomputable def tw4676247605515381262:=0
noncomputable def tw8456665149634954336:=0
noncomputable def tw16638475199512078848:=0
noncomputable def tw13888999759493922473:=0
noncomputable def tw5010554962555809633:=0
noncomputable def tw10882799790840797790:=0
noncomputable def tw3527365356570659665:=0
noncomputable def tw6325253533449232836:=0
noncomputable def tw1368841009224565330:=0
noncomputable def tw7959793365112183849:=0
noncomputable def tw1408423736608848422:=0
noncomputable def tw11612575395341568579:=0
noncomputable def tw778967085719880485:=0
noncomputable def tw8716424133148210473:=0
noncomputable def tw3290072482083039396:=0
noncomputable def tw7048111747937964217:=0
noncomputable def tw11631709812145806487:=0
noncomputable def tw18099405031621892932:=0
noncomputable def tw18166644055926840464:=0
noncomputable def tw10107169513384833113:=0
noncomputable def tw2539213747655367156:=0
noncomputable def tw3035014280835986086:=0
noncomputable def tw14126067813957346822:=0
noncomputable def tw1847796592056875931:=0
noncomputable def tw15140761042916426116:=0
noncomputable def tw3938477802620432658:=0
noncomputable def tw11818120442123677328:=0
noncomputable def tw14409532339550025180:=0
noncomputable def tw12279253197236889213:=0
noncomputable def tw9100914541733388209:=0
noncomputable def tw4571613966109897382:=0
noncomputable def tw3093345700334702692:=0
noncomputable def tw11052780274510285569:=0
noncomputable def tw7893144994601657493:=0
noncomputable def tw17798112810189542200:=0
noncomputable def tw7331830131406960406:=0
noncomputable def tw10251556470008437217:=0
noncomputable def tw9407268159355403721:=0
noncomputable def tw14209072297788843616:=0
noncomputable def tw11436459705461899673:=0
noncomputable def tw11493489357251757276:=0
noncomputable def tw8442226240589286504:=0
noncomputable def tw1825735978640587457:=0
noncomputable def tw8303636243201812814:=0
noncomputable def tw2646809219266910686:=0
noncomputable def tw9857975767272118233:=0
noncomputable def tw15548039982004678166:=0
noncomputable def tw9078431181506902276:=0
noncomputable def tw5956235568161478628:=0
noncomputable def tw4990622157467650009:=0
noncomputable def tw8187416990614243837:=0
noncomputable def tw15020660655000852400:=0
noncomputable def tw4348855110991621451:=0
noncomputable def tw303817743097531361:=0
noncomputable def tw8276523616241404447:=0
noncomputable def tw16966044799106028804:=0
noncomputable def tw10703011545413092631:=0
noncomputable def tw1002591808537349334:=0
noncomputable def tw6142017784703936815:=0
noncomputable def tw689081762211536638:=0
noncomputable def tw7858262253452777607:=0
noncomputable def tw2649215045345425841:=0
noncomputable def tw1183587346355997038:=0
noncomputable def tw15142833025019116822:=0
noncomputable def tw13400892641869801678:=0
noncomputable def tw10177110949219444779:=0
noncomputable def tw15727916225809980720:=0
noncomputable def tw9882862403270471597:=0
noncomputable def tw7304709703665558277:=0
noncomputable def tw571843307572614273:=0
noncomputable def tw11849645302067296374:=0
noncomputable def tw3455079278241128788:=0
noncomputable def tw3232797755678534199:=0
noncomputable def tw18275045277640117039:=0
noncomputable def tw9577421921056492385:=0
noncomputable def tw7686511556362030502:=0
noncomputable def tw14420223107271644647:=0
noncomputable def tw13624412396957353689:=0
noncomputable def tw4102264145899162569:=0
noncomputable def tw7267853792159916074:=0
noncomputable def tw13730747998130187448:=0
noncomputable def tw6440949696085650301:=0
noncomputable def tw10217778985939393088:=0
noncomputable def tw2664284803956092942:=0
noncomputable def tw14251809489911137869:=0
noncomputable def tw3486963826353894319:=0
noncomputable def tw2148298593503796826:=0
noncomputable def tw8607235127718775730:=0
noncomputable def tw15015662609479749158:=0
noncomputable def tw16899256488943226637:=0
noncomputable def tw177921613964717244:=0
noncomputable def tw12640474632354541623:=0
noncomputable def tw14989056083441261938:=0
noncomputable def tw7868721087556677056:=0
noncomputable def tw12125240192363125714:=0
noncomputable def tw15204982103869579808:=0
noncomputable def tw6984288277911119168:=0
noncomputable def tw14399063000165410884:=0
noncomputable def tw17340426250882828777:=0
noncomputable def tw8853832559332560427:=0
noncomputable def tw11844618589794704680:=0
noncomputable def tw16286871254584252409:=0
noncomputable def tw8630027534336193571:=0
noncomputable def tw8181252193142241046:=0
noncomputable def tw8671231024733157585:=0
noncomputable def tw3340090246447061038:=0
noncomputable def tw4641382520125678880:=0
noncomputable def tw11627073220500100662:=0
noncomputable def tw1786887722883101588:=0
noncomputable def tw4128314530925821958:=0
noncomputable def tw8221163959232728912:=0
noncomputable def tw16326315977592204907:=0
noncomputable def tw14035953590959012355:=0
noncomputable def tw16846790838360775459:=0
noncomputable def tw4596168233659650312:=0
noncomputable def tw7857772364738253181:=0
noncomputable def tw2355575798717084791:=0
noncomputable def tw3080058235960195790:=0
noncomputable def tw4596389030320278344:=0
noncomputable def tw16322299808352333700:=0
noncomputable def tw1891661835144322338:=0
noncomputable def tw2832676465037545867:=0
noncomputable def tw563514272387848046:=0
noncomputable def tw12301172724134500192:=0
noncomputable def tw74469590540716865:=0
noncomputable def tw15221444906281600230:=0
noncomputable def tw17175880321675310204:=0
noncomputable def tw16198875626185460395:=0
noncomputable def tw14112496953839433575:=0
noncomputable def tw8267111584936284883:=0
noncomputable def tw16576062510215427218:=0
noncomputable def tw3683066556219633368:=0
noncomputable def tw2745688632977711235:=0
noncomputable def tw14345130976068540435:=0
noncomputable def tw17164033651339900016:=0
noncomputable def tw10521055026891352650:=0
noncomputable def tw5895937013685486165:=0
noncomputable def tw2961140403902287494:=0
noncomputable def tw6770210970288208063:=0
noncomputable def tw12043775717501159098:=0
noncomputable def tw3134597375212106068:=0
noncomputable def tw11884217199583940122:=0
noncomputable def tw9726914839005166525:=0
noncomputable def tw2185399563930566557:=0
noncomputable def tw9460365021138494778:=0
noncomputable def tw1247050621020231878:=0
noncomputable def tw617443378180354594:=0
noncomputable def tw15007577257910576779:=0
noncomputable def tw5454279906115236991:=0
noncomputable def tw12213064771995980818:=0
noncomputable def tw9823748316263348937:=0
noncomputable def tw9956662530177463527:=0
noncomputable def tw459146948069753175:=0
noncomputable def tw6237928343866489299:=0
noncomputable def tw7984280065707542507:=0
noncomputable def tw17041616931645089249:=0
noncomputable def tw15986432922087483850:=0
noncomputable def tw9470336651779694769:=0
noncomputable def tw2135479669730593573:=0
noncomputable def tw3795902863784884798:=0
noncomputable def tw3913896486376390051:=0
noncomputable def tw10600055144261679478:=0
noncomputable def tw3522922971256253055:=0
noncomputable def tw4731703879575022429:=0
noncomputable def tw8640184103763491560:=0
noncomputable def tw7650725181317120938:=0
noncomputable def tw13479254500211838520:=0
noncomputable def tw14885067459386536312:=0
noncomputable def tw17542281622305692479:=0
noncomputable def tw15537038410505812887:=0
noncomputable def tw3867568152204534089:=0
noncomputable def tw12091271723692024683:=0
noncomputable def tw17966277444551555794:=0
noncomputable def tw8887833320023704260:=0
noncomputable def tw12275535772314034094:=0
noncomputable def tw8208438013649936195:=0
end PySem.W.Fast
open PySem PySem.W PyProof.Rows
set_option maxRecDepth 100000 in
set_option maxHeartbeats 0 in
theorem PySem.Challenge.cw_worthkinds_k54_whole_least_and_tallies_holds : PySem.Challenge.rw_worthkinds_k54_whole_least_and_tallies.Holds := by
 w_on; o_law; k_head; (case hw=>w_witness2)
 k_fill
 refine G.walk (l:=PySem.Challenge.rw_worthkinds_k54_whole_least_and_tallies) rfl rfl G.law_ok ?nl (fun w h Y=>⟨PySem.W.km_in_of Y,PySem.W.km_tabs_of Y⟩) ?F
 case nl=>intro p; kernel_rfl
 case F=>
  intro w mg fa h KX G0 hmg hT
  have tx:G.Tx' KX mg:=by
   constructor
   all_goals first
    | (refine' ⟨_,_,G.fn1 KX G0 ?e ?l ?g ?k (fun F=>F.binds fun _ _ _ _ _ _ us hl=>by first | exact G.lz1 us hl fun _=>rfl | exact G.lz2 us hl fun _ _=>rfl | exact G.lz3 us hl fun _ _ _=>rfl | exact G.lz4 us hl fun _ _ _ _=>rfl)⟩; (case e | l | g | k=>k_is))
    | exact ⟨_,PySem.W.mg_of KX G0 (by k_is),_,rfl⟩
    | exact G.zs_of KX G0 (by kernel_rfl)
  have tp:G.TP KX mg:=by
   refine' ⟨_,_,_,_,_,G.fn1 KX G0 ?e ?l ?g ?k (fun F=>F.binds fun _ _ _ _ _ _ us hl=>by first | exact G.lz1 us hl fun _=>rfl | exact G.lz2 us hl fun _ _=>rfl | exact G.lz3 us hl fun _ _ _=>rfl | exact G.lz4 us hl fun _ _ _ _=>rfl),rfl,⟨?t, ?u, ?h, ?n⟩, ?m⟩; (case e | l | g | k | t=>k_is); (case u=>exact rfl); (case h | n=>kernel_rfl); (case m=>exact hT _ (by decide))
  refine' G.fin_ KX G0 hmg tx tp
