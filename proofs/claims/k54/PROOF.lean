import PyProof.Rows.All
import Wide.All
import OpenK.AllK
import Wide.FinOn
import Lean
import PyProof.EqAt
import PyProof.EqKinds
import PyProof.TupleCall
import PyProof.NeKinds
import PyProof.WalksEnum
import PyProof.StrWalks
import PyProof.ExcAttrAll.ValueError
import PyProof.ZipIter
import KE.KRevIter
import PyProof.ListNew
import PyProof.WalksMore
import PyProof.ReprLoop
import PyProof.FactsAll.list
import PyProof.CollectIter
import PyProof.TupleOfGen
import PyProof.Draws
import PyProof.EnumMake
import PyProof.SeqI3
import KE.KMinBuiltin
import PyProof.SetRoads
import PyProof.CollectWalk
import KE.KDictSum
import PyProof.AttrMiss
import PyProof.IsiH_tuple
import KE.KDictOf
import PyProof.FitsBits
import PyProof.SliceList
import PyProof.InstFacts
import PyProof.Rows.StrNews2
import PyProof.StrBlockH
import PyProof.CallStr
import KE.KIntText
import PyProof.Rows.RuleB_pow
import KE.KSortTup
import PyProof.ReprRoads
import KE.KLam
import PyProof.MaxThree
import PyProof.DictRoadsH
import PyProof.FactsAll.dict
import PyProof.DictItems
import PyProof.DictValues
import PySem.Challenge.RW_worthkinds_k54_whole_least_and_tallies
open PySem renaming wpAny_bind->a8,wpAny_pure->ac,wpAny_call_entry->aM,wpAny_newObj_type->aO,wpAny_callSpecial?_slot->aX,wpAny_field->ba,wpAny_setField_rec->bb,wpAny_truthy_bool->bh,wpAny_holding->bp,mem_of_lookup->bH,wpAny_seqItems->bM,codeAny_builtin->bQ,sizeLine_eq->bY,wpAny_specialOf->c7,wpAny_of_eq->c9,plainId_quiet->cf,wpAny_pyIter_list->ck,wpAny_dictEntries->cn,wpAny_attempt->cy,wpAny_isInstance->cA,wpAny_Call_Name_kw->cB,wpAny_pyIter_tuple->cC,wpAny_tryCatch->cD,wpAny_passesOwn->cJ,wpAny_mono->cV,wpAny_rule->du,wpAny_dictEpoch->dD,wpAny_letGo->dO,wpAny_typeOf->dS,codeAny_mono->eN,call_meets->fv,evalArgs_none->l8,seqSlot_of->m7,call->mr
open List renaming mem_cons_of_mem->a9,mem_cons_self->aa,length_map->ae,replicate->ag,getElem?_eq_getElem->ah,mem_cons->ak,getElem?_map->ao,mem_singleton->aq,map_cons->ar,length_cons->aw,getElem?_eq_some_iff->ay,length_append->az,mem_map->aA,getElem?_set_ne->aB,size_toArray->aD,mem_append_right->aG,all_eq_true->aJ,length_singleton->aK,range->aN,getElem?_eq_none->aP,lookup_cons->aQ,getElem?_append_right->aR,map_replicate->aS,mem_range->aT,getElem?_replicate->aU,length_replicate->aV,mem_append->aW,getElem?_append_left->aY,map_map->aZ,getElem?_set_self->be,mem_of_getElem?->bg,append_assoc->bi,replicate_succ->bv,append_nil->bw,length_set->bx,mem_filter->bA,eq_of_mem_replicate->bF,map_nil->bI,length_range->bJ,length_eq_zero_iff->bK,nil_append->bP,not_mem_nil->bR,flatMap_cons->bW,map_congr_left->c6,of_mem_zip->c8,filter_cons->ce,sum_cons->cg,eq_nil_of_length_eq_zero->cj,length_reverse->cu,getD_eq_getElem?_getD->cF,getElem?_zip_eq_some->cG,nodup_cons->cK,map_append->cM,length_nil->cN,reverse_cons->cR,mem_iff_getElem->cS,all_cons->cX,getElem?_range->c_,length_take->db,mem_flatMap->di,range_succ_eq_map->dq,pairwise_cons->dy,zip_cons_cons->dz,mem_replicate->dA,find?_cons->dC,length_zip->dE,mem_iff_getElem?->dJ,ext_getElem?->dL,mem_append_left->dM,drop_zero->dN,getElem_inj->dQ,length_drop->dR,drop_eq_getElem_cons->dX,pairwise_iff_getElem->dY,filterMap_cons->dZ,drop_succ_cons->d_,getElem?_take_of_lt->eA,take_of_length_le->eT,length_eq_one_iff->eY,filter_eq_nil_iff->f7,length_filter_le->fj,any_eq_true->fB,cons_append->fE,eq_nil_iff_forall_not_mem->fK,mem_filterMap->g7,foldl->hU,length->i6,flatten_cons->i7,nodup_append->i9,any_cons->ib,idxOf_lt_length_iff->ij,prefix_refl->iu,drop_length->ix,getElem_map->iA,getElem_mem->iD,getElem?_cons_succ->iE,range_succ->iN,getElem?_reverse->iR,getElem?_zipIdx->iV,getElem_toArray->iW,reverse_reverse->i_,mem_of_mem_take->j_,mergeSort_perm->lf,take_succ_cons->lg,getElem_idxOf->lu,map_inj_right->lx,length_zipIdx->lA,any_eq_false->lE,all_map->lK,filter_congr->lW,map_reverse->md,range'->me,forIn_cons->ml
open PySem.Heap renaming get?_push_of_some->ab,get?_push_size->af,lt_size->au,SameBut->bc,get?_update_other->bZ,size_push->ci,get?_update_self->fg,ExtBut->fM,get?_update_ne->lc,IsTuple->lN
open PySem.W renaming Frag->ai,kitOne->bL,kia_one->bO,fnOf->cx,kia_tup->cL,keepIn->d0,kitx_list->eM,kitAny->eV,tabObj->f8,codeHdIn->fF,codeIn->h9,cellsFrom_some->iH,instObj->iM,lookIn->iT,kitx_tuple->ll,kitx_none->lF,kitx_bool->lG,kitx_dict->lH,plainGet->lY,kitx_int->lZ,kitx_str->l_
open Bool renaming and_eq_true->aj,false_ne_true->ax,false_eq_true->aI,not_true->eD,or_eq_true->fS,eq_iff_iff->fV,true_and->lh,not_eq_true'->lQ
open Nat renaming le_refl->am,le_trans->av,le_add_right->aE,ne_of_lt->aF,lt_of_lt_of_le->aL,zero_le->bf,mul_le_mul->bo,lt_of_le_of_lt->bq,lt_irrefl->bE,pow_le_pow_right->bN,pos_of_ne_zero->bX,one_mul->cz,ne_of_gt->cO,le_succ->cP,lt_succ_of_lt->cQ,mul_le_mul_right->cU,le_mul_of_pos_right->dh,mul_pos->dj,mul_comm->dm,mul_assoc->dF,add_comm->dU,lt_succ_self->fA,add_mul->fO,pow_add->fP,min_eq_left->fU,add_le_add_left->fW,succ_mul->fX,lt_trans->fY,zero_add->fZ,le_of_lt->iG,pow_succ->iL,not_lt_zero->iP,pow_lt_pow_right->l6,gcd->l7,lt_succ_of_le->lR,gcd_comm->lS,gcd_one_right->lT,lt_of_succ_lt->lU,le_succ_of_le->lV,succ_ne_self->m9,min_le_left->mo,div_le_self->mq,mod_lt->mv
open PySem.Str renaming ofString->aC
open Option.some renaming inj->aH
open PyProof.Rows renaming callWith_type1->a_,slot_tuple_getitem->bu
open Int renaming toNat_natCast->b9,eq_ofNat_of_zero_le->dg,le_trans->eU,zero_add->f6,mul_le_mul_of_nonneg_right->fJ,natCast_mul->fR,fdiv_eq_ediv_of_nonneg->g_,le_refl->i8,natAbs_mul->k_,emod_lt_of_pos->ly,natAbs_natCast->lC,le_antisymm->mm,emod_nonneg->mn
open Ne renaming symm->bj
open PySem.F renaming slot_dict_itemiterator_next->bz,plain_min_loop->bS,slot_dict_valueiterator_next->bT,slot_bool_hash->cb,slot_tuple_getattribute->cH,plainAttrs_list->de,called_set->dw,slot_zip_next->dG,args_tuple_add_2->eB,slot_dict_values->eG,entry_tuple_add->eK,plainAttrs_dict->eL,slot_tuple_add->eO,slot_tuple_iterator_next->eS,entry_min_loop->eX,args_dict_valueiterator_next_1->e_,args_dict_itemiterator_next_1->f9,entry_dict_valueiterator_next->ff,entry_dict_itemiterator_next->fG,slot_dict_itemiterator_iter->fN,slot_int_rmul->fQ,slot_list_append->ie,type_list_append->ig,type_dict_values->io,slot_tuple_mul->iw,args_zip_next_1->iz,slot_list_index->iC,slot_dict_values_iter->iF,entry_zip_next->iJ,slot_dict_items_iter->iK,slot_tuple_lt->iS,called_tuple->iX,args_object_init_2->iY,args_int_hash_1->lD,args_int_rmul_2->lJ,slot_tuple_rmul->lL,plain_tuple_new->lO,slot_dict_items->lP,entry_int_hash->lX,slot_int_index->m4,entry_int_rmul->m5,fills_int_mul->mi
open PySem.Builtin.Dict_items renaming ownsTuple->bC,ownedTupleIsFree->eH,ownedTupleFields->eI,pairFromOwner->eZ,newIterator->fH,dictOf->i5
open Array renaming length_toList->bU,getElem?_eq_none->b_,getElem?_eq_getElem->cI,getElem?_toList->dH,perm_iff_toList_perm->hZ,append_assoc->h_,getD->lw
open PySem.Heap.SameBut renaming update->bV
open False renaming elim->cq
open PySem.Obj renaming mapSeq->cW,data_mapFields->eJ,mapFields->ii,isFreed_of_fields->iQ,data_mapDictKeys->iZ,cls_mapFields->lM
open PyProof.Rows.KeyOrd renaming klt_of_klt_of_kle->cY,kle_of_klt->eW
open PySem.AutoSeq1 renaming wpAny_loadPart'->df
open PySem.SeqAt renaming EqAt->dk,RcNeAt->eR,RcAt->iI
open PySem.Builtin.Dict renaming showsAll->dI,noArgs->la
open PySem.Around renaming under_plainId->dP,frames_deeper->iU
open PySem.Builtin.Slice renaming slicePlaces->dW,sliceAdjust->i4
open PySem.Paired renaming length->e9
open PySem.Builtin.List renaming listTooLong->eC,listSameRef->il
open PySem.Calls renaming callWith_builtin->eQ,Name_function_global->f_,spliced_cons->lm,spliced_nil->lI
open PySem.Shared renaming TypeIs->fL,heap->mh
open PySem.PassesOwn renaming never->fT
open PySem.Builtin.Tuple renaming tupleItemsOf->hJ,tupleTooMany->hV,tupleExact->im
open PySem.Walks renaming list->hW
open Option renaming isSome_iff_exists->ia,getD_none->m3
open Rat renaming num_mkRat->ip,den_mkRat->iq
open PySem.Builtin.Range renaming rangeSize->ir
open PyProof.Rows.F renaming entry_set_update_loop->iy
open List.cons renaming injEq->iO
open PySem.Builtin.Int renaming intBits->l9
open PySem.SeqAt.EqAt renaming of_refs->lq,same->mj
open PySem.WalksT renaming enumerate->m8
open Classical renaming skolem->ma
noncomputable section
set_option maxHeartbeats 4000000
set_option Elab.async false
set_option linter.all false
set_option compiler.extract_closed false
set_option maxRecDepth 100000
namespace L2
open PySem PySem.Spec PyProof.Rows
noncomputable abbrev mM:=Sum Bool Str
def V4:mM->Value->Bool
 | .inl k,.bool b=>b == k
 | .inl _,_=>false
 | .inr x,v=>Value.isStrOf x v
def Bu (w:World):mM->Int
 | .inl k=>hashInt (if k then 1 else 0)
 | .inr x=>hashStr w x
theorem zS:∀{k:mM} {v:Value},V4 k v=true->(∃(i:Bool) (t:Tok),k=Sum.inl i/\v=Value.bool i)\/(∃x t,k=Sum.inr x/\v=Value.str x t)
 | .inl i,v,h=>by
  cases v <;> first | exact .inl ⟨i,0,rfl,congrArg _ (eq_of_beq h)⟩ | cases h
 | .inr x,v,h=>by
  obtain⟨t,e⟩:=Value.isStrOf_shape h;exact .inr ⟨x,t,rfl,e⟩
theorem Yf (x:Str)(t:Tok):V4 (.inr x) (.str x t)=true:=by simp[V4,Value.isStrOf]
theorem Gi (a b:Bool):decide ((Sum.inl a:mM)=Sum.inl b)=(a == b):=by
 by_cases e:a=b
 ·subst e;simp
 ·have h:¬ (Sum.inl a:mM)=Sum.inl b:=λq=>e (Sum.inl.inj q);rw[decide_eq_false h];exact(beq_eq_false_iff_ne.mpr e).symm
theorem Gj (a b:Str):decide ((Sum.inr a:mM)=Sum.inr b)=decide (a=b):=by
 by_cases e:a=b
 ·simp
 ·have h:¬ (Sum.inr a:mM)=Sum.inr b:=λq=>e (Sum.inr.inj q);rw[decide_eq_false h,decide_eq_false e]
theorem Gk (a:Bool)(b:Str):decide ((Sum.inl a:mM)=Sum.inr b)=false:=decide_eq_false (λq=>nomatch q)
theorem Gm (a:Str)(b:Bool):decide ((Sum.inr a:mM)=Sum.inl b)=false:=decide_eq_false (λq=>nomatch q)
theorem JN {Q:Int->Shared->Prop}(h:Q (hashInt (if b then 1 else 0)) { s with toks:=s.toks+1 }):wpAny (model prog w) A (pyHash (.bool b)) Q E s:=by
 have hT:s.TypeIs (.bool b) "bool":=rfl;unfold pyHash;have a:[Value.bool b].any Value.onHeap=false:=rfl;refine a8 ?_;rw[cRoomFor,if_neg (by rw[a];exact ax)];refine ac ?_
 refine a8 (c7 hT cb.lookup ?_);show wpAny _ _ (if (some (Value.builtin "int.__hash__") == some Value.none)=true then _ else _) Q E s
 rw[if_neg (by rw[beq_builtin_none];exact ax)]
 refine a8 (c7 hT cb.lookup ?_);show wpAny _ _ (callSpecialIfBoundUnlessNone? (.bool b) "__hash__" _ >>= _) Q E s;refine a8 (wpAny_callSpecialIfBoundUnlessNone?_slot hT cb
  (aM cb hT lX
   (show wpAny _ _ (do ret (← mkInt (rawHash (if b then 1 else 0)))) _ _ s from by cases b <;> refine wpAny_ret_mkInt ?_ <;> exact ac h) (lD _)))
def Z0 (prog:Program)(w:World):PySem.KeyKind prog w mM where
 is:=V4
 hash:=Bu w
 inj:=λv a b f d=>by
  rcases zS f with ⟨i,t,rfl,rfl⟩ | ⟨x,t,rfl,rfl⟩
  ·rcases zS d with ⟨j,u,rfl,e⟩ | ⟨y,u,rfl,e⟩
   ·injection e with e1;rw[e1]
   ·exact nomatch e
  ·rcases zS d with ⟨j,u,rfl,e⟩ | ⟨y,u,rfl,e⟩
   ·exact nomatch e
   ·injection e with e1 _;rw[e1]
 byValue:=λk v h=>by
  rcases zS h with ⟨i,t,rfl,rfl⟩ | ⟨x,t,rfl,rfl⟩ <;> rfl
 pyHash:=λc h=>by
  rcases zS c with ⟨i,t,rfl,rfl⟩ | ⟨x,t,rfl,rfl⟩
  ·exact JN h
  ·exact wpAny_pyHash_str h
 eqBool:=λg c h=>by
  rcases zS g with ⟨i,t,rfl,rfl⟩ | ⟨x,t,rfl,rfl⟩
  ·rcases zS c with ⟨j,u,rfl,rfl⟩ | ⟨y,u,rfl,rfl⟩
   ·rw[Gi]at h;exact dk.bool_bool i j _ _ _ _ h
   ·rw[Gk]at h;exact dk.bool_str i y u _ _ _ _ h
  ·rcases zS c with ⟨j,u,rfl,rfl⟩ | ⟨y,u,rfl,rfl⟩
   ·rw[Gm]at h;exact dk.str_bool x t j _ _ _ _ h
   ·rw[Gj]at h;exact wpAny_eqBool_str h
 «strs»:=λk x t v h=>by
  rcases zS h with ⟨i,u,rfl,e⟩ | ⟨y,u,rfl,e⟩
  ·exact nomatch e
  ·injection e with e1 _;subst e1;cases v <;> rfl
theorem jH (prog:Program)(w:World)(x:Str)(t:Tok):(Z0 prog w).is (.inr x) (.str x t)=true:=Yf x t
end L2
namespace L2
open PySem PySem.Spec PyProof.Rows
inductive V where
 | non | bl (b:Bool) | int (i:Int) | str (x:Str) | byt (b:Array UInt8) | flt (b:UInt64) | ref (a:Addr) | ty (n:String)
 deriving DecidableEq
noncomputable def RelV:V->Value->Prop
 | .non,u=>u=Value.none
 | .bl b,u=>u=Value.bool b
 | .int i,u=>∃t,u=Value.int i t
 | .str x,u=>∃t,u=Value.str x t
 | .byt b,u=>∃t,u=Value.bytes b t
 | .flt b,u=>∃t,u=Value.float b t
 | .ref a,u=>u=Value.ref a
 | .ty n,u=>u=Value.type n
abbrev Vals:List V->List Value->Prop:=Paired RelV
theorem Vals.length (r:Vals xs us):xs.length=us.length:=e9 r
theorem Vals.get:∀{xs:List V} {a:List Value} {i:Nat} {x:V},Vals xs a->xs[i]? =some x->∃u,a[i]? =some u/\RelV x u
 | _,_,_,_,.nil,e=>by simp at e
 | _,_,0,_,.cons r _,e=>by simp at e;subst e;exact⟨_,rfl,r⟩
 | _,_,i+1,x,.cons _ t,e=>by
  obtain⟨u,d,c⟩:=Vals.get t (by simpa using e)
  exact⟨u,by simpa using d,c⟩
theorem Vals.append:∀{xs a:List V} {c d:List Value},Vals xs c->Vals a d->Vals (xs++a) (c++d)
 | _,_,_,_,.nil,s=>s
 | _,_,_,_,.cons r t,s=> .cons r (Vals.append t s)
theorem Vals.take:∀{xs:List V} {a:List Value} (n:Nat),Vals xs a->Vals (xs.take n) (a.take n)
 | _,_,0,_=> .nil
 | _,_,_+1,.nil=> .nil
 | _,_,n+1,.cons r t=> .cons r (Vals.take n t)
theorem Vals.drop:∀{xs:List V} {a:List Value} (n:Nat),Vals xs a->Vals (xs.drop n) (a.drop n)
 | _,_,0,r=>r
 | _,_,_+1,.nil=> .nil
 | _,_,n+1,.cons _ t=>Vals.drop n t
def tX:Option V->Option Value->Prop
 | some v,some u=>RelV v u
 | none,none=>True
 | _,_=>False
def KV {a:Type}:List (a×V)->List (a×Value)->Prop:=Paired λ(p:a×V) (q:a×Value)=>p.1=q.1/\RelV p.2 q.2
def kV:mM->V
 | .inl i=> .bl i
 | .inr x=> .str x
inductive HO where
 | lst (xs:List V)
 | tup (xs:List V)
 | dK (kvs:List (mM×V)) | dT (kvs:List (List mM×Addr×V))
 | set (S:Int->Bool) (n:Nat)
 | ins (C dx:Addr) (fs:List (Str×V))
 | own (x:Addr)
 | xd (fs:List (Str×V))
 | met (f x:Addr)
 | rng (lo hi:Int)
 | frz (o:Obj) (u:HO)
 | tbl (ps:Array Value) (q:Str)
 | ext (φ:Heap->Prop)
noncomputable abbrev Hp:=Addr->Option HO
def mz (H:Hp)(a:Addr)(o:HO):Hp:=λb=>if b=a then some o else H b
theorem zl:mz H a o a=some o:=by unfold mz;rw[if_pos rfl]
theorem zi (h:b ≠ a):mz H a o b=H b:=by unfold mz;rw[if_neg h]
theorem Yg {H:Hp}{a b:Addr}{o u:HO}(h:H a=some o)(h' :H b=some u)(d:o ≠ u):a ≠ b:=by
 intro e;subst e;rw[h]at h';exact d (aH h')
theorem zG {H:Hp}{a b:Addr}{o:HO}(h:H a=some o)(h' :H b=none):a ≠ b:=by
 intro e;subst e;rw[h]at h';cases h'
noncomputable def ITN (h:Heap)(a:Addr)(c:Array Value):Prop:=IsTup h a c/\((∃i t,c[0]? =some (Value.int i t))\/∃o,h.get? a=some o/\o.dict=none)
theorem ITN.new (h:Heap)(a:Array Value):ITN (h.push { cls:= .type "tuple",data:= .seq a }) h.objs.size a:=⟨IsTup.new h a,.inr ⟨_,af _ rfl,rfl⟩⟩
section
variable (P:Program)(w:World)
def zQ (H:Hp)(h:Heap)(a:Addr):HO->Prop
 | .lst xs=>xs.length<=sizeLine/\∃(e:List Value) (n:Nat),Vals xs e/\h.get? a=some { cls:= .type "list",data:= .seq e.toArray n }
 | .tup xs=>xs.length<=sizeLine/\∃e:List Value,Vals xs e/\ITN h a e.toArray
 | .dK kvs=>kvs.length<=sizeLine/\(a == sysModules)=false/\∃vs,KV kvs vs/\h.DictOf (Z0 P w) a vs
 | .dT kvs=>kvs.length<=sizeLine/\(a == sysModules)=false/\∃xs:List (List mM×Addr×Value),
   Paired (λ(p:List mM×Addr×V) (q:List mM×Addr×Value)=>p.1=q.1/\H q.2.1=some (.tup (p.1.map kV))/\RelV p.2.2 q.2.2/\p.2.1=q.2.1) kvs xs/\
   ∃o B ep,h.get? a=some o/\o.ExactDict/\o.data= .dict B ep/\B.toList=xs.map (entryOfKey (tupleKind (Z0 P w)))/\(xs.map (·.1)).Nodup
 | .set S n=>h.SetOf (intKind P w) a S n
 | .ins C i fs=>H i=some (.own a)/\fs.length<=1000/\i ≠ a/\h.get? a=some (iM C i)/\
   ∃g,h.Ns1 i g/\(∀f,tX (fs.lookup f) (g f))/\PySem.Within g (fs.map (·.1))
 | .own _=>∃o,h.get? a=some o
 | .xd fs=>∃g,h.Ns1 a g/\∀f,tX (fs.lookup f) (g f)
 | .rng lo hi=>∃t u v,h.get? a=some { cls:= .type "range",data:= .fields #[.int lo t,.int hi u,.int 1 v] }
 | .frz o u=>h.get? a=some o/\zQ H h a u
 | .tbl k q=>∃d:Array Value,h.get? a=some { cls:= .none,data:= .fields (k++d) }/\TriplesOk (k++d).toList/\∀p l,codeAmong p (k++d).toList=some l->∃c D vs t,l= .ref c/\H c=some (.frz D (.own c))/\D.data= .fields vs/\vs[1]? =some (.str q t)
 | .met f x=>h.get? a=some (PySem.W.methodObj (.ref f) (.ref x))
 | .ext j=>j h/\(∃o,h.get? a=some o)/\∀r y:Heap,j r->(∀o,r.get? a=some o->y.get? a=some o)->j y
def HOk (H:Hp)(h:Heap):Prop:=∀a o,H a=some o->zQ P w H h a o
end
section
variable {P:Program}{w:World}{H H' :Hp}{h h' :Heap}{a:Addr}{o:HO}
theorem zQ.lt (x:zQ P w H h a o):a < h.objs.size:=by
 cases o with
 | lst xs=>obtain⟨_,_,_,_,e⟩:=x;exact au e
 | tup xs=>obtain⟨_,_,_,p,_⟩:=x;exact p.lt
 | dK kvs=>obtain⟨_,_,_,_,o,_,_,e,_⟩:=x;exact au e
 | dT kvs=>obtain⟨_,_,_,_,o,_,_,e,_⟩:=x;exact au e
 | set S n=>obtain⟨o,_,_,_,e,_⟩:=x;exact au e
 | ins C c fs=>obtain⟨_,_,_,e,_⟩:=x;exact au e
 | own y=>obtain⟨_,e⟩:=x;exact au e
 | xd fs=>obtain⟨_,⟨_,_,_,e,_⟩,_⟩:=x;exact au e
 | rng lo hi=>obtain⟨_,_,_,e⟩:=x;exact au e
 | frz ob u=>obtain⟨e,_⟩:=x;exact au e
 | tbl g q=>obtain⟨_,e,_⟩:=x;exact au e
 | met f y=>exact au (x)
 | ext d=>obtain⟨_,⟨_,e⟩,_⟩:=x;exact au e
theorem Paired.mapP {g e:Type}{F G:g->e->Prop}:∀{c:List g} {d:List e},Paired F c d->(∀a b,F a b->G a b)->Paired G c d
 | _,_,.nil,_=> .nil
 | _,_,.cons r t,f=> .cons (f _ _ r) (Paired.mapP t f)
theorem zQ.stay (x:zQ P w H h a o)(k:∀b u,(b=a\/H b=some (.own a))->h.get? b=some u->h'.get? b=some u)
  (I:∀b,H b=some (.own a)->H' b=some (.own a)) (M:∀b xs,H b=some (.tup xs)->H' b=some (.tup xs)) (D:∀b o u,H b=some (.frz o u)->H' b=some (.frz o u):=by exact λ_ _ _ q=>q):zQ P w H' h' a o:=by
 induction o with
 | lst xs=>obtain⟨z,i,n,r,e⟩:=x;exact⟨z,i,n,r,k _ _ (.inl rfl) e⟩
 | tup xs=>obtain⟨z,i,r,⟨ob,e,c⟩,q⟩:=x;exact⟨z,i,r,⟨ob,k _ _ (.inl rfl) e,c⟩,q.imp id λ⟨N,j,F⟩=>⟨N,k _ _ (.inl rfl) j,F⟩⟩
 | dK kvs=>obtain⟨z,y,vs,r,ob,g,ep,e,c⟩:=x;exact⟨z,y,vs,r,ob,g,ep,k _ _ (.inl rfl) e,c⟩
 | dT kvs=>
  obtain⟨z,y,xs,r,ob,g,ep,e,c⟩:=x;exact⟨z,y,xs,Paired.mapP r λp q z=>⟨z.1,M _ _ z.2.1,z.2.2⟩,ob,g,ep,k _ _ (.inl rfl) e,c⟩
 | set S n=>obtain⟨ob,g,ep,t,e,c⟩:=x;exact⟨ob,g,ep,t,k _ _ (.inl rfl) e,c⟩
 | ins C Q fs=>
  obtain⟨d,z,J,e,l,⟨B,g,ep,j,c⟩,r⟩:=x;exact⟨I _ d,z,J,k _ _ (.inl rfl) e,l,⟨B,g,ep,k _ _ (.inr d) j,c⟩,r⟩
 | own y=>obtain⟨ob,e⟩:=x;exact⟨ob,k _ _ (.inl rfl) e⟩
 | xd fs=>obtain⟨l,⟨B,g,ep,e,c⟩,r⟩:=x;exact⟨l,⟨B,g,ep,k _ _ (.inl rfl) e,c⟩,r⟩
 | rng lo hi=>obtain⟨t,u,v,e⟩:=x;exact⟨t,u,v,k _ _ (.inl rfl) e⟩
 | frz ob u O=>obtain⟨e,q⟩:=x;exact⟨k _ _ (.inl rfl) e,O q⟩
 | tbl X q=>
  obtain⟨m,e,tr,al⟩:=x;exact⟨m,k a _ (.inl rfl) e,tr,λp G z=>let ⟨c,oc,vs,t,e1,j,e3⟩:=al p G z;⟨c,oc,vs,t,e1,D _ _ _ j,e3⟩⟩
 | met f y=>
  have e:=x;exact k a _ (.inl rfl) e
 | ext U=>obtain⟨p,⟨o,e⟩,st⟩:=x;exact⟨st _ _ p λo q=>k _ _ (.inl rfl) q,⟨o,k _ _ (.inl rfl) e⟩,st⟩
theorem HOk.lt (x:HOk P w H h)(e:H a=some o):a < h.objs.size:=(x a o e).lt
theorem HOk.fresh (x:HOk P w H h)(e:h.objs.size<=a):H a=none:=by
 cases q:H a with
 | none=>rfl
 | some u=>exact absurd (aL (x.lt q) e) (bE _)
theorem HOk.kept (x:HOk P w H h)(k:∀b u,h.get? b=some u->h'.get? b=some u):HOk P w H h' :=λa o e=>
 (x a o e).stay (λb u _ q=>k b u q) (λ_ q=>q) λ_ _ q=>q
theorem HOk.laid (x:HOk P w H h)(k:∀b u,h.get? b=some u->h'.get? b=some u)(hp:h.objs.size<=a)(new:zQ P w (mz H a o) h' a o):HOk P w (mz H a o) h' :=λb u e=>by
 have hn:=x.fresh hp
 by_cases d:b=a
 ·subst d;rw[zl]at e;cases e;exact new
 ·rw[zi d]at e;exact(x b u e).stay (λc v _ q=>k c v q) (λc q=>by rw[zi (zG q hn)];exact q) (λc xs q=>by rw[zi (zG q hn)];exact q) λc o u q=>by rw[zi (zG q hn)];exact q
end
def Rd (H:Hp)(a:Addr)(u:HO):Prop:=H a=some u\/∃o,H a=some (.frz o u)
theorem Rd.ok (r:Rd H a u)(x:HOk P w H h):zQ P w H h a u:=by
 rcases r with r | ⟨o,r⟩
 ·exact x a u r
 ·obtain⟨_,q⟩:=x a _ r;exact q
noncomputable def sO:Option HO->Prop
 | some (.lst _)=>True
 | some (.dK _)=>True
 | some (.dT _)=>True
 | some (.set _ _)=>True
 | some (.ins _ _ _)=>True
 | some (.ext _)=>True
 | _=>False
section
theorem HOk.write (ok:HOk P w H h)(f:sO (H x))(B:e=x\/H e=some (.own x))(k:∀b u,b ≠ e->h.get? b=some u->h'.get? b=some u)(l:∃u,h'.get? e=some u)
  (new:zQ P w (mz H x o') h' x o'):HOk P w (mz H x o') h' :=λb u q=>by
 have d:∀c y,H c=some (.own y)->c ≠ x:=λc y r z=>by subst z;rw[r]at f;exact f
 have g:∀c xs,H c=some (.tup xs)->c ≠ x:=λc xs r z=>by subst z;rw[r]at f;exact f
 by_cases j:b=x
 ·subst j;rw[zl]at q;cases q;exact new
 ·rw[zi j]at q
  by_cases a:b=e
  ·have p :H b=some (.own x):=by
    rcases B with z | z
    ·exact absurd (a.trans z) j
    ·rw[a];exact z
   rw[q]at p;cases p;obtain⟨v,C⟩:=l;exact⟨v,by rw[a];exact C⟩
  ·refine(ok b u q).stay (λc v i r=>k c v ?_ r) (λc r=>by rw[zi (d c b r)];exact r) (λc xs r=>by rw[zi (g c xs r)];exact r) λc o u r=>by rw[zi (λz=>by subst z;rw[r]at f;exact f)];exact r
   rcases i with rfl | i
   ·exact a
   ·rintro rfl
    rcases B with z | z
    ·exact d c b i z
    ·rw[i]at z;cases z;exact j rfl
end
structure Un (fs ex:List Addr) (H H' :Hp) (h h' :Heap):Prop where
 keep:∀b o,h.get? b=some o->H b=none->b ∉ fs->b ∉ ex->h'.get? b=some o
 slot:∀b o,h.get? b=some o->H b=none->b∈fs->b ∉ ex->∃sl,h'.get? b=some { o with slots:=sl }
 free:∀b o,h.get? b=some o->H b=none->b ∉ ex->H' b=none
 there:∀b o,h.get? b=some o->b ∉ ex->∃o',h'.get? b=some o'
 tups:∀b xs,H b=some (.tup xs)->H' b=some (.tup xs)
 frzs:∀b o u,H b=some (.frz o u)->H' b=some (.frz o u)
 tbls:∀b ps q,H b=some (.tbl ps q)->H' b=some (.tbl ps q)
section
variable {fs fs' ex ex' :List Addr}{H H1 H2:Hp}{h h1 h2 h' :Heap}{a x e:Addr}{o:HO}
theorem Un.any (u:Un fs ex H H1 h h1)(q:h.get? b=some ob)(n:H b=none)(c:b ∉ ex):∃f,h1.get? b=some { ob with slots:=f }:=by
 by_cases d:b∈fs
 ·exact u.slot b ob q n d c
 ·exact⟨ob.slots,u.keep b ob q n d c⟩
theorem Un.kept (k:∀b u,h.get? b=some u->h'.get? b=some u):Un fs ex H H h h' :=
 ⟨λb ob q _ _ _=>k b ob q,λb ob q _ _ _=>⟨ob.slots,k b ob q⟩,λ_ _ _ n _=>n,λb ob q _=>⟨ob,k b ob q⟩,λ_ _ q=>q,λ_ _ _ q=>q,λ_ _ _ q=>q⟩
theorem Un.refl:Un fs ex H H h h:=Un.kept λ_ _ q=>q
theorem Un.laid (k:∀b u,h.get? b=some u->h'.get? b=some u)(hp:h.objs.size<=a)(hn:H a=none):Un fs ex H (mz H a o) h h' where
 keep:=λb u q _ _ _=>k b u q
 slot:=λb u q _ _ _=>⟨u.slots,k b u q⟩
 free:=λb u q n _=>by rw[zi (aF (aL (au q) hp))];exact n
 there:=λb u q _=>⟨u,k b u q⟩
 tups:=λb xs q=>by rw[zi (zG q hn)];exact q
 frzs:=λb u xs q=>by rw[zi (zG q hn)];exact q
 tbls:=λb c q e=>by rw[zi (zG e hn)];exact e
theorem Un.write (d:sO (H x))(l:e=x\/H e=some (.own x))(k:∀b u,b ≠ e->h.get? b=some u->h'.get? b=some u)(f:∃u,h'.get? e=some u):Un fs ex H (mz H x o) h h' :=by
 have i:∀b,H b=none->b ≠ x:=λb n z=>by subst z;rw[n]at d;exact d
 have j:∀b,H b=none->b ≠ e:=λb n z=>by
  subst z;rcases l with r | r
  ·exact i b n r
  ·rw[n]at r;cases r
 have g:∀b u,H b=some u->¬ sO (some u)->b ≠ x:=λb u q nm z=>by subst z;rw[q]at d;exact nm d
 refine⟨λb u q n _ _=>k b u (j b n) q,λb u q n _ _=>⟨u.slots,k b u (j b n) q⟩,λb u q n _=>by rw[zi (i b n)];exact n,λb u q _=> ?_,
  λb xs q=>by rw[zi (g b _ q λz=>z)];exact q,λb u xs q=>by rw[zi (g b _ q λz=>z)];exact q,λb p q e=>by rw[zi (g b _ e λz=>z)];exact e⟩
 by_cases c:b=e
 ·subst c;exact f
 ·exact⟨u,k b u c q⟩
end
def tH (h:Heap)(H:Hp):List Addr:=(aN h.objs.size).filter λa=>(H a).isSome
def G5 (h:Heap)(H:Hp):Heap:=PySem.W.hideAll h (tH h H)
theorem Yh (h:Heap)(H:Hp):(G5 h H).objs.size=h.objs.size:=PySem.W.hideAll_size _ _
theorem W5 (e:h.get? b=some o)(n:H b=none):(G5 h H).get? b=some o:=
 PySem.W.hideAll_get _ e λa=>by
  have q:=(bA.mp a).2;rw[n]at q;simp at q
theorem k3 (e:(G5 h H).get? b=some o):h.get? b=some o/\H b=none:=by
 have a :=PySem.W.of_hideAll _ e;refine⟨a, ?_⟩;cases q:H b with
 | none=>rfl
 | some x=>
  have c:b∈tH h H:=bA.mpr ⟨aT.mpr (au a),by simp[q]⟩
  have z:(G5 h H).get? b=none:=PySem.W.hideAll_none _ c;rw[z]at e;cases e
end L2
namespace L2
open PySem PySem.Spec PyProof.Rows
structure Mod (K:ai) (mg:Str->Option Value) (base:Heap):Prop where
 kin:K.In base
 glob:base.Ns mainGlobals mg
 blt:∃mb,base.Ns builtinsNs mb/\∀x:Str,x ≠ "__name__"->mb x=bootBuiltins x
 nolimit:base.NoLimit
structure Cx where
 prog:Program
 w:World
 K:ai
 mg:Str->Option Value
 base:Heap
 A:Around
 N:List Str
 s₀:Shared
 H₀:Hp
 env:Env
 outer:List Env
 stack:List Env
 ex:List Addr
 fn:Str->Bool
 calm:Bool
 pn:List (Addr×Obj)
 xe:Value->Shared->Prop
noncomputable def ng (l:List Env):List Addr:=l.filterMap (·.frame)
abbrev Cx.fs (X:Cx):List Addr:=ng X.outer
noncomputable def sy (a:Scope)(x:Str):Prop:=a.names.lookup x=some .local\/a.names.lookup x=some .cell\/a.names.lookup x=some .free
noncomputable def Loc (a:Scope)(x:Str):Prop:=a.names.lookup x=some .local\/a.names.lookup x=some .cell
noncomputable def CQ (env:Env)(h:Heap)(m:Str->Option Value)(x:Str)(u:Value):Prop:=
 (env.kindOf x=some .local/\m x=some u)\/((env.kindOf x=some .cell\/env.kindOf x=some .free)/\∃c,env.cells.lookup x=some c/\h.IsCell c (some u))
structure Cx.Ok (X:Cx):Prop where
 mod:Mod X.K X.mg X.base
 kind:X.env.scope.kind= .function
 glob:X.env.globals=mainGlobals
 blt:X.env.builtins=builtinsNs
 above:X.s₀.heap.objs.size<=X.env.locals
 inj:∀x y c,X.env.cells.lookup x=some c->X.env.cells.lookup y=some c->x=y
 has:∀x,(X.env.kindOf x=some .cell\/X.env.kindOf x=some .free)->∃c,X.env.cells.lookup x=some c
 cab:∀x c,X.fn x=true->X.env.cells.lookup x=some c->X.s₀.heap.objs.size<=c
 hd:X.calm=true->X.A.handled=none
 frames:X.A.frames=some X.stack
 stk:X.stack=X.outer\/(X.stack=X.env :: X.outer/\X.env.frame=some X.env.locals)
 exf:∀b∈X.ex,b ≠ X.env.locals/\∀x c,X.env.cells.lookup x=some c->c ≠ b
 bs:∀b o,X.base.get? b=some o->X.s₀.heap.get? b=some o/\X.H₀ b=none
 bsz:X.base.objs.size<=X.s₀.heap.objs.size
 noex:∀b o,X.base.get? b=some o->b ∉ X.ex
 exfs:∀b∈X.ex,b ∉ X.fs
 funs:X.s₀.heap.FunFrames X.base X.outer
 frf:∀b∈X.fs,X.H₀ b=none
structure Inv (X:Cx) (pins:List (Addr×Obj)) (σ:List (Option V)) (H:Hp) (s:Shared):Prop where
 ok:X.Ok
 os:s.os=X.s₀.os
 bare:AllBare s.gens
 base:Un X.fs X.ex X.H₀ H X.s₀.heap s.heap
 loc:∃m,s.heap.Ns X.env.locals m/\∀(i:Nat) (x:Str) (v:V),X.N[i]? =some x->σ[i]? =some (some v)->sy X.env.scope x->∃u,RelV v u/\CQ X.env s.heap m x u
 cell:∀x c,X.env.cells.lookup x=some c->∃v,s.heap.IsCell c v
 free:H X.env.locals=none
 freeC:∀x c,X.env.cells.lookup x=some c->H c=none
 pin:∀p∈X.pn++pins,s.heap.get? p.1=some p.2/\H p.1=none/\p.1 ≠ X.env.locals/\p.1 ∉ X.fs/\∀v,p.2.data ≠ .cell v
 hok:HOk X.prog X.w H s.heap
 len:σ.length=X.N.length
section
variable {X:Cx}{pins:List (Addr×Obj)}{σ:List (Option V)}{H H' :Hp}{s:Shared}{h' :Heap}
theorem Cx.Ok.nofr (ok:X.Ok){b:Addr}{o:Obj}(e:X.base.get? b=some o):b ∉ X.fs:=λa=>by
 have:=(ok.funs.mem a).1;rw[e]at this;cases this
theorem Inv.bs (I:Inv X pins σ H s):∀b o,X.base.get? b=some o->s.heap.get? b=some o/\H b=none:=λb o e=>
 ⟨I.base.keep b o (I.ok.bs b o e).1 (I.ok.bs b o e).2 (I.ok.nofr e) (I.ok.noex b o e),I.base.free b o (I.ok.bs b o e).1 (I.ok.bs b o e).2 (I.ok.noex b o e)⟩
theorem Inv.bk (I:Inv X pins σ H s):∀b o,X.base.get? b=some o->s.heap.get? b=some o:=λb o e=>(I.bs b o e).1
theorem Inv.mod (I:Inv X pins σ H s):Mod X.K X.mg X.base:=I.ok.mod
theorem Inv.kIn (I:Inv X pins σ H s):X.K.In s.heap:=I.ok.mod.kin.keeps I.bk
theorem Inv.lt (I:Inv X pins σ H s):X.env.locals < s.heap.objs.size:=let ⟨_,hn,_⟩:=I.loc;hn.lt
theorem Inv.sz (I:Inv X pins σ H s):X.s₀.heap.objs.size<=s.heap.objs.size:=av I.ok.above (iG I.lt)
theorem Inv.nofs (I:Inv X pins σ H s)(h:s.heap.objs.size<=a):a ∉ X.fs:=λd=>by
 obtain⟨_,o,c,_⟩:=I.ok.funs.mem d;exact absurd (aL (au c) (av I.sz h)) (bE _)
theorem Inv.cne (I:Inv X pins σ H s):∀x c,X.env.cells.lookup x=some c->c ≠ X.env.locals:=λx c e z=>by
 obtain⟨v,o,f,hd⟩:=I.cell x c e;obtain⟨m,⟨g,i,ep,d,a,_⟩,_⟩:=I.loc;rw[z,d]at f;cases f;rw[a]at hd;cases hd
theorem Inv.funs (I:Inv X pins σ H s):s.heap.FunFrames X.base X.outer:=by
 have all:∀(l:List Env),(∀b∈ng l,b∈X.fs)->X.s₀.heap.FunFrames X.base l->s.heap.FunFrames X.base l:=by
  intro l
  induction l with
  | nil=>intro _ _;trivial
  | cons env r j=>
   intro f i;obtain⟨k,⟨L,o,c,hn,g,hd⟩,hr⟩:=i;have a:=f L (by unfold ng;rw[dZ,c];exact aa)
   obtain⟨p,e⟩:=I.base.slot L o g (I.ok.frf L a) a λz=>I.ok.exfs L z a;exact⟨k,⟨L,_,c,hn,e,hd⟩,j (λb d=>f b (by unfold ng;rw[dZ,c];exact a9 _ d)) hr⟩
 exact all _ (λ_ d=>d) I.ok.funs
theorem Inv.stack (I:Inv X pins σ H s):s.heap.FunFrames X.base X.stack:=by
 rcases I.ok.stk with e | ⟨e,a⟩
 ·rw[e];exact I.funs
 ·rw[e];obtain⟨m,hn,_⟩:=I.loc;refine .cons (by rw[I.ok.kind];decide) a hn ?_ I.funs
  exact Heap.get?_none_of_le (av I.ok.bsz I.ok.above)
theorem Inv.stkSub (I:Inv X pins σ H s):∀b∈ng X.stack,b∈X.env.locals :: X.fs:=λb a=>by
 rcases I.ok.stk with e | ⟨e,c⟩
 ·rw[e]at a;exact a9 _ a
 ·rw[e]at a;unfold ng at a;rw[dZ,c]at a;exact a
theorem Inv.stkFree (I:Inv X pins σ H s):∀b∈ng X.stack,H b=none:=λb a=>by
 rcases ak.mp (I.stkSub b a) with e | a
 ·rw[e];exact I.free
 ·obtain⟨_,o,c,_⟩:=I.ok.funs.mem a;exact I.base.free b o c (I.ok.frf b a) λz=>I.ok.exfs b z a
theorem Inv.step {g' :Array GenState}{t' :Nat}{d' :Drawn}{ch:List Addr}(I:Inv X pins σ H s)
  (j:∀b∈ch,(b∈X.ex\/X.s₀.heap.objs.size<=b)/\b ≠ X.env.locals/\(∀x c,X.env.cells.lookup x=some c->c ≠ b)/\∀p∈X.pn++pins,p.1 ≠ b)
  (keep:∀b o,b ≠ X.env.locals->b ∉ X.fs->b ∉ ch->s.heap.get? b=some o->H b=none->h'.get? b=some o)
  (y:∀b o,b ≠ X.env.locals->b∈X.fs->b ∉ ch->s.heap.get? b=some o->H b=none->∃S,h'.get? b=some { o with slots:=S }) (free:∀b o,b ∉ ch->s.heap.get? b=some o->H b=none->H' b=none)
  (D:∀b o,b ∉ ch->s.heap.get? b=some o->∃J,h'.get? b=some J)
  (P:∀b xs,H b=some (.tup xs)->H' b=some (.tup xs)) (N:∀b o u,H b=some (.frz o u)->H' b=some (.frz o u)) (G:∀b O q,H b=some (.tbl O q)->H' b=some (.tbl O q))
  (ns:∀m,s.heap.Ns X.env.locals m->h'.Ns X.env.locals m) (U:HOk X.prog X.w H' h') (hg:AllBare g'):
  Inv X pins σ H' { s with heap:=h',gens:=g',drawn:=d',toks:=t' }:=by
 have M:∀b o,X.s₀.heap.get? b=some o->b ≠ X.env.locals:=λb o e=>aF (aL (au e) I.ok.above);have mW:∀b o,X.s₀.heap.get? b=some o->b ∉ X.ex->b ∉ ch:=λb o e a B=>by
  rcases(j b B).1 with z | z
  ·exact a z
  ·exact absurd (aL (au e) z) (bE _)
 have g:∀x c,X.env.cells.lookup x=some c->∀v,s.heap.IsCell c v->h'.IsCell c v:=λx c e v ⟨o,F,hd⟩=>by
  have f:=λz=>(j c z).2.2.1 x c e rfl
  by_cases hc:c∈X.fs
  ·obtain⟨S,q⟩:=y c o (I.cne x c e) hc f F (I.freeC x c e);exact⟨_,q,hd⟩
  ·exact⟨o,keep c o (I.cne x c e) hc f F (I.freeC x c e),hd⟩
 refine⟨I.ok,I.os,hg,⟨λb o e n B a=> ?_,λb o e n B a=> ?_,λb o e n a=> ?_,λb o e a=> ?_,λb xs e=>P b xs (I.base.tups b xs e),λb o xs e=>N b o xs (I.base.frzs b o xs e),λb O q e=>G b O q (I.base.tbls b O q e)⟩, ?_,λx c e=> ?_, ?_,λx c e=> ?_,λp hp=> ?_,U,I.len⟩
 ·exact keep b o (M b o e) B (mW b o e a) (I.base.keep b o e n B a) (I.base.free b o e n a)
 ·obtain⟨S,C⟩:=I.base.slot b o e n B a;obtain⟨Q,Z⟩:=y b _ (M b o e) B (mW b o e a) C (I.base.free b o e n a);exact⟨Q,Z⟩
 ·obtain⟨J,C⟩:=I.base.there b o e a;exact free b J (mW b o e a) C (I.base.free b o e n a)
 ·obtain⟨J,C⟩:=I.base.there b o e a;exact D b J (mW b o e a) C
 ·obtain⟨m,hn,hl⟩:=I.loc;refine⟨m,ns m hn,λi x v C Z e3=> ?_⟩;obtain⟨u,r,l⟩:=hl i x v C Z e3;refine⟨u,r, ?_⟩;rcases l with l | ⟨k,c,e,z⟩
  ·exact .inl l
  ·exact .inr ⟨k,c,e,g x c e _ z⟩
 ·obtain⟨v,z⟩:=I.cell x c e;exact⟨v,g x c e v z⟩
 ·obtain⟨m,⟨o,_,_,F,_⟩,_⟩:=I.loc;exact free _ o (λz=>(j _ z).2.1 rfl) F I.free
 ·obtain⟨v,o,F,hd⟩:=I.cell x c e;exact free c o (λz=>(j c z).2.2.1 x c e rfl) F (I.freeC x c e)
 ·obtain⟨e,n,ne,nf,d⟩:=I.pin p hp;have f:=λz=>(j p.1 z).2.2.2 p hp rfl;exact⟨keep p.1 p.2 ne nf f e n,free p.1 p.2 f e n,ne,nf,d⟩
theorem Inv.un {t' :Nat}(I:Inv X pins σ H s)(u:Un X.fs [] H H' s.heap h')(c:HOk X.prog X.w H' h'):Inv X pins σ H' { s with heap:=h',toks:=t' }:=by
 obtain⟨m,⟨o,q,ep,i,r⟩,_⟩:=id I.loc;obtain⟨v,j⟩:=u.any i I.free (by simp)
 exact I.step (ch:=[]) (λ_ z=>nomatch z) (λb o _ g _ e n=>u.keep b o e n g (by simp)) (λb o _ g _ e n=>u.slot b o e n g (by simp)) (λb o _ e n=>u.free b o e n (by simp)) (λb o _ e=>u.there b o e (by simp)) u.tups u.frzs u.tbls (λx k=>by
  obtain⟨p,d,f,a,l⟩:=k;rw[i]at a;cases a;exact⟨_,d,f,j,l⟩) c I.bare
theorem Inv.call {l :Array GenState}{t' :Nat}{v :Drawn}{ch:List Addr}(I:Inv X pins σ H s)(u:Un (ng X.stack) ch H H' s.heap h')(j:HOk X.prog X.w H' h')(B:AllBare l)
  (f:∀b∈ch,(b∈X.ex\/X.s₀.heap.objs.size<=b)/\b ≠ X.env.locals/\(∀x c,X.env.cells.lookup x=some c->c ≠ b)/\∀p∈X.pn++pins,p.1 ≠ b):
  Inv X pins σ H' { s with heap:=h',gens:=l,drawn:=v,toks:=t' }:=by
 obtain⟨m,⟨o,J,ep,q,r⟩,_⟩:=id I.loc;obtain⟨G,i⟩:=u.any q I.free λz=>(f _ z).2.1 rfl;exact I.step f (λb o i y a e n=>u.keep b o e n (λz=>(ak.mp (I.stkSub b z)).elim i y) a) (λb o _ _ a e n=>u.any e n a) (λb o a e n=>u.free b o e n a) (λb o a e=>u.there b o e a) u.tups u.frzs u.tbls (λM C=>by
  obtain⟨F,k,g,d,D⟩:=C;rw[q]at d;cases d;exact⟨_,k,g,i,D⟩) j B
theorem Inv.turned {t' :Nat}{it:Addr}(I:Inv X pins σ H s)(k:∀b o,b ≠ it->s.heap.get? b=some o->h'.get? b=some o)(hn:H it=none)(f:it ≠ X.env.locals)
  (y:it∈X.ex\/X.s₀.heap.objs.size<=it) (g:∀x c,X.env.cells.lookup x=some c->c ≠ it) (j:∀p∈X.pn++pins,p.1 ≠ it):Inv X pins σ H { s with heap:=h',toks:=t' }:=by
 have d:∀b u,H b=some u->b ≠ it:=λb u e z=>by rw[z,hn]at e;cases e
 refine I.step (ch:=[it]) (λb B=> ?_) (λb o _ _ a e _=>k b o (λz=>a (by simp[z])) e) (λb o _ _ a e _=>⟨o.slots,k b o (λz=>a (by simp[z])) e⟩) (λ_ _ _ _ n=>n)
  (λb o a e=>⟨o,k b o (λz=>a (by simp[z])) e⟩) (λ_ _ e=>e) (λ_ _ _ e=>e) (λ_ _ _ e=>e) (λm w=> ?_) (λb u e=> ?_) I.bare
 ·have e:=by simpa using B
  subst e;exact⟨y,f,g,j⟩
 ·obtain⟨o,i,ep,l,r⟩:=w;exact⟨o,i,ep,k _ o (bj f) l,r⟩
 ·refine(I.hok b u e).stay (λc v a q=>k c v ?_ q) (λ_ q=>q) λ_ _ q=>q;rcases a with z | z
  ·rw[z];exact d b u e
  ·exact d c _ z
theorem Inv.tok (I:Inv X pins σ H s)(t:Nat):Inv X pins σ H { s with toks:=t }:=I.un Un.refl I.hok
theorem Inv.kept (I:Inv X pins σ H s)(k:∀b u,s.heap.get? b=some u->h'.get? b=some u):Inv X pins σ H { s with heap:=h',toks:=t' }:=I.un (Un.kept k) (I.hok.kept k)
theorem Inv.laid (I:Inv X pins σ H s)(k:∀b u,s.heap.get? b=some u->h'.get? b=some u)(hp:s.heap.objs.size<=a)(new:zQ X.prog X.w (mz H a o) h' a o):
  Inv X pins σ (mz H a o) { s with heap:=h',toks:=t' }:=I.un (Un.laid k hp (I.hok.fresh hp)) (I.hok.laid k hp new)
theorem Inv.write (I:Inv X pins σ H s)(c:sO (H x))(d:e=x\/H e=some (.own x))(k:∀b u,b ≠ e->s.heap.get? b=some u->h'.get? b=some u)(a:∃u,h'.get? e=some u)
  (new:zQ X.prog X.w (mz H x o) h' x o):Inv X pins σ (mz H x o) { s with heap:=h',toks:=t' }:=I.un (Un.write c d k a) (I.hok.write c d k a new)
theorem Inv.pins_of (I:Inv X pins σ H s)(h:∀p∈pins',s.heap.get? p.1=some p.2/\H p.1=none/\p.1 ≠ X.env.locals/\p.1 ∉ X.fs/\∀v,p.2.data ≠ .cell v):Inv X pins' σ H s:=
 ⟨I.ok,I.os,I.bare,I.base,I.loc,I.cell,I.free,I.freeC,λp hp=>(aW.mp hp).elim (λz=>I.pin p (dM _ z)) (h p),I.hok,I.len⟩
theorem Uh {N:List Str}(e:N.Nodup){i j:Nat}{x:Str}(a:N[i]? =some x)(b:N[j]? =some x):i=j:=by
 obtain⟨g,d⟩:=ay.mp a;obtain⟨f,c⟩:=ay.mp b;exact(dQ e).mp (d.trans c.symm)
theorem WU {M:Model}{A:Around}{E:Value->Shared->Prop}{i:Nat}{x:Str}{v:V}{u:Value}{Q:Unit->Shared->Prop}(I:Inv X pins σ H s)(hN:X.N.Nodup)(hi:X.N[i]? =some x)(C:Loc X.env.scope x)(r:RelV v u)
  (h:∀s',Inv X pins (σ.set i (some v)) H s' ->(∃a,bc a s.heap s'.heap/\(a=X.env.locals\/X.env.cells.lookup x=some a))->Q () s') (hf:X.fn x=true\/X.env.scope.names.lookup x=some .local:=by first | exact .inl rfl | exact .inr rfl | assumption):wpAny M A (storeName X.env x u) Q E s:=by
 obtain⟨m,hn,hl⟩:=id I.loc;have hcls:(X.env.scope.kind == .class || (X.env.scope.kind == .module && X.env.locals != X.env.globals))=false:=by rw[I.ok.kind];rfl
 have J:i < σ.length:=by rw[I.len];exact(ay.mp hi).1
 have cne:=I.cne;have g:∀{a:Addr} {h' :Heap},(∃o,s.heap.get? a=some o/\H a=none)->bc a _ h' ->HOk _ X.w H h' :=λ{a h'} ha f b ob e=>by
  obtain⟨_,_,D⟩:=ha;refine(I.hok b ob e).stay (λc w' B q=>(f.2 c ?_).trans q) (λ_ q=>q) λ_ _ q=>q
  rintro rfl
  rcases B with rfl | B
  ·rw[D]at e;cases e
  ·rw[D]at B;cases B
 rcases C with G | G
 ·refine wpAny_storeName_local G hn (λh' hn' f=> ?_) hcls;obtain⟨oL,_,_,hoL,_⟩:=id hn;refine h _ ⟨I.ok,I.os,I.bare,⟨λb o e n P C=> ?_,λb o e n P C=> ?_,I.base.free,λb o e C=> ?_,I.base.tups,I.base.frzs,I.base.tbls⟩,⟨_,hn',λj y v' l F e3=> ?_⟩,λy c e=> ?_,I.free,I.freeC,λp hp=> ?_,g ⟨oL,hoL,I.free⟩ f,by simpa using I.len⟩ ⟨_,f,.inl rfl⟩
  ·exact(f.2 b (aF (aL (au e) I.ok.above))).trans (I.base.keep b o e n P C)
  ·obtain⟨sl,l⟩:=I.base.slot b o e n P C;exact⟨sl,(f.2 b (aF (aL (au e) I.ok.above))).trans l⟩
  ·obtain⟨o',l⟩:=I.base.there b o e C;exact⟨o',(f.2 b (aF (aL (au e) I.ok.above))).trans l⟩
  ·by_cases S:j=i
   ·subst S;rw[hi]at l;cases l;rw[be J]at F;cases F;exact⟨u,r,.inl ⟨G,by simp⟩⟩
   ·rw[aB (bj S)]at F;obtain⟨u',r',q⟩:=hl j y v' l F e3;refine⟨u',r', ?_⟩;rcases q with ⟨k,e⟩ | ⟨k,c,e,z⟩
    ·refine .inl ⟨k, ?_⟩;have:y ≠ x:=λe=>S (Uh hN l (e ▸ hi));simp[this,e]
    ·exact .inr ⟨k,c,e,z.sameBut f (cne y c e)⟩
  ·obtain⟨w',z⟩:=I.cell y c e;exact⟨w',z.sameBut f (cne y c e)⟩
  ·obtain⟨e,n,ne,nf,d⟩:=I.pin p hp;exact⟨(f.2 p.1 ne).trans e,n,ne,nf,d⟩
 ·have O:X.fn x=true:=by
   rcases hf with z | z
   ·exact z
   ·rw[z]at G;cases G
  obtain⟨c,B⟩:=I.ok.has x (.inl G);obtain⟨w',z⟩:=I.cell x c B;refine wpAny_storeName_cell I.ok.kind G B z (λh' hc' f=> ?_);obtain⟨oc,hoc,U⟩:=id z;refine h _ ⟨I.ok,I.os,I.bare,⟨λb o e n P C=> ?_,λb o e n P C=> ?_,I.base.free,λb o e C=> ?_,I.base.tups,I.base.frzs,I.base.tbls⟩,⟨m,hn.sameBut f (bj (cne x c B)),λj y v' l F e3=> ?_⟩,λy c' e=> ?_,I.free,I.freeC,λp hp=> ?_,g ⟨oc,hoc,I.freeC x c B⟩ f,by simpa using I.len⟩ ⟨c,f,.inr B⟩
  ·exact(f.2 b (aF (aL (au e) (I.ok.cab x c O B)))).trans (I.base.keep b o e n P C)
  ·obtain⟨sl,l⟩:=I.base.slot b o e n P C;exact⟨sl,(f.2 b (aF (aL (au e) (I.ok.cab x c O B)))).trans l⟩
  ·obtain⟨o',l⟩:=I.base.there b o e C;exact⟨o',(f.2 b (aF (aL (au e) (I.ok.cab x c O B)))).trans l⟩
  ·by_cases S:j=i
   ·subst S;rw[hi]at l;cases l;rw[be J]at F;cases F;exact⟨u,r,.inr ⟨.inl G,c,B,hc'⟩⟩
   ·rw[aB (bj S)]at F;obtain⟨u',r',q⟩:=hl j y v' l F e3;refine⟨u',r', ?_⟩;rcases q with q | ⟨k,c',e,z'⟩
    ·exact .inl q
    ·refine .inr ⟨k,c',e,z'.sameBut f ?_⟩
     rintro rfl
     exact S (Uh hN l (I.ok.inj _ _ _ e B ▸ hi))
  ·by_cases Z:c' =c
   ·subst Z;exact⟨_,hc'⟩
   ·obtain⟨w2,z2⟩:=I.cell y c' e;exact⟨w2,z2.sameBut f Z⟩
  ·obtain⟨e,n,ne,nf,d⟩:=I.pin p hp;refine⟨(f.2 p.1 ?_).trans e,n,ne,nf,d⟩;intro q;rw[q,hoc]at e;have q' :=aH e;exact d w' (by rw[← q'];exact U)
theorem Ui {Q:Unit->Shared->Prop}(I:Inv X pins σ H s)(f:X.N.Nodup)(hi:X.N[i]? =some x)(c:Loc X.env.scope x)(r:RelV v u)
  (h:∀a,Inv X pins (σ.set i (some v)) H a ->Q () a) (e:X.fn x=true\/X.env.scope.names.lookup x=some .local:=by first | exact .inl rfl | exact .inr rfl | assumption):wpAny M A (storeName X.env x u) Q E s:=
 WU I f hi c r (λa d _=>h a d) e
theorem Inv.call' (I:Inv X pins σ H s)(f:s'.os=s.os)(u:Un (ng X.stack) ch H H' s.heap s'.heap)(a:HOk X.prog X.w H' s'.heap)(g:AllBare s'.gens)
  (d:∀b∈ch,(b∈X.ex\/X.s₀.heap.objs.size<=b)/\b ≠ X.env.locals/\(∀x c,X.env.cells.lookup x=some c->c ≠ b)/\∀p∈X.pn++pins,p.1 ≠ b):Inv X pins σ H' s' :=by
 obtain⟨h',j,k,t',i⟩:=s';have e:=f;subst e;exact I.call u a g d
end
abbrev XK:=Value->Option Addr->Hp->Prop
noncomputable abbrev St:=List (Option V)
abbrev VK:=V->Hp->Prop
abbrev TE:=St->Hp->VK->Prop
abbrev TT:=St->Hp->(Bool->Hp->Prop)->Prop
abbrev TA:=St->Hp->(List V->Hp->Prop)->Prop
structure xM where
 nx:St->Hp->Prop
 rt:VK
 bk:St->Hp->Prop:=λ_ _=>False
 ct:St->Hp->Prop:=λ_ _=>False
abbrev TS:=xM->St->Hp->Prop
def EP (X:Cx)(a:List (Addr×Obj))(d:St)(Q:VK)(u:Value)(e :Shared):Prop:=∃v c,Inv X a d c e /\RelV v u/\Q v c
def TP (X:Cx)(a:List (Addr×Obj))(e:St)(Q:Bool->Hp->Prop)(b:Bool)(d :Shared):Prop:=∃c,Inv X a e c d /\Q b c
def AP (X:Cx)(a:List (Addr×Obj))(e:St)(Q:List V->Hp->Prop)(d:List Value)(f :Shared):Prop:=∃vs c,Inv X a e c f /\Vals vs d/\Q vs c
def SP (X:Cx)(a:List (Addr×Obj))(D:xM)(f:Flow)(d :Shared):Prop:=
 match f with
 | .next=>∃σ' c,Inv X a σ' c d /\D.nx σ' c
 | .brk=>∃σ' c,Inv X a σ' c d /\D.bk σ' c
 | .cont=>∃σ' c,Inv X a σ' c d /\D.ct σ' c
 | .ret u=>∃v σ' c,Inv X a σ' c d /\RelV v u/\D.rt v c
def PE (X:Cx)(e:Expr)(t:TE):Prop:=
 ∀(a:List (Addr×Obj)) (s:Shared) (c:St) (H:Hp) (Q:VK),Inv X a c H s->t c H Q->wpAny (model X.prog X.w) X.A (eval e X.env) (EP X a c Q) X.xe s
def PT (X:Cx)(e:Expr)(t:TT):Prop:=
 ∀(a:List (Addr×Obj)) (s:Shared) (c:St) (H:Hp) (Q:Bool->Hp->Prop),Inv X a c H s->t c H Q->wpAny (model X.prog X.w) X.A (isTrue e X.env (eval e X.env)) (TP X a c Q) X.xe s
def PW (X:Cx)(e:Expr)(t:TT):Prop:=
 ∀(c:Sem Value) (a:List (Addr×Obj)) (s:Shared) (d:St) (H:Hp) (Q:Bool->Hp->Prop),Inv X a d H s->t d H Q->wpAny (model X.prog X.w) X.A (isTrue e X.env c) (TP X a d Q) X.xe s
theorem PW.pt (h:PW X e t):PT X e t:=h _
def PA (X:Cx)(d:List Expr)(t:TA):Prop:=
 ∀(pos:Pos) (a:List _) (s:Shared) (c:St) (H:Hp) (Q:List V->Hp->Prop),Inv X a c H s->t c H Q->wpAny (model X.prog X.w) X.A (spliced (backTo pos (starEach d X.env))) (AP X a c Q) X.xe s
def PS (X:Cx)(st:Stmt)(t:TS):Prop:=
 ∀(a:List (Addr×Obj)) (s:Shared) (c:St) (H:Hp) (D:xM),Inv X a c H s->t D c H->wpAny (model X.prog X.w) X.A (exec st X.env) (SP X a D) X.xe s
def PSs (X:Cx)(st:List Stmt)(t:TS):Prop:=
 ∀(a:List (Addr×Obj)) (s:Shared) (c:St) (H:Hp) (D:xM),Inv X a c H s->t D c H->wpAny (model X.prog X.w) X.A (execs st X.env) (SP X a D) X.xe s
theorem mH {d:Type}{t:Sem d}{Q c :d->Shared->Prop}(h:wpAny M A t Q E s)(e:∀a s,Q a s->c a s):wpAny M A t c E s:=cV h e λ_ _ x=>x
end L2
namespace L2
open PySem PySem.Spec PyProof.Rows
section
theorem bin (l:PE X a ta)(D:PE X b tb){R:V->V->Hp->Prop}(I:Inv X pins σ H s)(h:ta σ H λx i=>tb σ i λy c=>R x y c)
  {j:Type} {Q:j->Shared->Prop} {f:Value->Value->Sem j}
  (p:∀v u g x y c,Inv X pins σ c g->RelV x v->RelV y u->R x y c->wpAny (model X.prog X.w) X.A (f v u) Q X.xe g):
  wpAny (model X.prog X.w) X.A (eval a X.env) (λv e=>wpAny (model X.prog X.w) X.A (eval b X.env) (λu d=>wpAny (model X.prog X.w) X.A (f v u) Q X.xe d) X.xe e) X.xe s:=by
 refine mH (l _ s σ H _ I h) λv q ⟨x,i,o,r,C⟩=> ?_;refine mH (D _ q σ i _ o C) λu g ⟨y,c,k,B,F⟩=> ?_;exact p v u g x y c k r B F
def W6 (i:Nat):TE:=λa H Q=>∃v,a[i]? =some (some v)/\Q v H
def tC (v:V):TE:=λ_ H Q=>Q v H
theorem Jn (p:X.N[i]? =some x)(w:sy X.env.scope x)(hd:(x == ("__debug__":Str))=false:=by decide)(g:(x == ("__classdict__":Str))=false:=by decide):PE X (.Name x pos) (W6 i):=by
 intro k s o H Q I h;obtain⟨v,e,h⟩:=h;obtain⟨m,hn,y⟩:=I.loc;obtain⟨u,r,l⟩:=y i x v p e w;have d:EP X _ o Q u s:=⟨v,H,I,r,h⟩;rcases l with ⟨f,q⟩ | ⟨f,c,j,a⟩
 ·exact wpAny_Name (wpAny_loadName_local I.ok.kind f hn q d) hd
 ·rcases f with f | f
  ·exact wpAny_Name (wpAny_loadName_cell I.ok.kind f j a d) hd
  ·exact wpAny_Name (wpAny_loadName_free I.ok.kind f j a d g) hd
theorem Gn {i j pos}:PE X (.Constant (.int i) j pos) (tC (.int i)):=λ_ _ _ H _ I h=>wpAny_Constant_int ⟨.int i,H,I.tok _,⟨_,rfl⟩,h⟩
theorem LD {b j pos}:PE X (.Constant (.bool b) j pos) (tC (.bl b)):=λ_ _ _ H _ I h=>Constant_bool ⟨.bl b,H,I,rfl,h⟩
theorem Go {j pos}:PE X (.Constant .none j pos) (tC .non):=λ_ _ _ H _ I h=>Constant_none ⟨.non,H,I,rfl,h⟩
theorem xN {x j pos}:PE X (.Constant (.str x) j pos) (tC (.str x)):=λ_ _ _ H _ I h=>Calls.Constant_str ⟨.str x,H,I.tok _,⟨_,rfl⟩,h⟩
noncomputable def Gl (X:Cx)(x:Str):Prop:=X.env.kindOf x=some .globalImplicit
theorem Yi (I:Inv X pins σ H s)(a:Gl X x)(c:X.mg x=some u)(h:Q u s)
  (hd:(x == ("__debug__":Str))=false:=by decide):wpAny (model X.prog X.w) X.A (eval (.Name x pos) X.env) Q E s:=
 f_ I.ok.kind a (Calls.loadGlobal_global (by rw[I.ok.glob];exact I.mod.glob.keeps I.bk) c h) hd
theorem j5 (I:Inv X pins σ H s)(e:Gl X x)(f:X.mg x=none)(c:bootBuiltins x=some u)(h:Q u s)
  (hn:x ≠ "__name__":=by decide) (hd:(x == ("__debug__":Str))=false:=by decide):wpAny (model X.prog X.w) X.A (eval (.Name x pos) X.env) Q E s:=by
 obtain⟨g,d,a⟩:=I.mod.blt;exact f_ I.ok.kind e (Calls.loadGlobal_builtin (by rw[I.ok.glob];exact I.mod.glob.keeps I.bk) f (by rw[I.ok.blt];exact d.keeps I.bk) ((a x hn).trans c) h) hd
theorem k7 (a:Gl X x)(c:X.mg x=some u)(r:RelV v u)(hd:(x == ("__debug__":Str))=false:=by decide):PE X (.Name x pos) (tC v):=
 λ_ _ _ H _ I h=>Yi I a c ⟨v,H,I,r,h⟩ hd
theorem uQ (c:Gl X x)(d:X.mg x=none)(a:bootBuiltins x=some u)(r:RelV v u)(hn:x ≠ "__name__":=by decide)(hd:(x == ("__debug__":Str))=false:=by decide):PE X (.Name x pos) (tC v):=
 λ_ _ _ H _ I h=>j5 I c d a ⟨v,H,I,r,h⟩ hn hd
variable {tA tB' :TT}{rest:List Expr}
def Df (t u:TT):TT:=λd H Q=>t d H λc a=>if c=true then u d a Q else Q false a
def ID (t u:TT):TT:=λd H Q=>t d H λc a=>if c=true then Q true a else u d a Q
def Bv (t:TT):TT:=λd H Q=>t d H λc a=>Q (!c) a
theorem k8 (f:PT X a tA):PW X (.BoolOp .And [a] pos) tA:=by
 intro j d s g H Q I h;refine isTrue_and (mH (f _ s g H Q I h) λc i e=> ?_);cases c with
 | true=>exact isTrue_and_nil e
 | false=>exact e
theorem Gp (f:PT X a tA):PW X (.BoolOp .Or [a] pos) tA:=by
 intro j d s g H Q I h;refine isTrue_or (mH (f _ s g H Q I h) λc i e=> ?_);cases c with
 | false=>exact isTrue_or_nil e
 | true=>exact e
theorem Gq (j:PT X a tA)(l:PW X (.BoolOp .And (b :: rest) pos) tB'):PW X (.BoolOp .And (a :: b :: rest) pos) (Df tA tB'):=by
 intro o f s e H Q I h;refine isTrue_and (mH (j _ s e H _ I h) λc k ⟨g,d,i⟩=> ?_);cases c with
 | true=>exact l o _ k e g Q d i
 | false=>exact⟨g,d,i⟩
theorem IN (j:PT X a tA)(l:PW X (.BoolOp .Or (b :: rest) pos) tB'):PW X (.BoolOp .Or (a :: b :: rest) pos) (ID tA tB'):=by
 intro o f s e H Q I h;refine isTrue_or (mH (j _ s e H _ I h) λc k ⟨g,d,i⟩=> ?_);cases c with
 | true=>exact⟨g,d,i⟩
 | false=>exact l o _ k e g Q d i
theorem Gr (e:PT X a tA):PT X (.UnaryOp .Not a pos) (Bv tA):=by
 intro d s g H Q I h;exact isTrue_not (e _ s g H (λc f=>Q _ f) I h)
def FC (e tb:TE):TE:=λd H Q=>e d H λx a=>∃c,x= .bl c/\if c=true then tb d a Q else Q (.bl false) a
def C1 (e tb:TE):TE:=λd H Q=>e d H λx a=>∃c,x= .bl c/\if c=true then Q (.bl true) a else tb d a Q
def EX (a:TE):TE:=λe H Q=>a e H λx d=>∃c,x= .bl c/\Q (.bl (!c)) d
theorem Gs {op}(h:PE X a t):PE X (.BoolOp op [a] pos) t:=λc s d H Q I e=>BoolOp_one (h _ s d H Q I e)
theorem Gu (j:PE X a ta)(o:PE X (.BoolOp .And (b :: rest) pos) tb):PE X (.BoolOp .And (a :: b :: rest) pos) (FC ta tb):=by
 intro g s f H Q I h;refine BoolOp_and (mH (j _ s f H _ I h) λv k ⟨x,i,e,l,d⟩=> ?_);obtain⟨c,rfl,d⟩:=d;cases l;refine bh ?_;cases c with
 | true=>exact o _ k f i Q e d
 | false=>exact⟨.bl _,i,e,rfl,d⟩
theorem Lj (j:PE X a ta)(o:PE X (.BoolOp .Or (b :: rest) pos) tb):PE X (.BoolOp .Or (a :: b :: rest) pos) (C1 ta tb):=by
 intro g s f H Q I h;refine BoolOp_or (mH (j _ s f H _ I h) λv k ⟨x,i,e,l,d⟩=> ?_);obtain⟨c,rfl,d⟩:=d;cases l;refine bh ?_;cases c with
 | false=>exact o _ k f i Q e d
 | true=>exact⟨.bl _,i,e,rfl,d⟩
theorem Gv (f:PE X a ta):PE X (.UnaryOp .Not a pos) (EX ta):=by
 intro e s i H Q I h;refine UnaryOp_ (mH (f _ s i H _ I h) λv l ⟨x,k,g,j,d⟩=> ?_);obtain⟨c,rfl,d⟩:=d;cases j;exact not_of (bh ⟨.bl _,k,g,rfl,d⟩)
def E9 (t:TT)(e tb:TE):TE:=λa H Q=>t a H λc d=>if c=true then e a d Q else tb a d Q
theorem V5 (o:PT X c tA)(l:PE X a ta)(p:PE X b tb):PE X (.IfExp c a b pos) (E9 tA ta tb):=by
 intro f s e H Q I h;refine wpAny_IfExp (mH (o _ s e H _ I h) λd k ⟨i,g,j⟩=> ?_);cases d with
 | true=>exact l _ k e i Q g j
 | false=>exact p _ k e i Q g j
end
end L2
namespace L2
open PySem PySem.Spec PyProof.Rows
def SqL (K:ai)(H:Hp)(a:Addr)(xs:List V):Prop:=
 Rd H a (.lst xs)\/
  ∃(o:Obj) (c:Array Value) (n:Nat),K.lookup a=some o/\o.cls= .type "list"/\o.dict=none/\o.data= .seq c n/\c.size<=sizeLine/\Vals xs c.toList
def SqT (K:ai)(H:Hp)(a:Addr)(xs:List V):Prop:=
 Rd H a (.tup xs)\/
  ∃(o:Obj) (c:Array Value) (n:Nat),K.lookup a=some o/\o.cls= .type "tuple"/\o.data= .seq c n/\c.size<=sizeLine/\Vals xs c.toList
noncomputable def Dr:Value->Option V
 | .none=>some .non
 | .bool b=>some (.bl b)
 | .int i _=>some (.int i)
 | .str x _=>some (.str x)
 | .bytes b _=>some (.byt b)
 | .float b _=>some (.flt b)
 | .ref a=>some (.ref a)
 | .type n=>some (.ty n)
 | _=>none
theorem RelV.abs (r:RelV x u):Dr u=some x:=by
 cases x with
 | non=>cases r;rfl
 | bl _=>cases r;rfl
 | int _=>obtain⟨t,rfl⟩:=r;rfl
 | str _=>obtain⟨t,rfl⟩:=r;rfl
 | byt _=>obtain⟨t,rfl⟩:=r;rfl
 | flt _=>obtain⟨t,rfl⟩:=r;rfl
 | ref _=>cases r;rfl
 | ty _=>cases r;rfl
theorem RelV.inj (r:RelV x u)(q:RelV y u):x=y:=aH (r.abs.symm.trans q.abs)
theorem Vals.inj:∀{xs a:List V} {c:List Value},Vals xs c->Vals a c->xs=a
 | _,_,_,.nil,.nil=>rfl
 | _,_,_,.cons r t,.cons d t' =>by rw[r.inj d,Vals.inj t t']
section
variable {X:Cx}{pins:List (Addr×Obj)}{σ:St}{H:Hp}{s:Shared}{a:Addr}{xs ys:List V}
theorem SqL.of {K:ai}(h:H a=some (.lst xs)):SqL K H a xs:= .inl (.inl h)
theorem SqT.of {K:ai}(h:H a=some (.tup xs)):SqT K H a xs:= .inl (.inl h)
theorem Inv.list (I:Inv X pins σ H s)(h:SqL X.K H a xs):∃c:List Value,Vals xs c/\PlainL s.heap a c.toArray/\xs.length<=sizeLine:=by
 rcases h with h | ⟨o,c,n,g,d,hd,f,hz,r⟩
 ·obtain⟨z,c,n,r,e⟩:=h.ok I.hok;exact⟨c,r,⟨_,n,e,rfl,rfl,rfl⟩,z⟩
 ·refine⟨c.toList,r,⟨o,n,I.kIn a o g,d,hd,by simpa using f⟩, ?_⟩
  have e:=r.length;simp only[bU]at e;omega
theorem Inv.tuple (I:Inv X pins σ H s)(h:SqT X.K H a xs):∃c:List Value,Vals xs c/\IsTup s.heap a c.toArray/\xs.length<=sizeLine:=by
 rcases h with h | ⟨o,c,n,g,d,f,hz,r⟩
 ·obtain⟨z,c,r,p,_⟩:=h.ok I.hok;exact⟨c,r,p,z⟩
 ·refine⟨c.toList,r,⟨o,I.kIn a o g,d,n,by simpa using f⟩, ?_⟩
  have e:=r.length;simp only[bU]at e;omega
theorem Inv.list_inj (I:Inv X pins σ H s)(h:SqL X.K H a xs)(h' :SqL X.K H a ys):xs=ys:=by
 obtain⟨i,r,⟨o,n,e,_,_,d⟩,_⟩:=I.list h;obtain⟨c,j,⟨k,l,g,_,_,f⟩,_⟩:=I.list h';rw[e]at g;cases g;rw[d]at f;injection f with d1 _;have:=by simpa using congrArg Array.toList d1
 subst this;exact r.inj j
theorem Inv.tuple_inj (I:Inv X pins σ H s)(h:SqT X.K H a xs)(h' :SqT X.K H a ys):xs=ys:=by
 obtain⟨i,r,⟨o,e,_,n,d⟩,_⟩:=I.tuple h;obtain⟨c,j,⟨k,g,_,l,f⟩,_⟩:=I.tuple h';rw[e]at g;cases g;rw[d]at f;injection f with d1 _;have:=by simpa using congrArg Array.toList d1
 subst this;exact r.inj j
end
noncomputable abbrev Cx.wish (X:Cx)(E:Value->Shared->Prop):Cx:={ X with xe:=E }
abbrev Cx.nox (X:Cx):Cx:=X.wish λ_ _=>False
theorem Cx.Ok.wish {X:Cx}(ok:X.Ok)(E:Value->Shared->Prop):(X.wish E).Ok:=
 ⟨ok.mod,ok.kind,ok.glob,ok.blt,ok.above,ok.inj,ok.has,ok.cab,ok.hd,ok.frames,ok.stk,ok.exf,ok.bs,ok.bsz,ok.noex,ok.exfs,ok.funs,ok.frf⟩
theorem Cx.Ok.unwish {X:Cx}{E:Value->Shared->Prop}(ok:(X.wish E).Ok):X.Ok:=
 ⟨ok.mod,ok.kind,ok.glob,ok.blt,ok.above,ok.inj,ok.has,ok.cab,ok.hd,ok.frames,ok.stk,ok.exf,ok.bs,ok.bsz,ok.noex,ok.exfs,ok.funs,ok.frf⟩
section
variable {X:Cx}{pins:List (Addr×Obj)}{σ:St}{H:Hp}{s:Shared}{E:Value->Shared->Prop}
theorem Inv.wish (I:Inv X pins σ H s)(E:Value->Shared->Prop):Inv (X.wish E) pins σ H s:=⟨I.ok.wish E,I.os,I.bare,I.base,I.loc,I.cell,I.free,I.freeC,I.pin,I.hok,I.len⟩
theorem Inv.unwish (I:Inv (X.wish E) pins σ H s):Inv X pins σ H s:=⟨I.ok.unwish,I.os,I.bare,I.base,I.loc,I.cell,I.free,I.freeC,I.pin,I.hok,I.len⟩
theorem SP.unwish {D:xM}{f:Flow}(h:SP (X.wish E) pins D f s'):SP X pins D f s' :=by
 cases f with
 | next=>obtain⟨σ',a,I,q⟩:=h;exact⟨σ',a,I.unwish,q⟩
 | brk=>obtain⟨σ',a,I,q⟩:=h;exact⟨σ',a,I.unwish,q⟩
 | cont=>obtain⟨σ',a,I,q⟩:=h;exact⟨σ',a,I.unwish,q⟩
 | ret u=>obtain⟨v,σ',a,I,r,q⟩:=h;exact⟨v,σ',a,I.unwish,r,q⟩
theorem PSs.nox {st:List Stmt}{t:TS}(h:PSs X.nox st t):PSs X st t:=λpins s σ H D I a=>
 cV (h _ s σ H D (I.wish _) a) (λ_ _ q=>q.unwish) λ_ _ z=>cq z
end
section
variable {X:Cx}{st:Stmt}{rest:List Stmt}{t u:TS}{e:Expr}{te:TE}{pos:Pos}
def FJ:TS:=λD a H=>D.nx a H
def Bm (t u:TS):TS:=λD a H=>t { D with nx:=u D } a H
theorem k9:PSs X [] FJ:=λ_ _ a H _ I h=>wpAny_execs_nil ⟨a,H,I,h⟩
theorem jr (j:PS X st t)(d:PSs X rest u):PSs X (st :: rest) (Bm t u):=by
 intro a s i H D I h;refine wpAny_execs_cons (mH (j _ s i H _ I h) λf k q=> ?_);cases f with
 | next=>
  obtain⟨σ',g,c,q⟩:=q;exact d _ k σ' g D c q
 | ret v=>exact q
 | brk=>exact q
 | cont=>exact q
theorem Jb (d:PS X st t):PSs X [st] t:=by
 intro a s c H D I h;refine wpAny_execs_cons (mH (d _ s c H D I h) λf g q=> ?_);cases f with
 | next=>exact wpAny_execs_nil q
 | ret v=>exact q
 | brk=>exact q
 | cont=>exact q
theorem Inv.quiet (I:Inv X pins σ H s):interactive X.env=false:=by simp[interactive,I.ok.kind]
def Lu (te:TE):TS:=λD a H=>te a H λ_ c=>D.nx a c
theorem JO (g:PE X e te)(f:swapsWith e none pos.line X.env=pure false:=by rfl):PS X (.Expr e pos) (Lu te):=by
 intro c s a H D I h;exact wpAny_Expr_any (mH (g _ s a H _ I h) λv k ⟨x,i,d,l,j⟩=>⟨a,i,d,j⟩) I.quiet f
def Dp (te:TE):TS:=λD a H=>te a H D.rt
theorem wL (d:PE X e te):PS X (.Return (some e) pos) (Dp te):=by
 intro a s c H D I h;exact wpAny_Return_some (mH (d _ s c H _ I h) λv k ⟨x,f,g,j,i⟩=>⟨x,c,f,g,j,i⟩)
def Ct (c:TT)(t u:TS):TS:=λD a H=>c a H λb d=>if b=true then t D a d else u D a d
theorem FV (p:PT X c tc)(o:PSs X a t)(q:PSs X b u):PS X (.If c a b pos) (Ct tc t u):=by
 intro g s f H D I h;refine wpAny_If (mH (p _ s f H _ I h) λd l ⟨j,i,k⟩=> ?_);cases d with
 | true=>exact o _ l f j D i k
 | false=>exact q _ l f j D i k
end
abbrev TG:=V->St->Hp->(St->Hp->Prop)->Prop
abbrev o5:=List V->St->Hp->(St->Hp->Prop)->Prop
def PG (X:Cx)(a:Expr)(t:TG):Prop:=
 ∀(c:List (Addr×Obj)) (s:Shared) (e:St) (H:Hp) (v:V) (u:Value) (Q:St->Hp->Prop),Inv X c e H s->RelV v u->t v e H Q->
  wpAny (model X.prog X.w) X.A (assign a X.env u) (λ_ f =>∃σ' d,Inv X c σ' d f /\Q σ' d) X.xe s
def AD (X:Cx)(ts:List Expr)(t:o5):Prop:=
 ∀(a:List (Addr×Obj)) (s:Shared) (e:St) (H:Hp) (vs:List V) (c:List Value) (Q:St->Hp->Prop),Inv X a e H s->Vals vs c->t vs e H Q->
  wpAny (model X.prog X.w) X.A (assignInOrder ((assignEach ts X.env).map (·.2)) c) (λ_ f =>∃σ' d,Inv X a σ' d f /\Q σ' d) X.xe s
section
def W7 (i:Nat):TG:=λv a H Q=>Q (a.set i (some v)) H
theorem jI (f:X.N.Nodup)(hi:X.N[i]? =some x)(c:Loc X.env.scope x)(e:X.fn x=true\/X.env.scope.names.lookup x=some .local:=by first | exact .inl rfl | exact .inr rfl | assumption):PG X (.Name x pos) (W7 i):=by
 intro a s g H v u Q I r h;exact wpAny_assign_Name (Ui I f hi c r (λj d =>⟨_,H,d,h⟩) e)
def Dz:o5:=λvs a H Q=>vs=[]/\Q a H
def Yj (t:TG)(u:o5):o5:=λvs c H Q=>∃v r,vs=v :: r/\t v c H λσ' a =>u r σ' a Q
theorem Yk:AD X [] Dz:=by
 intro a s c H vs d Q I r h;obtain⟨e,h⟩:=h;exact assignInOrder_nil ⟨c,H,I,h⟩
theorem JA {u:o5}(o:PG X e t)(d:AD X es u)
  (j:(assignEach (e :: es) X.env).map (·.2)=assign e X.env :: (assignEach es X.env).map (·.2):=by rfl):AD X (e :: es) (Yj t u):=by
 intro c s g H vs w Q I r h;obtain⟨v,x,i,h⟩:=h;subst i;cases r with
 | cons r p=>
  rw[j];refine assignInOrder_cons (mH (o _ s g H _ _ _ I r h) λ_ k ⟨a,l,f,q⟩=> ?_);exact d _ k a l _ _ Q f p q
def Bb (K:ai)(n:Nat)(t:o5):TG:=λv c H Q=>∃a xs,v= .ref a/\SqT K H a xs/\xs.length=n/\t xs c H Q
theorem xO {t:o5}(p:X.calm=true)(h:AD X es t)
  (hn:(assignEach es X.env).length=n:=by rfl) (c:(assignEach es X.env).findIdx? (·.1)=none:=by rfl):PG X (.Tuple es k pos) (Bb X.K n t):=by
 intro i s f H v u Q I r d;obtain⟨a,xs,q,B,x,d⟩:=d;subst q;cases r;obtain⟨y,g,w,hz⟩:=I.tuple B;refine assign_Tuple_tuple (I.ok.hd p) w (by simp[hn,← x,g.length]) c λh' j=> ?_
 have l:Inv X _ f H { s with heap:=h' }:=I.kept λb o e=>j b o (aF (au e)) e;exact h _ _ f H xs _ Q l (by simpa using g) d
def sE (te:TE)(g:TG):TS:=λD a H=>te a H λx c=>g x a c D.nx
theorem Gw (l:PE X e te)(d:PG X tg g)(i:swapsWithSole [tg] e pos.line X.env=pure false:=by rfl)(u:swappedStores [tg] e X.env=pure none:=by rfl)
  (p:(assignEach [tg] X.env).map (·.2)=[assign tg X.env]:=by rfl):PS X (.Assign [tg] e pos) (sE te g):=by
 intro c s a H D I h;refine wpAny_Assign_stores (mH (l _ s a H _ I h) λv j ⟨x,o,f,k,r⟩=> ?_) i u;rw[p];exact mH (d _ j a o x v _ f k r) λ_ w q=>q
theorem wM (k:X.N.Nodup)(hi:X.N[i]? =some x)(d:Loc X.env.scope x)(p:PE X e te)(l:swapsWith e (some (.Name x pos')) pos.line X.env=pure false:=by rfl)(j:X.fn x=true\/X.env.scope.names.lookup x=some .local:=by first | exact .inl rfl | exact .inr rfl | assumption):
  PS X (.Assign [.Name x pos'] e pos) (sE te (W7 i)):=by
 intro a s g H D I h;refine wpAny_Assign_Name (mH (p _ s g H _ I h) λv w ⟨y,q,f,o,r⟩=> ?_) l;exact Ui f k hi d o (λu c=>⟨_,q,c,r⟩) j
end
section
def Gx (c:TT)(tb:TS):TS:=λD a H=>∃W:Nat->St->Hp->Prop,(∃m,W m a H)/\∀m a H,W m a H->
 c a H λb e=>if b=true then ∃N:St->Hp->Prop,(∀σ' d,N σ' d ->∃f,f < m/\W f σ' d)/\tb { D with nx:=N,ct:=N,bk:=D.nx } a e else D.nx a e
theorem V6 (hp:PassesOwn (model X.prog X.w) X.A X.env X.xe)(F:PT X c tc)(G:PSs X body tb):PS X (.While c body [] pos) (Gx tc tb):=by
 intro y s M H D I h;obtain⟨W,⟨J,w0⟩,e⟩:=h;refine wpAny_While (codeAny_whileLoop (λn P =>∃σ' x,Inv X _ σ' x P /\W n σ' x) ?_ J ⟨M,H,I,w0⟩)
 rintro n O ⟨d,r,C,w1⟩
 refine cJ hp (mH (F _ O d r _ C (e n d r w1)) λb B ⟨u,p,g⟩=> ?_);cases b with
 | true=>
  obtain⟨N,q,g⟩:=g;refine cJ hp (mH (G _ B d u _ p g) λf Q i=> ?_);cases f with
  | next=>
   obtain⟨a,H3,l,j⟩:=i;obtain⟨o,k,w3⟩:=q a H3 j;exact⟨o,k,a,H3,l,w3⟩
  | cont=>
   obtain⟨a,H3,l,j⟩:=i;obtain⟨o,k,w3⟩:=q a H3 j;exact⟨o,k,a,H3,l,w3⟩
  | brk=>exact i
  | ret v=>exact i
 | false=>
  exact wpAny_execs_nil ⟨d,u,p,g⟩
end
structure It where
 go:Nat->Hp->Prop
 yld:Nat->Hp->V->Hp->Prop
 stop:Nat->Hp->Prop
def wC (X:Cx)(a:List (Addr×Obj))(H:Hp)(b:Addr):Prop:=
 H b=none/\b ≠ X.env.locals/\b ∉ X.fs/\(b∈X.ex\/X.s₀.heap.objs.size<=b)/\(∀x c,X.env.cells.lookup x=some c->c ≠ b)/\∀p∈X.pn++a,p.1 ≠ b
theorem Inv.fpOk (I:Inv X pins σ H s)(a:s.heap.objs.size<=b)(hn:H' b=none):wC X pins H' b:=by
 refine⟨hn,cO (aL I.lt a),I.nofs a,.inr (av I.sz a),λx c e z=> ?_,λp hp z=> ?_⟩
 ·obtain⟨v,q⟩:=I.cell x c e;exact absurd (aL q.lt (by rw[z];exact a)) (bE _)
 ·exact absurd (aL (au (I.pin p hp).1) (by rw[z];exact a)) (bE _)
structure yt (P:Program) (w:World) (K:ai) (tg:Expr) (J:It) (fp:List Addr) (it:Addr) (tn:Nat->Heap->Prop):Prop where
 mem:it∈fp
 obj:∀i h,tn i h->∀b∈fp,∃o,h.get? b=some o/\∀v,o.data ≠ .cell v
 keep:∀i h h',tn i h->(∀b∈fp,∀o,h.get? b=some o->h'.get? b=some o)->tn i h'
 item:∀(X:Cx),X.prog=P->X.w=w->X.K=K->X.calm=true->∀(i:Nat) (pins:List (Addr×Obj)) (s:Shared) (σ:St) (H:Hp) (E:Value->Shared->Prop),Inv X pins σ H s->(∀b∈fp,wC X pins H b)->tn i s.heap->J.go i H->
  wpAny (model P w) X.A (pyNext (.ref it)) (λr s1=>∃u,r=some u/\
   wpAny (model P w) X.A (letOwnedTupleGo tg (.ref it) u) (λ_ s2=>∃x H',Inv X pins σ H' s2/\RelV x u/\J.yld i H x H' /\tn (i+1) s2.heap/\∀b∈fp,H' b=none) E s1) E s
 done:∀(X:Cx),X.prog=P->X.w=w->X.K=K->X.calm=true->∀(i:Nat) (pins:List (Addr×Obj)) (s:Shared) (σ:St) (H:Hp) (E:Value->Shared->Prop),Inv X pins σ H s->(∀b∈fp,wC X pins H b)->tn i s.heap->J.stop i H->
  wpAny (model P w) X.A (pyNext (.ref it)) (λr s1=>r=none/\Inv X pins σ H s1) E s
 self:∀(A:Around) (i:Nat) (s:Shared) (Q:Value->Shared->Prop) (E:Value->Shared->Prop),tn i s.heap->Q (.ref it) s->wpAny (model P w) A (pyIter (.ref it)) Q E s
abbrev TI:=St->Hp->(It->Hp->Prop)->Prop
def Em (X:Cx)(a:List (Addr×Obj))(i:St)(g:Expr)(R:It->Hp->Prop)(d:Value)(e:Shared):Prop:=
 ∃(it:Addr) (fp:List Addr) (f:Nat->Heap->Prop) (J:It) (c :Hp),d= .ref it/\Inv X a i c e/\yt X.prog X.w X.K g J fp it f/\f 0 e.heap/\(∀b∈fp,wC X a c b)/\R J c
def PI (X:Cx)(d iter:Expr)(f:TI):Prop:=
 ∀(a:List (Addr×Obj)) (s:Shared) (c:St) (H:Hp) (R:It->Hp->Prop),Inv X a c H s->f c H R->
  wpAny (model X.prog X.w) X.A (eval iter X.env) (λv e=>wpAny (model X.prog X.w) X.A (pyIter v) (Em X a c d R) X.xe e) X.xe s
theorem yu {Q:Unit->Shared->Prop}(c:s.heap.get? it=some o)(d:o.cls= .type n)(hd:o.data= .fields vs)
  (hn:["enumerate","zip","dict_itemiterator","dict_reverseitemiterator","odict_iterator","itertools.zip_longest","itertools.pairwise"].contains n=false) (a:Q () s):wpAny M A (letOwnedTupleGo tg (.ref it) u) Q E s:=by
 cases tg <;> first
  | exact ac a
  | (cases u <;> first
    | exact ac a
    | (refine a8 (wpAny_load c ?_);rw[d,hd];show wpAny M A (if (["enumerate","zip","dict_itemiterator","dict_reverseitemiterator","odict_iterator","itertools.zip_longest","itertools.pairwise"].contains n && vs[0]? == some _)=true then _ else _) Q E s;rw[if_neg (by intro h;rw[hn]at h;cases h)];exact ac a))
def AN (K:ai)(a:Addr):It:=
 ⟨λi H=>∃xs x,SqL K H a xs/\xs[i]? =some x,λi H x c =>c =H/\∀xs,SqL K H a xs->xs[i]? =some x,λi H=>∃xs,SqL K H a xs/\xs.length<=i⟩
def Be (K:ai)(a:Addr):It:=
 ⟨λi H=>∃xs x,SqT K H a xs/\xs[i]? =some x,λi H x c =>c =H/\∀xs,SqT K H a xs->xs[i]? =some x,λi H=>∃xs,SqT K H a xs/\xs.length<=i⟩
noncomputable def sr (lo:Int)(n:Nat):It:=⟨λi _=>i < n,λi H x a =>a =H/\x= .int (lo+i),λi _=>n<=i⟩
theorem WV {P:Program}{w:World}{K:ai}{tg:Expr}(a it:Addr):yt P w K tg (AN K a) [it] it (λi h=>h.IsListIter it a i) where
 mem:=by simp
 obj:=λi h st b g=>by
  have e:b=it:=by simpa using g
  subst e;obtain⟨o,e,c,d⟩:=st;exact⟨o,e,λv z=>by rw[d]at z;cases z⟩
 keep:=λi h h' st k=>st.at λo e=>k it (by simp) o e
 item:=by
  intro X D O N S i f s U H E I l st M;subst D O N;obtain⟨xs,x,q,y⟩:=M;obtain⟨G,C,p,hz⟩:=I.list q;obtain⟨u,hu,ru⟩:=C.get y;obtain⟨Q,r,Z,B,F,J⟩:=l it (by simp)
  refine wpAny_pyNext_list_item st p.isList (x:=u) (by simpa using hu) λh' j sb=> ?_
  have I1:Inv X f U H { s with heap:=h' }:=I.turned (t' :=s.toks) (λb o g e=>(sb.2 b g).trans e) Q r B F J;obtain⟨o,e,c,d⟩:=id j;exact⟨u,rfl,yu (s:={ s with heap:=h' }) e c d (by decide) ⟨x,H,I1,ru,⟨rfl,λys hy=>by rw[I.list_inj hy q];exact y⟩,j,λb g=>(l b g).1⟩⟩
 done:=by
  intro X D O N S i f s U H E I l st M;subst D O N;obtain⟨xs,q,y⟩:=M;obtain⟨G,C,p,hz⟩:=I.list q;obtain⟨Q,r,Z,B,F,J⟩:=l it (by simp)
  have hl:=C.length;exact wpAny_pyNext_list_end (I.ok.hd S) st p.isList (by simp;omega) λh' eb=>⟨rfl,I.turned (t' :=s.toks) (λb o g e=>eb b o g e) Q r B F J⟩
 self:=λ_ _ _ _ _ st h=>wpAny_pyIter_listiter st h
theorem wN {P:Program}{w:World}{K:ai}{tg:Expr}(a it:Addr):yt P w K tg (Be K a) [it] it (λi h=>h.IsTupleIter it a i) where
 mem:=by simp
 obj:=λi h st b j=>by
  have e:b=it:=by simpa using j
  subst e;obtain⟨o,e,c,d⟩:=st;exact⟨o,e,λv z=>by rw[d]at z;cases z⟩
 keep:=λi h h' st k=>st.at λo e=>k it (by simp) o e
 item:=by
  intro X F O N S i f s U H E I q st M;subst F O N;obtain⟨xs,x,r,B⟩:=M;obtain⟨g,D,p,hz⟩:=I.tuple r;obtain⟨u,hu,ru⟩:=D.get B;obtain⟨Q,y,Z,C,G,J⟩:=q it (by simp)
  refine wpAny_pyNext_tuple_item st (show s.heap.IsTuple a g.toArray from p) (x:=u) (by simpa using hu) λh' l sb=> ?_
  have I1:Inv X f U H { s with heap:=h' }:=I.turned (t' :=s.toks) (λb o j e=>(sb.2 b j).trans e) Q y C G J;obtain⟨o,e,c,d⟩:=id l;exact⟨u,rfl,yu (s:={ s with heap:=h' }) e c d (by decide) ⟨x,H,I1,ru,⟨rfl,λys hy=>by rw[I.tuple_inj hy r];exact B⟩,l,λb j=>(q b j).1⟩⟩
 done:=by
  intro X F O N S i f s U H E I q st M;subst F O N;obtain⟨xs,r,B⟩:=M;obtain⟨g,D,p,hz⟩:=I.tuple r;obtain⟨Q,y,Z,C,G,J⟩:=q it (by simp)
  have hl:=D.length;exact wpAny_pyNext_tuple_end (I.ok.hd S) st (show s.heap.IsTuple a g.toArray from p) (by simp;omega) λh' eb=>⟨rfl,I.turned (t' :=s.toks) (λb o j e=>eb b o j e) Q y C G J⟩
 self:=λ_ _ _ _ _ st h=>wpAny_pyIter_tupleiter st h
theorem yv {P:Program}{w:World}{K:ai}{J:Expr}(it:Addr)(lo:Int)(n:Nat):yt P w K J (sr lo n) [it] it (λi h=>IsRangeIter h it (lo+(i:Nat)*1) ((n:Int) - (i:Nat)) 1) where
 mem:=by simp
 obj:=λi h st b c=>by
  have e:b=it:=by simpa using c
  subst e;exact⟨_,st,λv z=>by
   have O :Data.fields _=Data.cell v:=z;cases O⟩
 keep:=λi h h' st k=>k it (by simp) _ st
 item:=by
  intro X p y x j i a s C H E I f st u;subst p y x;obtain⟨B,g,D,l,q,r⟩:=f it (by simp)
  have W:=Walks.range (prog:=X.prog) (w:=X.w) (I.ok.hd j) it lo 1 n;refine W.item i s _ _ u st λv h' tk M d N=> ?_;obtain⟨t,rfl⟩:=M;have F:Inv X a C H { s with heap:=h',toks:=tk }:=I.turned (λb o c e=>N b o (by simpa using c) e) B g l q r
  refine⟨_,rfl,yu (s:={ s with heap:=h',toks:=tk }) (n:="range_iterator") d rfl rfl (by decide) ⟨.int (lo+i),H,F,⟨t, ?_⟩,⟨rfl,rfl⟩,d,λb c=>(f b c).1⟩⟩
  rw[Int.mul_one]
 done:=by
  intro X p y x j i a s C H E I f st u;subst p y x;obtain⟨B,g,D,l,q,r⟩:=f it (by simp)
  exact wpAny_pyNext_range_end (I.ok.hd j) st (by have:n<=i:=u;omega) λh' G=>⟨rfl,I.turned (t' :=s.toks) (λb o c e=>G b o c e) B g l q r⟩
 self:=λ_ _ _ _ _ st h=>wpAny_pyIter_rangeiter st h
end L2
namespace L2
open PySem PySem.Spec PyProof.Rows
section
theorem Uj {a:List (Addr×Obj)}{d:St}{H:Hp}{s:Shared}{R:It->Hp->Prop}{E:Value->Shared->Prop}{lo hi:Int}{t u v:Tok}{tk:Nat}(I:Inv X a d H s)(l: -(2 ^ 62)<=lo)(f:lo < 2 ^ 62)(j: -(2 ^ 62)<=hi)(g:hi < 2 ^ 62)
  (q:R (sr lo (hi - lo).toNat) H):wpAny (model X.prog X.w) X.A (pyIter (.ref s.heap.objs.size)) (Em X a d tg R) E { s with heap:=s.heap.push { cls:= .type "range",data:= .fields #[.int lo t,.int hi u,.int 1 v] },toks:=tk }:=by
 refine wpAny_pyIter_range (IsRange.new ..) (small_one l f j g) ?_;have c:Inv X _ d H { s with heap:=s.heap.push { cls:= .type "range",data:= .fields #[.int lo t,.int hi u,.int 1 v] },toks:=tk }:=I.kept λb o e=>ab _ e;refine⟨(s.heap.push _).objs.size,[(s.heap.push _).objs.size],_,_,H,rfl,
  c.kept λb o e=>ab _ e,yv _ lo _, ?_,λb p=> ?_,q⟩
 ·have i:lo+((0:Nat))*1=lo:=by simp
  have k:(((hi - lo).toNat):Int) - ((0:Nat))=ir lo hi 1:=by rw[rangeSize_one];split <;> omega
  rw[i,k];exact af _ rfl
 ·have e:b=(s.heap.push { cls:= .type "range",data:= .fields #[.int lo t,.int hi u,.int 1 v] }).objs.size:=by simpa using p
  subst e;exact c.fpOk (am _) (c.hok.fresh (am _))
def ER (a:TA):TI:=λd H R=>a d H λvs c=>∃j:Int,vs=[.int j]/\ -(2 ^ 62)<=j/\j < 2 ^ 62/\R (sr 0 j.toNat) c
def Mg (d:TA):TI:=λc H R=>d c H λvs a=>∃i j:Int,vs=[.int i,.int j]/\(-(2 ^ 62)<=i/\i < 2 ^ 62/\ -(2 ^ 62)<=j/\j < 2 ^ 62)/\R (sr i (j - i).toNat) a
theorem Yl {a:Expr}{f:TA}{p pos:Pos}(w:Gl X "range")(u:X.mg "range"=none)(g:PA X [a] f)(l:starEach [a] X.env=[(false,eval a X.env)]:=by rfl):PI X tg (.Call (.Name "range" p) [a] [] pos) (ER f):=by
 intro d s k H R I h;refine Call_ (j5 I w u boot_range (a_ (mH (g pos _ s k H _ I h) λy B ⟨vs,C,i,o,c⟩=> ?_) l rfl));obtain⟨j,e,c,x,q⟩:=c;subst e;cases o with
 | cons r v=>
  cases v;obtain⟨t,rfl⟩:=r;exact call_range_1 (Uj i (by omega) (by omega) c x (by simpa using q))
theorem Ym (o:Gl X "range")(B:X.mg "range"=none)(v:PA X [a,b] ta)(y:starEach [a,b] X.env=[(false,eval a X.env),(false,eval b X.env)]:=by rfl)(c:starEach [b] X.env=[(false,eval b X.env)]:=by rfl):
  PI X tg (.Call (.Name "range" p) [a,b] [] pos) (Mg ta):=by
 intro g s x H R I h;refine Call_ (j5 I o B boot_range (a_ (mH (v pos _ s x H _ I h) λG J ⟨vs,F,k,l,f⟩=> ?_) (by rw[y,c]) (by rw[c];rfl)))
 obtain⟨i,j,e,⟨f,D,u,w⟩,q⟩:=f;subst e;cases l with
 | cons r d=>
  cases d with
  | cons C d=>
   cases d;obtain⟨t,rfl⟩:=r;obtain⟨t',rfl⟩:=C;exact call_range_2 (Uj k f D u w q)
def BB (f:TI)(g:TG)(tb:TS):TS:=λD a H=>f a H λJ j=>∃W:Nat->Nat->St->Hp->Prop,(∃m,W 0 m a j)/\∀i m a H,W i m a H->
 (J.stop i H/\D.nx a H)\/(J.go i H/\∃N:St->Hp->Prop,(∀σ' c,N σ' c ->∃e,e < m/\W (i+1) e σ' c)/\∀x c,J.yld i H x c ->g x a c λd k=>tb { D with nx:=N,ct:=N,bk:=D.nx } d k)
noncomputable def Uk (fp:List Addr)(h:Heap):List (Addr×Obj):=fp.filterMap λb=>(h.get? b).map λo=>(b,o)
theorem jt (a:b∈fp)(e:h.get? b=some o):(b,o)∈Uk fp h:=g7.mpr ⟨b,a,by rw[e];rfl⟩
theorem Yn {p:Addr×Obj}(hp:p∈Uk fp h):p.1∈fp/\h.get? p.1=some p.2:=by
 obtain⟨b,a,e⟩:=g7.mp hp;cases q:h.get? b with
 | none=>rw[q]at e;cases e
 | some o=>
  rw[q]at e;have c :=aH e;subst c;exact⟨a,q⟩
theorem Inv.pinned (I:Inv X pins σ H s)(i:∀b∈fp,wC X pins H b)(j:∀b∈fp,∃o,s.heap.get? b=some o/\∀v,o.data ≠ .cell v):Inv X (pins++Uk fp s.heap) σ H s:=
 I.pins_of λp hp=>(aW.mp hp).elim (λz=>I.pin p (aG _ z)) λz=>by
  obtain⟨a,e⟩:=Yn z;obtain⟨k,f,g,_⟩:=i p.1 a;obtain⟨o,c,d⟩:=j p.1 a;rw[e]at c;cases c;exact⟨e,k,f,g,d⟩
theorem Inv.unpinned (I:Inv X (pins++pl) σ H s):Inv X pins σ H s:=I.pins_of λp hp=>I.pin p (aG _ (dM _ hp))
theorem xP (hp:PassesOwn (model X.prog X.w) X.A X.env X.xe)(hc:X.calm=true)(hi:PI X tg iter wi)(hg:PG X tg g)(k:PSs X body tb)
  (hs:∀x,foldedSetIterable iter X.env x=pure x:=by intro _;rfl):PS X (.For tg iter body [] pos) (BB wi g tb):=by
 intro G s σ H D I h;refine wpAny_For (mH (hi _ s σ H _ I h) λv s1 h1=>mH h1 λitv s2 h2=> ?_) hs;obtain⟨it,fp,Z,J,H2,e,I2,T,nO,f2,W,⟨m0,w0⟩,O⟩:=h2;subst e;have c:∀{q :Hp},(∀b∈fp,q b=none)->∀b∈fp,wC X _ q b:=λhn b k=>⟨hn b k,(f2 b k).2⟩;refine codeAny_forLoop_any (λn s' =>∃i σ' q,Inv X _ σ' q s' /\Z i s'.heap/\(∀b∈fp,q b=none)/\W i n σ' q) ?_ m0 ⟨0,σ,H2,I2,nO,λb k=>(f2 b k).1,w0⟩
 rintro n s3 ⟨i,p,H3,I3,F,M,w3⟩
 rcases O i n p H3 w3 with ⟨P,qn⟩ | ⟨go,N,hN,step⟩
 ·refine cJ hp (mH (T.done X rfl rfl rfl hc i _ s3 p H3 _ I3 (c M) F P) λr s4 ⟨hr,I4⟩=> ?_);subst hr;exact wpAny_execs_nil ⟨p,H3,I4,qn⟩
 ·refine cJ hp (mH (T.item X rfl rfl rfl hc i _ s3 p H3 _ I3 (c M) F go) λr s4 ⟨u,hr,h4⟩=> ?_);subst hr;refine cJ hp (mH h4 λ_ s5 ⟨x,H5,I5,r5,y5,B,U⟩=> ?_);have S :=I5.pinned (c U) (T.obj _ _ B);refine cJ hp (mH (hg _ s5 p H5 x u _ S r5 (step x H5 y5)) λ_ s6 ⟨Q,H6,I6,q6⟩=> ?_);refine cJ hp (mH (k _ s6 Q H6 _ I6 q6) λf s7 y=> ?_);have again:∀{a:St} {l:Hp},Inv X (G++Uk fp _) a l s7->N a l->∃m,m < n/\∃i σ' q,Inv X _ σ' q s7/\Z i _/\(∀b∈fp,q b=none)/\W i m σ' q :=λ{a l} j C=>by
   obtain⟨m',hm,w7⟩:=hN a l C;refine⟨m',hm,i+1,a,l,j.unpinned,T.keep _ _ _ B λb k o e=>(j.pin _ (aG _ (aG _ (jt k e)))).1,λb k=> ?_,w7⟩;obtain⟨o,e,d⟩:=T.obj _ _ B b k;exact(j.pin _ (aG _ (aG _ (jt k e)))).2.1
  cases f with
  | next=>obtain⟨a,l,j,C⟩:=y;exact again j C
  | cont=>obtain⟨a,l,j,C⟩:=y;exact again j C
  | brk=>obtain⟨a,l,j,y⟩:=y;exact⟨a,l,j.unpinned,y⟩
  | ret v=>obtain⟨x7,a,l,j,r7,y⟩:=y;exact⟨x7,a,l,j.unpinned,r7,y⟩
end
end L2
namespace L2
open PySem PySem.Spec PyProof.Rows
abbrev R2:=V->V->Hp->VK->Prop
def mO (X:Cx)(f:Value->Value->Sem Value)(r:R2):Prop:=
 ∀(a:List (Addr×Obj)) (s:Shared) (c:St) (H:Hp) (x y:V) (v u:Value) (Q:VK),Inv X a c H s->RelV x v->RelV y u->r x y H Q->
  wpAny (model X.prog X.w) X.A (f v u) (EP X a c Q) X.xe s
def Bj (X:Cx)(f:Value->Sem Value)(r:V->Hp->VK->Prop):Prop:=
 ∀(a:List (Addr×Obj)) (s:Shared) (c:St) (H:Hp) (x:V) (v:Value) (Q:VK),Inv X a c H s->RelV x v->r x H Q->
  wpAny (model X.prog X.w) X.A (f v) (EP X a c Q) X.xe s
def Z7 (X:Cx)(f:Value)(r:List V->Hp->VK->Prop):Prop:=
 ∀(a:List (Addr×Obj)) (s:Shared) (d:St) (H:Hp) (xs:List V) (c:List Value) (Q:VK),Inv X a d H s->Vals xs c->r xs H Q->
  wpAny (model X.prog X.w) X.A (call f c) (EP X a d Q) X.xe s
def By (X:Cx)(r:V->Hp->(Bool->Hp->Prop)->Prop):Prop:=
 ∀(a:List _) (s:Shared) (c:St) (H:Hp) (x:V) (v:Value) (Q:Bool->Hp->Prop),Inv X a c H s->RelV x v->r x H Q->
  wpAny (model X.prog X.w) X.A (truthy v) (TP X a c Q) X.xe s
def AH (r:R2)(d tb:TE):TE:=λa H Q=>d a H λx c=>tb a c λy e=>r x y e Q
def EM (r:V->Hp->VK->Prop)(a:TE):TE:=λd H Q=>a d H λx c=>r x c Q
def rI (C:Int->Int->Prop)(g:Int->Int->V):R2:=λx y H Q=>∃i j,x= .int i/\y= .int j/\C i j/\Q (g i j) H
def oH (g:Int->Int->V):R2:=λx y H Q=>∃i j,x= .int i/\y= .int j/\Q (g i j) H
def rU (g:Int->V):V->Hp->VK->Prop:=λx H Q=>∃i,x= .int i/\Q (g i) H
section
theorem Cz (k:PE X a ta)(C:PE X b tb){R:V->V->Hp->Prop}(I:Inv X pins σ H s)
  (h:ta σ H λx i=>tb σ i λy c=>R x y c) {Q:Value->Shared->Prop} {f:Value->Value->Sem Value}
  (o:∀v u g x y c,Inv X pins σ c g->RelV x v->RelV y u->R x y c->wpAny (model X.prog X.w) X.A (f v u) Q X.xe g):
  wpAny (model X.prog X.w) X.A (eval a X.env) (λv e=>wpAny (model X.prog X.w) X.A (eval b X.env) (λu d=>wpAny (model X.prog X.w) X.A (f v u) Q X.xe d) X.xe e) X.xe s:=by
 refine mH (k _ s σ H _ I h) λv p ⟨x,i,l,q,B⟩=> ?_;refine mH (C _ p σ i _ l B) λu g ⟨y,c,j,r,D⟩=> ?_;exact o v u g x y c j q r D
theorem LV (i:mO X (binaryOp op) r)(f:PE X a ta)(o:PE X b tb):PE X (.BinOp a op b pos) (AH r ta tb):=by
 intro c s g H Q I h;exact wpAny_BinOp (Cz f o I h λv u e x y k d l j q=>i _ e g k x y v u Q d l j q)
theorem Ik {op:UnaryOp}{r:V->Hp->VK->Prop}(i:Bj X (unaryOp op) r)(e:PE X a ta):PE X (.UnaryOp op a pos) (EM r ta):=by
 intro d s c H Q I h;exact UnaryOp_ (mH (e _ s c H _ I h) λv g ⟨x,k,f,j,l⟩=>i _ g c k x v Q f j l)
theorem rM {f:Value->Value->Sem Value}{C:Int->Int->Prop}{g:Int->Int->Int}
  (rule:∀(i j:Int) (t u:Tok) (s:Shared) (Q:Value->Shared->Prop) (E:Value->Shared->Prop),C i j->Q (.int (g i j) s.toks) { s with toks:=s.toks+1 }->wpAny (model X.prog X.w) X.A (f (.int i t) (.int j u)) Q E s):
  mO X f (rI C λi j=> .int (g i j)):=by
 intro a s k H x y v u Q I e d h;obtain⟨i,j,rfl,rfl,c,q⟩:=h;obtain⟨t,rfl⟩:=e;obtain⟨t',rfl⟩:=d;exact rule i j t t' s _ _ c ⟨.int _,H,I.tok _,⟨_,rfl⟩,q⟩
theorem rn {f:Value->Value->Sem Value}{g:Int->Int->Int}
  (rule:∀(i j:Int) (t u:Tok) (s:Shared) (Q:Value->Shared->Prop) (E:Value->Shared->Prop),Q (.int (g i j) s.toks) { s with toks:=s.toks+1 }->wpAny (model X.prog X.w) X.A (f (.int i t) (.int j u)) Q E s):
  mO X f (oH λi j=> .int (g i j)):=by
 intro a s e H x y v u Q I d c h;obtain⟨i,j,rfl,rfl,q⟩:=h;obtain⟨t,rfl⟩:=d;obtain⟨t',rfl⟩:=c;exact rule i j t t' s _ _ ⟨.int _,H,I.tok _,⟨_,rfl⟩,q⟩
theorem AS {f:Value->Value->Sem Value}{g:Int->Int->Bool}
  (rule:∀(i j:Int) (t u:Tok) (s:Shared) (Q:Value->Shared->Prop) (E:Value->Shared->Prop),Q (.bool (g i j)) s->wpAny (model X.prog X.w) X.A (f (.int i t) (.int j u)) Q E s):
  mO X f (oH λi j=> .bl (g i j)):=by
 intro a s e H x y v u Q I d c h;obtain⟨i,j,rfl,rfl,q⟩:=h;obtain⟨t,rfl⟩:=d;obtain⟨t',rfl⟩:=c;exact rule i j t t' s _ _ ⟨.bl _,H,I,rfl,q⟩
noncomputable def DA (i j:Int):Prop:=0 < j/\j < 1073741824
noncomputable def uN (i j:Int):Prop:=(-(2 ^ 64) < i/\i < 2 ^ 64)\/(-(2 ^ 64) < j/\j < 2 ^ 64)
theorem uN.ok (h:uN i j):IntMulOk i j:=by
 rcases h with ⟨c,a⟩ | ⟨c,a⟩
 ·exact .of_left (intBits_le_64 c a)
 ·exact .of_right (intBits_le_64 c a)
theorem Gy:mO X (binaryOp .Add) (oH λi j=> .int (i+j)):=rn λ_ _ _ _ _ _ _ q=>add_int q
theorem Gz:mO X (binaryOp .Sub) (oH λi j=> .int (i - j)):=rn λ_ _ _ _ _ _ _ q=>sub_int q
theorem GA:mO X (binaryOp .Mult) (rI uN λi j=> .int (i*j)):=rM λ_ _ _ _ _ _ _ a q=>mul_int q a.ok
theorem ke:mO X (binaryOp .FloorDiv) (rI DA λi j=> .int (i / j)):=rM λi j _ _ _ _ _ a q=>by
 have c:=a.1;have d:=a.2;exact floordiv_int (by omega) (by rw[g_ i (by omega)];exact q) (.inl (PyProof.noPylong_small (by omega)))
theorem GB:mO X (binaryOp .Mod) (rI (λ_ j=>0 < j) λi j=> .int (i % j)):=rM λi j _ _ _ _ _ a q=>by
 exact mod_int' (by omega) (by rw[Int.fmod_eq_emod_of_nonneg i (by omega)];exact q)
theorem HZ {f:Value->Sem Value}{g:Int->Int}
  (rule:∀(i:Int) (t:Tok) (s:Shared) (Q:Value->Shared->Prop) (E:Value->Shared->Prop),Q (.int (g i) s.toks) { s with toks:=s.toks+1 }->wpAny (model X.prog X.w) X.A (f (.int i t)) Q E s):
  Bj X f (rU λi=> .int (g i)):=by
 intro a s d H x v Q I c h;obtain⟨i,rfl,q⟩:=h;obtain⟨t,rfl⟩:=c;exact rule i t s _ _ ⟨.int _,H,I.tok _,⟨_,rfl⟩,q⟩
theorem GC:Bj X (unaryOp .USub) (rU λi=> .int (-i)):=HZ λ_ _ _ _ _ q=>neg_int q
theorem Yo:mO X (binaryOp .Add) (λx y H Q=>∃i k,x= .int i/\y= .bl k/\Q (.int (i+b2i k)) H):=by
 intro a s e H x y v u Q I d c h;obtain⟨i,k,rfl,rfl,q⟩:=h;obtain⟨t,rfl⟩:=d;cases c;exact add_int_bool ⟨.int _,H,I.tok _,⟨_,rfl⟩,q⟩
end
section
theorem IV:mO X (compareOp .Lt) (oH λi j=> .bl (decide (i < j))):=AS λ_ _ _ _ _ _ _ q=>lt_int q
theorem Lv:mO X (compareOp .LtE) (oH λi j=> .bl (decide (i<=j))):=AS λ_ _ _ _ _ _ _ q=>le_int q
theorem ET:mO X (compareOp .Gt) (oH λi j=> .bl (decide (j < i))):=AS λ_ _ _ _ _ _ _ q=>gt_int q
theorem LZ:mO X (compareOp .GtE) (oH λi j=> .bl (decide (j<=i))):=AS λ_ _ _ _ _ _ _ q=>ge_int q
theorem ZY (b:Expr)(h:op ≠ .In:=by decide)(c:op ≠ .NotIn:=by decide):behindInMarks op b=false:=by
 have a:(op == CmpOp.In)=false:=by cases op <;> first | rfl | exact absurd rfl h
 have d:(op == CmpOp.NotIn)=false:=by cases op <;> first | rfl | exact absurd rfl c
 cases b <;> simp[behindInMarks,a,d]
theorem kg (i:mO X (compareOp op) r)(f:PE X a ta)(p:PE X b tb)(l:behindInMarks op b=false):PE X (.Compare a [op] [b] pos) (AH r ta tb):=by
 intro c s g H Q I h;exact wpAny_Compare1 (Cz f p I h λv u e x y k d o j q=>i _ e g k x y v u Q d o j q) l
def GD (t:TE):TT:=λc H Q=>t c H λx a =>∃k,x= .bl k/\Q k a
theorem kh (G:mO X (compareOp op) r)(D:PE X a ta)(w:PE X b tb)(J:behindInMarks op b=false):PT X (.Compare a [op] [b] pos) (GD (AH r ta tb)):=by
 intro f s d H Q I h;refine wpAny_isTrue_Compare1 (mH (D _ s d H _ I h) λv F ⟨x,o,j,l,q⟩=>mH (w _ F d o _ j q) λu i ⟨y,B,g,p,O⟩=>
  mH (G _ i d B x y v u _ g l p O) λc P ⟨z,H3,M,N,k,e,C⟩=> ?_) J
 subst e;cases N;exact bh ⟨H3,M,C⟩
def xQ (r e :R2)(f tb tc:TE):TE:=λa H Q=>f a H λx d=>tb a d λy g=>r x y g λz H3=>∃k,z= .bl k/\
 (if k=true then tc a H3 λi c=>e y i c Q else Q (.bl false) H3)
theorem V7 (ho:mO X (compareOp op) r)(g :mO X (compareOp op') r')(U:PE X a ta)(M:PE X b tb)(C:PE X c tc)
  (hm:lastMarks [op,op'] [b,c]=false:=by with_unfolding_all rfl):PE X (.Compare a [op,op'] [b,c] pos) (xQ r r' ta tb tc):=by
 intro o s f H Q I h;refine Compare_chain (mH (U _ s f H _ I h) λv s1 ⟨x,G,B,D,J⟩=>chain_link (mH (M _ s1 f G _ B J) λu w ⟨y,P,p,i,q2⟩=>
  mH (ho _ w f P x y v u _ p D i q2) λd F ⟨z,H3,l,r3,k,e,j⟩=> ?_)) hm
 subst e;cases r3;refine bh ?_;cases k with
 | false=>exact ite_ff ⟨.bl _,H3,l,rfl,j⟩
 | true=>exact ite_tt (chain_last (mH (C _ F f H3 _ l j) λO S ⟨z',q,N,r4,Z⟩=>g _ S f q y z' u O Q N i r4 Z))
theorem V8 (ho:mO X (compareOp op) r)(g :mO X (compareOp op') r')(ha:PE X a ta)(O:PE X b tb)(C:PE X c tc)
  (hm:lastMarks [op,op'] [b,c]=false:=by with_unfolding_all rfl):PT X (.Compare a [op,op'] [b,c] pos) (GD (xQ r r' ta tb tc)):=by
 intro o s f H Q I h;refine isTrue_chain (mH (ha _ s f H _ I h) λv s1 ⟨x,M,B,F,N⟩=>test_link (mH (O _ s1 f M _ B N) λu w ⟨y,U,p,i,q2⟩=>
  mH (ho _ w f U x y v u _ p F i q2) λd J ⟨z,H3,l,r3,k,e,j⟩=> ?_)) hm
 subst e;cases r3;refine bh ?_;cases k with
 | false=>
  obtain⟨k',Z,G⟩:=j;cases Z;exact ite_ff ⟨H3,l,G⟩
 | true=>
  refine ite_tt (test_last (mH (C _ J f H3 _ l j) λS s4 ⟨z',q,P,r4,q4⟩=>mH (g _ s4 f q y z' u S _ P i r4 q4) λd' s5 ⟨z2,H5,I5,D,k2,e2,q5⟩=> ?_));subst e2;cases D;exact bh ⟨H5,I5,q5⟩
def sw (K:ai)(x:V)(H:Hp)(k:Bool):Prop:=
 match x with
 | .non=>k=false
 | .bl b=>k=b
 | .int i=>k=(i != 0)
 | .str y=>y.length<=sizeLine/\k=((y.length:Int) != 0)
 | .byt y=>y.size<=sizeLine/\k=((y.size:Int) != 0)
 | .ref p=>(∃xs,SqL K H p xs/\k= !xs.isEmpty)\/(∃xs,SqT K H p xs/\k= !xs.isEmpty)\/∃kvs,H p=some (.dK kvs)/\k= !kvs.isEmpty
 | _=>False
theorem yw {a:Type}{kvs:List (a×V)}{vs:List (a×Value)}(r:KV kvs vs):(!vs.isEmpty)= !kvs.isEmpty:=by
 cases r <;> rfl
theorem wO (r:Vals xs its):(!its.toArray.isEmpty)= !xs.isEmpty:=by
 cases r <;> simp
theorem WW:(sizeLine:Nat) < 2 ^ 63:=by decide
theorem GE:By X (λx H Q=>∃k,sw X.K x H k/\Q k H):=by
 intro j s o H x v Q I d h;obtain⟨k,e,q⟩:=h;have u:=bY;cases x with
 | non=>
  cases d;have a :k=false:=e;subst a;exact truthy_none ⟨H,I,q⟩
 | bl b=>
  cases d;have a :k=b:=e;subst a;exact bh ⟨H,I,q⟩
 | int i=>
  obtain⟨t,rfl⟩:=d;have a :k=(i != 0):=e;subst a;exact PySem.P.truthy_int ⟨H,I,q⟩
 | str y=>
  obtain⟨t,rfl⟩:=d;obtain⟨hy,a⟩:y.length<=sizeLine/\k=((y.length:Int) != 0):=e;subst a;exact PySem.P.truthy_str (by omega) ⟨H,I.tok _,q⟩
 | byt y=>
  obtain⟨t,rfl⟩:=d;obtain⟨hy,a⟩:y.size<=sizeLine/\k=((y.size:Int) != 0):=e;subst a;exact PySem.W.truthy_bytes (by omega) ⟨H,I.tok _,q⟩
 | ref p=>
  cases d;have a :=e;rcases a with ⟨xs,f,a⟩ | ⟨xs,f,a⟩ | ⟨kvs,f,a⟩
  ·subst a;obtain⟨g,r,pl,hz⟩:=I.list f;have c:=r.length;exact wpAny_truthy_list pl.isList (by simp only[aD];omega) ⟨H,I.tok _,by rw[wO r];exact q⟩
  ·subst a;obtain⟨g,r,pl,hz⟩:=I.tuple f;have c:=r.length;exact truthy_tuple pl (by simp only[aD];omega) ⟨H,I.tok _,by rw[wO r];exact q⟩
  ·subst a;obtain⟨hz,l,vs,r,m⟩:kvs.length<=sizeLine/\(p == sysModules)=false/\∃vs,KV kvs vs/\s.heap.DictOf _ p vs:=I.hok p _ f;have c:=e9 r;exact wpAny_truthy_dict l m (by omega) ⟨H,I.tok _,by rw[yw r];exact q⟩
 | _=>exact(e).elim
theorem V9 (g:PE X a ta)(o:∀c,isTrue a X.env c=(do let v ← c;standAt a.pos;holding [v] (truthy v))):
  PT X a (λd H Q=>ta d H λx e =>∃k,sw X.K x e k/\Q k e):=by
 intro f s d H Q I h;exact isTrue_plain (mH (g _ s d H _ I h) λv j ⟨x,p,i,l,q⟩=>GE _ j d p x v Q i l q) (o _)
theorem yx:mO X (binaryOp .Add) (λx y H Q=>∃i j,x= .str i/\y= .str j/\i.length+j.length<=sizeLine/\Q (.str (i++j)) H):=by
 intro a s e H x y v u Q I d c h;obtain⟨i,j,rfl,rfl,hz,q⟩:=h;obtain⟨t,rfl⟩:=d;obtain⟨t',rfl⟩:=c;exact add_str (λt' tk=>⟨.str _,H,I.tok _,⟨_,rfl⟩,q⟩) hz
theorem Zn (r:Vals [x] us):∃u,us=[u]/\RelV x u:=by
 cases r with
 | cons a c=>cases c;exact⟨_,rfl,a⟩
theorem uR (r:Vals [x,y] us):∃u a,us=[u,a]/\RelV x u/\RelV y a :=by
 cases r with
 | cons e d=>
  cases d with
  | cons f c=>cases c;exact⟨_,_,rfl,e,f⟩
theorem Va:Z7 X (.builtin "abs") (λxs H Q=>∃i,xs=[.int i]/\Q (.int (if i < 0 then -i else i)) H):=by
 intro a s d H xs c Q I r h;obtain⟨i,rfl,q⟩:=h;obtain⟨u,rfl,t,rfl⟩:=Zn r;exact call_abs_int λu tk=>⟨.int _,H,I.tok _,⟨_,rfl⟩,q⟩
theorem Yp (d:X.calm=true):Z7 X (.builtin "max") (λxs H Q=>∃i j,xs=[.int i,.int j]/\Q (.int (if j > i then j else i)) H):=by
 intro c s f H xs e Q I r h;obtain⟨i,j,rfl,q⟩:=h;obtain⟨u,g,rfl,⟨t,rfl⟩,⟨t',rfl⟩⟩:=uR r;refine max_two_ints (I.ok.hd d) λh' tk k=>⟨_,H,I.kept k, ?_,q⟩
 by_cases a:j > i
 ·rw[if_pos a,if_pos a];exact⟨_,rfl⟩
 ·rw[if_neg a,if_neg a];exact⟨_,rfl⟩
theorem Yq (d:X.calm=true):Z7 X (.builtin "min") (λxs H Q=>∃i j,xs=[.int i,.int j]/\Q (.int (if j < i then j else i)) H):=by
 intro c s f H xs e Q I r h;obtain⟨i,j,rfl,q⟩:=h;obtain⟨u,g,rfl,⟨t,rfl⟩,⟨t',rfl⟩⟩:=uR r;refine min_two_ints (I.ok.hd d) λh' tk k=>⟨_,H,I.kept k, ?_,q⟩
 by_cases a:j < i
 ·rw[if_pos a,if_pos a];exact⟨_,rfl⟩
 ·rw[if_neg a,if_neg a];exact⟨_,rfl⟩
theorem Yr:Z7 X (.type "int") (λxs H Q=>(∃i,xs=[.int i]/\Q (.int i) H)\/∃k,xs=[.bl k]/\Q (.int (if k then 1 else 0)) H):=by
 intro a s e H xs d Q I r h;rcases h with ⟨i,rfl,q⟩ | ⟨k,rfl,q⟩
 ·obtain⟨u,rfl,t,rfl⟩:=Zn r;exact call_int_int ⟨.int i,H,I,⟨_,rfl⟩,q⟩
 ·obtain⟨u,rfl,c⟩:=Zn r;cases c;exact call_int_bool ⟨.int _,H,I.tok _,⟨_,rfl⟩,q⟩
end
end L2
namespace L2
open PySem PySem.Spec PyProof.Rows
structure z3i (h:Heap) (x dx C:Addr) (mA:Str->Option Value):Prop where
 obj:h.get? x=some (iM C dx)
 ns:h.Ns1 dx mA
 ne:dx ≠ x
theorem Ys {h:Heap}{d:Addr}{f:Str->Option Value}(n:h.Ns1 d f):∃i,h.get? d=some i/\∀name,iT name i=some (f name):=by
 obtain⟨o,g,ep,k,hd,p,_,l⟩:=n;refine⟨o,k,λname=> ?_⟩;have e:=l name;unfold nsFind findBy at e;rw[← Array.find?_toList]at e;unfold iT;rw[hd];dsimp only;split
 ·rename_i y q;rw[q]at e;exact congrArg _ e
 ·rename_i q;rw[q]at e;have a:g.toList.any (·.refKey)=false:=by
   rw[lE];intro y hy;obtain⟨z,t,c⟩:=p y (Array.mem_toList_iff.mp hy);simp[DictEntry.refKey,c]
  have j :¬ g.toList.any (·.refKey)=true:=by rw[a];exact ax
  rw[if_neg j];exact congrArg _ e
theorem z3i.look (I:z3i h x dx C mA):∃a,PySem.W.InstAt h x (iM C dx) C (some a)/\∀name,iT name a=some (mA name):=
 let ⟨a,ho,hl⟩:=Ys I.ns
 ⟨a,⟨I.obj,rfl,rfl,ho⟩,hl⟩
section
theorem ki (g:HOk P w H h)(e:H a=some (.ins C dx fs)):∃c,z3i h a dx C c/\(∀f,tX (fs.lookup f) (c f))/\PySem.Within c (fs.map (·.1))/\fs.length<=1000/\H dx=some (.own a):=by
 obtain⟨d,z,i,ob,c,n,r,q⟩:=(show zQ P w H h a _ from g a _ e);exact⟨c,⟨ob,n,i⟩,r,q,z,d⟩
end
structure Cls (K:ai) (C:Addr):Prop where
 pg:lY K C Str.empty=true
 hd:PySem.W.hasDictIn K C=true
 po:PySem.W.plainOver K C=true
 sa:PySem.W.findIn K (.ref C) "__setattr__"=some (some (.builtin "object.__setattr__"))
theorem Cls.get {K:ai}{C:Addr}(c:Cls K C)(f:Str):lY K C f=true:=c.pg
section
end
section
end
section
inductive yy (K:ai) (H:Hp):V->Value->Prop where
 | non:yy K H .non (.type "NoneType")
 | bl (x:Bool):yy K H (.bl x) (.type "bool")
 | int (i:Int):yy K H (.int i) (.type "int")
 | str (x:Str):yy K H (.str x) (.type "str")
 | flt (x:UInt64):yy K H (.flt x) (.type "float")
 | lst {a:Addr} {xs:List V} (e:H a=some (.lst xs)):yy K H (.ref a) (.type "list")
 | frz {a:Addr} {o:Obj} {xs:List V} (e:H a=some (.frz o (.lst xs))):yy K H (.ref a) (.type "list")
 | tup {a:Addr} {xs:List V} (e:H a=some (.tup xs)):yy K H (.ref a) (.type "tuple")
 | dK {a:Addr} {kvs:List (mM×V)} (e:H a=some (.dK kvs)):yy K H (.ref a) (.type "dict")
 | dT {a:Addr} {kvs:List (List mM×Addr×V)} (e:H a=some (.dT kvs)):yy K H (.ref a) (.type "dict")
 | ins {a C dx:Addr} {fs:List (Str×V)} (e:H a=some (.ins C dx fs)) (cl:Cls K C) (ha:PySem.W.findIn K (.ref C) "__class__"=some (some (.builtin "object.__class__")))
   (hn:PySem.W.specialIn K (.builtin "object.__class__") "__get__"=some (some (.builtin "getset_descriptor.__get__"))) (htk:PySem.W.takesIn K (.builtin "object.__class__")=some true)
   (hm:PySem.W.mroIn K C (.type "object")=some true):yy K H (.ref a) (.ref C)
theorem Yt (I:Inv X pins σ H s)(f:RelV x u)(l:yy X.K H x t)(e:bL X.K t c=some b)(h:∀tk,Q (.bool b) { s with toks:=tk }):
  wpAny (model X.prog X.w) A (call (.builtin "isinstance") [u,c]) Q E s:=by
 cases l with
 | non=>cases (f);exact bO lF I.kIn True.intro e (λz=>nomatch z) h
 | bl y=>cases (f);exact bO lG I.kIn True.intro e (λz=>nomatch z) h
 | int i=>obtain⟨t,q⟩:=(f);cases q;exact bO lZ I.kIn True.intro e (λz=>nomatch z) h
 | str y=>obtain⟨t,q⟩:=(f);cases q;exact bO l_ I.kIn True.intro e (λz=>nomatch z) h
 | flt y=>obtain⟨t,q⟩:=(f);cases q;exact bO PySem.W.kitx_float I.kIn True.intro e (λz=>nomatch z) h
 | @lst a xs d=>
  cases (f);obtain⟨_,_,n,_,g⟩:=(show zQ _ X.w H _ a _ from I.hok a _ d);exact bO eM I.kIn ⟨_,g,rfl⟩ e (λz=>nomatch z) h
 | @frz a ob xs d=>
  cases (f);obtain⟨_,_,_,n,_,g⟩:=(show zQ _ X.w H _ a _ from I.hok a _ d);exact bO eM I.kIn ⟨_,g,rfl⟩ e (λz=>nomatch z) h
 | @tup a xs d=>
  cases (f);obtain⟨_,_,_,p,_⟩:=(show zQ _ X.w H _ a _ from I.hok a _ d);obtain⟨o,g,j,_⟩:=p;exact bO ll I.kIn ⟨o,g,j⟩ e (λz=>nomatch z) h
 | @dK a kvs d=>
  cases (f);obtain⟨_,_,vs,_,p⟩:=(show zQ _ X.w H _ a _ from I.hok a _ d);obtain⟨o,v,ep,g,j,_⟩:=p;exact bO lH I.kIn ⟨o,g,j.1⟩ e (λz=>nomatch z) h
 | @dT a kvs d=>
  cases (f);obtain⟨_,_,xs,_,o,v,ep,g,j,_⟩:=(show zQ _ X.w H _ a _ from I.hok a _ d);exact bO lH I.kIn ⟨o,g,j.1⟩ e (λz=>nomatch z) h
 | @ins a C D fs d cl r hn k B=>
  cases (f);obtain⟨F,O,_⟩:=ki I.hok d;obtain⟨G,J,_⟩:=O.look;exact bO (PySem.W.kitx_own (cl.get _) cl.hd r hn k B) I.kIn J e (λz=>nomatch z) h
end
end L2
namespace L2
open PySem PySem.Spec PyProof.Rows
structure ja (k:Nat) (A:Around):Prop where
 hd:A.handled=none
 dp:A.depth+3*k+5 < recursionLimit
 un:A.units+16*k+200 < cLine
 gd:A.guards=some []
theorem ja.mono (r:ja k A)(h:j<=k):ja j A:=⟨r.hd,by have:=r.dp;omega,by have:=r.un;omega,r.gd⟩
theorem ja.deeper (r:ja (k+1) A)(env:Env):ja k (A.deeper env):=
 ⟨r.hd,by have:=r.dp;show A.depth+1+3*k+5 < _;omega,by have:=r.un;show A.units+3+16*k+200 < _;omega,r.gd⟩
theorem ja.depth (r:ja k A):A.depth < recursionLimit:=by have:=r.dp;omega
theorem ja.units (r:ja k A):A.units+64 < cLine:=by have:=r.un;omega
def rc:TA:=λ_ H Q=>Q [] H
def GF (d:TE)(tr:TA):TA:=λa H Q=>d a H λx c=>tr a c λxs e=>Q (x :: xs) e
section
theorem zH:PA X [] rc:=λ_ _ _ _ H Q I h=>lI ⟨[],H,I,.nil,h⟩
theorem zm (f:PE X e te)(hr:PA X es t)(i:starEach (e :: es) X.env=(false,eval e X.env) :: starEach es X.env:=by rfl):PA X (e :: es) (GF te t):=by
 intro pos c s a H Q I h;rw[i];refine lm (mH (f _ s a H _ I h) λu j ⟨x,l,g,k,p⟩=> ?_);exact mH (hr pos _ j a l _ g p) λv w ⟨xs,q,d,o,r⟩=>⟨x :: xs,q,d,.cons k o,r⟩
def CI (t:TA):TE:=λc H Q=>t c H λxs a=>xs.length<=sizeLine/\∀p,a p=none->Q (.ref p) (mz a p (.tup xs))
def BL (t:TA):TE:=λc H Q=>t c H λxs a=>xs.length<=sizeLine/\∀p,a p=none->Q (.ref p) (mz a p (.lst xs))
theorem xR {x1}(h:PA X es t):PE X (.Tuple es x1 pos) (CI t):=by
 intro c s f H Q I j;refine wpAny_Tuple_spliced (mH (h pos _ s f H _ I j) λd k ⟨xs,i,a,r,z,q⟩=>⟨by rw[← r.length];exact z, ?_⟩)
 have g:=a.hok.fresh (am _);refine⟨.ref _,mz i _ _,a.laid (λb u e=>ab _ e) (am _) ?_,rfl,q _ g⟩;exact⟨z,d,r,⟨_,af _ rfl,rfl,_,rfl⟩,.inr ⟨_,af _ rfl,rfl⟩⟩
theorem Yu (h:PA X es t):PE X (.List es pos) (BL t):=by
 intro c s f H Q I j;refine wpAny_List_spliced (mH (h pos _ s f H _ I j) λd k ⟨xs,i,a,r,z,q⟩=>⟨by rw[← r.length];exact z, ?_⟩)
 have g:=a.hok.fresh (am _);refine⟨.ref _,mz i _ _,a.laid (λb u e=>ab _ e) (am _) ?_,rfl,q _ g⟩;exact⟨z,d,0,r,af _ rfl⟩
end
abbrev Sp:=List V->Hp->VK->XK->Prop
abbrev nX:=List Env->Hp->Shared->XK->Value->Shared->Prop
structure xS (P:Program) (w:World) (K:ai) (mg:Str->Option Value) (base:Heap) (A:Around) (outer:List Env) (s:Shared) (H:Hp):Prop where
 frames:A.frames=some outer
 mod:Mod K mg base
 bs:∀b o,base.get? b=some o->s.heap.get? b=some o/\H b=none
 bsz:base.objs.size<=s.heap.objs.size
 funs:s.heap.FunFrames base outer
 frf:∀b∈ng outer,H b=none
 hok:HOk P w H s.heap
 bare:AllBare s.gens
def CE (outer:List Env)(P:Program)(w:World)(H:Hp)(s:Shared)(Q:VK)(u:Value)(a :Shared):Prop:=
 ∃v c,a.os=s.os/\AllBare a.gens/\Un (ng outer) [] H c s.heap a.heap/\HOk P w c a.heap/\RelV v u/\Q v c
def CR (CX:nX)(outer:List Env)(P:Program)(w:World)(H:Hp)(s:Shared)(Q:VK)(E:XK)(r:Result)(a :Shared):Prop:=
 match r with
 | .ok (.ret u)=>CE outer P w H s Q u a
 | .ok _=>False
 | .error e=>CX outer H s E e a
structure wD (P:Program) (w:World) (K:ai) (mg:Str->Option Value) (base:Heap) (CX:nX) (k:Nat) (f:Addr) (fd:FuncData) (ps:List Str) (sp:Sp):Prop where
 len:∀vs H Q E,sp vs H Q E->vs.length=ps.length
 run:∀(A:Around) (outer:List Env) (s:Shared) (H:Hp) (args:Args) (us:List Value) (vs:List V) (Q:VK) (E:XK),ja k A->xS P w K mg base A outer s H->BindsTo s fd args (ps.zip us)->Vals vs us->sp vs H Q E->
  codeAny (model P w) A (.call (.ref f) args) (CR CX outer P w H s Q E) s
theorem wD.imp {P:Program}{w:World}{K:ai}{c:Str->Option Value}{base:Heap}{CX:nX}{k:Nat}{f:Addr}{d:FuncData}{e:List Str}{sp a :Sp}(F:wD P w K c base CX k f d e sp)
  (h:∀vs H Q E,a vs H Q E->sp vs H Q E):wD P w K c base CX k f d e a :=
 ⟨λvs H Q E q=>F.len vs H Q E (h _ _ _ _ q),λA outer s H args g vs Q E hr j o l i=>F.run A _ s H _ g vs Q E hr j o l (h _ _ _ _ i)⟩
section
theorem Inv.env0 (I:Inv X pins σ H s):xS X.prog X.w X.K X.mg X.base X.A X.stack s H:=
 ⟨I.ok.frames,I.ok.mod,I.bs,av I.ok.bsz I.sz,I.stack,I.stkFree,I.hok,I.bare⟩
theorem Inv.after (I:Inv X pins σ H s)(h:CE X.stack X.prog X.w H s Q u s'):EP X pins σ Q u s' :=by
 obtain⟨v,f,os,a,un,c,r,q⟩:=h;obtain⟨i,g,d,t,e⟩:=s';obtain rfl:e =s.os:=os;exact⟨v,f,I.call un c a (λb z=>absurd z (by simp)),r,q⟩
end
def HB (sp:Sp)(a:List V)(E:XK)(t:TA):TE:=λd H Q=>t d H λvs c=>sp (vs++a) c Q E
noncomputable def Binds (K:ai)(e:FuncData)(d:List Str)(c:List Value):Prop:=
 ∀(s:Shared) (a:List Value),K.In s.heap->(a++c).length=d.length->BindsTo s e ⟨a,[]⟩ (d.zip (a++c))
theorem Binds.all {K:ai}{e:FuncData}{c:List Str}(h:∀a:List Value,a.length=c.length->bindArgs e ⟨a,[]⟩=pure (c.zip a)):Binds K e c []:=λs a _ d=>by
 rw[bw]at d ⊢;exact .of_eq (h a d)
def jB (CX:nX)(X:Cx)(E:XK):Prop:=∀(a:List (Addr×Obj)) (d:St) (H:Hp) (s:Shared) (e:Value) (c :Shared),Inv X a d H s->CX X.stack H s E e c ->X.xe e c
section
theorem GG (F:wD X.prog X.w X.K X.mg X.base CX k f fd ps sp)(hr:ja k X.A)(j:Binds X.K fd ps ds)(hd:Vals dvs ds)(d:jB CX X E)
  (I:Inv X pins σ H s) (r:Vals vs us) (h:sp (vs++dvs) H Q E):wpAny (model X.prog X.w) X.A (call (.ref f) us) (EP X pins σ Q) X.xe s:=by
 have c:=r.append hd;have g:(us++ds).length=ps.length:=by rw[← c.length];exact F.len _ _ _ _ h
 refine wpAny_call (eN (F.run X.A _ s H _ _ _ Q E hr I.env0 (j s us I.kIn g) c h) λr i a=> ?_);cases r with
 | error e=>exact d _ σ H s e i I a
 | ok fl=>
  cases fl with
  | ret u=>exact I.after a
  | next=>exact cq a
  | brk=>exact cq a
  | cont=>exact cq a
theorem jb (F:wD X.prog X.w X.K X.mg X.base CX k f fd ps sp)(hr:ja k X.A)(B:Gl X x)(o:X.mg x=some (.ref f))(y:d0 X.K (.ref f)=true)(u:Binds X.K fd ps ds)(hd:Vals dvs ds)(i:jB CX X E)
  (j:PA X (e :: es) t) (c:(x == ("__debug__":Str))=false:=by decide) (v:starEach (e :: es) X.env=(false,eval e X.env) :: starEach es X.env:=by rfl) (a:(backTo pos (starEach es X.env)).any (·.1)=false:=by rfl):
  PE X (.Call (.Name x p) (e :: es) [] pos) (HB sp dvs E t):=by
 intro g s l H Q I h;refine cB (Yi I B o ?_ c);refine PySem.W.callWith_K I.ok.mod.kin y (mH (j pos _ s l H _ I h) λC D ⟨vs,G,d,r,q⟩=>⟨d.kIn, ?_⟩) v a;exact GG F hr u hd i d r q
end
def PK (X:Cx)(c:List Keyword)(t:TA):Prop:=
 ∀(pos:Pos) (a:List (Addr×Obj)) (s:Shared) (d:St) (H:Hp) (Q:List V->Hp->Prop),Inv X a d H s->t d H Q->wpAny (model X.prog X.w) X.A (evalAll ((backToKw pos (keywordEach c X.env)).map (·.2))) (AP X a d Q) X.xe s
section
variable {kws:List Keyword}{nm:Option Str}
theorem GH:PK X [] rc:=λ_ _ _ _ H Q I h=>wpAny_evalAll_nil ⟨[],H,I,.nil,h⟩
theorem Yv (f:PE X e te)(hr:PK X kws t):PK X (⟨nm,e,kpos⟩ :: kws) (GF te t):=by
 intro pos c s a H Q I h;refine wpAny_evalAll_cons (a8 (mH (f _ s a H _ I h) λu i ⟨x,k,g,j,o⟩=>a8 (wpAny_standAt (ac ?_))));exact mH (hr pos _ i a k _ g o) λr v ⟨xs,p,d,l,q⟩=>⟨x :: xs,p,d,.cons j l,q⟩
variable {g:List Value->List Value->List Value}{gV:List V->List V->List V}
end
structure jJ (N P:List Str) (sc:Scope):Prop where
 kind:sc.kind= .function
 co:sc.isCoroutine=false
 gen:sc.isGenerator=false
 nd:N.Nodup
 pre:N.take P.length=P
 par:∀x∈P,sc.names.lookup x=some .local\/sc.names.lookup x=some .cell
 nofree:∀y∈sc.names,y.2 ≠ .free
theorem WX {kindOf:Str->Option NameKind}{x:Str}:∀{binds:List (Str×Value)} {m:Str->Option Value},(∀v,(x,v) ∉ binds)->bindL kindOf binds m x=m x
 | [],_,_=>rfl
 | (n,v) :: r,m,h=>by
  unfold bindL;rw[WX λw a=>h w (a9 _ a)];split
  ·have:x ≠ n:=by rintro rfl;exact h v aa
   simp[this]
  ·rfl
theorem WY {kindOf:Str->Option NameKind}{x:Str}:∀{binds:List (Str×Value)} {m:Str->Option Value},(∀v,(x,v) ∉ binds)->bindC kindOf binds m x=m x
 | [],_,_=>rfl
 | (n,v) :: r,m,h=>by
  unfold bindC;rw[WY λw a=>h w (a9 _ a)];split
  ·rfl
  ·have:x ≠ n:=by rintro rfl;exact h v aa
   simp[this]
theorem WZ {kindOf:Str->Option NameKind}{x:Str}{v:Value}:∀{P:List Str} {vs:List Value} {i:Nat} {m:Str->Option Value},P.Nodup->P[i]? =some x->vs[i]? =some v->kindOf x=some .local->
  bindL kindOf (P.zip vs) m x=some v
 | [],_,_,_,_,h,_,_=>by simp at h
 | _ :: _,[],_,_,_,_,h,_=>by simp at h
 | p :: P,w :: vs,0,m,nd,c,a,d=>by
  simp at c a;subst c;subst a;show bindL _ ((p,w) :: P.zip vs) m p=_;unfold bindL;rw[WX λv e=>(cK.mp nd).1 (c8 e).1,if_pos d];simp
 | p :: P,w :: vs,i+1,m,nd,c,a,d=>by
  show bindL _ ((p,w) :: P.zip vs) m x=_;exact WZ (cK.mp nd).2 (by simpa using c) (by simpa using a) d
theorem u3 {kindOf:Str->Option NameKind}{x:Str}{v:Value}:∀{P:List Str} {vs:List Value} {i:Nat} {m:Str->Option Value},P.Nodup->P[i]? =some x->vs[i]? =some v->kindOf x ≠ some .local->
  bindC kindOf (P.zip vs) m x=some v
 | [],_,_,_,_,h,_,_=>by simp at h
 | _ :: _,[],_,_,_,_,h,_=>by simp at h
 | p :: P,w :: vs,0,m,nd,c,a,d=>by
  simp at c a;subst c;subst a;show bindC _ ((p,w) :: P.zip vs) m p=_;unfold bindC;rw[WY λv e=>(cK.mp nd).1 (c8 e).1,if_neg d];simp
 | p :: P,w :: vs,i+1,m,nd,c,a,d=>by
  show bindC _ ((p,w) :: P.zip vs) m x=_;exact u3 (cK.mp nd).2 (by simpa using c) (by simpa using a) d
def start (N:List Str)(vs:List V):St:=vs.map some++ag (N.length - vs.length) none
def jC (CX:nX)(P:Program)(w:World)(K:ai)(mg:Str->Option Value)(base:Heap)(N:List Str)(a:Str)(scope:Scope)(f:Addr)(cd:Value)(A:Around)(outer:List Env)(s:Shared)(H:Hp)(E:XK):Cx where
 prog:=P
 w:=w
 K:=K
 mg:=mg
 base:=base
 A:=A.deeper (envOfC a scope s.heap.objs.size f cd)
 N:=N
 s₀:=s
 H₀:=H
 env:=envOfC a scope s.heap.objs.size f cd
 outer:=outer
 stack:=envOfC a scope s.heap.objs.size f cd :: outer
 ex:=[]
 calm:=true
 fn:=λ_=>true
 pn:=[]
 xe:=λe g =>wpAny (model P w) (A.deeper (envOfC a scope s.heap.objs.size f cd)) (leaving (envOfC a scope s.heap.objs.size f cd) e) (λ_ c =>CX outer H s E e c) (λd c =>CX outer H s E d c) g
theorem Ul {a:Scope}{n:Nat}{x:Str}(h:a.names.lookup x=some .cell):∃c,(cellsFrom n a.names []).lookup x=some c:=by
 have q:=iH _ n [] (.inl h);exact ia.mp q
theorem Yw {CX:nX}{P:Program}{w:World}{K:ai}{F:Str->Option Value}{base:Heap}{N o:List Str}{d:Str}{scope:Scope}{f:Addr}{cd:Value}{A:Around}{outer:List Env}{s J:Shared}{H:Hp}{E:XK}{D:List Value}{vs:List V}
  (S:jJ N o scope) (hd:A.handled=none) (j:xS P w K F base A outer s H) (X:vs.length=o.length) (r:Vals vs D)
  (x:InCallC s s.heap.objs.size (bindL (envOfC d scope s.heap.objs.size f cd).kindOf (o.zip D) λ_=>none) (cellsFrom (s.heap.objs.size+1) scope.names []) (bindC (envOfC d scope s.heap.objs.size f cd).kindOf (o.zip D) λ_=>none) J):
  Inv (jC CX P w K F base N d scope f cd A outer s H E) [] (start N vs) H J:=by
 have O:=by have:=congrArg i6 S.pre;rw[db]at this;omega
 obtain⟨C,tk,rfl,G⟩:=x.done;have l:∀b,b ∉ (jC CX P w K F base N d scope f cd A outer s H E).ex:=λb z=>absurd (show b∈([]:List _) from z) (by simp)
 refine⟨⟨j.mod,S.kind,rfl,rfl,am _,λy z c C g=> ?_,λy hy=> ?_,λy c _ h=> ?_,λ_=>hd,iU j.frames,.inr ⟨rfl,rfl⟩,λb z=>absurd z (l b),j.bs,j.bsz,λb _ _=>l b,λb z=>absurd z (l b),j.funs,j.frf⟩,
  rfl,j.bare,Un.kept G,⟨_,x.toInCall.ns,λi y v C g U=> ?_⟩,λy c h=>⟨_,x.cell y c h⟩,j.hok.fresh (am _),λy c h=> ?_,λp hp=>absurd (show p∈([]:List _) from hp) (by simp),j.hok.kept G, ?_⟩
 ·exact name_of_addr x.apart (bH C) (bH g)
 ·rcases hy with hy | hy
  ·exact Ul hy
  ·exact absurd rfl (S.nofree _ (bH hy))
 ·exact iG (x.above y c (bH h))
 ·have hi:i < vs.length:=by
   unfold start at g
   by_cases hi:i < vs.length
   ·exact hi
   ·rw[aR (by simpa using hi)]at g
    rw[aU]at g;split at g <;> cases g
  have Q:vs[i]? =some v:=by
   unfold start at g;rw[aY (by simpa using hi),ao]at g
   cases e:vs[i]? with
   | none=>rw[e]at g;cases g
   | some a=>rw[e]at g;cases g;rfl
  obtain⟨u,I,M⟩:=r.get Q;have hp:o[i]? =some y:=by
   rw[← S.pre,eA (by omega)];exact C
  have B:o.Nodup:=by rw[← S.pre];exact S.nd.sublist (List.take_sublist _ _)
  refine⟨u,M, ?_⟩;rcases S.par y (bg hp) with k | k
  ·exact .inl ⟨k,WZ B hp I k⟩
  ·obtain⟨c,e⟩:=Ul k;refine .inr ⟨.inl k,c,e, ?_⟩;have q:=x.cell y c e;rw[u3 B hp I (by show scope.names.lookup y ≠ _;rw[k];decide)]at q
   exact q
 ·exact j.hok.fresh (iG (x.above y c (bH h)))
 ·unfold start;show _=N.length;rw[az,ae,aV];omega
theorem kl {CX:nX}{P:Program}{w:World}{K:ai}{D:Str->Option Value}{base:Heap}{k:Nat}{f:Addr}{name a:Str}{c:Arguments}{body:List Stmt}{scope:Scope}{Z kV p pm cdv ct oc:Value}{an od:Option Addr}
  {M:Array (Option Value)} {N F:List Str} {sp:Sp} (lk:K.lookup f=some ⟨oc,od,.func (cx name a c body scope Z kV p pm an cdv ct),M⟩) (O:h9 K cdv a=true) (S:jJ N F scope)
  (len:∀vs H Q E,sp vs H Q E->vs.length=F.length)
  (i:∀(A:Around) (outer:List Env) (s:Shared) (H:Hp) (vs:List V) (Q:VK) (E:XK),ja k (A.deeper (envOfC a scope s.heap.objs.size f cdv))->sp vs H Q E->
   ∃t,PSs (jC CX P w K D base N a scope f cdv A outer s H E) body t/\t { nx:=λ_ d =>Q .non d,rt:=Q } (start N vs) H):
  wD P w K D base CX (k+1) f (cx name a c body scope Z kV p pm an cdv ct) F sp:=by
 refine⟨len,λA outer s H args us vs Q E hr l hb r C=> ?_⟩;have hl:=len _ _ _ _ C;have KX:=l.mod.kin.keeps λb o e=>(l.bs b o e).1;have U:=l.mod.nolimit.keeps λb o e=>(l.bs b o e).1;have g:∀y∈F.zip us,scope.names.lookup y.1=some _\/(scope.names.lookup y.1=some _/\((cellsFrom (s.heap.objs.size+1) _ []).lookup y.1).isSome=true):=λ⟨n,v⟩ hy=>by
  rcases S.par n (c8 hy).1 with q | q
  ·exact .inl q
  ·exact .inr ⟨q,iH _ _ _ (.inl q)⟩
 refine codeAny_call_function hr.depth (KX _ _ lk) rfl S.co S.gen rfl (PySem.W.codeRec_of KX O) (hb _ _ _ _ ?_);refine wpAny_newFunctionEnv_cells S.kind g λenv he s1 x=> ?_;subst he;refine⟨U.keeps x.toInCall.keep,codeAny_func ?_⟩;obtain⟨t,ht,hq⟩:=i A _ s H vs Q E (hr.deeper _) C;have I:Inv (jC CX P w K D _ N _ _ f cdv A _ s H E) [] _ H s1:=Yw S hr.hd l hl r x;refine cV (ht [] s1 _ H _ I hq) (λfl X j=> ?_) λe X j=>j;have B:∀{σ' :St} {d :Hp} {v:V} {u:Value},Inv (jC CX P w K D base N a scope f cdv A outer s H E) [] σ' d X ->RelV v u->Q v d ->CE _ P w H s Q u X :=
  λ{σ' d v u} J G q=>⟨v,d,J.os,J.bare,J.base,J.hok,G,q⟩
 cases fl with
 | ret u=>
  obtain⟨v,σ',d,J,G,q⟩:=j;exact B J G q
 | next=>
  obtain⟨σ',d,J,q⟩:=j;exact B (v:=V.non) J rfl q
 | brk=>
  obtain⟨_,_,_,q⟩:=j;exact cq q
 | cont=>
  obtain⟨_,_,_,q⟩:=j;exact cq q
end L2
namespace L2
open PySem PySem.Spec PyProof.Rows
section
variable {X:Cx}{x:Str}{p pos:Pos}{e:Expr}{es:List Expr}{t:TA}{id T:String}{r:List V->Hp->VK->Prop}
def Es (r:List V->Hp->VK->Prop)(t:TA):TE:=λc H Q=>t c H λvs a=>r vs a Q
theorem ZM (l:Z7 X (.builtin id) r)(i:Gl X x)(u:X.mg x=none)(y:bootBuiltins x=some (.builtin id))(j:PA X (e :: es) t)(hn:x ≠ "__name__":=by decide)(c:(x == ("__debug__":Str))=false:=by decide)
  (v:starEach (e :: es) X.env=(false,eval e X.env) :: starEach es X.env:=by rfl) (a:(backTo pos (starEach es X.env)).any (·.1)=false:=by rfl):PE X (.Call (.Name x p) (e :: es) [] pos) (Es r t):=by
 intro f s d H Q I h;refine cB (j5 I i u y ?_ hn c);exact PyProof.Rows.callWith_builtin1 (mH (j pos _ s d H _ I h) λg o ⟨vs,w,k,q,B⟩=>l _ o d w vs g Q k q B) v a
theorem ZZ (l:Z7 X (.type T) r)(i:Gl X x)(u:X.mg x=none)(y:bootBuiltins x=some (.type T))(j:PA X (e :: es) t)(hn:x ≠ "__name__":=by decide)(c:(x == ("__debug__":Str))=false:=by decide)
  (v:starEach (e :: es) X.env=(false,eval e X.env) :: starEach es X.env:=by rfl) (a:(backTo pos (starEach es X.env)).any (·.1)=false:=by rfl):PE X (.Call (.Name x p) (e :: es) [] pos) (Es r t):=by
 intro f s d H Q I h;refine cB (j5 I i u y ?_ hn c);exact a_ (mH (j pos _ s d H _ I h) λg o ⟨vs,w,k,q,B⟩=>l _ o d w vs g Q k q B) v a
end
end L2
namespace HT
open PySem PyProof.Rows
section
open PySem.SeqAt
open PySem.AutoSeq1 (wpAny_loadPart')
open PySem.MeetsSeq PySem.MeetsSeq2 PySem.MeetsSeq3
end
section
theorem cat_tup (u:IsTup s.heap t vs.toArray)(x:IsTup s.heap b ws.toArray)(o:vs ≠ [])
  (v:ws=[]->Q (.ref t) s) (q:ws ≠ []->Q (.ref s.heap.objs.size) { s with heap:=s.heap.push { cls:= .type "tuple",data:= .seq (vs++ws).toArray } })
  (hsz:vs.length+ws.length<=sizeLine):wpAny (model prog w) A (binaryOp .Add (.ref t) (.ref b)) Q E s:=by
 obtain⟨⟨cls,dd,data,k⟩,f,r,n,hd⟩:=id u;obtain⟨⟨p,d,data2,c⟩,a,i,l,j⟩:=id x;subst r hd i j;have e:vs.toArray++ws.toArray=(vs++ws).toArray:=by simp
 by_cases g:ws=[]
 ·exact concat_meets ⟨_,f,rfl⟩ ⟨_,a,rfl⟩ noFill_tuple_add seq_tuple_add eO eK (eB _ _)
   (tuple_addW1 t b _ _ n l dd d k c (by simpa using o) (by simp[g])) ⟨f,a,v g⟩
 ·refine concat_meets ⟨_,f,rfl⟩ ⟨_,a,rfl⟩ noFill_tuple_add seq_tuple_add eO eK (eB _ _)
   (tuple_addW2 t b _ _ n l dd d k c (by simpa using o) (by simpa using g) (by exact hsz)) ⟨f,a, ?_⟩
  rw[e];exact q g
noncomputable def sIx (n d:Nat):Option Int->Nat
 | none=>d
 | some v=>if v < 0 then (v+(n:Int)).toNat else min v.toNat n
theorem sIx_none (n d:Nat):sIx n d none=d:=rfl
theorem sIx_nat (n d k:Nat):sIx n d (some (k:Int))=min k n:=by
 show (if (k) < 0 then ((k:Int)+(n)).toNat else min _ n)=min k n
 rw[if_neg (by omega),b9]
theorem Yx (v:Int)(n d:Nat):(if v < 0 then max (v+(n:Int)) 0 else min v (n:Int))=((sIx n d (some v):Nat):Int):=by
 show (if v < 0 then max _ 0 else min v (n))=(((if v < 0 then (v+(n)).toNat else min _ n):Nat):Int)
 by_cases a:v < 0
 ·simp only[if_pos a];omega
 ·simp only[if_neg a];omega
theorem yz (lo hi:Option Int)(n:Nat):i4 lo hi 1 (n:Int)=(((sIx n 0 lo:Nat):Int),((sIx n n hi:Nat):Int)):=by
 refine Prod.ext ?_ ?_
 ·cases lo with
  | none=>rfl
  | some v=>exact Yx v n 0
 ·cases hi with
  | none=>rfl
  | some v=>exact Yx v n n
theorem yA (i j:Nat):dW (i:Int) (j:Int) 1=j - i:=by
 unfold dW;split <;> omega
theorem wP {o:Option Int}{Q:Option Int->Shared->Prop}(p:IsPart v o)(h:Q o s):wpAny (model prog w) A (Builtin.Slice.slicePartIndex v) Q E s:=by
 cases p with
 | none=>exact slicePart_none h
 | int i t=>exact slicePart_int h
theorem sliceApplied_gen {lo hi:Option Int}{Q:Int×Int×Nat->Shared->Prop}(f:s.heap.IsSliceOf sl vl vu .none)(pl:IsPart vl lo)(d:IsPart vu hi)
  (h:Q (((sIx n 0 lo:Nat):Int),1,sIx n n hi - sIx n 0 lo) s):wpAny (model prog w) A (Builtin.Slice.sliceApplied (.ref sl) (pure (n:Int))) Q E s:=by
 obtain⟨os,c,e,a⟩:=id f;refine a8 (a8 (ba c a rfl (a8 (ba c a rfl (a8 (ba c a rfl (ac ?_)))))));refine a8 (slicePart_none ?_);refine a8 (wP pl (a8 (wP d (a8 (ac ?_)))));show wpAny _ _ (match i4 lo hi 1 _ with | (lo,hi)=>pure (lo,(1:Int),dW lo hi 1)) _ _ s
 rw[yz lo hi n];show wpAny _ _ (pure _) _ _ s;rw[yA];exact ac h
theorem Vb (xs:Array Value)(i k:Nat):((aN k).filterMap λ(m:Nat)=>xs[((i:Int)+(m:Int)*1).toNat]?).toArray=((xs.toList.drop i).take k).toArray:=by
 have e:(λ(m:Nat)=>xs[((i:Int)+(m)*1).toNat]?)=λm=>xs[i+m]? :=by
  funext m
  have:((i:Int)+(m)*1).toNat=i+m:=by omega
  rw[this]
 rw[e];have:=pick_run xs i k;rw[List.filterMap_map]at this;have a:((λx=>xs[x]?) ∘ λx=>i+x)=λm=>xs[i+m]? :=rfl;rw[a]at this;rw[this]
theorem getItem_tuple_cut {lo hi:Option Int}(c:IsTup s.heap t items)(i:s.heap.IsSliceOf sl vl vu .none)(pl:IsPart vl lo)(k:IsPart vu hi)
  (l:¬ (sIx items.size 0 lo=0/\sIx items.size items.size hi=items.size))
  (h:Q (.ref s.heap.objs.size) { s with heap:=s.heap.push { cls:= .type "tuple",data:= .seq ((items.toList.drop (sIx items.size 0 lo)).take (sIx items.size items.size hi - sIx items.size 0 lo)).toArray } })
  (hsz:items.size<=sizeLine):wpAny (model prog w) A (getItem (.ref t) (.ref sl)) Q E s:=by
 have a:sizeOk (.seq ((items.toList.drop (sIx items.size 0 lo)).take (sIx items.size items.size hi - sIx items.size 0 lo)).toArray):=by
  show ((items.toList.drop _).take _).toArray.size<=sizeLine;rw[aD,db,dR,bU];omega
 obtain⟨os,g,e,j⟩:=id i;have d:s.TypeIs (.ref sl) _:=⟨os,g,e⟩;unfold getItem
 try with_reducible refine bp ?_
 refine a8 (wpAny_sequenceKey c.typeIs (by decide) ?_)
 refine a8 (aX c.typeIs bu
  (aM bu c.typeIs entry_tuple_getitem ?_ (args_tuple_getitem _ _)))
 show wpAny _ _ (hJ _ >>= _) _ _ s;refine a8 (tupleItemsOf_ c ?_);refine a8 (dS d ?_);refine a8 (sliceApplied_gen i pl k ?_);have f:¬ ((((sIx items.size 0 lo):Int) == 0 && (1:Int) == 1 && (sIx items.size items.size hi - sIx items.size 0 lo) == items.size)=true):=by
  intro q;rw[aj,aj]at q;have o:=eq_of_beq q.1.1;have p:=eq_of_beq q.2;exact l ⟨by omega,by omega⟩
 show wpAny _ _ (if (((sIx _ 0 lo:Nat):Int) == 0 && (1) == 1 && (sIx _ _ hi - sIx _ 0 lo) == items.size)=true then _ else _) _ _ s
 rw[if_neg f,Vb]
 first
  | exact a8 (aO (ac ⟨_,rfl,ac h⟩) a)
  | exact a8 _
  | exact a8 _
  | exact a8 _
end
end HT
namespace L2
open PySem PySem.Spec PyProof.Rows
abbrev TO:=St->Hp->(Option Int->Hp->Prop)->Prop
def PO (X:Cx)(e:Option Expr)(t:TO):Prop:=
 ∀(a:List (Addr×Obj)) (s:Shared) (c:St) (H:Hp) (Q:Option Int->Hp->Prop),Inv X a c H s->t c H Q->
  wpAny (model X.prog X.w) X.A (evalPart e X.env) (λu f =>∃o d,Inv X a c d f /\IsPart u o/\Q o d) X.xe s
def km:TO:=λ_ H Q=>Q none H
def II (t:TE):TO:=λc H Q=>t c H λx a=>∃i,x= .int i/\Q (some i) a
section
variable {X:Cx}{e:Expr}{te:TE}{lo hi:Option Expr}{tl th:TO}{pos p2:Pos}
theorem ko:PO X none km:=by
 intro a s c H Q I h;exact ac ⟨none,H,I,.none,h⟩
theorem ku (h:PE X e te):PO X (some e) (II te):=by
 intro a s d H Q I k;refine mH (h _ s d H _ I k) λu l ⟨x,g,c,f,j⟩=> ?_;obtain⟨i,rfl,q⟩:=j;obtain⟨t,rfl⟩:=f;exact⟨some i,g,c,.int i t,q⟩
def SlR (X:Cx)(r:V->Option Int->Option Int->Hp->VK->Prop):Prop:=
 ∀(a:List (Addr×Obj)) (s:Shared) (c:St) (H:Hp) (x:V) (v vl d:Value) (lo hi:Option Int) (f:Addr) (Q:VK),Inv X a c H s->RelV x v->s.heap.IsSliceOf f vl d .none->IsPart vl lo->IsPart d hi->r x lo hi H Q->
  ∃T id,typeLookup (.type T) "__getitem__"=pure (some (.builtin id))/\s.TypeIs v T/\wpAny (model X.prog X.w) X.A (getItem v (.ref f)) (EP X a c Q) X.xe s
theorem SlR.or {r k :V->Option Int->Option Int->Hp->VK->Prop}(h:SlR X r)(h' :SlR X k):SlR X (λx lo hi H Q=>r x lo hi H Q\/k x lo hi H Q):=by
 intro i s a H x v vl d lo hi f Q I j c pl g q;rcases q with q | q
 ·exact h _ s a H x v vl d lo hi f Q I j c pl g q
 ·exact h' _ s a H x v vl d lo hi f Q I j c pl g q
def IQ (r:V->Option Int->Option Int->Hp->VK->Prop)(te:TE)(tl th:TO):TE:=λa H Q=>te a H λx c=>tl a c λl d=>th a d λu H3=>r x l u H3 Q
theorem Vc {r:V->Option Int->Option Int->Hp->VK->Prop}(hr:SlR X r)(p:PE X e te)(y:PO X lo tl)(J:PO X hi th):PE X (.Subscript e (.Slice lo hi none p2) pos) (IQ r te tl th):=by
 intro f s a H Q I h;refine Subscript_ (mH (p _ s a H _ I h) λv M ⟨x,w,j,k,B⟩=> ?_);refine wpAny_Slice (mH (y _ M a w _ j B) λvl i ⟨l,C,g,pl,P⟩=>mH (J _ i a C _ g P) λc d ⟨u,H3,O,o,G⟩=> ?_);refine ac ?_;have D:Inv X _ a H3 { d with heap:=d.heap.push { cls:= .type "slice",data:= .fields #[vl,c,.none] } }:=O.kept λb ob q=>ab _ q;obtain⟨T,id,hT,N,F⟩:=hr _ _ a H3 x v vl c l u _ Q D k (Heap.IsSliceOf.new ..) pl o G;exact tail_any N hT F (by with_unfolding_all rfl)
noncomputable def G6 (xs:List V)(lo hi:Option Int):List V:=(xs.drop (HT.sIx xs.length 0 lo)).take (HT.sIx xs.length xs.length hi - HT.sIx xs.length 0 lo)
theorem JP (xs:List V)(lo hi:Option Int):(G6 xs lo hi).length<=xs.length:=by
 unfold G6;rw[db,dR];omega
def Di (K:ai):V->Option Int->Option Int->Hp->VK->Prop:=λx lo hi H Q=>∃a xs,x= .ref a/\SqT K H a xs/\
 ¬ (HT.sIx xs.length 0 lo=0/\HT.sIx xs.length xs.length hi=xs.length)/\∀p,H p=none->Q (.ref p) (mz H p (.tup (G6 xs lo hi)))
theorem GI:SlR X (Di X.K):=by
 intro g s p H x v vl u lo hi w Q I l j pl k h;obtain⟨a,xs,rfl,i,o,q⟩:=h;cases l;obtain⟨d,r,f,hz⟩:=I.tuple i;have c:d.toArray.size=xs.length:=by exact r.length.symm
 refine⟨"tuple",_,bu.lookup,f.typeIs, ?_⟩;refine HT.getItem_tuple_cut f j pl k (by rw[c];exact o) ?_ (by rw[c];exact hz)
 rw[c];refine⟨.ref _,_,I.laid (λb ob q=>ab _ q) (am _) ?_,rfl,q _ (I.hok.fresh (am _))⟩;exact⟨av (JP xs lo hi) hz,_,(r.drop _).take _,ITN.new _ _⟩
def La (K:ai):R2:=λx y H Q=>∃a b xs c,x= .ref a/\y= .ref b/\SqT K H a xs/\SqT K H b c/\xs ≠ []/\xs.length+c.length<=sizeLine/\
 (c=[]->Q (.ref a) H)/\(c ≠ []->∀p,H p=none->Q (.ref p) (mz H p (.tup (xs++c))))
theorem Vals.nil_iff (r:Vals xs us):us=[]↔xs=[]:=by
 cases r with
 | nil=>simp
 | cons _ _=>simp
theorem kx:mO X (binaryOp .Add) (La X.K):=by
 intro g s F H x y v u Q I B r h;obtain⟨a,b,xs,D,rfl,rfl,o,l,i,hz,k,C⟩:=h;cases B;cases r;obtain⟨j,d,p,_⟩:=I.tuple o;obtain⟨f,c,p2,_⟩:=I.tuple l;refine HT.cat_tup p p2 (λz=>i (d.nil_iff.mp z)) (λz=>⟨.ref a,H,I,rfl,k (c.nil_iff.mp z)⟩) (λz=> ?_) (by rw[← d.length,← c.length];exact hz)
 refine⟨.ref _,_,I.laid (λb ob q=>ab _ q) (am _) ?_,rfl,C (λw=>z (c.nil_iff.mpr w)) _ (I.hok.fresh (am _))⟩;exact⟨by rw[az];exact hz,_,d.append c,ITN.new _ _⟩
end
end L2
namespace L2
open PySem PySem.Spec PyProof.Rows
noncomputable def oD (n:Nat)(i:Int):Option Nat:=if 0<=i then (if i < n then some i.toNat else none) else if -(n:Int)<=i then some (i+n).toNat else none
def nw {a:Type}(xs:List a)(i:Int):Option a:=(oD xs.length i).bind λj=>xs[j]?
theorem ky (h:oD n i=some j):seqIndex? i n=some j/\j < n/\ -(n:Int)<=i/\i < n:=by
 unfold oD at h
 by_cases c:0<=i
 ·rw[if_pos c]at h
  by_cases a:i < n
  ·rw[if_pos a]at h;have e:=aH h;exact⟨by rw[seqIndex_of c a,e],by omega,by omega,a⟩
  ·rw[if_neg a]at h;cases h
 ·rw[if_neg c]at h
  by_cases a: -(n)<=i
  ·rw[if_pos a]at h;have e:=aH h;exact⟨by rw[seqIndex_neg (by omega) a,e],by omega,a,by omega⟩
  ·rw[if_neg a]at h;cases h
theorem uS {a:Type}{xs:List a}{v:a}(h:nw xs i=some v):∃j,seqIndex? i xs.length=some j/\xs[j]? =some v/\j < xs.length/\ -(xs.length:Int)<=i/\i < xs.length:=by
 unfold nw at h;cases e:oD _ i with
 | none=>rw[e]at h;cases h
 | some j=>
  rw[e]at h;obtain⟨f,c,g,d⟩:=ky e;exact⟨j,f,h,c,g,d⟩
theorem Zv {a:Type}{xs:List a}{j:Nat}{v:a}(h:xs[j]? =some v):nw xs (j:Int)=some v:=by
 have c:=(ay.mp h).1;have e:oD xs.length (j)=some j:=by
  unfold oD;rw[if_pos (by omega),if_pos (by omega)];simp
 unfold nw;rw[e];exact h
noncomputable def Yy (b:Expr):Prop:=∀o i,subscripted b false o i=operate [o,i] (getItem o i)
def IxR (X:Cx)(r:R2):Prop:=
 ∀(d a:Expr) (c:List (Addr×Obj)) (s:Shared) (e:St) (H:Hp) (x y:V) (v u:Value) (Q:VK),Inv X c e H s->RelV x v->RelV y u->r x y H Q->
  subscripted a false v u=operate [v,u] (getItem v u)->wpAny (model X.prog X.w) X.A (subscriptTail d a v u) (EP X c e Q) X.xe s
def oW (X:Cx)(id:String)(r:V->List V->Hp->VK->Prop):Prop:=
 ∀(a:List (Addr×Obj)) (s:Shared) (d:St) (H:Hp) (x:V) (xs:List V) (v:Value) (c:List Value) (Q:VK),Inv X a d H s->RelV x v->Vals xs c->r x xs H Q->
  wpAny (model X.prog X.w) X.A (call (.builtin id) (v :: c)) (EP X a d Q) X.xe s
section
variable {X:Cx}{a b:Expr}{ta tb:TE}{pos:Pos}
theorem IxR.or (h:IxR X r)(h' :IxR X r'):IxR X (λx y H Q=>r x y H Q\/r' x y H Q):=by
 intro d c i s e H x y v u Q I j g q f;rcases q with q | q
 ·exact h _ _ _ s e H x y v u Q I j g q f
 ·exact h' _ _ _ s e H x y v u Q I j g q f
theorem GJ (hr:IxR X r)(f:PE X a ta)(o:PE X b tb)(i:Yy b):PE X (.Subscript a b pos) (AH r ta tb):=by
 intro c s g H Q I h;exact Subscript_ (Cz f o I h λv u e x y k d l j q=>hr a b _ e g k x y v u Q d l j q (i _ _))
def rR (K:ai):R2:=λx y H Q=>∃p xs i v,x= .ref p/\y= .int i/\SqL K H p xs/\nw xs i=some v/\Q v H
def sM (K:ai):R2:=λx y H Q=>∃p xs i v,x= .ref p/\y= .int i/\SqT K H p xs/\nw xs i=some v/\Q v H
def pT:R2:=λx y H Q=>∃z i c,x= .str z/\y= .int i/\z.length<=sizeLine/\nw z.cps.toList i=some c/\Q (.str ⟨#[c]⟩) H
theorem kz:IxR X (rR X.K):=by
 intro k g D s N H x y v u Q I S P h B;obtain⟨p,xs,i,z,rfl,rfl,U,F,q⟩:=h;cases S;obtain⟨t,rfl⟩:=P;obtain⟨e,r,pl,hz⟩:=I.list U;obtain⟨j,d,M,Z,O,G⟩:=uS F;obtain⟨w,o,l⟩:=r.get M;have J:=r.length;have hn:=WW;have c:EP X _ N Q w s:=⟨z,H,I,l,q⟩
 by_cases C:0<=i
 ·have f:=by
   rw[seqIndex_of C G]at d;exact aH d
  exact item_listR pl.isList C (by omega) (by rw[f];simpa using o) c B
 ·have f:(i+(e.toArray.size)).toNat=j:=by
   rw[seqIndex_neg (by omega) O]at d
   rw[aD,← J];exact aH d
  exact subscriptTail_builtinR pl.isList.typeIs slot_list_getitem.lookup
   (wpAny_getItem_list_neg pl.isList (by omega) (by rw[aD] <;> omega) (by omega) (by rw[f];simpa using o) ⟨rfl,c⟩) B
theorem GK:IxR X (sM X.K):=by
 intro e d g s F H x y v u Q I M J h G;obtain⟨p,xs,i,z,rfl,rfl,N,l,q⟩:=h;cases M;obtain⟨t,rfl⟩:=J;obtain⟨B,r,pl,hz⟩:=I.tuple N;obtain⟨j,C,D,O,S,P⟩:=uS l;obtain⟨w,k,f⟩:=r.get D;have o:=r.length;have hn:=WW;have c:EP X _ F Q w s:=⟨z,H,I,f,q⟩;exact subscriptTail_builtinR pl.typeIs slot_tuple_getitem.lookup
  (getItem_tuple pl (by omega) (by omega) (by rw[aD,← o];exact C) (by simpa using k) ⟨rfl,c⟩) G
theorem GL:IxR X pT:=by
 intro e d g s J H x y v u Q I D C h B;obtain⟨z,i,c,rfl,rfl,hz,k,q⟩:=h;obtain⟨t,rfl⟩:=D;obtain⟨t',rfl⟩:=C;obtain⟨j,f,p,G,r,l⟩:=uS k;have o:z.cps.toList.length=z.length:=by simp[Str.length]
 rw[o]at f r l;have hn:=WW;exact tail_any (typeIs_str s z t) slot_str_getitem.lookup (getItem_str (by
  have w:decide (i < -(2 ^ 63))=false:=decide_eq_false (by omega)
  have F:decide (i ≥ 2 ^ 63)=false:=decide_eq_false (by omega)
  rw[w,F,Bool.or_false]) (by rw[f];simpa using p) ⟨.str _,H,I.tok _,⟨_,rfl⟩,q⟩) B
def EB (K:ai):R2:=λx y H Q=>rR K x y H Q\/sM K x y H Q\/pT x y H Q
theorem GM:IxR X (EB X.K):=kz.or (GK.or GL)
theorem u6 (lo hi:Option Int)(n:Nat):(sliceBounds lo hi none n).1=((HT.sIx n 0 lo:Nat):Int)/\(sliceBounds lo hi none n).2.1=((HT.sIx n n hi:Nat):Int)/\(sliceBounds lo hi none n).2.2=1:=by
 refine⟨?_, ?_,rfl⟩
 ·cases lo with
  | none=>simp[sliceBounds,HT.sIx]
  | some i=>
   simp only[sliceBounds,HT.sIx,m3,show (1) > 0 by decide,if_true]
   by_cases h:i < 0
   ·simp only[h,if_true] <;> omega
   ·simp only[h,if_false] <;> omega
 ·cases hi with
  | none=>simp[sliceBounds,HT.sIx]
  | some i=>
   simp only[sliceBounds,HT.sIx,m3,show (1) > 0 by decide,if_true]
   by_cases h:i < 0
   ·simp only[h,if_true] <;> omega
   ·simp only[h,if_false] <;> omega
theorem W8 (c:List Value)(lo hi:Option Int):slicePick c.toArray lo hi none=((c.drop (HT.sIx c.length 0 lo)).take (HT.sIx c.length c.length hi - HT.sIx c.length 0 lo)).toArray:=by
 obtain⟨d,f,e⟩:=u6 lo hi _;unfold slicePick;rw[d,f,e];simp only[sliceRange_one,pick_run,aD] <;> rfl
def CD (K:ai):V->Option Int->Option Int->Hp->VK->Prop:=λx lo hi H Q=>∃a xs,x= .ref a/\SqL K H a xs/\∀p,H p=none->Q (.ref p) (mz H p (.lst (G6 xs lo hi)))
theorem kA:SlR X (CD X.K):=by
 intro e s l H x v vl o lo hi p Q I k g pl i h;obtain⟨a,xs,rfl,f,q⟩:=h;cases k;obtain⟨j,r,d,hz⟩:=I.list f;have c:=r.length;refine⟨"list",_,slot_list_getitem.lookup,d.isList.typeIs, ?_⟩;refine wpAny_getItem_list_slice d.isList g pl i .none (by simp) ?_ (by rw[aD] <;> omega)
 rw[W8,← c];refine⟨.ref _,_,I.laid (λb ob q=>ab _ q) (am _) ?_,rfl,q _ (I.hok.fresh (am _))⟩;exact⟨av (JP xs lo hi) hz,_,0,(r.drop _).take _,af _ rfl⟩
theorem u7:Z7 X (.builtin "len") (λxs H Q=>∃p e,xs=[.ref p]/\(SqL X.K H p e\/SqT X.K H p e)/\Q (.int e.length) H):=by
 intro i s l H xs k Q I r h;obtain⟨p,e,rfl,d,q⟩:=h;obtain⟨u,rfl,j⟩:=Zn r;cases j;have hn:=WW;rcases d with d | d
 ·obtain⟨f,g,pl,hz⟩:=I.list d;have c:=g.length;exact Calls.call_len_list pl.isList (by simp only[aD] <;> omega) ⟨.int _,H,I.tok _,⟨s.toks+1,by rw[aD,c]⟩,q⟩
 ·obtain⟨f,g,pl,hz⟩:=I.tuple d;have c:=g.length;exact len_tuple pl (by simp only[aD] <;> omega) ⟨.int _,H,I.tok _,⟨s.toks+1,by rw[aD,c]⟩,q⟩
theorem u8:Z7 X (.builtin "len") (λxs H Q=>∃z,xs=[.str z]/\z.length<=sizeLine/\Q (.int z.length) H):=by
 intro c s e H xs d Q I r h;obtain⟨z,rfl,hz,q⟩:=h;obtain⟨u,rfl,t,rfl⟩:=Zn r;have hn:=WW;exact len_str (by omega) ⟨.int _,H,I.tok _,⟨_,rfl⟩,q⟩
theorem Z7.or {r g :List V->Hp->VK->Prop}(h:Z7 X f r)(h' :Z7 X f g):Z7 X f (λxs H Q=>r xs H Q\/g xs H Q):=by
 intro d s e H xs c Q I rs q;rcases q with q | q
 ·exact h _ s e H xs c Q I rs q
 ·exact h' _ s e H xs c Q I rs q
theorem W9:Z7 X (.type "tuple") (λxs H Q=>∃p c,xs=[.ref p]/\((SqL X.K H p c/\∀l,H l=none->Q (.ref l) (mz H l (.tup c)))\/(SqT X.K H p c/\Q (.ref p) H))):=by
 intro k s j H xs B Q I r h;obtain⟨p,c,rfl,h⟩:=h;obtain⟨u,rfl,y⟩:=Zn r;cases y;rcases h with ⟨g,q⟩ | ⟨g,q⟩
 ·obtain⟨d,f,pl,hz⟩:=I.list g;have v:=f.length;refine call_tuple_list pl.isList (λh' kp=> ?_) (by simp only[aD] <;> omega)
  have i:Inv X _ j H { s with heap:=h' }:=I.kept kp;have x:Inv X _ j (mz H _ (.tup c)) { s with heap:=h'.push _ }:=
   i.laid (λb o e=>ab _ e) (am _) (show zQ _ X.w _ _ _ _ from ⟨hz,d,f,ITN.new _ _⟩)
  exact⟨.ref _,_,x,rfl,q _ (i.hok.fresh (am _))⟩
 ·obtain⟨d,f,pl,hz⟩:=I.tuple g;exact call_tuple_same pl ⟨.ref p,H,I,rfl,q⟩
def BU (K:ai)(T:String)(x:V)(H:Hp):Prop:=match x with
 | .str _=>T="str"
 | .int _=>T="int"
 | .ref p=>(T="list"/\∃xs,SqL K H p xs)\/(T="tuple"/\∃o,K.lookup p=some o/\o.cls= .type "tuple"/\o.dict=none)\/
   (T="dict"/\((∃kvs,H p=some (.dK kvs))\/∃kvs,H p=some (.dT kvs)))\/(T="set"/\∃S n,H p=some (.set S n))
 | _=>False
theorem xT (I:Inv X pins σ H s)(r:RelV x v)(f:BU X.K T x H):
  s.TypeIs v T/\∀a,v= .ref a->∃ob,s.heap.get? a=some ob/\ob.dict=none:=by
 cases x with
 | str z=>
  obtain⟨t,rfl⟩:=r;cases (f);exact⟨typeIs_str s z t,λ_ e=>nomatch e⟩
 | int i=>
  obtain⟨t,rfl⟩:=r;cases (f);exact⟨typeIs_int s i t,λ_ e=>nomatch e⟩
 | ref p=>
  cases r;rcases f with ⟨rfl,xs,k⟩ | ⟨rfl,o,d,j,hd⟩ | ⟨rfl,d⟩ | ⟨rfl,S,n,d⟩
  ·obtain⟨l,_,pl,_⟩:=I.list k;refine⟨pl.isList.typeIs,λa e=> ?_⟩;cases e;obtain⟨o,n,e,c,hd,_⟩:=pl;exact⟨o,e,hd⟩
  ·refine⟨⟨o,I.kIn p o d,j⟩,λa e=> ?_⟩;cases e;exact⟨o,I.kIn _ o d,hd⟩
  ·have z:∃o,s.heap.get? p=some o/\o.ExactDict:=by
    rcases d with ⟨kvs,d⟩ | ⟨kvs,d⟩
    ·obtain⟨_,_,_,_,o,_,_,e,ex,_⟩:=I.hok p _ d;exact⟨o,e,ex⟩
    ·obtain⟨_,_,_,_,o,_,_,e,ex,_⟩:=I.hok p _ d;exact⟨o,e,ex⟩
   obtain⟨o,e,ex⟩:=z;refine⟨⟨o,e,ex.1⟩,λa g=> ?_⟩;cases g;exact⟨o,e,ex.2.1⟩
  ·obtain⟨o,_,_,_,e,ex,_⟩:=I.hok p _ d;refine⟨⟨o,e,ex.1⟩,λa g=> ?_⟩;cases g;exact⟨o,e,ex.2.1⟩
 | _=>exact cq f
def Dm (K:ai)(T:String)(r:V->List V->Hp->VK->Prop)(e:TE):TE:=λd H Q=>e d H λx c=>BU K T x c/\r x [] c Q
def E2 (K:ai)(T:String)(r:V->List V->Hp->VK->Prop)(f:TE)(t:TA):TE:=λd H Q=>f d H λx c=>BU K T x c/\t d c λxs e=>r x xs e Q
variable {o e:Expr}{es:List Expr}{to:TE}{t:TA}{name:Str}{apos cpos:Pos}{T id:String}{r:V->List V->Hp->VK->Prop}
theorem xU (F:PlainAttrs T)(f:Slot T name id)(g:typeOf (.builtin id)=pure (.type "method_descriptor"))(y:oW X id r)(u:PE X o to)
  (d:attributeBase o name X.env (eval o X.env)=eval o X.env:=by rfl) (c:(apos.endLine == cpos.line)=true:=by rfl):PE X (.Call (.Attribute o name apos) [] [] cpos) (Dm X.K T r to):=by
 intro l s j H Q I h;refine wpAny_Call_method0_late d c (mH (u _ s j H _ I h) λv w ⟨x,B,i,k,q,D⟩=> ?_);obtain⟨C,p⟩:=xT i k q;exact⟨T,id,F,f,g,C,p,eQ rfl (l8 (y _ w j B x [] v [] Q i k .nil D))⟩
theorem yB (pa:PlainAttrs T)(g:Slot T name id)(k:typeOf (.builtin id)=pure (.type "method_descriptor"))(Z:oW X id r)(S:PE X o to)(N:PA X (e :: es) t)
  (f:attributeBase o name X.env (eval o X.env)=eval o X.env:=by rfl)
  (i:((backTo cpos (starEach (e :: es) X.env)).all (λx=> !x.1) && (backToKw cpos (keywordEach [] X.env)).all (λx=>x.1.isSome)
   && decide ((e :: es).length+([]:List Keyword).length+(if ([]:List Keyword).isEmpty then 0 else 1) < 30))=true:=by rfl)
  (d:(apos.endLine == cpos.line)=true:=by rfl) (P:starEach (e :: es) X.env=(false,eval e X.env) :: starEach es X.env:=by rfl) (c:(backTo cpos (starEach es X.env)).any (·.1)=false:=by rfl):
  PE X (.Call (.Attribute o name apos) (e :: es) [] cpos) (E2 X.K T r to t):=by
 intro u s j H Q I h;refine wpAny_Call_method_late f i d rfl (mH (S _ s j H _ I h) λv U ⟨x,C,l,p,B,G⟩=> ?_);obtain⟨F,O⟩:=xT l p B;refine⟨T,id,pa,g,k,F,O, ?_⟩;have q:=N cpos _ U j C _ l G;rw[P]at q ⊢;refine eQ (by show (false || (backTo _ _).any _)=false;rw[c] <;> rfl) (Calls.evalArgs_plain ?_)
 exact mH q λM y ⟨vs,J,w,D,q2⟩=>Z _ y j J x vs v M Q w p D q2
end
end L2
namespace L2
open PySem PySem.Spec PyProof.Rows
def Ek (X:Cx)(id:String)(r:V->List V->Hp->VK->Prop):Prop:=
 ∀(a:List (Addr×Obj)) (s:Shared) (d:St) (H:Hp) (x:V) (xs:List V) (v:Value) (c:List Value) (Q:VK),Inv X a d H s->RelV x v->Vals xs c->r x xs H Q->
  wpAny (model X.prog X.w) X.A (call (.builtin id) (v :: c)) (EP X a d Q) X.xe s
theorem Vals.one:∀{x:V} {a:List Value},Vals [x] a->∃u,a=[u]/\RelV x u
 | _,_,.cons r .nil=>⟨_,rfl,r⟩
theorem Vals.rep (h:Vals xs us):∀k:Nat,Vals (ag k xs).flatten (ag k us).flatten
 | 0=> .nil
 | k+1=>by
  exact Vals.append h (Vals.rep h k)
theorem jS (a:List Value):∀(k:Nat) (acc:List Value),
  hU (λd c=>d++c) acc.toArray (ag k a.toArray)=(acc++(ag k a).flatten).toArray
 | 0,acc=>by simp
 | k+1,acc=>by
  have e:acc.toArray++a.toArray=(acc++a).toArray:=by simp
  have f:(acc++a)++(ag k a).flatten=acc++(ag (k+1) a).flatten:=by
   rw[bv,i7,bi]
  rw[← f,← jS a k _,← e,bv,List.foldl_cons]
section
theorem Inv.lset {c a :List Value}{n:Nat}{f:Array Value->Array Value}{t' :Nat}(I:Inv X pins σ H s)(j:H l=some (.lst xs))
  (e:s.heap.get? l=some { cls:= .type "list",data:= .seq c.toArray n }) (g:f c.toArray=a.toArray) (i:Vals ys a) (hz:ys.length<=sizeLine):
  Inv X pins σ (mz H l (.lst ys)) { s with heap:=s.heap.update l (cW f),toks:=t' }:=by
 have q:=PySem.IsL.update e f;rw[g]at q;refine I.write (by rw[j];exact trivial) (.inl rfl) (λo u k d=>(bZ _ _ (bj k)).trans d) ⟨_,q⟩ ?_
 exact⟨hz,a,_,i,q⟩
theorem Inv.lnew (I:Inv X pins σ H s)(a:Vals ys its)(hz:ys.length<=sizeLine):
  Inv X pins σ (mz H s.heap.objs.size (.lst ys)) { s with heap:=s.heap.push { cls:= .type "list",data:= .seq its.toArray },toks:=t' }:=
 I.laid (λ_ _ q=>ab _ q) (am _) ⟨hz,its,0,a,af _ rfl⟩
theorem Inv.fresh (I:Inv X pins σ H s):H s.heap.objs.size=none:=I.hok.fresh (am _)
theorem Inv.lstM (I:Inv X pins σ H s)(c:H l=some (.lst xs)):xs.length<=sizeLine/\∃(a:List Value) (n:Nat),Vals xs a/\xs.length=a.length/\s.heap.get? l=some { cls:= .type "list",data:= .seq a.toArray n }:=by
 obtain⟨z,a,n,r,e⟩:=I.hok l _ c;exact⟨z,a,n,r,r.length,e⟩
theorem Um (h:n<=sizeLine):eC n=false:=by
 exact decide_eq_false (by omega)
end
section
variable {X:Cx}
def kB:V->List V->Hp->VK->Prop:=λx vs H Q=>∃l xs y,x= .ref l/\vs=[y]/\H l=some (.lst xs)/\xs.length < sizeLine/\Q .non (mz H l (.lst (xs++[y])))
theorem JQ:Ek X "list.append" kB:=by
 intro a s k H x vs v j Q I i d h;obtain⟨l,xs,y,rfl,rfl,c,hz,q⟩:=h;cases i;obtain⟨u,rfl,f⟩:=d.one;obtain⟨z,g,n,r,o,e⟩:=I.lstM c;refine fv F.slot_list_append ⟨_,e,rfl⟩ F.entry_list_append (F.args_list_append_2 _ _) (PySem.list_append l _ n u (by rw[aD];omega)) ⟨e, ?_⟩
 refine⟨.non,_,I.lset c e (by simp) (r.append (.cons f .nil)) ?_,rfl,q⟩
 rw[az,aK];omega
def kC:V->List V->Hp->VK->Prop:=λx vs H Q=>∃l b xs a,x= .ref l/\vs=[.ref b]/\H l=some (.lst xs)/\H b=some (.lst a)/\xs.length+a.length<=sizeLine/\Q .non (mz H l (.lst (xs++a)))
theorem Yz:Ek X "list.extend" kC:=by
 intro g s J H x vs v G Q I w i h;obtain⟨l,b,xs,C,rfl,rfl,f,B,hz,q⟩:=h;cases w;obtain⟨u,rfl,o⟩:=i.one;cases o;obtain⟨z,c,n,r,D,e⟩:=I.lstM f;obtain⟨M,a,p,j,k,y⟩:=I.lstM B;have hsz:c.toArray.size+a.toArray.size<=sizeLine:=by rw[aD,aD];omega
 have d:¬ (!c.toArray.isEmpty && eC (c.toArray.size+a.toArray.size))=true:=by
  rw[Um hsz,Bool.and_false];exact ax
 refine fv F.slot_list_extend ⟨_,e,rfl⟩ F.entry_list_extend (F.args_list_extend_2 _ _)
  (AutoSeq1.list_extend_list_list_0 l _ n b _ p d (by omega) (by omega)) ⟨e,y, ?_⟩
 refine⟨.non,_,I.lset f e (by simp) (r.append j) ?_,rfl,q⟩
 rw[az];omega
def Ch:R2:=λx y H Q=>∃l b xs a,x= .ref l/\y= .ref b/\H l=some (.lst xs)/\H b=some (.lst a)/\xs.length+a.length<=sizeLine/\∀p,H p=none->Q (.ref p) (mz H p (.lst (xs++a)))
theorem GN:mO X (binaryOp .Add) Ch:=by
 intro d s D H x y v u Q I o k h;obtain⟨l,b,xs,B,rfl,rfl,i,w,hz,q⟩:=h;cases o;cases k;obtain⟨z,c,n,r,C,e⟩:=I.lstM i;obtain⟨G,a,F,g,j,p⟩:=I.lstM w;refine PySem.P.add_list e p ?_ (by rw[aD,aD];omega)
 have f:c.toArray++a.toArray=(c++a).toArray:=by simp
 rw[f];exact⟨.ref _,_,I.lnew (r.append g) (by rw[az];omega),rfl,q _ I.fresh⟩
def Cq:R2:=λx y H Q=>∃l k xs,x= .ref l/\y= .int k/\H l=some (.lst xs)/\ -(2 ^ 63)<=k/\k < 2 ^ 63/\xs.length*k.toNat<=sizeLine/\
 ∀p,H p=none->Q (.ref p) (mz H p (.lst (ag k.toNat xs).flatten))
theorem Jc {a:Type}(xs:List a)(k:Nat):(ag k xs).flatten.length=k*xs.length:=by
 induction k with
 | zero=>simp
 | succ k c=>rw[bv,i7,az,c,fX,dU]
theorem GO:mO X (binaryOp .Mult) Cq:=by
 intro w s P H x y v u Q I M J h;obtain⟨l,k,xs,rfl,rfl,D,C,G,hz,q⟩:=h;cases M;obtain⟨t,rfl⟩:=J;obtain⟨z,c,n,r,B,e⟩:=I.lstM D;have j:c.toArray.size*k.toNat<=sizeLine:=by rw[aD,← B];exact hz
 have f:¬ c.toArray.size*k.toNat > (2 ^ 63 - 1) / 8:=by
  have:(sizeLine)<=(2 ^ 63 - 1) / 8:=by decide
  omega
 have g:¬ (!Builtin.List.listFitsIndex k)=true:=by
  rw[fitsIndex_both C G];exact ax
 have d:¬ eC (c.toArray.size*k.toNat)=true:=by
  rw[Um j];exact ax
 have i:hU (λp o=>p++o) #[] (ag (if c.toArray.isEmpty=true then 0 else k.toNat) c.toArray)=(ag k.toNat c).flatten.toArray:=by
  have O:∀m,hU (λp o=>p++o) #[] _=(ag m c).flatten.toArray:=λm=>by
   have:=jS c m [];exact this
  rw[O];cases c with
  | nil=>simp
  | cons a S =>rw[if_neg (by simp)]
 refine wpAny_binaryOp_repeat_ref (by decide) ⟨_,e,rfl⟩ (λN =>typeIs_int N k t) noFill_list_mul mi fQ repeat_list m4.lookup
  (fv fQ (typeIs_int s k t) m5 (lJ _ _) (int___rmul___int_list k t l _ n)
   ⟨e,rfl,⟨_,e,rfl⟩,fv F.slot_list_mul ⟨_,e,rfl⟩ F.entry_list_mul (F.args_list_mul_2 _ _) (AutoListH.list___mul___list_int_3 l _ n k t g f d) ⟨e, ?_⟩⟩)
 rw[i];exact⟨.ref _,_,I.lnew (r.rep _) (by rw[Jc,dm];exact hz),rfl,q _ I.fresh⟩
end
section
end
section
end
end L2
namespace Att
open PySem PySem.W PySem.Calls PyProof.Rows
theorem JR {P:Params}:∀(c:List Int) (vs:List Value),WellAll P h vs (c.map WData.int)->IntsAre vs c:=by
 intro c
 induction c with
 | nil=>
  intro vs w;cases w;exact .nil
 | cons n c d=>
  intro vs w;cases w with
  | cons a b=>
   cases a;exact .cons _ _ (d _ b)
theorem YA {l:OpenLaw}(hn:l.most=some n){P:Params}{args:List WData}
  (c:l.row.toRowW.claim.pre args=true) (k:WellAll P h vals args):
  ∃a vs e,vals=[Value.ref a]/\args=[WData.list (e.map WData.int)]/\h.get? a=some { cls:= .type "list",data:= .seq vs.toArray }/\IntsAre vs e/\e.length<=n:=by
 have o:=(pre_splitW c).1;have u:=(pre_splitW c).2;obtain⟨d,r,rfl,y,p⟩:=hasAllW_cons o;obtain rfl:=hasAllW_nil p;obtain⟨xs,rfl,v⟩:=hasW_list y;obtain⟨e,rfl⟩:=items_int v;have g:e.length<=n:=by
  have i:=by
   have i:=(holds_andW u).1;rw[hn]at i;exact i
  have j:=condW_of i (w_not (w_lt w_lit (w_len_list (w_arg rfl))));rw[ae]at j;refine Nat.le_of_not_lt λq=> ?_;have x :(n) < ((e.length):Int):=by omega
  first
   | (rw[decide_eq_true x]at j;exact absurd j (by decide))
   | (simp at j)
 cases k with
 | cons w1 w2=>
  cases w2;cases w1 with
  | list w f=>exact⟨_,_,e,rfl,rfl,w,JR e _ f,g⟩
theorem YB (l:OpenLaw)(args:List WData):l.row.toRowW.claim.post args (.bool true) args=true:=
 postW_of
  (show WShape.has [] _ _=true by first | rfl | decide | simp[WShape.has,WShape.arms,WShape.armsAll])
  (show (WTm.eq _ _).value [] _=some _ from w_eq_bool (w_res rfl) w_lit) rfl
theorem attach_call {l:OpenLaw}{XP:(Str->Option Value)->Heap->Prop}{J:World->Heap->Prop}{d:DefRec}
  (hn:l.most=some n) (B:d.params.defaults=[])
  (call:∀(w:World) (s₀ c:Shared) (v I:Str->Option Value) (i:Addr) (o:Obj) (D cd e:Value) (a:Addr) (vs:List Value) (u:List Int),
   Ground q loose [] XP w s₀ v I c.heap->J w c.heap->
   c.heap.get? i=some o->o.data= .func (docDef d.name d.params d.body d.scope D cd e)->c.heap.CodeRec cd d.name->v d.name=some (.ref i)->
   c.heap.get? a=some { cls:= .type "list",data:= .seq vs.toArray }->IntsAre vs u->u.length<=n->c.gens= #[]->
   codeAny (model l.prog w) callerA (.call (.ref i) ⟨[.ref a],[]⟩) (λr x =>r= .ok (.ret (.bool true))/\OldK c.heap x.heap/\x.os=c.os/\AllBare x.gens) c):
  WalkO q loose XP J l.row.toRowW d [] (λf vs=>mr f vs):=by
 intro w s₀ c v I G Y i o D cd e Z kV ho hd C N F S args M as j O Q y hlo;obtain rfl:Z= .none:=Dflts.none N B;obtain rfl:kV= .none:=Dflts.noKw N;obtain⟨a,vs,u,rfl,rfl,k,g,p⟩:=YA hn j y;refine enter_call (eN (call w _ _ v I i o D cd e a vs u G Y ho (fd_plain hd) C F k g p S) λr x hq=> ?_);obtain⟨rfl,U,P,X⟩:=hq;exact⟨.inl ⟨.bool _,.bool _,[],rfl,λ_=>rfl,.bool _,YB l _,λ_=>⟨List.Pairwise.nil,λ_ hm=>(nomatch hm)⟩⟩,U,P,X⟩
end Att
namespace L2
open PySem PySem.Spec PyProof.Rows
theorem jT:∀{vs:List Value} {a:List Int},IntsAre vs a->Vals (a.map V.int) vs
 | _,_,.nil=> .nil
 | _,_,.cons n t h=> .cons ⟨t,rfl⟩ (jT h)
end L2
namespace L2
open PySem PySem.Spec PyProof.Rows
end L2
namespace L2
open PySem PySem.Spec PyProof.Rows
noncomputable def jc (s:Stmt):Arguments:=match s with
 | .FunctionDef _ a _ _ _ _ _ _ _ _=>a
 | _=>{ posonlyargs:=[],args:=[],vararg:=none,kwonlyargs:=[],kw_defaults:=[],kwarg:=none,defaults:=[] }
noncomputable def Z1 (s:Stmt):List Stmt:=match s with
 | .FunctionDef _ _ b _ _ _ _ _ _ _=>b
 | _=>[]
noncomputable def zf (s:Stmt):Scope:=match s with
 | .FunctionDef _ _ _ _ _ _ a _ _ _=>a
 | _=>{ kind:= .function,names:=[],isGenerator:=false,isCoroutine:=false }
abbrev mT:nX:=λ_ _ _ _ _ _=>False
structure Fun (K:ai) (x qual:Str) (st:Stmt) (f:Addr) (fd:FuncData):Prop where
 ex:∃(oc:Value) (od:Option Addr) (kV doc pm:Value) (an:Option Addr) (cdv ct:Value) (osl:Array (Option Value)),
  fd=cx x qual (jc st) (Z1 st) (zf st) .none kV doc pm an cdv ct/\K.lookup f=some ⟨oc,od,.func fd,osl⟩/\h9 K cdv qual=true
 kp:d0 K (.ref f)=true
section
variable {P:Program}{w:World}{K:ai}{mg:Str->Option Value}{base:Heap}
theorem Fun.ok {x a:Str}{st:Stmt}{f:Addr}{i:FuncData}{N g:List Str}{k:Nat}{sp:Sp}(F:Fun K x a st f i)(S:jJ N g (zf st))(len:∀vs H Q E,sp vs H Q E->vs.length=g.length)
  (c:∀(cdv:Value) (A:Around) (outer:List Env) (s:Shared) (H:Hp) (vs:List V) (Q:VK) (E:XK),ja k (A.deeper (envOfC a (zf st) s.heap.objs.size f cdv))->sp vs H Q E->
   ∃t,PSs (jC mT P w K mg base N a (zf st) f cdv A outer s H E).nox (Z1 st) t/\t { nx:=λ_ l =>Q .non l,rt:=Q } (start N vs) H):wD P w K mg base mT (k+1) f i g sp:=by
 obtain⟨v,u,kV,j,r,p,cdv,ct,o,rfl,lk,e⟩:=F.ex;refine kl lk e S len λA outer s H vs Q E hr d=> ?_;obtain⟨t,h,q⟩:=c cdv A _ s H vs Q E hr d;exact⟨t,h.nox,q⟩
theorem Fun.binds {x a:Str}{st:Stmt}{f:Addr}{j:FuncData}{i:List Str}(F:Fun K x a st f j)
  (h:∀(kV c g:Value) (e:Option Addr) (cdv ct:Value) (d:List Value),d.length=i.length->bindArgs (cx x a (jc st) (Z1 st) (zf st) .none kV c g e cdv ct) ⟨d,[]⟩=pure (i.zip d)):Binds K j i []:=by
 obtain⟨p,o,kV,c,g,e,cdv,ct,l,rfl,lk,k⟩:=F.ex;exact .all (h kV c g e cdv ct)
theorem GP {x a:Str}{st:Stmt}{f:Addr}{o:Value}{j g:Option Addr}{e:Array (Option Value)}{kV d i cdv ct:Value}(l:K.lookup f=some ⟨o,j,.func (cx x a (jc st) (Z1 st) (zf st) .none kV d i g cdv ct),e⟩)
  (c:h9 K cdv a=true) (k:d0 K (.ref f)=true):Fun K x a st f (cx x a (jc st) (Z1 st) (zf st) .none kV d i g cdv ct):=⟨⟨o,j,kV,d,i,g,cdv,ct,e,rfl,l,c⟩,k⟩
end
section
theorem pv (i:Nat)(c:X.N[i]? =some x:=by rfl)(d:sy X.env.scope x:=by first | exact Or.inl rfl | exact Or.inr (Or.inl rfl) | exact Or.inr (Or.inr rfl))(hd:(x == ("__debug__":Str))=false:=by decide)
  (a:(x == ("__classdict__":Str))=false:=by decide):PE X (.Name x pos) (W6 i):=Jn c d hd a
end
def zo (H a :Hp):Prop:=∀b o,H b=some o->a b=some o
theorem zo.refl (H:Hp):zo H H:=λ_ _ h=>h
theorem zo.trans (a:zo H H1)(b:zo H1 H2):zo H H2:=λc o h=>b c o (a c o h)
theorem zo.free (e:zo H H')(h:H' l=Option.none):H l=Option.none:=by
 cases q:H l with
 | none=>rfl
 | some o=>
  rw[e l o q]at h;cases h
end L2
namespace L2
open PySem PySem.Spec PyProof.Rows PySem.W
theorem Uo (h:env.frame=some L):ng (env :: outer)=L :: ng outer:=by
 unfold ng;rw[dZ,h]
structure z2f (P:Program) (w:World) (outer:List Env) (H:Hp) (s s' :Shared) (ea:Addr) (cls a0:Value) (B:Heap) (H' :Hp):Prop where
 os:s'.os=s.os
 bare:AllBare s'.gens
 fly:Heap.FlyingW B outer ea cls a0 s'.heap
 hok:HOk P w H' B
 un:Un (ng outer) [] H H' s.heap s'.heap
 inB:∀b o,s.heap.get? b=some o->b ∉ ng outer->(H b=none->B.get? b=some o)/\∃o',B.get? b=some o'
def nc (P:Program)(w:World):nX:=λouter H s E e d =>∃c cls f B a,e= .ref c/\z2f P w outer H s d c cls f B a /\E cls none a
section
variable {X:Cx}{pins:List (Addr×Obj)}{σ:St}{H H' :Hp}{s s' :Shared}{ea:Addr}{cls a0:Value}{B:Heap}{h' h'' :Heap}
theorem Inv.frNf (I:Inv X pins σ H s):∀b∈ng X.stack,H b=none/\∃o,s.heap.get? b=some o/\∀vs,o.data ≠ .fields vs:=λb a=>⟨I.stkFree b a,(I.stack.mem a).2⟩
theorem Inv.old (I:Inv X pins σ H s)(d:X.stack=X.env :: X.outer)(a:X.env.frame=some X.env.locals)(e:X.s₀.heap.get? b=some o)(c:b ∉ ng X.outer):b ∉ ng X.stack:=by
 rw[d,Uo a];intro z;rcases ak.mp z with z | z
 ·exact absurd (aL (au e) I.ok.above) (by rw[z];exact bE _)
 ·exact c z
theorem YC {X:Cx}(d:X.stack=X.env :: X.outer)(a:X.env.frame=some X.env.locals){b:Addr}(c:b∈ng X.outer):b∈ng X.stack:=by
 rw[d,Uo a];exact a9 _ c
theorem z2f.out (I:Inv X pins σ H s)(i:X.stack=X.env :: X.outer)(g:X.env.frame=some X.env.locals)(hex:X.ex=[])(L:z2f X.prog X.w X.stack H s s' ea cls a0 B H')
  (fl:Heap.FlyingW B X.outer ea cls a0 h') (l:s'.heap.UpToSlots h'):z2f X.prog X.w X.outer X.H₀ X.s₀ { s' with heap:=h' } ea cls a0 B H' where
 os:=L.os.trans I.os
 bare:=L.bare
 fly:=fl
 hok:=L.hok
 inB:=λb o e a=>by
  have nx:b ∉ X.ex:=by rw[hex];simp
  obtain⟨j,c⟩:=I.base.there b o e nx;have f :=I.old i g e a;exact⟨λn=>(L.inB b o (I.base.keep b o e n a nx) f).1 (I.base.free b o e n nx),(L.inB b j c f).2⟩
 un:=by
  have nx:∀b,b ∉ X.ex:=λb=>by rw[hex];simp
  have d:∀b o,X.s₀.heap.get? b=some o->X.H₀ b=none->b∈ng X.outer->∃l,h'.get? b=some { o with slots:=l }:=λb o e n a=>by
   obtain⟨p,c⟩:=I.base.slot b o e n a (nx b);have C:=I.base.free b o e n (nx b);obtain⟨F,G⟩:=L.un.slot b _ c C (YC i g a) (by simp)
   obtain⟨_,J,u,x⟩:=I.frNf b (YC i g a);rw[c]at u;cases u;obtain⟨k,y⟩:=l b _ G x;exact⟨k,y⟩
  refine⟨λb o e n a _=> ?_,λb o e n a _=>d b o e n a,λb o e n _=> ?_,λb o e _=> ?_,λb xs e=>L.un.tups b xs (I.base.tups b xs e),λb o xs e=>L.un.frzs b o xs (I.base.frzs b o xs e),λb v q e=>L.un.tbls b v q (I.base.tbls b v q e)⟩
  ·exact fl.1 b o ((L.inB b o (I.base.keep b o e n a (nx b)) (I.old i g e a)).1 (I.base.free b o e n (nx b)))
  ·obtain⟨j,c⟩:=I.base.there b o e (nx b);exact L.un.free b j c (I.base.free b o e n (nx b)) (by simp)
  ·by_cases a:b∈ng X.outer
   ·obtain⟨p,c⟩:=d b o e (I.ok.frf b a) a;exact⟨_,c⟩
   ·obtain⟨j,c⟩:=I.base.there b o e (nx b);obtain⟨r,D⟩:=(L.inB b j c (I.old i g e a)).2;exact⟨r,fl.1 b r D⟩
end
section
variable {P:Program}{w:World}{K:Frag}{mg:Str->Option Value}{base:Heap}{N:List Str}{qual:Str}{scope:Scope}{f:Addr}{cd:Value}{A:Around}{outer:List Env}{s:Shared}{H:Hp}{E:XK}
theorem GQ:jB (nc P w) (jC (nc P w) P w K mg base N qual scope f cd A outer s H E) E:=by
 intro a k o l e p I ⟨c,cls,d,B,i,j,L,hE⟩;subst j;exact wpAny_leaves_onW I.ok.frames rfl L.fly λh' fl g=>⟨c,cls,d,B,i,rfl,L.out I rfl rfl rfl fl g,hE⟩
end
end L2
namespace L2
open PySem PySem.Spec PyProof.Rows PySem.W
noncomputable def DL (cls:Value)(a:Addr)(h:Heap):Prop:=∃o,h.get? a=some o/\o.cls=cls
section
end
end L2
namespace L2
open PySem PySem.Spec PyProof.Rows PySem.W
section
end
end L2
namespace PySem
open PySem.W
section
end
end PySem
namespace L2
open PySem PySem.Spec PyProof.Rows PySem.W
section
def GR (X:Cx)(E:XK):Prop:=∀(d:List (Addr×Obj)) (g:St) (H:Hp) (s:Shared) (e:Value) (f :Shared) (C:Addr) (m:Str->Option Value) (i :Value->Shared->Prop) (a:Env),Inv X d g H s->s.heap.Ns C m->H C=none->X.s₀.heap.objs.size<=C->C ∉ ng X.stack->a.frame=X.env.frame->nc X.prog X.w X.stack H s E e f ->
 wpAny (model X.prog X.w) X.A (noteFrame e a) (λ_ c =>∃m,c.heap.Ns C m/\∀h',bc C c.heap h' ->∀env:Env,env.locals=C->wpAny (model X.prog X.w) X.A (passOn "comprehension.variables-let-go" e env:Sem Value) (λ_ _=>False) X.xe { c with heap:=h' }) i f
theorem ju (h:E=λ_ _ _=>False):GR X E:=λa d H s e g C m f c I _ _ _ _ _ ⟨_,_,_,_,_,_,_,z⟩=>by subst h;exact z.elim
end
end L2
namespace L2
open PySem PySem.Spec PyProof.Rows
theorem PE.imp (h:PE X e t)(i:∀a H Q,t' a H Q->t a H Q):PE X e t' :=λc s a H Q I q=>h _ s a H Q I (i a H Q q)
theorem PT.imp (h:PT X e t)(i:∀a H Q,t' a H Q->t a H Q):PT X e t' :=λc s a H Q I q=>h _ s a H Q I (i a H Q q)
theorem PA.imp (h:PA X e t)(i:∀a H Q,t' a H Q->t a H Q):PA X e t' :=λpos c s a H Q I q=>h pos _ s a H Q I (i a H Q q)
theorem PS.imp (h:PS X e t)(i:∀D a H,t' D a H->t D a H):PS X e t' :=λc s a H D I q=>h _ s a H D I (i D a H q)
theorem PSs.imp (h:PSs X e t)(i:∀D a H,t' D a H->t D a H):PSs X e t' :=λc s a H D I q=>h _ s a H D I (i D a H q)
end L2
namespace PV
open PySem
noncomputable def u9:Expr->Bool
 | .Starred _ _=>false
 | _=>true
theorem zD (h:u9 e=true):starEach (e :: rest) env=(false,eval e env) :: starEach rest env:=by
 cases e <;> first | rfl | cases h
theorem nO (h:u9 a=true)(h' :u9 b=true):starEach [a,b] env=[(false,eval a env),(false,eval b env)]:=by
 rw[zD h,zD h'];rfl
theorem mQ (h:u9 a=true):starEach [a] env=[(false,eval a env)]:=by
 rw[zD h];rfl
theorem zT {pos:Pos}{env:Env}:∀{a:List Expr},a.all u9=true->((backTo pos (starEach a env)).any λx=>x.fst)=false
 | [],_=>rfl
 | e :: a,h=>by
  rw[cX,aj]at h;rw[zD h.1];have:=zT (pos:=pos) (env:=env) h.2;show (false || ((backTo pos _).any λx=>x.fst))=false
  rw[this];rfl
open PySem PySem.Spec PyProof.Rows L2
noncomputable abbrev Sg:=L2.St
inductive T where
 | non | bl (b:Bool) | int (i:Int) | str (x:Str) | tup (xs:List T) | lst (xs:List T) | fz (xs:List T)
inductive R (α:Type) where
 | ok (a:α) | ex (c:Nat) | bad
noncomputable def R.bind {e d:Type}(r:R e)(f:e->R d):R d:=match r with
 | .ok a=>f a
 | .ex c=> .ex c
 | .bad=> .bad
mutual
inductive Rep (H:Hp):V->T->Prop where
 | non:Rep H .non .non
 | bl (b:Bool):Rep H (.bl b) (.bl b)
 | int (i:Int):Rep H (.int i) (.int i)
 | str (x:Str):Rep H (.str x) (.str x)
 | tup {a:Addr} {xs:List V} {ts:List T}:H a=some (.tup xs)->zy H xs ts->Rep H (.ref a) (.tup ts)
 | lst {a:Addr} {xs:List V} {ts:List T}:H a=some (.lst xs)->zy H xs ts->Rep H (.ref a) (.lst ts)
 | fz {a:Addr} {o:Obj} {xs:List V} {ts:List T}:H a=some (.frz o (.lst xs))->zy H xs ts->Rep H (.ref a) (.fz ts)
inductive zy (H:Hp):List V->List T->Prop where
 | nil:zy H [] []
 | cons {v:V} {t:T} {vs:List V} {ts:List T}:Rep H v t->zy H vs ts->zy H (v :: vs) (t :: ts)
end
mutual
theorem Rep.mono {H a :Hp}(s:zo H a):∀{v:V} {t:T},Rep H v t->Rep a v t
 | _,_,.non=> .non
 | _,_,.bl b=> .bl b
 | _,_,.int i=> .int i
 | _,_,.str x=> .str x
 | _,_,.tup h r=> .tup (s _ _ h) (zy.mono s r)
 | _,_,.lst h r=> .lst (s _ _ h) (zy.mono s r)
 | _,_,.fz h r=> .fz (s _ _ h) (zy.mono s r)
theorem zy.mono {H a :Hp}(s:zo H a):∀{v:List V} {t:List T},zy H v t->zy a v t
 | _,_,.nil=> .nil
 | _,_,.cons h r=> .cons (Rep.mono s h) (zy.mono s r)
end
theorem zy.length {H:Hp}:∀{vs:List V} {ts:List T},zy H vs ts->vs.length=ts.length
 | _,_,.nil=>rfl
 | _,_,.cons _ r=>congrArg _ (zy.length r)
theorem zy.get {H:Hp}:∀{vs:List V} {ts:List T} {i:Nat} {t:T},zy H vs ts->ts[i]? =some t->∃v,vs[i]? =some v/\Rep H v t
 | _,_,_,_,.nil,e=>by simp at e
 | _,_,0,_,.cons r _,e=>by simp at e;subst e;exact⟨_,rfl,r⟩
 | _,_,i+1,t,.cons _ q,e=>by
  obtain⟨v,c,a⟩:=zy.get q (by simpa using e)
  exact⟨v,by simpa using c,a⟩
theorem zy.getV {H:Hp}:∀{vs:List V} {ts:List T} {i:Nat} {v:V},zy H vs ts->vs[i]? =some v->∃t,ts[i]? =some t/\Rep H v t
 | _,_,_,_,.nil,e=>by simp at e
 | _,_,0,_,.cons r _,e=>by simp at e;subst e;exact⟨_,rfl,r⟩
 | _,_,i+1,v,.cons _ q,e=>by
  obtain⟨t,c,a⟩:=zy.getV q (by simpa using e)
  exact⟨t,by simpa using c,a⟩
theorem zy.append {H:Hp}:∀{vs c:List V} {ts a:List T},zy H vs ts->zy H c a->zy H (vs++c) (ts++a)
 | _,_,_,_,.nil,q=>q
 | _,_,_,_,.cons r t,q=> .cons r (zy.append t q)
theorem zy.take {H:Hp}:∀{vs:List V} {ts:List T} (n:Nat),zy H vs ts->zy H (vs.take n) (ts.take n)
 | _,_,0,_=> .nil
 | _,_,_+1,.nil=> .nil
 | _,_,n+1,.cons r t=> .cons r (zy.take n t)
theorem zy.drop {H:Hp}:∀{vs:List V} {ts:List T} (n:Nat),zy H vs ts->zy H (vs.drop n) (ts.drop n)
 | _,_,0,r=>r
 | _,_,_+1,.nil=> .nil
 | _,_,n+1,.cons _ t=>zy.drop n t
theorem zy.rep {H:Hp}{vs:List V}{ts:List T}(h:zy H vs ts):∀n:Nat,zy H (ag n vs).flatten (ag n ts).flatten
 | 0=> .nil
 | n+1=>by
  exact h.append (zy.rep h n)
theorem zy.nil_iff (h:zy H vs ts):vs=[]↔ts=[]:=by
 cases h <;> simp
def zF (B H a :Hp):Hp:=λb=>match H b with
 | none=>a b
 | some _=>B b
theorem zM (h:H b=none):zF B H H' b=H' b:=by unfold zF;rw[h]
theorem zR (h:H b=some o):zF B H H' b=B b:=by unfold zF;rw[h]
theorem zF.ge (s:zo B H)(a :zo H H'):zo B (zF B H H'):=λb o h=>by
 rw[zR (s b o h)];exact h
theorem zF.le (s:zo B H)(a :zo H H'):zo (zF B H H') H' :=λb o h=>by
 cases q:H b with
 | none=>rw[zM q]at h;exact h
 | some u=>rw[zR q]at h;exact a b o (s b o h)
theorem zF.self (B H:Hp)(s:zo B H):zF B H H=B:=by
 funext b
 cases q:H b with
 | none=>
  rw[zM q,q];cases z:B b with
  | none=>rfl
  | some o=>rw[s b o z]at q;cases q
 | some u=>rw[zR q]
theorem zF.trans (c:zo H H1)(a:zo H1 H2):zF (zF B H H1) H1 H2=zF B H H2:=by
 funext b
 cases q:H b with
 | none=>
  rw[zM q];cases z:H1 b with
  | none=>rw[zM z]
  | some o=>rw[zR z,zM q,z,a b o z]
 | some u=>rw[zR q,zR (c b u q),zR q]
inductive Fd where
 | tv (t:T) | tl (ts:List T)
noncomputable abbrev Ob:=Nat×List (Str×Fd)
noncomputable def DB:List Str:=["kind","remaining","done","undone","first","last","answered"]
def Dh (vs:List (Str×V)):Prop:=∀f,f ∉ DB->vs.lookup f=none
inductive Sl where
 | un | vl (t:T) | ow (ts:List T) | xc (c:Nat) | ob (k n:Nat) | oc (k:Nat) (fs:List (Str×Fd)) | st (os:List Ob)
noncomputable def Sl.isS:Sl->Bool
 | .ob _ _=>true
 | .st _=>true
 | _=>false
noncomputable def Sl.isO:Sl->Bool
 | .ob _ _=>true
 | .oc _ _=>true
 | .st _=>true
 | _=>false
noncomputable abbrev En:=List Sl
structure Fx where
 B0:Hp
 H0:Hp
 E:XK
 cl:Nat->Value
 as:List Addr
def tz (ρ:En)(c:Sg)(l:Addr):Prop:=∀(j:Nat) (a:List T),ρ[j]? =some (Sl.ow a)->c[j]? ≠ some (some (V.ref l))
def E3 (Y:Fx)(B:Hp)(ρ:En)(a:Sg)(H:Hp)(o:Addr->Prop)(v:V):Fd->Prop
 | .tv t=>Rep B v t
 | .tl ts=>∃l xs,v= .ref l/\B l=none/\Y.H0 l=none/\H l=some (.lst xs)/\zy B xs ts/\tz ρ a l/\o l
def FsO (B H:Hp)(vs:List (Str×V))(fs:List (Str×Fd)):Prop:=∀(m:Nat) (f:Str) (d:Fd),fs[m]? =some (f,d)->∃v,vs[m]? =some (f,v)/\match d with
 | .tv t=>Rep B v t
 | .tl ts=>∃l xs,v= .ref l/\H l=some (.lst xs)/\zy B xs ts
theorem FsO.mono {B g H i :Hp}{vs:List (Str×V)}{fs:List (Str×Fd)}(h:FsO B H vs fs)(s:zo B g)(k :zo H i):FsO g i vs fs:=λm f d e=>by
 obtain⟨v,j,r⟩:=h m f d e;refine⟨v,j, ?_⟩;cases d with
 | tv t=>exact Rep.mono s r
 | tl ts=>obtain⟨l,xs,a,b,c⟩:=r;exact⟨l,xs,a,k _ _ b,c.mono s⟩
structure StI (Y:Fx) (B:Hp) (ρ:En) (σ:Sg) (H:Hp) (as:List Addr) (O:Addr->Option (Nat×Nat)):Prop where
 pre:Y.as <+:as
 len:∀(i:Nat) (os:List Ob),ρ[i]? =some (Sl.st os)->as.length=os.length
 one:∀(i j:Nat) (os os' :List Ob),ρ[i]? =some (Sl.st os)->ρ[j]? =some (Sl.st os')->i=j
 ob:∀(i k n:Nat),ρ[i]? =some (Sl.ob k n)->∃a C dx vs,as[n]? =some a/\σ[i]? =some (some (V.ref a))/\Y.cl k= .ref C/\H a=some (.ins C dx vs)/\B a=none/\Y.H0 a=none/\Dh vs
 oc:∀(i k:Nat) (fs:List (Str×Fd)),ρ[i]? =some (Sl.oc k fs)->∃a C dx vs,σ[i]? =some (some (V.ref a))/\Y.cl k= .ref C/\Y.H0 a=some (.ins C dx vs)/\Dh vs/\FsO B Y.H0 vs fs
 st:∀(i:Nat) (os:List Ob),ρ[i]? =some (Sl.st os)->∀(n k:Nat) (fs:List (Str×Fd)),os[n]? =some (k,fs)->∃a C dx vs,as[n]? =some a/\Y.cl k= .ref C/\H a=some (.ins C dx vs)/\B a=none/\Y.H0 a=none/\O a=some (n,0)/\(vs.length=fs.length/\Dh vs)/\
  ∀(m:Nat) (f:Str) (d:Fd),fs[m]? =some (f,d)->∃v,vs[m]? =some (f,v)/\E3 Y B ρ σ H (λl=>O l=some (n,m+1)) v d
structure SI (Y:Fx) (B:Hp) (ρ:En) (σ:Sg) (H:Hp):Prop where
 s0:zo Y.B0 Y.H0
 sH:zo Y.H0 H
 sB:zo B H
 old:∀b o,Y.H0 b=some o->B b=Y.B0 b
 len:ρ.length=σ.length
 vl:∀(i:Nat) (t:T),ρ[i]? =some (Sl.vl t)->∃v:V,σ[i]? =some (some v)/\Rep B v t
 ow:∀(i:Nat) (ts:List T),ρ[i]? =some (Sl.ow ts)->∃(a:Addr) (xs:List V),σ[i]? =some (some (V.ref a))/\B a=none/\Y.H0 a=none/\H a=some (.lst xs)/\zy B xs ts/\
  ∀(j:Nat) (us:List T),j ≠ i->ρ[j]? =some (Sl.ow us)->σ[j]? ≠ some (some (V.ref a))
 xc:∀(i:Nat) (c:Nat),ρ[i]? =some (Sl.xc c)->∃a:Addr,σ[i]? =some (some (V.ref a))/\B a=some (.ext (DL (Y.cl c) a))
 st:∃as O,StI Y B ρ σ H as O
theorem StI.on {Y y :Fx}{B P :Hp}{ρ ρ' :En}{M σ' :Sg}{H H' :Hp}{X:List Addr}{O:Addr->Option (Nat×Nat)}(x:StI Y B ρ M H X O)(g:∀(i:Nat) (s:Sl),s.isO=true->ρ'[i]? =some s->ρ[i]? =some s/\σ'[i]? =M[i]?)(U:zo B P)(Q:y.cl=Y.cl)(hA:y.as=Y.as)(h0:zo Y.H0 y.H0)
  (N:∀b o,H b=some o->B b=none->Y.H0 b=none->((∃C c vs,o= .ins C c vs)\/tz ρ M b)->H' b=some o/\P b=none/\y.H0 b=none/\(tz ρ M b->tz ρ' σ' b)):StI y P ρ' σ' H' X O where
 pre:=by rw[hA];exact x.pre
 len:=λi os h=>x.len i os (g i _ rfl h).1
 one:=λi j os S D G=>x.one i j os S (g i _ rfl D).1 (g j _ rfl G).1
 ob:=λi k n h=>by
  obtain⟨D,G⟩:=g i _ rfl h;obtain⟨a,C,c,vs,I,w,p,q,e5,J⟩:=x.ob i k n D;obtain⟨r,F,u,_⟩:=N a _ q e5 J.1 (.inl ⟨_,_,_,rfl⟩);rw[G,Q];exact⟨a,C,c,vs,I,w,p,r,F,u,J.2⟩
 oc:=λi k fs h=>by
  obtain⟨D,G⟩:=g i _ rfl h;obtain⟨a,C,c,vs,I,w,p,q,e5⟩:=x.oc i k fs D;rw[G,Q];exact⟨a,C,c,vs,I,w,h0 _ _ p,q,e5.mono U h0⟩
 st:=λi os h n k fs e=>by
  obtain⟨a,C,c,vs,I,w,p,q,e5,J,e7,e8⟩:=x.st i os (g i _ rfl h).1 n k fs e;obtain⟨r,F,u,_⟩:=N a _ p q e5 (.inl ⟨_,_,_,rfl⟩);refine⟨a,C,c,vs,I,by rw[Q];exact w,r,F,u,J,e7,λm f d z=> ?_⟩
  obtain⟨v,z1,Z⟩:=e8 m f d z;refine⟨v,z1, ?_⟩;cases d with
  | tv t=>exact Rep.mono U Z
  | tl ts=>
   obtain⟨l,xs,p1,p2,p3,p4,p5,p6,p7⟩:=Z;obtain⟨r,F,u,g4⟩:=N l _ p4 p2 p3 (.inr p6);exact⟨l,xs,p1,F,u,r,p5.mono U,g4 p6,p7⟩
theorem StI.no (h:∀(i:Nat) (s:Sl),s.isO=true->ρ[i]? ≠ some s):∃a O,StI Y B ρ σ H a O:=⟨Y.as,λ_=>none,iu _,λi os e=>(h i _ rfl e).elim,λi j os c e=>(h i _ rfl e).elim,λi k n e=>(h i _ rfl e).elim,λi k fs e=>(h i _ rfl e).elim,λi os e=>(h i _ rfl e).elim⟩
theorem SI.grow {Y:Fx}{B:Hp}{ρ:En}{j:Sg}{H g :Hp}(I:SI Y B ρ j H)(s:zo H g):SI Y (zF B H g) ρ j g where
 s0:=I.s0
 sH:=I.sH.trans s
 sB:=zF.le I.sB s
 old:=λb o h=>by rw[zR (I.sH b o h)];exact I.old b o h
 len:=I.len
 vl:=λi t h=>let ⟨v,e,r⟩:=I.vl i t h;⟨v,e,r.mono (zF.ge I.sB s)⟩
 ow:=λi ts h=>let ⟨a,xs,e,b,f,hh,r,d⟩:=I.ow i ts h;⟨a,xs,e,by rw[zR hh];exact b,f,s _ _ hh,r.mono (zF.ge I.sB s),d⟩
 xc:=λi c h=>let ⟨a,e,r⟩:=I.xc i c h;⟨a,e,zF.ge I.sB s a _ r⟩
 st:=let ⟨as,O,x⟩:=I.st;⟨as,O,x.on (λ_ _ _ h=>⟨h,rfl⟩) (zF.ge I.sB s) rfl rfl (zo.refl _) λb o h k f _=>⟨s _ _ h,by rw[zR h];exact k,f,id⟩⟩
def XP (Y:Fx)(B:Hp)(c:Nat):Prop:=∀(d:Option Addr) (a :Hp),zo Y.H0 a ->zo B a ->Y.E (Y.cl c) d a
def Po {g f:Type}(Y:Fx)(e:Hp->Hp->f->g->Prop)(B H:Hp)(r:R g)(Q:f->Hp->Prop):Prop:=match r with
 | .ok a=>∀b d,zo H d ->e (zF B H d) d b a->Q b d
 | .ex c=>XP Y B c
 | .bad=>False
abbrev rC:Hp->Hp->V->T->Prop:=λB _ v t=>Rep B v t
abbrev rB:Hp->Hp->V->T->Prop:=λ_ H v t=>Rep H v t
abbrev Ec:Hp->Hp->List V->List T->Prop:=λB _ v t=>zy B v t
abbrev rE {α:Type}:Hp->Hp->α->α->Prop:=λ_ _ a b=>a=b
def tS {d c:Type}(Y:Fx)(a:Hp->Hp->c->d->Prop)(f:En->R d)(ρ:En):Sg->Hp->(c->Hp->Prop)->Prop:=λe H Q=>∃B,SI Y B ρ e H/\Po Y a B H (f ρ) Q
structure Snd (X:Cx) (Y:Fx) (e:Expr) (f:En->R T):Prop where
 mk ::
 go:∀ρ,PE X e (tS Y rC f ρ)
instance {X:Cx}{Y:Fx}{e:Expr}{f:En->R T}:CoeFun (Snd X Y e f) λ_=>∀ρ,PE X e (tS Y rC f ρ):=⟨Snd.go⟩
structure jz (X:Cx) (Y:Fx) (e:Expr) (f:En->R T):Prop where
 mk ::
 go:∀ρ,PE X e (tS Y rB f ρ)
instance {X:Cx}{Y:Fx}{e:Expr}{f:En->R T}:CoeFun (jz X Y e f) λ_=>∀ρ,PE X e (tS Y rB f ρ):=⟨jz.go⟩
structure ua (X:Cx) (Y:Fx) (e:Expr) (f:En->R Bool):Prop where
 mk ::
 go:∀ρ,PT X e (tS Y rE f ρ)
instance {X:Cx}{Y:Fx}{e:Expr}{f:En->R Bool}:CoeFun (ua X Y e f) λ_=>∀ρ,PT X e (tS Y rE f ρ):=⟨ua.go⟩
structure Up (X:Cx) (Y:Fx) (es:List Expr) (f:En->R (List T)):Prop where
 mk ::
 go:∀ρ,PA X es (tS Y Ec f ρ)
instance {X:Cx}{Y:Fx}{es:List Expr}{f:En->R (List T)}:CoeFun (Up X Y es f) λ_=>∀ρ,PA X es (tS Y Ec f ρ):=⟨Up.go⟩
theorem step {q l v o :Type}{j:Hp->Hp->v->q->Prop}{i :Hp->Hp->o ->l ->Prop}{f:En->R q}{k:q->R l}{Q:o ->Hp->Prop}{K:v->Hp->Prop}
  (I:SI Y B ρ σ H) (h:Po Y i B H ((f ρ).bind k) Q)
  (n:∀a b g,f ρ= .ok a->zo H g->j (zF B H g) g b a->SI Y (zF B H g) ρ σ g->Po Y i (zF B H g) g (k a) Q->K b g):tS Y j f ρ σ H K:=by
 refine⟨B,I, ?_⟩;cases e:f ρ with
 | bad=>rw[e]at h;exact h
 | ex c=>rw[e]at h;exact h
 | ok a=>
  rw[e]at h;intro b g s r;refine n a b g e s r (I.grow s) ?_;have h' :Po Y _ B H (k a) Q:=h;revert h';cases k a with
  | bad=>exact λh' =>h'
  | ex c=>exact λh' d x w p =>h' d x w ((zF.ge I.sB s).trans p)
  | ok F =>exact λh' D C u y=>h' D C (s.trans u) (by rw[← zF.trans s u];exact y)
theorem ZN {e d:Type}{c:Hp->Hp->d->e->Prop}{a:e}{b:d}{Q:d->Hp->Prop}(I:SI Y B ρ σ H)(h:Po Y c B H (.ok a) Q)(r:c B H b a):Q b H:=h b H (zo.refl H) (by rw[zF.self B H I.sB];exact r)
theorem Snd.b {X:Cx}{Y:Fx}{e:Expr}{f:En->R T}(h:Snd X Y e f):jz X Y e f:= .mk λρ=>PE.imp (h ρ) λg H Q ⟨B,I,q⟩=>⟨B,I,by
 revert q;cases f ρ with
 | bad=>exact λq=>q
 | ex c=>exact λq=>q
 | ok a=>exact λq b d s r=>q b d s (r.mono (zF.le I.sB s))⟩
section
def vE (i:Nat):En->R T:=λρ=>match ρ[i]? with
 | some (.vl t)=> .ok t
 | _=> .bad
def vB (i:Nat):En->R T:=λρ=>match ρ[i]? with
 | some (.vl t)=> .ok t
 | some (.ow ts)=> .ok (.lst ts)
 | _=> .bad
def cE (t:T):En->R T:=λ_=> .ok t
theorem Fq (i:Nat)(h:PE X (.Name x pos) (W6 i)):Snd X Y (.Name x pos) (vE i):= .mk λρ=>PE.imp h λc H Q ⟨B,I,q⟩=>by
 unfold vE at q;split at q
 ·rename_i t e;obtain⟨v,a,r⟩:=I.vl i t e;exact⟨v,a,ZN I q r⟩
 ·exact q.elim
theorem GS (i:Nat){x:Str}(h:PE X (.Name x pos) (W6 i)):jz X Y (.Name x pos) (vB i):= .mk λρ=>PE.imp h λf H Q ⟨B,I,q⟩=>by
 unfold vB at q;split at q
 ·rename_i t e;obtain⟨v,c,r⟩:=I.vl i t e;exact⟨v,c,ZN I q (r.mono I.sB)⟩
 ·rename_i ts e;obtain⟨a,xs,c,_,_,d,r,_⟩:=I.ow i ts e;exact⟨.ref a,c,ZN I q (.lst d (r.mono I.sB))⟩
 ·exact q.elim
theorem Iq {i j}:Snd X Y (.Constant (.int i) j pos) (cE (.int i)):= .mk λρ=>PE.imp Gn λa H Q ⟨B,I,q⟩=>ZN I q (.int i)
theorem Dc {i j}:Snd X Y (.Constant (.bool i) j pos) (cE (.bl i)):= .mk λρ=>PE.imp LD λa H Q ⟨B,I,q⟩=>ZN I q (.bl i)
theorem FP {j}:Snd X Y (.Constant .none j pos) (cE .non):= .mk λρ=>PE.imp Go λa H Q ⟨B,I,q⟩=>ZN I q .non
theorem HE {i j}:Snd X Y (.Constant (.str i) j pos) (cE (.str i)):= .mk λρ=>PE.imp xN λa H Q ⟨B,I,q⟩=>ZN I q (.str i)
def ze:En->R (List T):=λ_=> .ok []
def za (f:En->R T)(g:En->R (List T)):En->R (List T):=λρ=>(f ρ).bind λt=>(g ρ).bind λts=> .ok (t :: ts)
theorem L4:Up X Y [] ze:= .mk λρ=>PA.imp zH λa H Q ⟨B,I,q⟩=>ZN I q .nil
theorem GT {c:List Expr}{g:En->R (List T)}(h:Snd X Y a fa)(i:Up X Y c g)(p:starEach (a :: c) X.env=(false,eval a X.env) :: starEach c X.env:=by exact zD rfl):Up X Y (a :: c) (za fa g):= .mk λρ=>
 PA.imp (zm (h ρ) (i ρ) p) λr H Q ⟨B,I,q⟩=>step I q λt v x _ u j d o=>step d o λts vs w _ f l e k=>ZN e k (.cons (j.mono (zF.ge d.sB f)) l)
theorem zo.new (h:H p=none)(o:HO):zo H (mz H p o):=λb u q=>by rw[zi (zG q h)];exact q
theorem jd (h:H p=none)(o:HO):zF B H (mz H p o) p=some o:=by rw[zM h,zl]
noncomputable def mF:Nat:=16777216
theorem ZF (h:n<=mF):n<=sizeLine:=by exact h
def Za (g:En->R (List T)):En->R T:=λρ=>(g ρ).bind λts=>if ts.length<=mF then .ok (.tup ts) else .bad
def Zc (g:En->R (List T)):En->R T:=λρ=>(g ρ).bind λts=>if ts.length<=mF then .ok (.lst ts) else .bad
theorem kD {ρ:En}{a:Sg}{B H:Hp}{xs:List V}{ts:List T}(I:SI Y B ρ a H)(r:zy B xs ts){p:Addr}(h:H p=none):Rep (zF B H (mz H p (.tup xs))) (.ref p) (.tup ts):=
 .tup (jd h _) (r.mono (zF.ge I.sB (zo.new h _)))
theorem kG {ρ:En}{a:Sg}{B H:Hp}{xs:List V}{ts:List T}(I:SI Y B ρ a H)(r:zy B xs ts){p:Addr}(h:H p=none):Rep (zF B H (mz H p (.lst xs))) (.ref p) (.lst ts):=
 .lst (jd h _) (r.mono (zF.ge I.sB (zo.new h _)))
theorem Fk {c:List Expr}{g:En->R (List T)}{x1}(h:Up X Y c g):Snd X Y (.Tuple c x1 pos) (Za g):= .mk λρ=>PE.imp (xR (h ρ)) λi H Q ⟨B,I,q⟩=>
 step I q λts vs k _ j d e a=>by
  split at a
  ·rename_i f;refine⟨by rw[d.length];exact ZF f,λp hp=>a _ _ (zo.new hp _) (kD e d hp)⟩
  ·exact a.elim
theorem HF {c:List Expr}{g:En->R (List T)}(h:Up X Y c g):Snd X Y (.List c pos) (Zc g):= .mk λρ=>PE.imp (Yu (h ρ)) λi H Q ⟨B,I,q⟩=>
 step I q λts vs k _ j d e a=>by
  split at a
  ·rename_i f;refine⟨by rw[d.length];exact ZF f,λp hp=>a _ _ (zo.new hp _) (kG e d hp)⟩
  ·exact a.elim
end
end PV
namespace PV
open PySem PySem.Spec PyProof.Rows L2
noncomputable def nu (f:T->T->Option Bool):List T->List T->Option Bool
 | [],[]=>some true
 | [],_ :: _=>some false
 | _ :: _,[]=>some false
 | x :: xs,y :: a=>match f x y with
  | none=>none
  | some b=>match nu f xs a with
   | none=>none
   | some c=>some (b && c)
noncomputable def b2 (b:Bool):Int:=if b then 1 else 0
def mE:Nat->T->T->Option Bool
 | _,.non,.non=>some true
 | _,.bl a,.bl b=>some (a == b)
 | _,.bl a,.int j=>some (b2 a == j)
 | _,.int i,.bl b=>some (i == b2 b)
 | _,.int i,.int j=>some (i == j)
 | _,.str x,.str y=>some (x == y)
 | n+1,.tup xs,.tup c=>nu (mE n) xs c
 | n+1,.lst xs,.lst c=>nu (mE n) xs c
 | n+1,.fz xs,.lst c=>nu (mE n) xs c
 | n+1,.lst xs,.fz c=>nu (mE n) xs c
 | n+1,.fz xs,.fz c=>nu (mE n) xs c
 | 0,.tup _,.tup _=>none
 | 0,.lst _,.lst _=>none
 | 0,.fz _,.lst _=>none
 | 0,.lst _,.fz _=>none
 | 0,.fz _,.fz _=>none
 | _,.non,_=>some false
 | _,.bl _,_=>some false
 | _,.int _,_=>some false
 | _,.str _,_=>some false
 | _,.tup _,_=>some false
 | _,.lst _,_=>some false
 | _,.fz _,_=>some false
mutual
theorem Rep.fn {H:Hp}:∀{v:V} {t t' :T},Rep H v t->Rep H v t' ->t=t'
 | _,_,_,.non,q=>by cases q;rfl
 | _,_,_,.bl _,q=>by cases q;rfl
 | _,_,_,.int _,q=>by cases q;rfl
 | _,_,_,.str _,q=>by cases q;rfl
 | _,_,_,.tup h r,q=>by cases q <;> rename_i a h' <;> rw[h]at h' <;> cases h';rw[zy.fn r a]
 | _,_,_,.lst h r,q=>by cases q <;> rename_i a h' <;> rw[h]at h' <;> cases h';rw[zy.fn r a]
 | _,_,_,.fz h r,q=>by cases q <;> rename_i a h' <;> rw[h]at h' <;> cases h';rw[zy.fn r a]
theorem zy.fn {H:Hp}:∀{v:List V} {t t' :List T},zy H v t->zy H v t' ->t=t'
 | _,_,_,.nil,q=>by cases q;rfl
 | _,_,_,.cons h r,q=>by
  cases q with
  | cons h' a =>rw[Rep.fn h h',zy.fn r a]
end
theorem Zl {f:T->T->Option Bool}(g:∀x b,f x x=some b->b=true):∀(xs:List T) (b:Bool),nu f xs xs=some b->b=true
 | [],b,h=>by
  have h' :=h;cases h';rfl
 | x :: xs,b,h=>by
  unfold nu at h;cases e:f x x with
  | none=>rw[e]at h;cases h
  | some c=>
   rw[e]at h;cases a :nu f xs xs with
   | none=>rw[a]at h;cases h
   | some d=>
    rw[a]at h;cases h;rw[g x c e,Zl g xs d a];rfl
theorem Z3:∀(n:Nat) (t:T) (b:Bool),mE n t t=some b->b=true
 | n,.non,b,h=>by unfold mE at h;cases h;rfl
 | n,.bl x,b,h=>by unfold mE at h;cases h;simp
 | n,.int x,b,h=>by unfold mE at h;cases h;simp
 | n,.str x,b,h=>by unfold mE at h;cases h;simp
 | 0,.tup x,b,h=>by cases h
 | 0,.lst x,b,h=>by cases h
 | 0,.fz x,b,h=>by cases h
 | n+1,.tup x,b,h=>by exact Zl (Z3 n) x b h
 | n+1,.lst x,b,h=>by exact Zl (Z3 n) x b h
 | n+1,.fz x,b,h=>by exact Zl (Z3 n) x b h
theorem YD {f:T->T->Option Bool}:∀{xs a:List T} {b:Bool},nu f xs a=some b->
  ∃e:Nat->Bool,(∀j x y,xs[j]? =some x->a[j]? =some y->f x y=some (e j))/\((aN (min xs.length a.length)).all e && xs.length == a.length)=b
 | [],[],b,h=>by
  have h' :=h;cases h';exact⟨λ_=>true,λj x y h=>by simp at h,by simp⟩
 | [],y :: a,b,h=>by
  have h' :=h;cases h';exact⟨λ_=>true,λj x y h=>by simp at h,by simp⟩
 | x :: xs,[],b,h=>by
  have h' :=h;cases h';exact⟨λ_=>true,λj x y h h' =>by simp at h',by simp⟩
 | x :: xs,y :: a,b,h=>by
  unfold nu at h;cases e:f x y with
  | none=>rw[e]at h;cases h
  | some c=>
   rw[e]at h;cases l :nu f xs a with
   | none=>rw[l]at h;cases h
   | some d=>
    rw[l]at h;cases h;obtain⟨g,p,o⟩:=YD l;refine⟨λj=>match j with | 0=>c | j+1=>g j,λj u v i k=> ?_, ?_⟩
    ·cases j with
     | zero=>simp at i k;subst i k;exact e
     | succ j=>exact p j u v (by simpa using i) (by simpa using k)
    ·have z:min (x :: xs).length (y :: a).length=min xs.length a.length+1:=by simp only[aw];omega
     rw[z,dq,cX,lK];have q:((x :: xs).length == (y :: a).length)=(xs.length == a.length):=by simp
     rw[q,← o,Bool.and_assoc];rfl
section
theorem ZR (I:L2.Inv X pins σ H s)(h:H a=some (.tup xs))(r:zy H xs ts):∃c:List Value,Vals xs c/\s.heap.IsTuple a c.toArray/\ts.length=c.length/\xs.length<=sizeLine:=by
 obtain⟨c,d,p,z⟩:=I.tuple (SqT.of h);exact⟨c,d,p,by rw[← r.length];exact d.length,z⟩
theorem zL (I:L2.Inv X pins σ H s)(h:Rd H a (.lst xs))(r:zy H xs ts):∃c:List Value,Vals xs c/\s.heap.IsList a c.toArray/\ts.length=c.length/\xs.length<=sizeLine:=by
 obtain⟨c,d,p,z⟩:=I.list (.inl h);exact⟨c,d,p.isList,by rw[← r.length];exact d.length,z⟩
end
noncomputable abbrev oY (A:Around)(s:Shared)(u u' :Value)(b:Bool):Prop:=dk A s u u' b/\iI A s u u' b/\eR A s u u' (!b)
section
theorem YE {f:T->T->Option Bool}{e:Nat->Bool}(r:zy H xs ts)(M :zy H ys us)(v:Vals xs its)(o :Vals ys its')
  (F:∀(j:Nat) (x y:T),ts[j]? =some x->us[j]? =some y->f x y=some (e j))
  (N:∀(x y:T) (b:Bool) (p q:V) (u w:Value),f x y=some b->Rep H p x->Rep H q y->RelV p u->RelV q w->oY A s u w b) (j:Nat) (k:j < its.toArray.size) (l:j < its'.toArray.size):
  dk A s its.toArray[j] its'.toArray[j] (e j):=by
 have P:=v.length;have Q:=o.length;have B:j < xs.length:=by simp at k;omega
 have i:j < ys.length:=by simp at l;omega
 obtain⟨t,I,rt⟩:=r.getV (ah B);obtain⟨t',d,a⟩:=M.getV (ah i);obtain⟨u,D,J⟩:=v.get (ah B);obtain⟨C,g,c⟩:=o.get (ah i);have G:=by
  have:its[j]? =some its.toArray[j]:=by simp at k ⊢
  rw[D]at this;exact(aH this).symm
 have O:=by
  have:its'[j]? =some its'.toArray[j]:=by simp at l ⊢
  rw[g]at this;exact(aH this).symm
 rw[G,O];exact(N t t' _ _ _ u C (F j t t' I d) rt a J c).1
theorem kH {A:Around}{a c:Addr}{xs C:List V}{ts D:List T}{b:Bool}{f:T->T->Option Bool}(I:L2.Inv X pins σ H s)(F:A.units < cLine)(G:H a=some (.tup xs))(k:H c=some (.tup C))(r:zy H xs ts)(o :zy H C D)
  (B:nu f ts D=some b) (hr:∀x b,f x x=some b->b=true)
  (Q:∀(x y:T) (b:Bool) (p q:V) (u w:Value),f x y=some b->Rep H p x->Rep H q y->RelV p u->RelV q w->oY A.in1 s u w b):oY A s (.ref a) (.ref c) b:=by
 obtain⟨g,v,p,l,_⟩:=ZR I G r;obtain⟨d,P,J,M,_⟩:=ZR I k o;obtain⟨e,O,j⟩:=YD B;have hp:=YE r o v P O Q;have z:((aN (min g.toArray.size d.toArray.size)).all e && g.toArray.size == d.toArray.size)=b:=by
  rw[← j];simp[l,M]
 have R:=iI.tuples p J F hp;have N:=eR.tuples p J F hp;rw[z]at R;have N' :eR A s (.ref a) (.ref c) (!b):=by
  rw[← z];exact N
 refine⟨?_,R,N'⟩
 by_cases i:a=c
 ·subst i;rw[G]at k;cases k;have:=r.fn o;subst this;rw[Zl hr ts b B];exact mj _
 ·exact lq i R
theorem Wa {A:Around}{a c:Addr}{xs P:List V}{ts D:List T}{b:Bool}{f:T->T->Option Bool}(I:L2.Inv X pins σ H s)(J:A.units < cLine)(F:Rd H a (.lst xs))(i:Rd H c (.lst P))(r:zy H xs ts)(S :zy H P D)
  (U:nu f ts D=some b) (hr:∀x b,f x x=some b->b=true)
  (ih:∀(x y:T) (b:Bool) (p q:V) (u w:Value),f x y=some b->Rep H p x->Rep H q y->RelV p u->RelV q w->oY A.in1 s u w b):oY A s (.ref a) (.ref c) b:=by
 obtain⟨d,v,p,l,_⟩:=zL I F r;obtain⟨g,v',M,l',_⟩:=zL I i S;obtain⟨e,Z,j⟩:=YD U;have hp:=YE r S v v' Z ih;have Q:iI A s (.ref a) (.ref c) b/\eR A s (.ref a) (.ref c) (!b):=by
  by_cases B:d.toArray.size=g.toArray.size
  ·have z:(aN d.toArray.size).all e=b:=by
    rw[← j];have:ts.length=D.length:=by simp at B;omega
    rw[this];have k:d.toArray.size=D.length:=by simp;omega
    rw[k];simp
   have R:=iI.lists p M B J hp;have N:=eR.lists p M B J hp;rw[z]at R;refine⟨R, ?_⟩;rw[← z];exact N
  ·have C :(d.toArray.size != g.toArray.size)=true:=by simpa using B
   have z:b=false:=by
    rw[← j];have:¬ ts.length=D.length:=by simp at B;omega
    simp[this]
   subst z;exact⟨iI.lists_lengths p M C J,eR.lists_lengths p M C J⟩
 refine⟨?_,Q.1,Q.2⟩
 by_cases G:a=c
 ·subst G;have O:xs=P:=by
   rcases F with F | ⟨o,F⟩ <;> rcases i with i | ⟨o',i⟩ <;> (rw[F]at i;cases i) <;> rfl
  subst O;have:=r.fn S;subst this;rw[Zl hr ts b U];exact mj _
 ·exact lq G Q.1
end
section
variable {X:Cx}{pins:List (Addr×Obj)}{σ:Sg}{H:Hp}{s:Shared}
theorem JS {A:Around}:A.in1.units=A.units+1:=rfl
set_option maxHeartbeats 2000000 in
theorem YF (I:L2.Inv X pins σ H s):∀(A:Around),A.units < cLine->∀(x y:T) (b:Bool) (p q:V) (u w:Value),mE 0 x y=some b->Rep H p x->Rep H q y->RelV p u->RelV q w->oY A s u w b:=by
 intro A C x y b p q u w h B l k e;have a :=C;cases B with
 | non=>
  obtain rfl:u=Value.none:=k;cases l with
  | non=>obtain rfl:w=Value.none:=e;unfold mE at h;cases h;exact⟨.same _,.none_none,.none_none⟩
  | bl c=>obtain rfl:w=Value.bool c:=e;unfold mE at h;cases h;exact⟨.none_bool _,.none_bool _,.none_bool _⟩
  | int c=>obtain⟨t,rfl⟩:=e;unfold mE at h;cases h;exact⟨.none_int _ _,.none_int _ _,.none_int _ _⟩
  | str c=>obtain⟨t,rfl⟩:=e;unfold mE at h;cases h;exact⟨.none_str _ _,.none_str _ _,.none_str _ _⟩
  | tup j g=>obtain rfl:w=Value.ref _:=e;unfold mE at h;cases h;obtain⟨i,_,p,_⟩:=ZR I j g;exact⟨.none_tuple p a,.none_tuple p a,.none_tuple p a⟩
  | lst j g=>obtain rfl:w=Value.ref _:=e;unfold mE at h;cases h;obtain⟨i,_,p,_⟩:=zL I (.inl j) g;exact⟨.none_list p a,.none_list p a,.none_list p a⟩
  | fz j g=>obtain rfl:w=Value.ref _:=e;unfold mE at h;cases h;obtain⟨i,_,p,_⟩:=zL I (.inr ⟨_,j⟩) g;exact⟨.none_list p a,.none_list p a,.none_list p a⟩
 | bl d=>
  obtain rfl:u=Value.bool d:=k;cases l with
  | non=>obtain rfl:w=Value.none:=e;unfold mE at h;cases h;exact⟨.bool_none _,.bool_none _,.bool_none _⟩
  | bl c=>obtain rfl:w=Value.bool c:=e;unfold mE at h;cases h;exact⟨.bool_bool _ _,.bool_bool _ _,.bool_bool _ _⟩
  | int c=>obtain⟨t,rfl⟩:=e;unfold mE at h;cases h;exact⟨.bool_int _ _ _,.bool_int _ _ _,.bool_int _ _ _⟩
  | str c=>obtain⟨t,rfl⟩:=e;unfold mE at h;cases h;exact⟨.bool_str _ _ _,.bool_str _ _ _,.bool_str _ _ _⟩
  | tup j g=>obtain rfl:w=Value.ref _:=e;unfold mE at h;cases h;obtain⟨i,_,p,_⟩:=ZR I j g;exact⟨.bool_tuple _ p a,.bool_tuple _ p a,.bool_tuple _ p a⟩
  | lst j g=>obtain rfl:w=Value.ref _:=e;unfold mE at h;cases h;obtain⟨i,_,p,_⟩:=zL I (.inl j) g;exact⟨.bool_list _ p a,.bool_list _ p a,.bool_list _ p a⟩
  | fz j g=>obtain rfl:w=Value.ref _:=e;unfold mE at h;cases h;obtain⟨i,_,p,_⟩:=zL I (.inr ⟨_,j⟩) g;exact⟨.bool_list _ p a,.bool_list _ p a,.bool_list _ p a⟩
 | int d=>
  obtain⟨D,rfl⟩:=k;cases l with
  | non=>obtain rfl:w=Value.none:=e;unfold mE at h;cases h;exact⟨.int_none _ _,.int_none _ _,.int_none _ _⟩
  | bl c=>obtain rfl:w=Value.bool c:=e;unfold mE at h;cases h;exact⟨.int_bool _ _ _,.int_bool _ _ _,.int_bool _ _ _⟩
  | int c=>obtain⟨t,rfl⟩:=e;unfold mE at h;cases h;exact⟨.int_int _ _ _ _,.int_int _ _ _ _,.int_int _ _ _ _⟩
  | str c=>obtain⟨t,rfl⟩:=e;unfold mE at h;cases h;exact⟨.int_str _ _ _ _,.int_str _ _ _ _,.int_str _ _ _ _⟩
  | tup j g=>obtain rfl:w=Value.ref _:=e;unfold mE at h;cases h;obtain⟨i,_,p,_⟩:=ZR I j g;exact⟨.int_tuple _ _ p a,.int_tuple _ _ p a,.int_tuple _ _ p a⟩
  | lst j g=>obtain rfl:w=Value.ref _:=e;unfold mE at h;cases h;obtain⟨i,_,p,_⟩:=zL I (.inl j) g;exact⟨.int_list _ _ p a,.int_list _ _ p a,.int_list _ _ p a⟩
  | fz j g=>obtain rfl:w=Value.ref _:=e;unfold mE at h;cases h;obtain⟨i,_,p,_⟩:=zL I (.inr ⟨_,j⟩) g;exact⟨.int_list _ _ p a,.int_list _ _ p a,.int_list _ _ p a⟩
 | str d=>
  obtain⟨D,rfl⟩:=k;cases l with
  | non=>obtain rfl:w=Value.none:=e;unfold mE at h;cases h;exact⟨.str_none _ _,.str_none _ _,.str_none _ _⟩
  | bl c=>obtain rfl:w=Value.bool c:=e;unfold mE at h;cases h;exact⟨.str_bool _ _ _,.str_bool _ _ _,.str_bool _ _ _⟩
  | int c=>obtain⟨t,rfl⟩:=e;unfold mE at h;cases h;exact⟨.str_int _ _ _ _,.str_int _ _ _ _,.str_int _ _ _ _⟩
  | str c=>obtain⟨t,rfl⟩:=e;unfold mE at h;cases h;exact⟨.str_str _ _ _ _,.str_str _ _ _ _,.str_str _ _ _ _⟩
  | tup j g=>obtain rfl:w=Value.ref _:=e;unfold mE at h;cases h;obtain⟨i,_,p,_⟩:=ZR I j g;exact⟨.str_tuple _ _ p a,.str_tuple _ _ p a,.str_tuple _ _ p a⟩
  | lst j g=>obtain rfl:w=Value.ref _:=e;unfold mE at h;cases h;obtain⟨i,_,p,_⟩:=zL I (.inl j) g;exact⟨.str_list _ _ p a,.str_list _ _ p a,.str_list _ _ p a⟩
  | fz j g=>obtain rfl:w=Value.ref _:=e;unfold mE at h;cases h;obtain⟨i,_,p,_⟩:=zL I (.inr ⟨_,j⟩) g;exact⟨.str_list _ _ p a,.str_list _ _ p a,.str_list _ _ p a⟩
 | tup r o=>
  obtain rfl:u=Value.ref _:=k;obtain⟨v,_,f,_⟩:=ZR I r o;cases l with
  | non=>obtain rfl:w=Value.none:=e;unfold mE at h;cases h;exact⟨.tuple_none f a,.tuple_none f a,.tuple_none f a⟩
  | bl c=>obtain rfl:w=Value.bool c:=e;unfold mE at h;cases h;exact⟨.tuple_bool _ f a,.tuple_bool _ f a,.tuple_bool _ f a⟩
  | int c=>obtain⟨t,rfl⟩:=e;unfold mE at h;cases h;exact⟨.tuple_int _ _ f a,.tuple_int _ _ f a,.tuple_int _ _ f a⟩
  | str c=>obtain⟨t,rfl⟩:=e;unfold mE at h;cases h;exact⟨.tuple_str _ _ f a,.tuple_str _ _ f a,.tuple_str _ _ f a⟩
  | tup j g=>unfold mE at h;cases h
  | lst j g=>obtain rfl:w=Value.ref _:=e;unfold mE at h;cases h;obtain⟨i,_,p,_⟩:=zL I (.inl j) g;exact⟨.tuple_list f p a,.tuple_list f p a,.tuple_list f p a⟩
  | fz j g=>obtain rfl:w=Value.ref _:=e;unfold mE at h;cases h;obtain⟨i,_,p,_⟩:=zL I (.inr ⟨_,j⟩) g;exact⟨.tuple_list f p a,.tuple_list f p a,.tuple_list f p a⟩
 | lst r o=>
  obtain rfl:u=Value.ref _:=k;obtain⟨v,_,f,_⟩:=zL I (.inl r) o;cases l with
  | non=>obtain rfl:w=Value.none:=e;unfold mE at h;cases h;exact⟨.list_none f a,.list_none f a,.list_none f a⟩
  | bl c=>obtain rfl:w=Value.bool c:=e;unfold mE at h;cases h;exact⟨.list_bool _ f a,.list_bool _ f a,.list_bool _ f a⟩
  | int c=>obtain⟨t,rfl⟩:=e;unfold mE at h;cases h;exact⟨.list_int _ _ f a,.list_int _ _ f a,.list_int _ _ f a⟩
  | str c=>obtain⟨t,rfl⟩:=e;unfold mE at h;cases h;exact⟨.list_str _ _ f a,.list_str _ _ f a,.list_str _ _ f a⟩
  | tup j g=>obtain rfl:w=Value.ref _:=e;unfold mE at h;cases h;obtain⟨i,_,p,_⟩:=ZR I j g;exact⟨.list_tuple f p a,.list_tuple f p a,.list_tuple f p a⟩
  | lst j g=>unfold mE at h;cases h
  | fz j g=>unfold mE at h;cases h
 | fz r o=>
  obtain rfl:u=Value.ref _:=k;obtain⟨v,_,f,_⟩:=zL I (.inr ⟨_,r⟩) o;cases l with
  | non=>obtain rfl:w=Value.none:=e;unfold mE at h;cases h;exact⟨.list_none f a,.list_none f a,.list_none f a⟩
  | bl c=>obtain rfl:w=Value.bool c:=e;unfold mE at h;cases h;exact⟨.list_bool _ f a,.list_bool _ f a,.list_bool _ f a⟩
  | int c=>obtain⟨t,rfl⟩:=e;unfold mE at h;cases h;exact⟨.list_int _ _ f a,.list_int _ _ f a,.list_int _ _ f a⟩
  | str c=>obtain⟨t,rfl⟩:=e;unfold mE at h;cases h;exact⟨.list_str _ _ f a,.list_str _ _ f a,.list_str _ _ f a⟩
  | tup j g=>obtain rfl:w=Value.ref _:=e;unfold mE at h;cases h;obtain⟨i,_,p,_⟩:=ZR I j g;exact⟨.list_tuple f p a,.list_tuple f p a,.list_tuple f p a⟩
  | lst j g=>unfold mE at h;cases h
  | fz j g=>unfold mE at h;cases h
set_option maxHeartbeats 2000000 in
theorem Vd (I:L2.Inv X pins σ H s):∀(n:Nat) (A:Around),A.units+n < cLine->∀(x y:T) (b:Bool) (p q:V) (u w:Value),mE n x y=some b->Rep H p x->Rep H q y->RelV p u->RelV q w->oY A s u w b:=by
 intro n
 induction n with
 | zero=>exact λA r x y b p q u w h=>YF I A (by omega) x y b p q u w h
 | succ n v=>
  intro A r x y b p q u w h o l k a;have g:=λh=>YF I A (by omega) x y b p q u w h o l k a
  have c :A.units < cLine:=by omega
  have d :=v A.in1 (by rw[JS];omega)
  cases o with
  | tup j i=>
   cases l with
   | tup f e=>
    obtain rfl:u=Value.ref _:=k;obtain rfl:w=Value.ref _:=a;exact kH I c j f i e h (Z3 n) d
   | _=>exact g (by exact h)
  | lst j i=>
   cases l with
   | lst f e=>
    obtain rfl:u=Value.ref _:=k;obtain rfl:w=Value.ref _:=a;exact Wa I c (.inl j) (.inl f) i e h (Z3 n) d
   | fz f e=>
    obtain rfl:u=Value.ref _:=k;obtain rfl:w=Value.ref _:=a;exact Wa I c (.inl j) (.inr ⟨_,f⟩) i e h (Z3 n) d
   | _=>exact g (by exact h)
  | fz j i=>
   cases l with
   | lst f e=>
    obtain rfl:u=Value.ref _:=k;obtain rfl:w=Value.ref _:=a;exact Wa I c (.inr ⟨_,j⟩) (.inl f) i e h (Z3 n) d
   | fz f e=>
    obtain rfl:u=Value.ref _:=k;obtain rfl:w=Value.ref _:=a;exact Wa I c (.inr ⟨_,j⟩) (.inr ⟨_,f⟩) i e h (Z3 n) d
   | _=>exact g (by exact h)
  | _=>exact g (by cases l <;> (exact h))
end
section
def rG (Y:Fx)(g:T->T->R T):R2:=λx y H Q=>∃B t t',zo B H/\Rep B x t/\Rep B y t' /\Po Y rC B H (g t t') Q
def zd (g:T->T->R T)(a c:En->R T):En->R T:=λρ=>(a ρ).bind λx=>(c ρ).bind λy=>g x y
theorem uT (j:mO X (binaryOp op) (rG Y g))(f:Snd X Y a fa)(o:Snd X Y b fb):Snd X Y (.BinOp a op b pos) (zd g fa fb):= .mk λρ=>
 PE.imp (LV j (f ρ) (o ρ)) λr H Q ⟨B,I,q⟩=>step I q λt v y _ w i c l=>step c l λt' u x _ e k d p=>
  ⟨_,t,t',d.sB,i.mono (zF.ge c.sB e),k,p⟩
theorem mV (a:zo B H)(q:Po Y rC B H g Q)(e:g= .ok t)(r:Rep B v t):Q v H:=by
 subst e;exact q v H (zo.refl H) (by rw[zF.self B H a];exact r)
theorem GU (a:zo B H)(q:Po Y rC B H g Q)(e:g= .ok (.tup ts))(r:zy B xs ts)(h:H p=none):Q (.ref p) (mz H p (.tup xs)):=by
 subst e;exact q _ _ (zo.new h _) (.tup (jd h _) (r.mono (zF.ge a (zo.new h _))))
theorem Dw (a:zo B H)(q:Po Y rC B H g Q)(e:g= .ok (.lst ts))(r:zy B xs ts)(h:H p=none):Q (.ref p) (mz H p (.lst xs)):=by
 subst e;exact q _ _ (zo.new h _) (.lst (jd h _) (r.mono (zF.ge a (zo.new h _))))
def zv:T->T->R T
 | .int i,.int j=> .ok (.int (i+j))
 | .bl x,.int j=> .ok (.int (b2 x+j))
 | .int i,.bl y=> .ok (.int (i+b2 y))
 | .str x,.str y=>if x.length+y.length<=mF then .ok (.str (x++y)) else .bad
 | .tup xs,.tup a=>if xs.length+a.length<=mF then .ok (.tup (xs++a)) else .bad
 | .lst xs,.lst a=>if xs.length+a.length<=mF then .ok (.lst (xs++a)) else .bad
 | _,_=> .bad
theorem Ve {prog:Program}{w:World}{A:Around}{E:Value->Shared->Prop}{s:Shared}{t b:Addr}{vs j:List Value}{Q:Value->Shared->Prop}(o:IsTup s.heap t vs.toArray)(u:IsTup s.heap b j.toArray)(q:vs=[])
  (r:Q (.ref b) s):wpAny (model prog w) A (binaryOp .Add (.ref t) (.ref b)) Q E s:=by
 obtain⟨⟨cls,dd,data,l⟩,g,k,n,hd⟩:=id o;obtain⟨⟨i,f,data2,c⟩,a,d,p,e⟩:=id u;subst k hd d e;exact concat_meets ⟨_,g,rfl⟩ ⟨_,a,rfl⟩ noFill_tuple_add seq_tuple_add eO eK (eB _ _)
   (tuple_addW0 t b _ _ n p dd f l c (by simp[q])) ⟨g,a,r⟩
theorem kJ:mO X (binaryOp .Add) (rG Y zv):=by
 intro e s J H x y v u Q I o l h;obtain⟨B,t,t',c,r,w,q⟩:=h;cases r with
 | int i=>
  cases w with
  | int j=>exact Gy e s J H _ _ v u Q I o l ⟨i,j,rfl,rfl,mV c q rfl (.int _)⟩
  | bl y=>exact Yo e s J H _ _ v u Q I o l ⟨i,y,rfl,rfl,mV c q rfl (.int _)⟩
  | _=>exact q.elim
 | bl x=>
  cases w with
  | int j=>
   obtain rfl:v=Value.bool x:=o;obtain⟨tk,rfl⟩:=l;exact IntBool.add_bool_int (⟨.int _,H,I.tok _,⟨_,rfl⟩,mV c q rfl (.int _)⟩)
  | _=>exact q.elim
 | str x=>
  cases w with
  | str y=>
   by_cases d:x.length+y.length<=mF
   ·exact yx e s J H _ _ v u Q I o l ⟨x,y,rfl,rfl,ZF d,mV c q (if_pos d) (.str _)⟩
   ·rw[show zv (.str x) (.str y)= .bad from if_neg d]at q;exact q.elim
  | _=>exact q.elim
 | @tup a xs ts D f=>
  cases w with
  | @tup C F k G g=>
   by_cases d:ts.length+k.length<=mF
   ·have M:zv (.tup ts) (.tup k)= .ok _:=if_pos d;have hz:xs.length+F.length<=sizeLine:=by rw[f.length,g.length];exact ZF d
    by_cases N:xs=[]
    ·obtain rfl:v=Value.ref a:=o;obtain rfl:u=Value.ref C :=l;obtain⟨S,P,p,_⟩:=I.tuple (SqT.of (c _ _ D));obtain⟨O,rv',Z,_⟩:=I.tuple (SqT.of (c _ _ G));have U:=f.nil_iff.mp N;refine Ve p Z (P.nil_iff.mpr N) ⟨.ref C,H,I,rfl,mV c q M ?_⟩;rw[U];exact .tup G g
    ·refine kx _ s J H _ _ v u Q I o l ⟨a,C,xs,F,rfl,rfl,SqT.of (c _ _ D),SqT.of (c _ _ G),N,hz,λhy=> ?_,λhy p hp=> ?_⟩
     ·refine mV c q M ?_;rw[g.nil_iff.mp hy,bw];exact .tup D f
     ·exact GU c q M (f.append g) hp
   ·rw[show zv (.tup ts) (.tup k)= .bad from if_neg d]at q;exact q.elim
  | _=>exact q.elim
 | @lst a xs ts D f=>
  cases w with
  | @lst C F k G g=>
   by_cases d:ts.length+k.length<=mF
   ·have M:zv (.lst ts) (.lst k)= .ok _:=if_pos d;have hz:xs.length+F.length<=sizeLine:=by rw[f.length,g.length];exact ZF d
    exact GN _ s J H _ _ v u Q I o l ⟨a,C,xs,F,rfl,rfl,c _ _ D,c _ _ G,hz,λp hp=>Dw c q M (f.append g) hp⟩
   ·rw[show zv (.lst ts) (.lst k)= .bad from if_neg d]at q;exact q.elim
  | _=>exact q.elim
 | _=>cases w <;> exact q.elim
theorem IZ (d:Snd X Y a fa)(c:Snd X Y b fb):Snd X Y (.BinOp a .Add b pos) (zd zv fa fb):=uT kJ d c
noncomputable def jK:T->T->R T
 | .int i,.int j=> .ok (.int (i - j))
 | _,_=> .bad
noncomputable def jL:T->T->R T
 | .int i,.int j=>if 0 < j then .ok (.int (i % j)) else .bad
 | _,_=> .bad
noncomputable def Wb:T->T->R T
 | .int i,.int j=>if 0 < j/\j < 1073741824 then .ok (.int (i / j)) else .bad
 | _,_=> .bad
instance (i j:Int):Decidable (uN i j):=by unfold uN;infer_instance
def zU:T->T->R T
 | .int i,.int j=>if uN i j then .ok (.int (i*j)) else .bad
 | .lst xs,.int k=>if 0<=k/\k < 1000000/\xs.length*k.toNat<=mF then .ok (.lst (ag k.toNat xs).flatten) else .bad
 | .tup xs,.int k=>if 2<=k/\k < 1000000/\xs ≠ []/\xs.length*k.toNat<=mF then .ok (.tup (ag k.toNat xs).flatten) else .bad
 | _,_=> .bad
theorem kK:mO X (binaryOp .Sub) (rG Y jK):=by
 intro a s d H x y v u Q I g e h;obtain⟨B,t,t',f,r,c,q⟩:=h;cases r with
 | int i=>
  cases c with
  | int j=>exact Gz _ s d H _ _ v u Q I g e ⟨i,j,rfl,rfl,mV f q rfl (.int _)⟩
  | _=>exact q.elim
 | _=>cases c <;> exact q.elim
theorem kL:mO X (binaryOp .Mod) (rG Y jL):=by
 intro c s e H x y v u Q I k f h;obtain⟨B,t,t',g,r,d,q⟩:=h;cases r with
 | int i=>
  cases d with
  | int j=>
   by_cases a:0 < j
   ·exact GB _ s e H _ _ v u Q I k f ⟨i,j,rfl,rfl,a,mV g q (if_pos a) (.int _)⟩
   ·rw[show jL (.int i) (.int j)= .bad from if_neg a]at q;exact q.elim
  | _=>exact q.elim
 | _=>cases d <;> exact q.elim
theorem Vf:mO X (binaryOp .FloorDiv) (rG Y Wb):=by
 intro c s e H x y v u Q I k f h;obtain⟨B,t,t',g,r,d,q⟩:=h;cases r with
 | int i=>
  cases d with
  | int j=>
   by_cases a:0 < j/\j < 1073741824
   ·exact ke _ s e H _ _ v u Q I k f ⟨i,j,rfl,rfl,a,mV g q (if_pos a) (.int _)⟩
   ·rw[show Wb (.int i) (.int j)= .bad from if_neg a]at q;exact q.elim
  | _=>exact q.elim
 | _=>cases d <;> exact q.elim
theorem yC (l:Addr)(a:Array Value)(n:Nat)(dd:Option Addr)(j:Array (Option Value))(x:Int)(u:Tok)(B:2<=x)(C:x < 1000000)(c:a.isEmpty=false)(hsz:a.size*x.toNat<=sizeLine):
  Meets (Builtin.«tuple.__mul__» ⟨[.ref l,.int x u],[]⟩) (λ_ R s=>s.heap.get? l=some { cls:= .type "tuple",dict:=dd,data:= .seq a n,slots:=j }/\
   R (.ok (.ret (Value.ref s.heap.objs.size))) { s with heap:=s.heap.push { cls:=Value.type "tuple",data:=Data.seq (hU (λf e=>f++e) #[] (ag x.toNat a)) },toks:=s.toks }):=
 .of_wp λprog w A R s h=>by
  obtain⟨g,h⟩:=h;have i:(a.size:Int)*x=((a.size*x.toNat:Nat):Int):=by
   have:x=((x.toNat:Nat):Int):=by omega
   rw[fR,← this]
  have r:(sizeLine:Nat)=16777216:=bY;have y:¬ (decide (x < -(2 ^ 63)) || decide (x ≥ 2 ^ 63))=true:=by simp;omega
  have o:¬ (a.isEmpty || x == 1)=true:=by simp[c];omega
  have k:¬ (decide (x<=0) || a.isEmpty)=true:=by simp[c];omega
  have p:¬ ((a.size:Int)*x > (2 ^ 63 - 1) / 8):=by rw[i];omega
  have v:¬ hV ((a.size:Int)*x)=true:=by
   unfold hV;rw[i];intro z;have:=of_decide_eq_true z;omega
  unfold Builtin.«tuple.__mul__»
  wp_walk using wpAny_loadPart' g
  rw[if_neg y]
  wp_walk using wpAny_loadPart' g
  rw[if_neg o]
  try dsimp only
  rw[if_neg k]
  try dsimp only
  rw[if_neg p]
  try dsimp only
  rw[if_neg v]
  try dsimp only
  have d :sizeOk (.seq (hU (λf e=>f++e) #[] (ag x.toNat a))):=by
   show (hU (λf e=>f++e) #[] _).size<=sizeLine;have:=jS a.toList x.toNat [];have q:=by
    simpa using this
   rw[q,aD,Jc,dm];exact hsz
  exact a8 (aO (ac ⟨_,rfl,h⟩) d)
theorem ub:seqRepeat? (.type "tuple")=pure (some (.builtin "tuple.__mul__")):=by
 unfold seqRepeat?;rw[m7 (name:="__mul__") iw.lookup (by decide+kernel),m7 (name:="__rmul__") lL.lookup (by decide+kernel)]
 rfl
theorem Jx:fillsNumberSlot (.type "tuple") "mul"=pure false:=
 PySem.fillsNumberSlot_seq iw.lookup (by decide+kernel) lL.lookup (by decide+kernel)
theorem wE (a:Int)(t:Tok)(l:Addr)(c:Array Value)(n:Nat)(dd:Option Addr)(d:Array (Option Value)):
  Meets (Builtin.«int.__rmul__» ⟨[.int a t,.ref l],[]⟩) (λ_ R s=>s.heap.get? l=some { cls:= .type "tuple",dict:=dd,data:= .seq c n,slots:=d }/\R (.ok (.ret Value.notImplemented)) s):=
 .of_wp λprog w A R s h=>by obtain⟨e,h⟩:=h;wp_walk;exact⟨_,rfl,h⟩
theorem kM {t:Tok}(p:IsTup s.heap l its.toArray)(c:its ≠ [])(i:2<=k)(e:k < 1000000)
  (hsz:its.length*k.toNat<=sizeLine) (q:Q (.ref s.heap.objs.size) { s with heap:=s.heap.push { cls:= .type "tuple",data:= .seq (ag k.toNat its).flatten.toArray } }):
  wpAny (model prog w) A (binaryOp .Mult (.ref l) (.int k t)) Q E s:=by
 obtain⟨⟨cls,dd,data,d⟩,a,f,n,hd⟩:=id p;subst f hd;refine wpAny_binaryOp_repeat_ref (by decide) ⟨_,a,rfl⟩ (λg =>typeIs_int g k t) Jx mi fQ ub m4.lookup
  (fv fQ (typeIs_int s k t) m5 (lJ _ _) (wE k t l _ n dd d)
   ⟨a,rfl,⟨_,a,rfl⟩,fv iw ⟨_,a,rfl⟩ F.entry_tuple_mul (F.args_tuple_mul_2 _ _) (yC l _ n dd d k t i e (by simpa using c) (by simpa using hsz)) ⟨a, ?_⟩⟩)
 have:=jS its k.toNat [];rw[this];exact q
theorem kN:mO X (binaryOp .Mult) (rG Y zU):=by
 intro O s N H x y v u Q I G F h;obtain⟨B,t,t',d,r,g,q⟩:=h;cases r with
 | int i=>
  cases g with
  | int j=>
   by_cases C:uN i j
   ·exact GA _ s N H _ _ v u Q I G F ⟨i,j,rfl,rfl,C,mV d q (if_pos C) (.int _)⟩
   ·rw[show zU (.int i) (.int j)= .bad from if_neg C]at q;exact q.elim
  | _=>exact q.elim
 | @lst l xs ts w c=>
  cases g with
  | int k=>
   by_cases a:0<=k/\k < 1000000/\ts.length*k.toNat<=mF
   ·have J:zU (.lst ts) (.int k)= .ok _:=if_pos a;exact GO _ s N H _ _ v u Q I G F ⟨l,k,xs,rfl,rfl,d _ _ w,by omega,by omega,by rw[c.length];exact ZF a.2.2,λp hp=>Dw d q J (c.rep _) hp⟩
   ·rw[show zU (.lst ts) (.int k)= .bad from if_neg a]at q;exact q.elim
  | _=>exact q.elim
 | @tup l xs ts w c=>
  cases g with
  | int k=>
   by_cases a:2<=k/\k < 1000000/\ts ≠ []/\ts.length*k.toNat<=mF
   ·have J:zU (.tup ts) (.int k)= .ok _:=if_pos a;obtain rfl:v=Value.ref l:=G;obtain⟨tk,rfl⟩:=F;obtain⟨f,M,p,_⟩:=I.tuple (SqT.of (d _ _ w));have o:=c.length.symm.trans M.length;have D:f ≠ []:=λz=>a.2.2.1 (by rw[z]at o;exact bK.mp o)
    refine kM p D a.1 a.2.1 (by rw[← o];exact ZF a.2.2.2) ⟨.ref _,mz H _ (.tup (ag k.toNat xs).flatten),I.laid (λb u e=>ab _ e) (am _) ?_,rfl, ?_⟩
    ·exact⟨by rw[Jc,c.length,dm];exact ZF a.2.2.2,(ag _ f).flatten,M.rep _,⟨_,af _ rfl,rfl,_,rfl⟩,.inr ⟨_,af _ rfl,rfl⟩⟩
    ·exact GU d q J (c.rep _) (I.hok.fresh (am _))
   ·rw[show zU (.tup ts) (.int k)= .bad from if_neg a]at q;exact q.elim
  | _=>exact q.elim
 | _=>cases g <;> exact q.elim
theorem Lz (d:Snd X Y a fa)(c:Snd X Y b fb):Snd X Y (.BinOp a .Sub b pos) (zd jK fa fb):=uT kK d c
theorem Ir (d:Snd X Y a fa)(c:Snd X Y b fb):Snd X Y (.BinOp a .Mod b pos) (zd jL fa fb):=uT kL d c
theorem GV (d:Snd X Y a fa)(c:Snd X Y b fb):Snd X Y (.BinOp a .FloorDiv b pos) (zd Wb fa fb):=uT Vf d c
theorem FZ (d:Snd X Y a fa)(c:Snd X Y b fb):Snd X Y (.BinOp a .Mult b pos) (zd zU fa fb):=uT kN d c
def YG (a:En->R T):En->R T:=λρ=>(a ρ).bind λx=>match x with
 | .int i=> .ok (.int (-i))
 | _=> .bad
theorem FH (d:Snd X Y a fa):Snd X Y (.UnaryOp .USub a pos) (YG fa):= .mk λρ=>PE.imp (Ik GC (d ρ)) λg H Q ⟨B,I,q⟩=>step I q λt v k _ j f e c=>by
 cases f with
 | int i=>exact⟨i,rfl,mV e.sB c rfl (.int _)⟩
 | _=>exact c.elim
def wF (g:T->T->R Bool):R2:=λx y H Q=>∃t t' b,Rep H x t/\Rep H y t' /\g t t' = .ok b/\Q (.bl b) H
def ZL (g:T->T->R Bool)(a c:En->R T):En->R T:=λρ=>(a ρ).bind λx=>(c ρ).bind λy=>(g x y).bind λb=> .ok (.bl b)
def zp (g:T->T->R Bool)(a c:En->R T):En->R Bool:=λρ=>(a ρ).bind λx=>(c ρ).bind λy=>g x y
noncomputable def Nx (g:T->T->R Bool):Prop:=∀t t' c,g t t' ≠ .ex c
theorem yD (nx:Nx g)(l:mO X (compareOp op) (wF g))(j:jz X Y a fa)(w:jz X Y b fb)(p:behindInMarks op b=false):Snd X Y (.Compare a [op] [b] pos) (ZL g fa fb):= .mk λρ=>
 PE.imp (kg l (j ρ) (w ρ) p) λx H Q ⟨B,I,q⟩=>step I q λt v F _ C o k u=>step k u λt' y D _ i r f d=>by
  cases e:g t t' with
  | bad=>rw[e]at d;exact d.elim
  | ex c=>exact absurd e (nx _ _ _)
  | ok b=>rw[e]at d;exact⟨t,t',b,o.mono i,r,e,ZN f d (.bl b)⟩
theorem wG (nx:Nx g)(l:mO X (compareOp op) (wF g))(j:jz X Y a fa)(w:jz X Y b fb)(p:behindInMarks op b=false):ua X Y (.Compare a [op] [b] pos) (zp g fa fb):= .mk λρ=>
 PT.imp (kh l (j ρ) (w ρ) p) λx H Q ⟨B,I,q⟩=>step I q λt v F _ C o k u=>step k u λt' y D _ i r f d=>by
  cases e:g t t' with
  | bad=>rw[e]at d;exact d.elim
  | ex c=>exact absurd e (nx _ _ _)
  | ok b=>rw[e]at d;exact⟨t,t',b,o.mono i,r,e,b,rfl,ZN f d rfl⟩
def my (t t' :T):R Bool:=match mE 30 t t' with
 | some b=> .ok b
 | none=> .bad
def mW (t t' :T):R Bool:=match mE 30 t t' with
 | some b=> .ok (!b)
 | none=> .bad
theorem GW:Nx my:=λt t' c h=>by unfold my at h;split at h <;> cases h
theorem GX:Nx mW:=λt t' c h=>by unfold mW at h;split at h <;> cases h
theorem xV (j:X.A.units+64 < cLine):mO X (compareOp .Eq) (wF my):=by
 intro a s l H x y v u Q I f d h;obtain⟨t,t',b,r,g,e,q⟩:=h;unfold my at e;split at e
 ·rename_i k c;have i :=by injection e
  subst i;exact(Vd I 30 X.A (by omega) t t' k x y v u c r g f d).2.1 _ _ _ _ ⟨.bl k,H,I,rfl,q⟩
 ·cases e
theorem xW (i:X.A.units+64 < cLine):mO X (compareOp .NotEq) (wF mW):=by
 intro a s j H x y v u Q I f d h;obtain⟨t,t',b,r,g,e,q⟩:=h;unfold mW at e;split at e
 ·rename_i k c;cases e;exact(Vd I 30 X.A (by omega) t t' k x y v u c r g f d).2.2 _ _ _ _ ⟨.bl _,H,I,rfl,q⟩
 ·cases e
noncomputable def om:T->T->R Bool
 | .int i,.int j=> .ok (decide (i < j))
 | _,_=> .bad
noncomputable def mL:T->T->R Bool
 | .int i,.int j=> .ok (decide (i<=j))
 | .str x,.str y=> .ok (!decide (y.cps.toList < x.cps.toList))
 | _,_=> .bad
noncomputable def nv:T->T->R Bool
 | .int i,.int j=> .ok (decide (j < i))
 | _,_=> .bad
noncomputable def ox:T->T->R Bool
 | .int i,.int j=> .ok (decide (j<=i))
 | _,_=> .bad
theorem IR:Nx om:=λt t' c h=>by unfold om at h;split at h <;> cases h
theorem Wc:Nx mL:=λt t' c h=>by unfold mL at h;split at h <;> cases h
theorem L0:Nx nv:=λt t' c h=>by unfold nv at h;split at h <;> cases h
theorem GY:Nx ox:=λt t' c h=>by unfold ox at h;split at h <;> cases h
theorem GZ:mO X (compareOp .Lt) (wF om):=by
 intro a s c H x y v u Q I f d h;obtain⟨t,t',b,r,g,e,q⟩:=h;unfold om at e;split at e
 ·rename_i i j;cases e;cases r;cases g;exact IV _ s c H _ _ v u Q I f d ⟨i,j,rfl,rfl,q⟩
 ·cases e
theorem Hj:mO X (compareOp .Gt) (wF nv):=by
 intro a s c H x y v u Q I f d h;obtain⟨t,t',b,r,g,e,q⟩:=h;unfold nv at e;split at e
 ·rename_i i j;cases e;cases r;cases g;exact ET _ s c H _ _ v u Q I f d ⟨i,j,rfl,rfl,q⟩
 ·cases e
theorem xX:mO X (compareOp .GtE) (wF ox):=by
 intro a s c H x y v u Q I f d h;obtain⟨t,t',b,r,g,e,q⟩:=h;unfold ox at e;split at e
 ·rename_i i j;cases e;cases r;cases g;exact LZ _ s c H _ _ v u Q I f d ⟨i,j,rfl,rfl,q⟩
 ·cases e
theorem jU:mO X (compareOp .LtE) (wF mL):=by
 intro c s g H x y v u Q I d a h;obtain⟨t,t',b,r,f,e,q⟩:=h;unfold mL at e;split at e
 ·rename_i i j;cases e;cases r;cases f;exact Lv _ s g H _ _ v u Q I d a ⟨i,j,rfl,rfl,q⟩
 ·cases e;cases r;cases f;obtain⟨l,rfl⟩:=d;obtain⟨k,rfl⟩:=a;exact PySem.P.le_str ⟨.bl _,H,I,rfl,q⟩
 ·cases e
end
section
variable {X:Cx}{Y:Fx}{a b c d:Expr}{fa fb fc fd:En->R T}{pos:Pos}
noncomputable def Jo (f:T->Option Bool):List T->Option Bool
 | []=>some false
 | t :: r=>match f t with
  | none=>none
  | some b=>match Jo f r with
   | none=>none
   | some c=>some (b || c)
def nt (t t' :T):R Bool:=match t' with
 | .tup e=>match Jo (λy=>mE 30 y t) e with | some b=> .ok b | none=> .bad
 | .lst e=>match Jo (λy=>mE 30 y t) e with | some b=> .ok b | none=> .bad
 | _=> .bad
def Y8 (t t' :T):R Bool:=(nt t t').bind λb=> .ok (!b)
theorem Vg:Nx nt:=λt t' c h=>by
 unfold nt at h;split at h
 ·split at h <;> cases h
 ·split at h <;> cases h
 ·cases h
theorem LA:Nx Y8:=λt t' c h=>by
 unfold Y8 at h;cases e:nt t t' with
 | bad=>rw[e]at h;cases h
 | ex k=>exact absurd e (Vg _ _ _)
 | ok k=>rw[e]at h;cases h
open Classical in
theorem YH (f:T->Option Bool):∃e:Value->Bool,∀(v:V) (t:T) (u:Value) (b:Bool),RelV v u->Rep H v t->f t=some b->e u=b:=by
 refine⟨λu=>decide (∃v t,RelV v u/\Rep H v t/\f t=some true),λv t u b i r e=> ?_⟩;cases b with
 | true=>exact decide_eq_true ⟨v,t,i,r,e⟩
 | false=>
  refine decide_eq_false ?_
  rintro⟨l,t',g,k,j⟩
  have:=i.inj g;subst this;have:=r.fn k;subst this;rw[e]at j;cases j
theorem YI {H:Hp}{f:T->Option Bool}{e:Value->Bool}(o:∀(v:V) (t:T) (u:Value) (b:Bool),RelV v u->Rep H v t->f t=some b->e u=b):∀{xs:List V} {ts:List T} {g:List Value} {b:Bool},
  Vals xs g->zy H xs ts->Jo f ts=some b->g.any e=b/\∀u∈g,∃v t k,RelV v u/\Rep H v t/\f t=some k
 | _,_,_,b,.nil,.nil,h=>by
  have h' :=h;cases h';exact⟨rfl,λu x=>by simp at x⟩
 | _,_,_,b,.cons l vs,.cons r rs,h=>by
  rename_i v u p C t ts;unfold Jo at h;cases q:f t with
  | none=>rw[q]at h;cases h
  | some k=>
   rw[q]at h;cases i :Jo f ts with
   | none=>rw[i]at h;cases h
   | some D =>
    rw[i]at h;cases h;obtain⟨B,y⟩:=YI o vs rs i;refine⟨by rw[ib,B,o v t u k l r q],λw j=> ?_⟩
    rcases ak.mp j with rfl | j
    ·exact⟨v,t,k,l,r,q⟩
    ·exact y w j
theorem YJ (hu:X.A.units+64 < cLine)(g:Bool):mO X (compareOp (if g then .NotIn else .In)) (wF (if g then Y8 else nt)):=by
 intro pins s σ H x y v u Q I rx Z h;obtain⟨t,t',b,r,r',e,q⟩:=h;have hs:∃k,nt t t' = .ok k/\b=(if g then !k else k):=by
  cases g with
  | false=>exact⟨b,e,rfl⟩
  | true=>
   have G :Y8 t t' = .ok b:=e;unfold Y8 at G;cases z:nt t t' with
   | bad=>rw[z]at G;cases G
   | ex k=>exact absurd z (Vg _ _ _)
   | ok k=>rw[z]at G;cases G;exact⟨k,rfl,rfl⟩
 obtain⟨k,i,rfl⟩:=hs;unfold nt at i;obtain⟨f,M⟩:=YH λy=>mE 30 y t;have j:∀w,(∃v t' k,RelV v w/\Rep H v t' /\mE 30 t' t=some k)->dk X.A.in1 s w v (f w):=λw ⟨U,t',k,C,S,ee⟩=>by
  rw[M U t' w k C S ee];exact(Vd I 30 _ (by rw[JS];omega) t' t k U x w v ee S r C rx).1
 split at i
 ·split at i
  ·rename_i k' O;cases i;cases r' with
   | @tup l xs _ N F=>
    obtain rfl:u=Value.ref l:=Z;obtain⟨o,C,p,_⟩:=ZR I N F;obtain⟨P,D⟩:=YI M C F O;have J:o.toArray.any f=k:=by simpa using P
    cases g with
    | false=>exact SeqAt.in_tupleAt f p (λw B=>j w (D w (by simpa using B))) (by rw[J];exact⟨.bl k,H,I,rfl,q⟩)
    | true=>exact SeqAt.notIn_tupleAt f p (λw B=>j w (D w (by simpa using B))) (by rw[J];exact⟨.bl _,H,I,rfl,q⟩)
  ·cases i
 ·split at i
  ·rename_i k' O;cases i;cases r' with
   | @lst l xs _ N F=>
    obtain rfl:u=Value.ref l:=Z;obtain⟨o,C,p,_⟩:=zL I (.inl N) F;obtain⟨P,D⟩:=YI M C F O;have J:o.toArray.any f=k:=by simpa using P
    cases g with
    | false=>exact SeqAt.in_listAt f p (λw B=>j w (D w (by simpa using B))) (by rw[J];exact⟨.bl k,H,I,rfl,q⟩)
    | true=>exact SeqAt.notIn_listAt f p (λw B=>j w (D w (by simpa using B))) (by rw[J];exact⟨.bl _,H,I,rfl,q⟩)
  ·cases i
 ·cases i
theorem xY (e:X.A.units+64 < cLine):mO X (compareOp .In) (wF nt):=YJ e false
theorem kO (e:X.A.units+64 < cLine):mO X (compareOp .NotIn) (wF Y8):=YJ e true
noncomputable def uU (t t' :T):R Bool:=match t' with
 | .non=>match t with | .non=> .ok true | _=> .ok false
 | .bl k=>match t with | .bl j=> .ok (j == k) | _=> .ok false
 | _=> .bad
def jV (t t' :T):R Bool:=(uU t t').bind λb=> .ok (!b)
theorem Vh:Nx uU:=λt t' c h=>by
 unfold uU at h;split at h
 ·split at h <;> cases h
 ·split at h <;> cases h
 ·cases h
theorem HH:Nx jV:=λt t' c h=>by
 unfold jV at h;cases e:uU t t' with
 | bad=>rw[e]at h;cases h
 | ex k=>exact absurd e (Vh _ _ _)
 | ok k=>rw[e]at h;cases h
theorem YK (i:Bool):mO X (compareOp (if i then .IsNot else .Is)) (wF (if i then jV else uU)):=by
 intro w s D H x y v u Q I g o h;obtain⟨t,t',b,r,C,e,q⟩:=h;have B:∃k,uU t t' = .ok k/\b=(if i then !k else k):=by
  cases i with
  | false=>exact⟨b,e,rfl⟩
  | true=>
   have l :jV t t' = .ok b:=e;unfold jV at l;cases z:uU t t' with
   | bad=>rw[z]at l;cases l
   | ex k=>exact absurd z (Vh _ _ _)
   | ok k=>rw[z]at l;cases l;exact⟨k,rfl,rfl⟩
 obtain⟨k,f,rfl⟩:=B;have go:plainIs v u=true/\(v == u)=k:=by
  cases C with
  | non=>
   obtain rfl:u=Value.none:=o;cases r with
   | non=>obtain rfl:v=Value.none:=g;cases f;exact⟨rfl,rfl⟩
   | bl j=>obtain rfl:v=Value.bool j:=g;cases f;exact⟨rfl,rfl⟩
   | int j=>obtain⟨t,rfl⟩:=g;cases f;exact⟨rfl,rfl⟩
   | str j=>obtain⟨t,rfl⟩:=g;cases f;exact⟨rfl,rfl⟩
   | tup _ _=>obtain rfl:v=Value.ref _:=g;cases f;exact⟨rfl,rfl⟩
   | lst _ _=>obtain rfl:v=Value.ref _:=g;cases f;exact⟨rfl,rfl⟩
   | fz _ _=>obtain rfl:v=Value.ref _:=g;cases f;exact⟨rfl,rfl⟩
  | bl p =>
   obtain rfl:u=Value.bool p :=o;cases r with
   | non=>obtain rfl:v=Value.none:=g;cases f;exact⟨rfl,rfl⟩
   | bl j=>obtain rfl:v=Value.bool j:=g;cases f;exact⟨rfl,by cases j <;> cases p <;> rfl⟩
   | int j=>obtain⟨t,rfl⟩:=g;cases f;exact⟨rfl,rfl⟩
   | str j=>obtain⟨t,rfl⟩:=g;cases f;exact⟨rfl,rfl⟩
   | tup _ _=>obtain rfl:v=Value.ref _:=g;cases f;exact⟨rfl,rfl⟩
   | lst _ _=>obtain rfl:v=Value.ref _:=g;cases f;exact⟨rfl,rfl⟩
   | fz _ _=>obtain rfl:v=Value.ref _:=g;cases f;exact⟨rfl,rfl⟩
  | _=>cases f
 cases i with
 | false=>exact wpAny_is_plain go.1 (by rw[go.2];exact⟨.bl k,H,I,rfl,q⟩)
 | true=>exact wpAny_isNot_plain go.1 (by rw[go.2];exact⟨.bl _,H,I,rfl,q⟩)
theorem xZ:mO X (compareOp .Is) (wF uU):=YK false
theorem kP:mO X (compareOp .IsNot) (wF jV):=YK true
def ny (g f :T->T->R Bool)(fa fb fc:En->R T):En->R T:=λρ=>(fa ρ).bind λx=>(fb ρ).bind λy=>(g x y).bind λk=>if k=true then (fc ρ).bind λz=>(f y z).bind λe => .ok (.bl e) else .ok (.bl false)
def D9 (g e :T->T->R Bool)(fa fb fc:En->R T):En->R Bool:=λρ=>(fa ρ).bind λx=>(fb ρ).bind λy=>(g x y).bind λk=>if k=true then (fc ρ).bind λz=>e y z else .ok false
theorem kQ (nx:Nx g)(l :Nx g')(J:mO X (compareOp op) (wF g))(j :mO X (compareOp op') (wF g'))(G:jz X Y a fa)(F:jz X Y b fb)(x:jz X Y c fc)
  (M:lastMarks [op,op'] [b,c]=false:=by with_unfolding_all rfl):Snd X Y (.Compare a [op,op'] [b,c] pos) (ny g g' fa fb fc):= .mk λρ=>
 PE.imp (V7 J j (G ρ) (F ρ) (x ρ) M) λU H Q ⟨B,I,q⟩=>step I q λt v P _ s1 y w D=>step w D λt' Z S _ u p o f=>by
  cases e:g t t' with
  | bad=>rw[e]at f;exact f.elim
  | ex c=>exact absurd e (nx _ _ _)
  | ok k=>
   rw[e]at f;refine⟨t,t',k,y.mono u,p,e,k,rfl, ?_⟩;cases k with
   | false=>exact ZN o f (.bl _)
   | true=>
    refine step o f λr v3 H3 _ C O N i=> ?_
    ·cases e:g' t' r with
     | bad=>rw[e]at i;exact i.elim
     | ex c=>exact absurd e (l _ _ _)
     | ok k=>rw[e]at i;exact⟨t',r,k,p.mono C,O,e,ZN N i (.bl k)⟩
theorem kR (nx:Nx g)(l :Nx g')(J:mO X (compareOp op) (wF g))(j :mO X (compareOp op') (wF g'))(G:jz X Y a fa)(F:jz X Y b fb)(x:jz X Y c fc)
  (M:lastMarks [op,op'] [b,c]=false:=by with_unfolding_all rfl):ua X Y (.Compare a [op,op'] [b,c] pos) (D9 g g' fa fb fc):= .mk λρ=>
 PT.imp (V8 J j (G ρ) (F ρ) (x ρ) M) λU H Q ⟨B,I,q⟩=>step I q λt v P _ s1 y w D=>step w D λt' Z S _ u p o f=>by
  cases e:g t t' with
  | bad=>rw[e]at f;exact f.elim
  | ex c=>exact absurd e (nx _ _ _)
  | ok k=>
   rw[e]at f;refine⟨t,t',k,y.mono u,p,e,k,rfl, ?_⟩;cases k with
   | false=>exact⟨false,rfl,ZN o f rfl⟩
   | true=>
    refine step o f λr v3 H3 _ C O N i=> ?_
    ·cases e:g' t' r with
     | bad=>rw[e]at i;exact i.elim
     | ex c=>exact absurd e (l _ _ _)
     | ok k=>rw[e]at i;exact⟨t',r,k,p.mono C,O,e,k,rfl,ZN N i rfl⟩
def kS (r u f :R2)(v tb tc B:TE):TE:=λe H Q=>v e H λx q=>tb e q λy w=>r x y w λz H3=>∃k,z= .bl k/\
 (if k=true then tc e H3 λi l=>u y i l λp j=>∃g,p = .bl g /\(if g =true then B e j λw2 o=>f i w2 o Q else Q (.bl false) j) else Q (.bl false) H3)
theorem YL (ho:mO X (compareOp op) r)(i :mO X (compareOp op') r')(g :mO X (compareOp op'') r'')(ha:PE X a ta)(hb:PE X b tb)(S:PE X c tc)(hd:PE X d td)
  (hm:lastMarks [op,op',op''] [b,c,d]=false:=by with_unfolding_all rfl):PE X (.Compare a [op,op',op''] [b,c,d] pos) (kS r r' r'' ta tb tc td):=by
 intro F s f H Q I h;refine Compare_chain (mH (ha _ s f H _ I h) λv s1 ⟨x,H1,P,r1,q1⟩=>chain_link (mH (hb _ s1 f H1 _ P q1) λu M ⟨y,H2,G,j,q2⟩=>
  mH (ho _ M f H2 x y v u _ G r1 j q2) λd' s3 ⟨z,H3,C,r3,k,e,w⟩=> ?_)) hm
 subst e;cases r3;refine bh ?_;cases k with
 | false=>exact ite_ff ⟨.bl _,H3,C,rfl,w⟩
 | true=>
  refine ite_tt (chain_link (mH (S _ s3 f H3 _ C w) λl s4 ⟨B,J,I4,D,q4⟩=>mH (i _ s4 f J y B u l _ I4 j D q4) λd2 O ⟨z5,o,p,Z,N,e5,q⟩=> ?_));subst e5;cases Z;refine bh ?_;cases N with
  | false=>exact ite_ff ⟨.bl _,o,p,rfl,q⟩
  | true=>exact ite_tt (chain_last (mH (hd _ O f o _ p q) λw6 U ⟨z6,H6,I6,r6,q6⟩=>g _ U f H6 B z6 l w6 Q I6 D r6 q6))
def rj (g j e :T->T->R Bool)(fa fb fc fd:En->R T):En->R T:=λρ=>(fa ρ).bind λx=>(fb ρ).bind λy=>(g x y).bind λk=>if k=true then (fc ρ).bind λz=>(j y z).bind λi =>
 if i =true then (fd ρ).bind λw=>(e z w).bind λf => .ok (.bl f) else .ok (.bl false) else .ok (.bl false)
theorem Vi (nx:Nx g)(u :Nx g')(j :Nx g'')(ho:mO X (compareOp op) (wF g))(r :mO X (compareOp op') (wF g'))(i :mO X (compareOp op'') (wF g''))
  (Z:jz X Y a fa) (P:jz X Y b fb) (J:jz X Y c fc) (hd:jz X Y d fd)
  (hm:lastMarks [op,op',op''] [b,c,d]=false:=by with_unfolding_all rfl):Snd X Y (.Compare a [op,op',op''] [b,c,d] pos) (rj g g' g'' fa fb fc fd):= .mk λρ=>
 PE.imp (YL ho r i (Z ρ) (P ρ) (J ρ) (hd ρ) hm) λσ H Q ⟨B,I,q⟩=>step I q λt v H1 _ s1 M G O=>step G O λt' v' H2 _ F x w f=>by
  cases e:g t t' with
  | bad=>rw[e]at f;exact f.elim
  | ex c=>exact absurd e (nx _ _ _)
  | ok k=>
   rw[e]at f;refine⟨t,t',k,M.mono F,x,e,k,rfl, ?_⟩;cases k with
   | false=>exact ZN w f (.bl _)
   | true=>
    refine step w f λo v3 H3 _ N D C l=> ?_
    ·cases e:g' t' o with
     | bad=>rw[e]at l;exact l.elim
     | ex c=>exact absurd e (u _ _ _)
     | ok k=>
      rw[e]at l;refine⟨t',o,k,x.mono N,D,e,k,rfl, ?_⟩;cases k with
      | false=>exact ZN C l (.bl _)
      | true=>
       refine step C l λy v4 H4 _ S r4 U p=> ?_
       ·cases e:g'' o y with
        | bad=>rw[e]at p;exact p.elim
        | ex c=>exact absurd e (j _ _ _)
        | ok k=>rw[e]at p;exact⟨o,y,k,D.mono S,r4,e,ZN U p (.bl k)⟩
variable {rest:List Expr}{ga gb:En->R Bool}
def j8 (fa fb:En->R T):En->R T:=λρ=>(fa ρ).bind λx=>match x with
 | .bl true=>fb ρ
 | .bl false=> .ok (.bl false)
 | _=> .bad
def pP (fa fb:En->R T):En->R T:=λρ=>(fa ρ).bind λx=>match x with
 | .bl true=> .ok (.bl true)
 | .bl false=>fb ρ
 | _=> .bad
def vX (fa:En->R T):En->R T:=λρ=>(fa ρ).bind λx=>match x with
 | .bl k=> .ok (.bl (!k))
 | _=> .bad
theorem LF {op}(h:Snd X Y a fa):Snd X Y (.BoolOp op [a] pos) fa:= .mk λρ=>Gs (h ρ)
theorem Hg (g:Snd X Y a fa)(j:Snd X Y (.BoolOp .And (b :: rest) pos) fb):Snd X Y (.BoolOp .And (a :: b :: rest) pos) (j8 fa fb):= .mk λρ=>
 PE.imp (Gu (g ρ) (j ρ)) λl H Q ⟨B,I,q⟩=>step I q λt v p _ o i f e=>by
  cases i with
  | bl k=>
   refine⟨k,rfl, ?_⟩;cases k with
   | true=>exact⟨_,f,e⟩
   | false=>exact ZN f e (.bl _)
  | _=>exact e.elim
theorem Cm (g:Snd X Y a fa)(j:Snd X Y (.BoolOp .Or (b :: rest) pos) fb):Snd X Y (.BoolOp .Or (a :: b :: rest) pos) (pP fa fb):= .mk λρ=>
 PE.imp (Lj (g ρ) (j ρ)) λl H Q ⟨B,I,q⟩=>step I q λt v p _ o i f e=>by
  cases i with
  | bl k=>
   refine⟨k,rfl, ?_⟩;cases k with
   | false=>exact⟨_,f,e⟩
   | true=>exact ZN f e (.bl _)
  | _=>exact e.elim
theorem Ls (f:Snd X Y a fa):Snd X Y (.UnaryOp .Not a pos) (vX fa):= .mk λρ=>
 PE.imp (Gv (f ρ)) λj H Q ⟨B,I,q⟩=>step I q λt v o _ l i g e=>by
  cases i with
  | bl k=>exact⟨k,rfl,ZN g e (.bl _)⟩
  | _=>exact e.elim
structure Y9 (X:Cx) (Y:Fx) (e:Expr) (f:En->R Bool):Prop where
 mk ::
 go:∀ρ,PW X e (tS Y rE f ρ)
instance {X:Cx}{Y:Fx}{e:Expr}{f:En->R Bool}:CoeFun (Y9 X Y e f) λ_=>∀ρ,PW X e (tS Y rE f ρ):=⟨Y9.go⟩
theorem Y9.t (h:Y9 X Y e f):ua X Y e f:= .mk λρ=>(h ρ).pt
theorem PW.imp (h:PW X e t)(i:∀f H Q,t' f H Q->t f H Q):PW X e t' :=λj g s f H Q I q=>h j _ s f H Q I (i f H Q q)
def X0 (fa fb:En->R Bool):En->R Bool:=λρ=>(fa ρ).bind λx=>if x=true then fb ρ else .ok false
def nz (fa fb:En->R Bool):En->R Bool:=λρ=>(fa ρ).bind λx=>if x=true then .ok true else fb ρ
def jW (fa:En->R Bool):En->R Bool:=λρ=>(fa ρ).bind λx=> .ok (!x)
theorem LW (h:ua X Y a ga):Y9 X Y (.BoolOp .And [a] pos) ga:= .mk λρ=>k8 (h ρ)
theorem LQ (h:ua X Y a ga):Y9 X Y (.BoolOp .Or [a] pos) ga:= .mk λρ=>Gp (h ρ)
theorem Ll (i:ua X Y a ga)(k:Y9 X Y (.BoolOp .And (b :: rest) pos) gb):Y9 X Y (.BoolOp .And (a :: b :: rest) pos) (X0 ga gb):= .mk λρ=>
 PW.imp (Gq (i ρ) (k ρ)) λl H Q ⟨B,I,q⟩=>step I q λt v p _ o j f g=>by
  have e :=j;subst e;cases v with
  | true=>exact⟨_,f,g⟩
  | false=>exact ZN f g rfl
theorem Do (i:ua X Y a ga)(k:Y9 X Y (.BoolOp .Or (b :: rest) pos) gb):Y9 X Y (.BoolOp .Or (a :: b :: rest) pos) (nz ga gb):= .mk λρ=>
 PW.imp (IN (i ρ) (k ρ)) λl H Q ⟨B,I,q⟩=>step I q λt v p _ o j f g=>by
  have e :=j;subst e;cases v with
  | false=>exact⟨_,f,g⟩
  | true=>exact ZN f g rfl
theorem IU (f:ua X Y a ga):ua X Y (.UnaryOp .Not a pos) (jW ga):= .mk λρ=>
 PT.imp (Gr (f ρ)) λk H Q ⟨B,I,q⟩=>step I q λt v o _ l i g j=>by
  have e :=i;subst e;exact ZN g j rfl
noncomputable def C7:T->R Bool
 | .bl k=> .ok k
 | .non=> .ok false
 | .int i=> .ok (i != 0)
 | .tup xs=> .ok (!xs.isEmpty)
 | .lst xs=> .ok (!xs.isEmpty)
 | _=> .bad
def ZX (fa:En->R T):En->R Bool:=λρ=>(fa ρ).bind C7
theorem D6 (r:zy H xs ts):(!xs.isEmpty)= !ts.isEmpty:=by cases r <;> rfl
theorem F3 (o:jz X Y a fa)(l:∀e,isTrue a X.env e=(do let v ← e;standAt a.pos;holding [v] (truthy v)):=by intro _;rfl):ua X Y a (ZX fa):= .mk λρ=>
 PT.imp (V9 (o ρ) l) λu H Q ⟨B,I,q⟩=>step I q λt v p _ w j g f=>by
  cases j with
  | bl k=>exact⟨k,rfl,ZN g f rfl⟩
  | non=>exact⟨false,rfl,ZN g f rfl⟩
  | int i=>exact⟨_,rfl,ZN g f rfl⟩
  | tup h r=>exact⟨_,.inr (.inl ⟨_,SqT.of h,rfl⟩),ZN g f (D6 r)⟩
  | lst h r=>exact⟨_,.inl ⟨_,SqL.of h,rfl⟩,ZN g f (D6 r)⟩
  | _=>exact f.elim
def mZ (g:En->R Bool)(fa fb:En->R T):En->R T:=λρ=>(g ρ).bind λk=>if k=true then fa ρ else fb ρ
theorem C8 (j:ua X Y c ga)(i:Snd X Y a fa)(l:Snd X Y b fb):Snd X Y (.IfExp c a b pos) (mZ ga fa fb):= .mk λρ=>
 PE.imp (V5 (j ρ) (i ρ) (l ρ)) λo H Q ⟨B,I,q⟩=>step I q λt v r _ p k f g=>by
  have e :=k;subst e;cases v with
  | true=>exact⟨_,f,g⟩
  | false=>exact⟨_,f,g⟩
end
end PV
namespace PV
open PySem PySem.Spec PyProof.Rows L2
section
variable {X:Cx}{Y:Fx}{a b c d:Expr}{fa fb fc fd:En->R T}{pos p:Pos}
def mw (g:T->R T)(fa:En->R T):En->R T:=λρ=>(fa ρ).bind g
noncomputable abbrev mY (X:Cx)(a:Expr):Prop:=starEach [a] X.env=[(false,eval a X.env)]
theorem JT {id:String}{x:Str}{r:List V->Hp->VK->Prop}{g:T->R T}(j:Z7 X (.builtin id) r)(hr:∀v t B H Q,Rep H v t->zo B H->Po Y rC B H (g t) Q->r [v] H Q)
  (w:Gl X x) (k:X.mg x=none) (o:bootBuiltins x=some (.builtin id)) (f:jz X Y a fa) (e:mY X a:=by exact mQ rfl) (hn:x ≠ "__name__":=by decide) (hd:(x == ("__debug__":Str))=false:=by decide):Snd X Y (.Call (.Name x p) [a] [] pos) (mw g fa):= .mk λρ=>
 PE.imp (ZM j w k o (zm (f ρ) zH e) hn hd e rfl) λC H Q ⟨B,I,q⟩=>step I q λt v u _ D l i y=>hr v t _ u Q l i.sB y
theorem X1 {id:String}{x:Str}{r:List V->Hp->VK->Prop}{g:T->R T}(j:Z7 X (.type id) r)(hr:∀v t B H Q,Rep B v t->zo B H->Po Y rC B H (g t) Q->r [v] H Q)
  (w:Gl X x) (k:X.mg x=none) (o:bootBuiltins x=some (.type id)) (f:Snd X Y a fa) (e:mY X a:=by exact mQ rfl) (hn:x ≠ "__name__":=by decide) (hd:(x == ("__debug__":Str))=false:=by decide):Snd X Y (.Call (.Name x p) [a] [] pos) (mw g fa):= .mk λρ=>
 PE.imp (ZZ j w k o (zm (f ρ) zH e) hn hd e rfl) λC H Q ⟨B,I,q⟩=>step I q λt v u _ D l i y=>hr v t _ u Q l i.sB y
def Z6:T->R T
 | .tup xs=> .ok (.int xs.length)
 | .lst xs=> .ok (.int xs.length)
 | .fz xs=> .ok (.int xs.length)
 | .str x=>if x.length<=mF then .ok (.int x.length) else .bad
 | _=> .bad
theorem Mb (v:V)(t:T)(B H:Hp)(Q:VK)(r:Rep H v t)(e:zo B H)(q:Po Y rC B H (Z6 t) Q):
  (∃p f,[v]=[V.ref p]/\(SqL X.K H p f\/SqT X.K H p f)/\Q (V.int f.length) H)\/(∃z,[v]=[V.str z]/\z.length<=sizeLine/\Q (V.int z.length) H):=by
 cases r with
 | tup h r=>exact .inl ⟨_,_,rfl,.inr (SqT.of h),mV e q rfl (by rw[r.length];exact .int _)⟩
 | lst h r=>exact .inl ⟨_,_,rfl,.inl (SqL.of h),mV e q rfl (by rw[r.length];exact .int _)⟩
 | fz h r=>exact .inl ⟨_,_,rfl,.inl (.inl (.inr ⟨_,h⟩)),mV e q rfl (by rw[r.length];exact .int _)⟩
 | str x=>
  by_cases g:x.length<=mF
  ·exact .inr ⟨x,rfl,ZF g,mV e q (if_pos g) (.int _)⟩
  ·rw[show Z6 (.str x)= .bad from if_neg g]at q;exact q.elim
 | _=>exact q.elim
theorem EJ (f:Gl X "len")(i:X.mg "len"=none)(e:jz X Y a fa)(g:mY X a:=by exact mQ rfl):Snd X Y (.Call (.Name "len" p) [a] [] pos) (mw Z6 fa):=
 JT (u7.or u8) Mb f i PySem.boot_len e g
noncomputable def sx:T->R T
 | .tup xs=> .ok (.tup xs)
 | .lst xs=> .ok (.tup xs)
 | _=> .bad
theorem FB (v:V)(t:T)(B H:Hp)(Q:VK)(r:Rep B v t)(e:zo B H)(q:Po Y rC B H (sx t) Q):
  ∃p f,[v]=[V.ref p]/\((SqL X.K H p f/\∀l,H l=none->Q (.ref l) (mz H l (.tup f)))\/(SqT X.K H p f/\Q (.ref p) H)):=by
 cases r with
 | tup h r=>exact⟨_,_,rfl,.inr ⟨SqT.of (e _ _ h),mV e q rfl (.tup h r)⟩⟩
 | lst h r=>exact⟨_,_,rfl,.inl ⟨SqL.of (e _ _ h),λl g=>GU e q rfl r g⟩⟩
 | _=>exact q.elim
theorem kT (f:Gl X "tuple")(i:X.mg "tuple"=none)(e:Snd X Y a fa)(g:mY X a:=by exact mQ rfl):Snd X Y (.Call (.Name "tuple" p) [a] [] pos) (mw sx fa):=
 X1 W9 FB f i (PyProof.Rows.Boot.«tuple») e g
noncomputable def nH:T->String
 | .non=>"NoneType"
 | .bl _=>"bool"
 | .int _=>"int"
 | .str _=>"str"
 | .tup _=>"tuple"
 | .lst _=>"list"
 | .fz _=>"list"
def nD (n:String)(t:T):Bool:=nH t == n || (n == "int" && nH t == "bool")
theorem FR (K:ai)(r:Rep H v t):yy K H v (.type (nH t)):=by
 cases r with
 | non=>exact .non
 | bl b=>exact .bl b
 | int b=>exact .int b
 | str b=>exact .str b
 | tup h _=>exact .tup h
 | lst h _=>exact .lst h
 | fz h _=>exact .frz h
theorem Vj:Z7 X (.builtin "isinstance") (λxs H Q=>∃v n t,xs=[v,.ty n]/\Rep H v t/\bL X.K (.type (nH t)) (.type n)=some (nD n t)/\Q (.bl (nD n t)) H):=by
 intro f s l H xs k Q I g h;obtain⟨v,n,t,rfl,r,j,q⟩:=h;obtain⟨u,w,rfl,i,e⟩:=uR g;obtain rfl:w=Value.type n:=e;exact Yt I i (FR X.K r) j λtk=>⟨.bl _,H,I.tok tk,rfl,q⟩
def WS (n:String)(t:T):R T:= .ok (.bl (nD n t))
theorem kU (K:ai)(t:T):bL K (.type (nH t)) (.type "int")=some (nD "int" t):=by cases t <;> rfl
theorem Vk (K:ai)(t:T):bL K (.type (nH t)) (.type "bool")=some (nD "bool" t):=by cases t <;> rfl
theorem kX (K:ai)(t:T):bL K (.type (nH t)) (.type "str")=some (nD "str" t):=by cases t <;> rfl
theorem uc (K:ai)(t:T):bL K (.type (nH t)) (.type "tuple")=some (nD "tuple" t):=by cases t <;> rfl
theorem Vl (K:ai)(t:T):bL K (.type (nH t)) (.type "list")=some (nD "list" t):=by cases t <;> rfl
theorem Vm (y:∀t,bL X.K (.type (nH t)) (.type n)=some (nD n t))(u:Gl X "isinstance")(l:X.mg "isinstance"=none)(g :Gl X (aC n))(f :X.mg (aC n)=none)(r:bootBuiltins (aC n)=some (.type n))(j:jz X Y a fa)
  (i:starEach [a,.Name (aC n) p'] X.env=[(false,eval a X.env),(false,eval (.Name (aC n) p') X.env)]:=by exact nO rfl rfl) (e:starEach [.Name (aC n) p'] X.env=[(false,eval (.Name (aC n) p') X.env)]:=by exact mQ rfl)
  (hn:aC n ≠ "__name__":=by decide) (hd:(aC n == ("__debug__":Str))=false:=by decide) (hz:((backTo pos (starEach [.Name (aC n) p'] X.env)).any λx=>x.fst)=false:=by exact zT rfl):
  Snd X Y (.Call (.Name "isinstance" p) [a,.Name (aC n) p'] [] pos) (mw (WS n) fa):= .mk λρ=>
 PE.imp (ZM Vj u l PyProof.Rows.Boot.«isinstance» (zm (j ρ) (zm (uQ (v:= .ty n) g f r rfl hn hd) zH e) (by rw[i,e])) (by decide) (by decide) (by rw[i,e]) hz) λC H Q ⟨B,I,q⟩=>
  step I q λt v F _ D o k w=>⟨v,n,t,rfl,o,y t,mV k.sB w rfl (.bl _)⟩
def mS (xs:List T)(i:Int):R T:=match nw xs i with
 | some t=> .ok t
 | none=> .bad
def kj:T->T->R T
 | .tup xs,.int i=>mS xs i
 | .lst xs,.int i=>mS xs i
 | .fz xs,.int i=>mS xs i
 | .str z,.int i=>if z.length<=mF then match nw z.cps.toList i with | some c=> .ok (.str ⟨#[c]⟩) | none=> .bad else .bad
 | _,_=> .bad
theorem YM (r:zy H xs ts)(h:nw ts i=some t):∃v,nw xs i=some v/\Rep H v t:=by
 unfold nw at h ⊢;rw[r.length];cases e:oD _ i with
 | none=>rw[e]at h;cases h
 | some j=>
  rw[e]at h;obtain⟨v,g,f⟩:=r.get (h);exact⟨v,g,f⟩
theorem Ca (F:Snd X Y a fa)(u:Snd X Y b fb)(G:Yy b:=by exact λ_ _=>rfl):Snd X Y (.Subscript a b pos) (zd kj fa fb):= .mk λρ=>
 PE.imp (GJ GM (F ρ) (u ρ) G) λM H Q ⟨B,I,q⟩=>step I q λt v J _ O l x D=>step x D λt' N o _ y C g f=>by
  have l:=l.mono (zF.ge x.sB y);cases C with
  | int i=>
   cases l with
   | @tup _ xs ts h r=>
    have f:Po Y rC _ o (mS ts i) Q:=f;unfold mS at f;split at f
    ·rename_i t' e;obtain⟨w,j,k⟩:=YM r e;exact .inr (.inl ⟨_,xs,i,w,rfl,rfl,SqT.of (g.sB _ _ h),j,mV g.sB f rfl k⟩)
    ·exact f.elim
   | @lst _ xs ts h r=>
    have f:Po Y rC _ o (mS ts i) Q:=f;unfold mS at f;split at f
    ·rename_i t' e;obtain⟨w,j,k⟩:=YM r e;exact .inl ⟨_,xs,i,w,rfl,rfl,SqL.of (g.sB _ _ h),j,mV g.sB f rfl k⟩
    ·exact f.elim
   | @fz _ _ xs ts h r=>
    have f:Po Y rC _ o (mS ts i) Q:=f;unfold mS at f;split at f
    ·rename_i t' e;obtain⟨w,j,k⟩:=YM r e;exact .inl ⟨_,xs,i,w,rfl,rfl,.inl (.inr ⟨_,g.sB _ _ h⟩),j,mV g.sB f rfl k⟩
    ·exact f.elim
   | str z=>
    have f:Po Y rC _ o (if z.length<=mF then match nw z.cps.toList i with | some c=> .ok _ | none=> .bad else .bad) Q:=f
    split at f
    ·rename_i u;split at f
     ·rename_i c e;exact .inr (.inr ⟨z,i,c,rfl,rfl,ZF u,e,mV g.sB f rfl (.str _)⟩)
     ·exact f.elim
    ·exact f.elim
   | _=>exact f.elim
  | _=>cases l <;> exact f.elim
structure kY (X:Cx) (Y:Fx) (e:Option Expr) (f:En->R (Option Int)):Prop where
 mk ::
 go:∀ρ,PO X e (tS Y rE f ρ)
instance {X:Cx}{Y:Fx}{e:Option Expr}{f:En->R (Option Int)}:CoeFun (kY X Y e f) λ_=>∀ρ,PO X e (tS Y rE f ρ):=⟨kY.go⟩
def np:En->R (Option Int):=λ_=> .ok none
def Zj (fa:En->R T):En->R (Option Int):=λρ=>(fa ρ).bind λt=>match t with
 | .int i=> .ok (some i)
 | _=> .bad
theorem PO.imp {e:Option Expr}{t t' :TO}(h:PO X e t)(i:∀f H Q,t' f H Q->t f H Q):PO X e t' :=λg s f H Q I q=>h _ s f H Q I (i f H Q q)
theorem HD:kY X Y none np:= .mk λρ=>PO.imp ko λe H Q ⟨B,I,q⟩=>ZN I q rfl
theorem Fs (f:Snd X Y a fa):kY X Y (some a) (Zj fa):= .mk λρ=>PO.imp (ku (f ρ)) λk H Q ⟨B,I,q⟩=>step I q λt v o _ l j g e=>by
 cases j with
 | int i=>exact⟨i,rfl,ZN g e rfl⟩
 | _=>exact e.elim
noncomputable def nJ (xs:List T)(lo hi:Option Int):List T:=(xs.drop (HT.sIx xs.length 0 lo)).take (HT.sIx xs.length xs.length hi - HT.sIx xs.length 0 lo)
def o8 (t:T)(lo hi:Option Int):R T:=match t with
 | .tup xs=> .ok (.tup (nJ xs lo hi))
 | .lst xs=> .ok (.lst (nJ xs lo hi))
 | _=> .bad
def nj (fa:En->R T)(fl e:En->R (Option Int)):En->R T:=λρ=>(fa ρ).bind λt=>(fl ρ).bind λlo=>(e ρ).bind λhi=>o8 t lo hi
theorem YN {lo hi:Option Int}(r:zy H xs ts):zy H (G6 xs lo hi) (nJ ts lo hi):=by
 unfold G6 nJ;rw[r.length];exact(r.drop _).take _
theorem Jd {lo hi:Option Int}(e:IsTup s.heap t items)(k:s.heap.IsSliceOf sl vl vu .none)(pl:IsPart vl lo)(o:IsPart vu hi)
  (l:HT.sIx items.size 0 lo=0/\HT.sIx items.size items.size hi=items.size) (h:Q (.ref t) s):wpAny (model prog w) A (getItem (.ref t) (.ref sl)) Q E s:=by
 obtain⟨os,j,i,q⟩:=id k;have g:s.TypeIs (.ref sl) _:=⟨os,j,i⟩;unfold getItem
 try with_reducible refine bp ?_
 refine a8 (wpAny_sequenceKey e.typeIs (by decide) ?_)
 refine a8 (aX e.typeIs bu
  (aM bu e.typeIs entry_tuple_getitem ?_ (args_tuple_getitem _ _)))
 show wpAny _ _ (hJ _ >>= _) _ _ s;refine a8 (tupleItemsOf_ e ?_);refine a8 (dS g ?_);refine a8 (HT.sliceApplied_gen k pl o ?_);have f:(((HT.sIx items.size 0 lo):Int) == 0 && (1:Int) == 1 && (HT.sIx items.size items.size hi - HT.sIx items.size 0 lo) == items.size)=true:=by
  rw[l.1,l.2];simp
 show wpAny _ _ (if (((HT.sIx _ 0 lo:Nat):Int) == 0 && (1) == 1 && (HT.sIx _ _ hi - HT.sIx _ 0 lo) == items.size)=true then _ else _) _ _ s
 rw[if_pos f];refine a8 (a8 (dS e.typeIs (ac ?_)));exact a8 (du (ac ⟨_,rfl,ac h⟩))
theorem yE:SlR X (λx lo hi H Q=>∃a xs,x= .ref a/\SqT X.K H a xs/\(HT.sIx xs.length 0 lo=0/\HT.sIx xs.length xs.length hi=xs.length)/\Q (.ref a) H):=by
 intro i s w H x v vl y lo hi B Q I o k pl l h;obtain⟨a,xs,rfl,j,u,q⟩:=h;obtain rfl:v=Value.ref a:=o;obtain⟨f,r,g,hz⟩:=I.tuple j;have e:f.toArray.size=xs.length:=by exact r.length.symm
 refine⟨"tuple",_,bu.lookup,g.typeIs, ?_⟩;exact Jd g k pl l (by rw[e];exact u) ⟨.ref a,H,I,rfl,q⟩
theorem kZ {lo hi:Option Int}(f:HT.sIx xs.length 0 lo=0)(e:HT.sIx xs.length xs.length hi=xs.length):nJ xs lo hi=xs:=by
 unfold nJ;rw[f,e];simp
theorem K0 {lo hi:Option Expr}{fl x:En->R (Option Int)}(M:Snd X Y a fa)(F:kY X Y lo fl)(N:kY X Y hi x):Snd X Y (.Subscript a (.Slice lo hi none p2) pos) (nj fa fl x):= .mk λρ=>
 PE.imp (Vc (GI.or (yE.or kA)) (M ρ) (F ρ) (N ρ)) λZ H Q ⟨B,I,q⟩=>step I q λt v S _ s1 k w G=>step w G λl C U _ y J u P=>step u P λh h' H3 _ D O e i=>by
  have j :=J;have o :=O;subst j o;have k:=k.mono ((zF.ge w.sB y).trans (zF.ge u.sB D));cases k with
  | @tup _ xs ts f r=>
   by_cases g:HT.sIx xs.length 0 C =0/\HT.sIx xs.length xs.length h' =xs.length
   ·refine .inr (.inl ⟨_,xs,rfl,SqT.of (e.sB _ _ f),g,mV e.sB i rfl ?_⟩);rw[r.length]at g;rw[kZ g.1 g.2];exact .tup f r
   ·exact .inl ⟨_,xs,rfl,SqT.of (e.sB _ _ f),g,λp hp=>GU e.sB i rfl (YN r) hp⟩
  | @lst _ xs ts f r=>
   exact .inr (.inr ⟨_,xs,rfl,SqL.of (e.sB _ _ f),λp hp=>Dw e.sB i rfl (YN r) hp⟩)
  | _=>exact i.elim
noncomputable def wH (t t' :T):R T:=match t,t' with
 | .int i,.int j=> .ok (.int (if j < i then j else i))
 | _,_=> .bad
theorem Ma (u:X.calm=true)(y:Gl X "min")(w:X.mg "min"=none)(o:Snd X Y a fa)(D:Snd X Y b fb)
  (g:starEach [a,b] X.env=[(false,eval a X.env),(false,eval b X.env)]:=by exact nO rfl rfl) (e:starEach [b] X.env=[(false,eval b X.env)]:=by exact mQ rfl):
  Snd X Y (.Call (.Name "min" p) [a,b] [] pos) (zd wH fa fb):= .mk λρ=>
 PE.imp (ZM (Yq u) y w PyProof.Rows.Boot.«min» (zm (o ρ) (zm (D ρ) zH e) (by rw[g,e])) (by decide) (by decide) (by rw[g,e]) (by rw[e];rfl)) λG H Q ⟨B,I,q⟩=>
  step I q λt v O _ M x r C=>step r C λt' J N _ F k l f=>by
   cases x with
   | int i=>
    cases k with
    | int j=>exact⟨i,j,rfl,mV l.sB f rfl (.int _)⟩
    | _=>exact f.elim
   | _=>cases k <;> exact f.elim
noncomputable def WT:List T->Option Bool
 | []=>some true
 | .bl k :: r=>match WT r with | some j=>some (k && j) | none=>none
 | _ :: _=>none
def Vn:T->R T
 | .lst ts=>match WT ts with | some k=> .ok (.bl k) | none=> .bad
 | _=> .bad
theorem YO:∀{H:Hp} {xs:List V} {ts:List T} {f:List Value} {k:Bool},zy H xs ts->Vals xs f->WT ts=some k->∃tr:Nat->Bool,(∀i v,f[i]? =some v->v=Value.bool (tr i))/\(aN f.length).all tr=k
 | _,_,_,_,k,.nil,.nil,h=>by
  have h' :=h;cases h';exact⟨λ_=>true,λi v e=>by simp at e,rfl⟩
 | H,_,_,_,k,.cons r rs,.cons (b:=u) rv vs,h=>by
  cases r with
  | bl b=>
   unfold WT at h;split at h
   ·rename_i j e;cases h;obtain⟨tr,l,g⟩:=YO rs vs e;obtain rfl:u=Value.bool b:=rv;refine⟨λi=>match i with | 0=>b | i+1=>tr i,λi v e=> ?_, ?_⟩
    ·cases i with
     | zero=>simp at e;exact e.symm
     | succ i=>exact l i v (by simpa using e)
    ·rw[aw,dq,cX,lK,← g];rfl
   ·cases h
  | _=>cases h
theorem YQ (G:X.A.handled=none):Z7 X (.builtin "all") (λvs H Q=>∃l xs ts k,vs=[.ref l]/\H l=some (.lst xs)/\zy H xs ts/\WT ts=some k/\Q (.bl k) H):=by
 intro y s P H vs O Q I f h;obtain⟨l,xs,ts,k,rfl,x,r,C,q⟩:=h;obtain⟨u,rfl,F⟩:=Zn f;obtain rfl:u=Value.ref l:=F;obtain⟨g,f,p,_⟩:=zL I (.inl x) r;obtain⟨tr,B,D⟩:=YO r f C;refine call_all_walk (ck p ?_);have w:=I.hok.lt x;have old:∀b o,s.heap.get? b=some o->(s.heap.push { cls:= .type "list_iterator",data:= .fields #[.ref l,.int 0 0] }).get? b=some o:=λb o e=>ab _ e;refine⟨s.heap.objs.size,_,_,_,_,_,tr,rfl,hW (A:=X.A.in1) G _ l (aF w) g.toArray, ?_, ?_,λh' tk j => ?_⟩
 ·refine⟨?_,p.at λo e=>old _ o e⟩;exact⟨_,af _ rfl,rfl,rfl⟩
 ·intro i v S M N hi J;rw[B i v (by simpa using hi)]
  exact bh J
 ·rw[aD,D];refine⟨.bl k,H,I.kept (λb o e=>j b o ?_ (old b o e)),rfl,q⟩;simp;exact aF (au e)
theorem Me (u:X.A.handled=none)(g:Gl X "all")(j:X.mg "all"=none)(i:jz X Y a fa)(o:mY X a:=by exact mQ rfl):Snd X Y (.Call (.Name "all" p) [a] [] pos) (mw Vn fa):=
 JT (YQ u) (λv t B H Q r f q=>by
  cases r with
  | @lst l xs ts h r=>
   have q:Po Y rC B H (match WT ts with | some k=> .ok _ | none=> .bad) Q:=q
   split at q
   ·rename_i k e;exact⟨l,xs,ts,k,rfl,h,r,e,mV f q rfl (.bl k)⟩
   ·exact q.elim
  | _=>exact q.elim) g j PyProof.Rows.Boot.«all» i o
end
inductive RS where
 | nx (ρ:En) | rt (t:T) | bk (ρ:En) | ct (ρ:En) | ex (c:Nat) | bad | rf (ts:List T)
noncomputable def R.s {d:Type}(r:R d)(k:d->RS):RS:=match r with
 | .ok a=>k a
 | .ex c=> .ex c
 | .bad=> .bad
def PoS (Y:Fx)(B:Hp)(r:RS)(D:xM):Prop:=match r with
 | .nx ρ' =>∀σ' d e,zo B e ->SI Y e ρ' σ' d ->D.nx σ' d
 | .rt t=>∀v d,zo Y.H0 d ->Rep (zF Y.B0 Y.H0 d) v t->D.rt v d
 | .bk ρ' =>∀σ' d e,zo B e ->SI Y e ρ' σ' d ->D.bk σ' d
 | .ct ρ' =>∀σ' d e,zo B e ->SI Y e ρ' σ' d ->D.ct σ' d
 | .ex c=>XP Y B c
 | .bad=>False
 | .rf ts=>∀a xs d e,zo Y.H0 d ->Y.H0 a=none->d a=some (.lst xs)->zy e xs ts->e a=none->zo e (zF Y.B0 Y.H0 d)->D.rt (.ref a) d
theorem PoS.up {r:RS}{D:xM}(s:zo B B')(h:PoS Y B r D):PoS Y B' r D:=by
 cases r with
 | nx ρ=>exact λσ' a f e I=>h σ' a f (s.trans e) I
 | bk ρ=>exact λσ' a f e I=>h σ' a f (s.trans e) I
 | ct ρ=>exact λσ' a f e I=>h σ' a f (s.trans e) I
 | rt t=>exact h
 | rf t=>exact h
 | ex c=>exact λd a i g=>h d a i (s.trans g)
 | bad=>exact h
def pE (Y:Fx)(f:En->RS)(ρ:En):TS:=λD a H=>∃B,SI Y B ρ a H/\PoS Y B (f ρ) D
structure Wd (X:Cx) (Y:Fx) (e:Stmt) (f:En->RS):Prop where
 mk ::
 go:∀ρ,PS X e (pE Y f ρ)
instance {X:Cx}{Y:Fx}{e:Stmt}{f:En->RS}:CoeFun (Wd X Y e f) λ_=>∀ρ,PS X e (pE Y f ρ):=⟨Wd.go⟩
structure We (X:Cx) (Y:Fx) (e:List Stmt) (f:En->RS):Prop where
 mk ::
 go:∀ρ,PSs X e (pE Y f ρ)
instance {X:Cx}{Y:Fx}{e:List Stmt}{f:En->RS}:CoeFun (We X Y e f) λ_=>∀ρ,PSs X e (pE Y f ρ):=⟨We.go⟩
theorem Je {i j:Type}{g:Hp->Hp->j->i->Prop}{f:En->R i}{k:i->RS}{D:xM}{K:j->Hp->Prop}
  (I:SI Y B ρ σ H) (h:PoS Y B ((f ρ).s k) D)
  (n:∀a b d,f ρ= .ok a->zo H d->g (zF B H d) d b a->SI Y (zF B H d) ρ σ d->PoS Y (zF B H d) (k a) D->K b d):tS Y g f ρ σ H K:=by
 refine⟨B,I, ?_⟩;cases e:f ρ with
 | bad=>rw[e]at h;exact h
 | ex c=>rw[e]at h;exact h
 | ok a=>
  rw[e]at h;exact λb d s r=>n a b d e s r (I.grow s) (PoS.up (zF.ge I.sB s) h)
theorem zz {a:Type}{xs:List a}{x y:a}(h:(xs.set i x)[j]? =some y):(j=i/\y=x)\/(j ≠ i/\xs[j]? =some y):=by
 by_cases e:j=i
 ·subst e
  by_cases c:j < xs.length
  ·rw[be c]at h;exact .inl ⟨rfl,(aH h).symm⟩
  ·rw[aP (by rw[bx];omega)]at h;cases h
 ·rw[aB (bj e)]at h;exact .inr ⟨e,h⟩
theorem Uq {a:Type}{xs:List a}{x y:a}(h:(xs.set i x)[i]? =some y):i < xs.length:=by
 by_cases c:i < xs.length
 ·exact c
 ·rw[aP (by rw[bx];omega)]at h;cases h
theorem StI.set {O:Addr->Option (Nat×Nat)}(x:StI Y B ρ σ H as O)(i:Nat)(s:Sl)(v:Option V)(l:s.isO=false)(f:∀ts,s ≠ .ow ts):StI Y B (ρ.set i s) (σ.set i v) H as O:=
 x.on (λj y hy h=>by
  rcases zz h with ⟨_,e⟩ | ⟨a,h'⟩
  ·rw[e,l]at hy;cases hy
  ·exact⟨h',aB (bj a)⟩) (zo.refl _) rfl rfl (zo.refl _) λb o g k d _=>⟨g,k,d,λok j c h=>by
  rcases zz h with ⟨_,e⟩ | ⟨a,h'⟩
  ·exact absurd e.symm (f c)
  ·rw[aB (bj a)];exact ok j c h'⟩
theorem SI.setV (I:SI Y B ρ σ H)(i:Nat)(r:Rep B v t):SI Y B (ρ.set i (.vl t)) (σ.set i (some v)) H where
 s0:=I.s0
 sH:=I.sH
 sB:=I.sB
 old:=I.old
 len:=by rw[bx,bx];exact I.len
 vl:=λj u h=>by
  rcases zz h with ⟨rfl,e⟩ | ⟨f,h'⟩
  ·cases e;exact⟨v,be (by rw[← I.len];exact Uq h),r⟩
  ·obtain⟨w,e,l⟩:=I.vl j u h';exact⟨w,by rw[aB (bj f)];exact e,l⟩
 ow:=λj p h=>by
  rcases zz h with ⟨rfl,e⟩ | ⟨f,h'⟩
  ·cases e
  ·obtain⟨a,xs,e,D,C,F,l,d⟩:=I.ow j p h';refine⟨a,xs,by rw[aB (bj f)];exact e,D,C,F,l,λk q y G=> ?_⟩
   rcases zz G with ⟨rfl,J⟩ | ⟨g,o⟩
   ·cases J
   ·rw[aB (bj g)];exact d k q y o
 xc:=λj c h=>by
  rcases zz h with ⟨rfl,e⟩ | ⟨f,h'⟩
  ·cases e
  ·obtain⟨a,e,r⟩:=I.xc j c h';exact⟨a,by rw[aB (bj f)];exact e,r⟩
 st:=let ⟨as,O,x⟩:=I.st;⟨as,O,x.set i _ _ rfl (λ_=>Sl.noConfusion)⟩
theorem SI.newO (I:SI Y B ρ σ H)(i:Nat)(hp:H p=none)(r:zy B xs ts):SI Y B (ρ.set i (.ow ts)) (σ.set i (some (.ref p))) (mz H p (.lst xs)) where
 s0:=I.s0
 sH:=I.sH.trans (zo.new hp _)
 sB:=I.sB.trans (zo.new hp _)
 old:=I.old
 len:=by rw[bx,bx];exact I.len
 vl:=λj u h=>by
  rcases zz h with ⟨rfl,e⟩ | ⟨f,h'⟩
  ·cases e
  ·obtain⟨w,e,G⟩:=I.vl j u h';exact⟨w,by rw[aB (bj f)];exact e,G⟩
 ow:=λj C h=>by
  have op:∀k q a,ρ[k]? =some (Sl.ow q)->σ[k]? =some (some (V.ref a))->a ≠ p:=λk q a X S=>by
   obtain⟨a',v,e,_,_,P,_⟩:=I.ow k q X;rw[e]at S;cases S;exact zG P hp
  rcases zz h with ⟨rfl,e⟩ | ⟨f,h'⟩
  ·cases e;refine⟨p,xs,be (by rw[← I.len];exact Uq h),I.sB.free hp,I.sH.free hp,zl,r,λk q J F=> ?_⟩
   rcases zz F with ⟨rfl,Z⟩ | ⟨l,g⟩
   ·exact absurd rfl J
   ·rw[aB (bj l)];exact λz=>op k q p g z rfl
  ·obtain⟨a,v,e,N,M,P,G,d⟩:=I.ow j C h';refine⟨a,v,by rw[aB (bj f)];exact e,N,M,by rw[zi (op j C a h' e)];exact P,G,λk q J F=> ?_⟩
   rcases zz F with ⟨rfl,Z⟩ | ⟨l,g⟩
   ·rw[be (by rw[← I.len];exact Uq F)]
    intro z;exact op j C a h' e (by injection z with z;injection z with z;injection z with z;exact z.symm)
   ·rw[aB (bj l)];exact d k q J g
 xc:=λj c h=>by
  rcases zz h with ⟨rfl,e⟩ | ⟨f,h'⟩
  ·cases e
  ·obtain⟨a,e,r⟩:=I.xc j c h';exact⟨a,by rw[aB (bj f)];exact e,r⟩
 st:=by
  obtain⟨U,O,x⟩:=I.st;refine⟨U,O,x.on (λj y hy h=> ?_) (zo.refl _) rfl rfl (zo.refl _) λb o Q N M _=> ?_⟩
  ·rcases zz h with ⟨_,e⟩ | ⟨f,h'⟩
   ·subst e;cases hy
   ·exact⟨h',aB (bj f)⟩
  ·have D:b ≠ p:=zG Q hp;refine⟨by rw[zi D];exact Q,N,M,λok j C h=> ?_⟩
   rcases zz h with ⟨rfl,e⟩ | ⟨f,h'⟩
   ·rw[be (by rw[← I.len];exact Uq h)]
    intro z;injection z with z;injection z with z;injection z with z;exact D z.symm
   ·rw[aB (bj f)];exact ok j C h'
theorem SI.chg (I:SI Y B ρ σ H)(i:Nat)(hi:ρ[i]? =some (.ow ts))(l:σ[i]? =some (some (.ref p)))(r:zy B ys M):SI Y B (ρ.set i (.ow M)) σ (mz H p (.lst ys)):=by
 obtain⟨p',xs,e,S,Q,hh,rr,d⟩:=I.ow i ts hi;rw[l]at e;cases e;have nb:∀b o,B b=some o->b ≠ p:=λb o h z=>by subst z;rw[S]at h;cases h
 have n0:∀b o,Y.H0 b=some o->b ≠ p:=λb o h z=>by subst z;rw[Q]at h;cases h
 refine⟨I.s0,λb o h=>by rw[zi (n0 b o h)];exact I.sH b o h,λb o h=>by rw[zi (nb b o h)];exact I.sB b o h,I.old,by rw[bx];exact I.len,λj u h=> ?_,λj P h=> ?_,λj c h=> ?_, ?_⟩
 rotate_right
 ·obtain⟨as,O,x⟩:=I.st;refine⟨as,O,x.on (λj y hy h=> ?_) (zo.refl _) rfl rfl (zo.refl _) λb o G N w X=> ?_⟩
  ·rcases zz h with ⟨_,e⟩ | ⟨q,h'⟩
   ·subst e;cases hy
   ·exact⟨h',rfl⟩
  ·have f:b ≠ p:=λz=>by
    subst z;rcases X with ⟨C,dx,vs,ez⟩ | ok
    ·rw[hh]at G;cases G;cases ez
    ·exact ok i ts hi l
   refine⟨by rw[zi f];exact G,N,w,λok j M h=> ?_⟩
   rcases zz h with ⟨rfl,e⟩ | ⟨q,h'⟩
   ·rw[l];intro z;injection z with z;injection z with z;injection z with z;exact f z.symm
   ·exact ok j M h'
 rotate_right
 ·rcases zz h with ⟨rfl,z⟩ | ⟨q,h'⟩
  ·cases z
  ·exact I.xc j c h'
 ·rcases zz h with ⟨rfl,z⟩ | ⟨q,h'⟩
  ·cases z
  ·exact I.vl j u h'
 ·rcases zz h with ⟨rfl,z⟩ | ⟨q,h'⟩
  ·cases z;refine⟨p,ys,l,S,Q,zl,r,λk vs v F=> ?_⟩;rcases zz F with ⟨rfl,e'⟩ | ⟨J,g⟩
   ·exact absurd rfl v
   ·exact d k vs v g
  ·obtain⟨a,D,e,Z,g0,U,ss,d'⟩:=I.ow j P h';have f:a ≠ p:=λz=>by subst z;exact d j P q h' e
   refine⟨a,D,e,Z,g0,by rw[zi f];exact U,ss,λk vs v F=> ?_⟩
   rcases zz F with ⟨rfl,e'⟩ | ⟨J,g⟩
   ·rw[l];intro z;injection z with z;injection z with z;injection z with z;exact f z.symm
   ·exact d' k vs v g
noncomputable def X2:Sl->Sl
 | .ow ts=> .vl (.lst ts)
 | .ob _ _=> .un
 | .st _=> .un
 | x=>x
def frz (ρ:En):En:=ρ.map X2
theorem SI.up (I:SI Y B ρ σ H):zo B (zF B Y.H0 H):=λb o h=>by
 cases q:Y.H0 b with
 | none=>rw[zM q];exact I.sB b o h
 | some u=>rw[zR q];exact h
theorem SI.frz (I:SI Y B ρ σ H):SI Y (zF B Y.H0 H) (PV.frz ρ) σ H:=by
 have up:zo B (zF B _ H):=λb o h=>by
  cases q:Y.H0 b with
  | none=>rw[zM q];exact I.sB b o h
  | some u=>rw[zR q];exact h
 refine⟨I.s0,I.sH,λb o h=> ?_,λb o h=>by rw[zR h];exact I.old b o h,by unfold PV.frz;rw[ae];exact I.len,λj t h=> ?_,λj ts h=> ?_,λj c h=> ?_, ?_⟩
 rotate_right
 ·have no:∀(j:Nat) (y:Sl),y.isS=true->(PV.frz ρ)[j]? ≠ some y:=λj y hy h=>by
   unfold PV.frz at h;rw[ao]at h;cases e:ρ[j]? with
   | none=>rw[e]at h;cases h
   | some x=>rw[e]at h;cases x <;> (cases h;cases hy)
  obtain⟨N,O,x⟩:=I.st;refine⟨Y.as,λ_=>none,iu _,λi os e=>(no i _ rfl e).elim,λi j os F e=>(no i _ rfl e).elim,λi k n e=>(no i _ rfl e).elim,λi k fs h=> ?_,λi os e=>(no i _ rfl e).elim⟩;have h' :ρ[i]? =some (Sl.oc k fs):=by
   unfold PV.frz at h;rw[ao]at h;cases e:ρ[i]? with
   | none=>rw[e]at h;cases h
   | some x=>rw[e]at h;cases x <;> (cases h;try rfl)
  obtain⟨a,C,l,vs,f,M,p,w,e5⟩:=x.oc i k fs h';exact⟨a,C,l,vs,f,M,p,w,e5.mono up (zo.refl _)⟩
 rotate_right
 ·unfold PV.frz at h;rw[ao]at h;cases e:ρ[j]? with
  | none=>rw[e]at h;cases h
  | some x=>
   rw[e]at h;cases x with
   | xc d=>
    cases h;obtain⟨a,f,r⟩:=I.xc j _ e;exact⟨a,f,up a _ r⟩
   | un=>cases h
   | vl _=>cases h
   | ow _=>cases h
   | ob _ _=>cases h
   | oc _ _=>cases h
   | st _=>cases h
 ·cases q:Y.H0 b with
  | none=>rw[zM q]at h;exact h
  | some u=>rw[zR q]at h;exact I.sB b o h
 ·unfold PV.frz at h;rw[ao]at h;cases e:ρ[j]? with
  | none=>rw[e]at h;cases h
  | some x=>
   rw[e]at h;cases x with
   | un=>cases h
   | vl u=>
    cases h;obtain⟨v,f,r⟩:=I.vl j _ e;exact⟨v,f,r.mono up⟩
   | ow g=>
    cases h;obtain⟨a,xs,f,P,G,J,D,_⟩:=I.ow j g e;exact⟨.ref a,f,.lst (by rw[zM G];exact J) (D.mono up)⟩
   | xc _=>cases h
   | ob _ _=>cases h
   | oc _ _=>cases h
   | st _=>cases h
 ·unfold PV.frz at h;rw[ao]at h;cases e:ρ[j]? with
  | none=>rw[e]at h;cases h
  | some x=>
   rw[e]at h;cases x with
   | un=>cases h
   | vl u=>cases h
   | ow g=>cases h
   | xc _=>cases h
   | ob _ _=>cases h
   | oc _ _=>cases h
   | st _=>cases h
theorem Ur {Y:Fx}{B H a :Hp}(d:zo Y.H0 H)(old:∀b o,Y.H0 b=some o->B b=Y.B0 b)(s:zo H a)(c:zo B H):zo (zF B H a) (zF Y.B0 Y.H0 a):=λb o h=>by
 cases q:H b with
 | none=>
  rw[zM q]at h;rw[zM (d.free q)];exact h
 | some u=>
  rw[zR q]at h;cases z:Y.H0 b with
  | none=>rw[zM z];exact s b o (c b o h)
  | some w=>rw[zR z,← old b w z];exact h
section
variable {X:Cx}{Y:Fx}{a b c d:Expr}{fa fb fc fd:En->R T}{pos p:Pos}{st:Stmt}{sts sts' :List Stmt}{f g:En->RS}
def mC:En->RS:=λρ=> .nx ρ
def zn (f g:En->RS):En->RS:=λρ=>match f ρ with
 | .nx ρ' =>g ρ'
 | r=>r
theorem Hu:We X Y [] mC:= .mk λρ=>PSs.imp k9 λD e H ⟨B,I,q⟩=>q e H B (zo.refl B) I
theorem L3 (h:Wd X Y st f):We X Y [st] f:= .mk λρ=>Jb (h ρ)
theorem LL (l:Wd X Y st f)(r:We X Y sts g):We X Y (st :: sts) (zn f g):= .mk λρ=>by
 refine PSs.imp (jr (u:=λD i H=>∃ρ',pE Y g ρ' D i H) (l ρ) ?_) ?_
 ·intro j s i H D I ⟨ρ',q⟩;exact r ρ' _ s i H D I q
 ·intro D i H ⟨B,I,q⟩;refine⟨B,I, ?_⟩;unfold zn at q;cases e:f ρ with
  | nx ρ' =>
   rw[e]at q;intro σ' w k v o;exact⟨ρ',k,o,PoS.up v q⟩
  | rt t=>rw[e]at q;exact q
  | rf t=>rw[e]at q;exact q
  | bk ρ' =>rw[e]at q;exact q
  | ct ρ' =>rw[e]at q;exact q
  | ex c=>rw[e]at q;exact q
  | bad=>rw[e]at q;exact q
def zC (i:Nat)(fa:En->R T):En->RS:=λρ=>(fa ρ).s λt=> .nx (ρ.set i (.vl t))
theorem DY (o:X.N.Nodup)(hi:X.N[i]? =some x)(e:L2.Loc X.env.scope x)(j:Snd X Y a fa)(r:swapsWith a (some (.Name x p')) pos.line X.env=pure false:=by rfl)
  (l:X.fn x=true\/X.env.scope.names.lookup x=some .local:=by first | exact .inl rfl | exact .inr rfl | assumption):Wd X Y (.Assign [.Name x p'] a pos) (zC i fa):= .mk λρ=>
 PS.imp (wM o hi e (j ρ) r l) λD y H ⟨B,I,q⟩=>Je I q λt v F _ C u k w=>w _ _ _ (zo.refl _) (k.setV i u)
def uO (i:Nat)(e:En->R (List T)):En->RS:=λρ=>(e ρ).s λts=>if ts.length<=mF then .nx (ρ.set i (.ow ts)) else .bad
theorem Lx (u:X.N.Nodup)(hi:X.N[i]? =some x)(k:L2.Loc X.env.scope x)(l:Up X Y es ga)(v:swapsWith (.List es p) (some (.Name x p')) pos.line X.env=pure false:=by rfl)
  (r:X.fn x=true\/X.env.scope.names.lookup x=some .local:=by first | exact .inl rfl | exact .inr rfl | assumption):Wd X Y (.Assign [.Name x p'] (.List es p) pos) (uO i ga):= .mk λρ=>
 PS.imp (wM u hi k (Yu (l ρ)) v r) λD y H ⟨B,I,q⟩=>Je I q λts vs F _ C j o e=>by
  split at e
  ·rename_i w;exact⟨by rw[j.length];exact ZF w,λp hp=>e _ _ _ (zo.refl _) (o.newO i hp j)⟩
  ·exact e.elim
def zr (fa:En->R T):En->RS:=λρ=>(fa (frz ρ)).s λt=> .rt t
theorem FK (k:Snd X Y a fa):Wd X Y (.Return (some a) pos) (zr fa):= .mk λρ=>
 PS.imp (wL (k _)) λD o H ⟨B,I,q⟩=>by
  refine⟨_,I.frz, ?_⟩;unfold zr at q;cases e:fa _ with
  | bad=>rw[e]at q;exact q
  | ex c=>
   rw[e]at q;exact λd i j l=>q d i j (I.up.trans l)
  | ok t=>
   rw[e]at q;intro v i s r;have J:=I.frz;exact q v i (I.sH.trans s) (r.mono (Ur J.sH J.old s J.sB))
def mD (g:En->R Bool)(e i:En->RS):En->RS:=λρ=>(g ρ).s λk=>if k=true then e ρ else i ρ
theorem HA (l:ua X Y c ga)(r:We X Y sts f)(k:We X Y sts' g):Wd X Y (.If c sts sts' pos) (mD ga f g):= .mk λρ=>
 PS.imp (FV (l ρ) (r ρ) (k ρ)) λD u H ⟨B,I,q⟩=>Je I q λt v x _ w o i j=>by
  have e :=o;subst e;cases v with
  | true=>exact⟨_,i,j⟩
  | false=>exact⟨_,i,j⟩
def jA (fa:En->R T):En->RS:=λρ=>(fa ρ).s λ_=> .nx ρ
theorem F0 (e:Snd X Y a fa)(j:swapsWith a none pos.line X.env=pure false:=by rfl):Wd X Y (.Expr a pos) (jA fa):= .mk λρ=>
 PS.imp (JO (e ρ) j) λD l H ⟨B,I,q⟩=>Je I q λt v u _ o r i k=>k _ _ _ (zo.refl _) i
def Us (i:Nat)(fa:En->R T):En->RS:=λρ=>match ρ[i]? with
 | some (.ow ts)=>(fa ρ).s λt=>if ts.length < mF then .nx (ρ.set i (.ow (ts++[t]))) else .bad
 | _=> .bad
def vY (i:Nat)(fa:En->R T):En->RS:=λρ=>match ρ[i]? with
 | some (.ow ts)=>(fa ρ).s λt=>match t with
  | .lst e=>if ts.length+e.length<=mF then .nx (ρ.set i (.ow (ts++e))) else .bad
  | _=> .bad
 | _=> .bad
theorem Ut (h:n < mF):n < sizeLine:=by exact h
theorem HY (G:PE X (.Name x px) (W6 i))(J:Snd X Y a fa)(o:attributeBase (.Name x px) "append" X.env (eval (.Name x px) X.env)=eval (.Name x px) X.env:=by rfl)(r:mY X a:=by exact mQ rfl)
  (hz:(pa.endLine == p.line)=true:=by rfl) (M:swapsWith (.Call (.Attribute (.Name x px) "append" pa) [a] [] p) none pos.line X.env=pure false:=by rfl):Wd X Y (.Expr (.Call (.Attribute (.Name x px) "append" pa) [a] [] p) pos) (Us i fa):= .mk λρ=>by
 have j:(((((backTo p (starEach [a] X.env)).all λx=> !x.fst) && (backToKw p (keywordEach [] X.env)).all λx=>x.fst.isSome) && decide (([a].length+([]:List Keyword).length+if ([]:List Keyword).isEmpty=true then 0 else 1) < 30))=true):=by rw[r];rfl
 refine PS.imp (JO (yB de ie ig JQ G (zm (J ρ) zH r) o j hz r rfl) M) λD O H ⟨B,I,q⟩=> ?_;unfold Us at q;split at q
 ·rename_i ts e;obtain⟨l,xs,j,Q,P,y,u,d⟩:=I.ow i ts e;refine⟨.ref l,j,.inl ⟨rfl,_,SqL.of y⟩, ?_⟩;refine Je I q λt v N _ w F C k=> ?_;split at k
  ·rename_i o;refine⟨l,xs,v,rfl,rfl,w _ _ y,by rw[u.length];exact Ut o, ?_⟩
   exact k _ _ _ (zo.refl _) (C.chg i e j ((u.mono (zF.ge I.sB w)).append (.cons F .nil)))
  ·exact k.elim
 ·exact q.elim
theorem Fg (N:PE X (.Name x px) (W6 i))(Q:Snd X Y a fa)(o:attributeBase (.Name x px) "extend" X.env (eval (.Name x px) X.env)=eval (.Name x px) X.env:=by rfl)(u:mY X a:=by exact mQ rfl)
  (hz:(pa.endLine == p.line)=true:=by rfl) (S:swapsWith (.Call (.Attribute (.Name x px) "extend" pa) [a] [] p) none pos.line X.env=pure false:=by rfl):Wd X Y (.Expr (.Call (.Attribute (.Name x px) "extend" pa) [a] [] p) pos) (vY i fa):= .mk λρ=>by
 have k:(((((backTo p (starEach [a] X.env)).all λx=> !x.fst) && (backToKw p (keywordEach [] X.env)).all λx=>x.fst.isSome) && decide (([a].length+([]:List Keyword).length+if ([]:List Keyword).isEmpty=true then 0 else 1) < 30))=true):=by rw[u];rfl
 refine PS.imp (JO (yB de PySem.F.slot_list_extend PySem.F.type_list_extend Yz N (zm (Q ρ) zH u) o k hz u rfl) S) λD Z H ⟨B,I,q⟩=> ?_;unfold vY at q;split at q
 ·rename_i ts e;obtain⟨l,xs,k,b0,h0,G,y,d⟩:=I.ow i ts e;refine⟨.ref l,k,.inl ⟨rfl,_,SqL.of G⟩, ?_⟩;refine Je I q λt v U _ C J w j=> ?_;cases J with
  | @lst b M P o r=>
   have j:PoS Y _ (if ts.length+P.length<=mF then .nx _ else .bad) D:=j
   split at j
   ·rename_i O;refine⟨l,b,xs,M,rfl,rfl,C _ _ G,w.sB _ _ o,by rw[y.length,r.length];exact ZF O, ?_⟩
    exact j _ _ _ (zo.refl _) (w.chg i e k ((y.mono (zF.ge I.sB C)).append r))
   ·exact j.elim
  | _=>exact j.elim
 ·exact q.elim
end
def spP (cl:Nat->Value)(n:Nat)(g:List T->R T):Sp:=λvs H Q E=>∃B ts,ts.length=n/\zo B H/\zy B vs ts/\Po ⟨B,H,E,cl,[]⟩ rC B H (g ts) Q
theorem spP.len (vs:List V)(H:Hp)(Q:VK)(E:XK)(h:spP cl n g vs H Q E):vs.length=n:=by
 obtain⟨B,ts,a,_,r,_⟩:=h;rw[r.length,a]
def zb (n:Nat)(g:List T->R T)(a:En->R (List T)):En->R T:=λρ=>(a ρ).bind λts=>if ts.length=n then g ts else .bad
section
theorem LH (F:wD X.prog X.w X.K X.mg X.base CX k f fd ps (spP Y.cl n g))(hr:ja k X.A)(r:Gl X x)(v:X.mg x=some (.ref f))
  (kp:d0 X.K (.ref f)=true) (y:L2.Binds X.K fd ps []) (j:jB CX X Y.E) (u:Up X Y (a :: es) ga) (hd:(x == ("__debug__":Str))=false:=by decide)
  (C:starEach (a :: es) X.env=(false,eval a X.env) :: starEach es X.env:=by exact zD rfl) (hz:((backTo pos (starEach es X.env)).any λx=>x.fst)=false:=by exact zT rfl):Snd X Y (.Call (.Name x p) (a :: es) [] pos) (zb n g ga):= .mk λρ=>
 PE.imp (jb F hr r v kp y .nil j (u ρ) hd C hz) λJ H Q ⟨B,I,q⟩=>step I q λts vs G _ M l i e=>by
  split at e
  ·rename_i hn;rw[bw];refine⟨_,ts,hn,i.sB,l, ?_⟩;revert e;cases g ts with
   | bad=>exact λe=>e
   | ex c=>exact λe d D s o=>e d D (i.sH.trans s) o
   | ok t=>exact λe=>e
  ·exact e.elim
end
noncomputable def zk:RS->R T
 | .rt t=> .ok t
 | .rf ts=> .ok (.lst ts)
 | .nx _=> .ok .non
 | .ex c=> .ex c
 | _=> .bad
def mB (n:Nat)(ts:List T):En:=ts.map Sl.vl++ag (n - ts.length) Sl.un
theorem zy.vl {H:Hp}:∀{vs:List V} {ts:List T} {i:Nat} {t:T} {n m:Nat},zy H vs ts->(ts.map Sl.vl++ag n Sl.un)[i]? =some (Sl.vl t)->∃v:V,(vs.map some++ag m none)[i]? =some (some v)/\Rep H v t
 | _,_,i,t,n,m,.nil,h=>by
  simp only[bI,bP]at h;rw[aU]at h;split at h
  ·cases h
  ·cases h
 | _,_,0,t,n,m,.cons r _,h=>by
  simp at h;subst h;exact⟨_,rfl,r⟩
 | _,_,i+1,t,n,m,.cons _ q,h=>by
  obtain⟨v,c,a⟩:=zy.vl q (by simpa using h)
  exact⟨v,by simpa using c,a⟩
theorem X3 {n:Nat}:∀{ts:List T} {i:Nat} {a:List T},(ts.map Sl.vl++ag n Sl.un)[i]? =some (Sl.ow a)->False
 | [],i,a,h=>by
  simp only[bI,bP]at h;rw[aU]at h;split at h
  ·cases h
  ·cases h
 | t :: ts,0,a,h=>by simp at h
 | t :: ts,i+1,a,h=>X3 (by simpa using h)
theorem X5 {n:Nat}:∀{ts:List T} {i:Nat} {c:Nat},(ts.map Sl.vl++ag n Sl.un)[i]? =some (Sl.xc c)->False
 | [],i,a,h=>by
  simp only[bI,bP]at h;rw[aU]at h;split at h
  ·cases h
  ·cases h
 | t :: ts,0,a,h=>by simp at h
 | t :: ts,i+1,a,h=>X5 (by simpa using h)
theorem YR {n:Nat}{x:Sl}(c:∀t,x ≠ .vl t)(a:x ≠ .un):∀{ts:List T} {i:Nat},(ts.map Sl.vl++ag n Sl.un)[i]? =some x->False
 | [],i,h=>by
  simp only[bI,bP]at h;rw[aU]at h;split at h
  ·exact a (aH h).symm
  ·cases h
 | t :: ts,0,h=>c t (aH (by simpa using h)).symm
 | t :: ts,i+1,h=>YR c a (by simpa using h)
theorem SI.start {Y:Fx}{N:List Str}{vs:List V}{ts:List T}(s:zo Y.B0 Y.H0)(r:zy Y.B0 vs ts):SI Y Y.B0 (mB N.length ts) (L2.start N vs) Y.H0 where
 s0:=s
 sH:=zo.refl _
 sB:=s
 old:=λ_ _ _=>rfl
 len:=by unfold mB L2.start;simp[r.length]
 vl:=λi t h=>r.vl h
 ow:=λi ts h=>(X3 h).elim
 xc:=λi c h=>(X5 h).elim
 st:=StI.no λi s a h=>YR (λt z=>by rw[z]at a;cases a) (λz=>by rw[z]at a;cases a) h
section
variable {P:Program}{w:World}{K:ai}{mg:Str->Option Value}{base:Heap}
theorem Hx {cl:Nat->Value}{x d:Str}{st:Stmt}{f:Addr}{p:FuncData}{N o:List Str}{k n:Nat}{j:En->RS}{g:List T->R T}(F:Fun K x d st f p)(S:jJ N o (zf st))(hn:n=o.length)
  (G:∀(cdv:Value) (A:Around) (outer:List Env) (s:Shared) (H:Hp) (E:XK) (Y:Fx),Y.cl=cl->ja k (A.deeper (envOfC d (zf st) s.heap.objs.size f cdv))->
   We (jC mT P w K mg base N d (zf st) f cdv A outer s H E).nox Y (Z1 st) j)
  (J:∀ts,ts.length=n->g ts=zk (j (mB N.length ts))):wD P w K mg base mT (k+1) f p o (spP cl n g):=by
 subst hn;refine F.ok S spP.len λcdv A outer s H vs Q E hr ⟨B,ts,D,C,r,q⟩=> ?_;refine⟨_,G cdv A _ s H E ⟨B,H,E,cl,[]⟩ rfl hr _,B,SI.start C r, ?_⟩;rw[J ts D]at q;revert q;cases j _ with
 | rt t=>exact λq v i s r=>q v i s r
 | rf t=>exact λq a xs i u y n e r _ l=>q _ i y (.lst (by rw[zM n];exact e) (r.mono l))
 | nx ρ=>exact λq σ' i u _ I=>q _ i I.sH .non
 | ex c=>exact λq=>q
 | bk ρ=>exact λq=>q.elim
 | ct ρ=>exact λq=>q.elim
 | bad=>exact λq=>q
end
abbrev rI:Hp->Hp->It->List T->Prop:=λB1 _ J ts=>∀B2 H2,zo B1 B2->zo B2 H2->(∀i,i < ts.length->J.go i H2)/\(∀(i:Nat) t x H3,ts[i]? =some t->J.yld i H2 x H3->zo H2 H3/\Rep (zF B2 H2 H3) x t)/\(∀i,ts.length<=i->J.stop i H2)
structure uP (X:Cx) (Y:Fx) (tg iter:Expr) (f:En->R (List T)):Prop where
 mk ::
 go:∀ρ,PI X tg iter (tS Y rI f ρ)
instance {X:Cx}{Y:Fx}{tg iter:Expr}{f:En->R (List T)}:CoeFun (uP X Y tg iter f) λ_=>∀ρ,PI X tg iter (tS Y rI f ρ):=⟨uP.go⟩
section
theorem PI.imp (h:PI X tg e t)(i:∀a H Q,t' a H Q->t a H Q):PI X tg e t' :=λc s a H Q I q=>h _ s a H Q I (i a H Q q)
theorem F6 (w:PE X l tl):PI X tg l (λg H R=>tl g H λx c=>∃a,x= .ref a/\(((∃xs,SqL X.K c a xs)/\R (AN X.K a) c)\/((∃xs,SqT X.K c a xs)/\R (Be X.K a) c))):=by
 intro k s g H R I h;refine mH (w _ s g H _ I h) λv f ⟨x,c,d,u,y⟩=> ?_;obtain⟨a,e,q⟩:=y;subst e;obtain rfl:v=Value.ref a:=u;have ok:∀b∈[f.heap.objs.size],wC X _ c b:=λb B=>by
  have e:=by simpa using B
  subst e;exact d.fpOk (am _) (d.hok.fresh (am _))
 rcases q with ⟨⟨xs,i⟩,q⟩ | ⟨⟨xs,i⟩,q⟩
 ·obtain⟨j,r,p,hz⟩:=d.list i;exact ck p.isList ⟨f.heap.objs.size,[f.heap.objs.size],_,_,c,rfl,d.kept λb o e=>ab _ e,WV a _,⟨_,af _ rfl,rfl,rfl⟩,ok,q⟩
 ·obtain⟨j,r,p,hz⟩:=d.tuple i;exact cC (show f.heap.IsTuple a _ from p) ⟨f.heap.objs.size,[f.heap.objs.size],_,_,c,rfl,d.kept λb o e=>ab _ e,wN a _,⟨_,af _ rfl,rfl,rfl⟩,ok,q⟩
theorem IP {K:ai}{d l:Hp}{a:Addr}{xs:List V}{ts:List T}(h:d a=some (.tup xs))(r:zy d xs ts):rI d l (Be K a) ts:=λo p g f=>by
 have c:=f _ _ (g _ _ h);refine⟨λi hi=> ?_,λi t x H3 e y=> ?_,λi hi=>⟨xs,SqT.of c,by rw[r.length];exact hi⟩⟩
 ·obtain⟨v,e,_⟩:=r.get (ah hi);exact⟨xs,v,SqT.of c,e⟩
 ·obtain⟨rfl,y⟩:=y;obtain⟨v,j,k⟩:=r.get e;have:=y xs (SqT.of c);rw[j]at this;cases this;refine⟨zo.refl _, ?_⟩;rw[zF.self o _ f];exact k.mono g
theorem EN {K:ai}{d l:Hp}{a:Addr}{xs:List V}{ts:List T}(h:d a=some (.lst xs))(r:zy d xs ts):rI d l (AN K a) ts:=λo p g f=>by
 have c:=f _ _ (g _ _ h);refine⟨λi hi=> ?_,λi t x H3 e y=> ?_,λi hi=>⟨xs,SqL.of c,by rw[r.length];exact hi⟩⟩
 ·obtain⟨v,e,_⟩:=r.get (ah hi);exact⟨xs,v,SqL.of c,e⟩
 ·obtain⟨rfl,y⟩:=y;obtain⟨v,j,k⟩:=r.get e;have:=y xs (SqL.of c);rw[j]at this;cases this;refine⟨zo.refl _, ?_⟩;rw[zF.self o _ f];exact k.mono g
noncomputable def rng (lo:Int)(n:Nat):List T:=(aN n).map λ(i:Nat)=>T.int (lo+(i:Int))
theorem X6 {c d:Hp}{lo:Int}{n:Nat}:rI c d (sr lo n) (rng lo n):=λj k g f=>by
 have a:(rng lo n).length=n:=by unfold rng;simp
 refine⟨λi hi=>by rw[a]at hi;exact hi,λi t x H3 e y=> ?_,λi hi=>by rw[a]at hi;exact hi⟩
 obtain⟨rfl,rfl⟩:=y;refine⟨zo.refl _, ?_⟩;unfold rng at e;rw[ao]at e
 by_cases hi:i < n
 ·rw[c_ hi]at e;cases e;exact .int _
 ·rw[aP (by simp;omega)]at e;cases e
def Zi (a:En->R T):En->R (List T):=λρ=>(a ρ).bind λt=>match t with
 | .int j=>if -1000000 < j/\j < 1000000 then .ok (rng 0 j.toNat) else .bad
 | _=> .bad
def Jy (a c:En->R T):En->R (List T):=λρ=>(a ρ).bind λt=>(c ρ).bind λt' =>match t,t' with
 | .int i,.int j=>if -1000000 < i/\i < 1000000/\ -1000000 < j/\j < 1000000 then .ok (rng i (j - i).toNat) else .bad
 | _,_=> .bad
theorem Ft (l:Gl X "range")(g:X.mg "range"=none)(e:Snd X Y a fa)(d:mY X a:=by exact mQ rfl):uP X Y tg (.Call (.Name "range" p) [a] [] pos) (Zi fa):= .mk λρ=>PI.imp (Yl l g (zm (e ρ) zH d) d) λo H R ⟨B,I,q⟩=>step I q λt v k _ r i f c=>by
 cases i with
 | int j=>
  have c:Po Y rI _ k (if -1000000 < j/\j < 1000000 then .ok _ else .bad) R:=c
  split at c
  ·exact⟨j,rfl,by omega,by omega,ZN f c X6⟩
  ·exact c.elim
 | _=>exact c.elim
theorem ED (w:Gl X "range")(o:X.mg "range"=none)(k:Snd X Y a fa)(y:Snd X Y b fb)(e:starEach [a,b] X.env=[(false,eval a X.env),(false,eval b X.env)]:=by exact nO rfl rfl)(d:mY X b:=by exact mQ rfl):uP X Y tg (.Call (.Name "range" p) [a,b] [] pos) (Jy fa fb):= .mk λρ=>
 PI.imp (Ym w o (zm (k ρ) (zm (y ρ) zH d) (by rw[e,d])) e d) λD H R ⟨B,I,q⟩=>step I q λt v J _ G r l x=>step l x λt' F u _ C f g c=>by
  cases r with
  | int i=>
   cases f with
   | int j=>
    have c:Po Y rI _ u (if -1000000 < i/\i < 1000000/\ -1000000 < j/\j < 1000000 then .ok _ else .bad) R:=c
    split at c
    ·exact⟨i,j,rfl,⟨by omega,by omega,by omega,by omega⟩,ZN g c X6⟩
    ·exact c.elim
   | _=>exact c.elim
  | _=>cases f <;> exact c.elim
def rV (X:Cx)(Y:Fx)(c:Expr)(g:T->En->R En):Prop:=∃t:TG,PG X c t/\∀B ρ a H v x Q,SI Y B ρ a H->Rep B v x->(match g x ρ with | .ok ρ' =>∀σ',SI Y B ρ' σ' H->Q σ' H | _=>False)->t v a H Q
def zw (i:Nat):T->En->R En:=λt ρ=> .ok (ρ.set i (.vl t))
theorem X7 (d:X.N.Nodup)(hi:X.N[i]? =some x)(a:L2.Loc X.env.scope x)(c:X.fn x=true\/X.env.scope.names.lookup x=some .local:=by first | exact .inl rfl | exact .inr rfl | assumption):rV X Y (.Name x pos) (zw i):=
 ⟨W7 i,jI d hi a c,λB ρ e H v x Q I r q=>q _ (I.setV i r)⟩
def zN (i j:Nat):T->En->R En:=λt ρ=>match t with
 | .tup [x,y]=> .ok ((ρ.set i (.vl x)).set j (.vl y))
 | _=> .bad
theorem YS (f:X.calm=true)(d:X.N.Nodup)(hi:X.N[i]? =some x)(u:X.N[j]? =some y)(e:L2.Loc X.env.scope x)(hy:L2.Loc X.env.scope y)
  (g:X.fn x=true\/X.env.scope.names.lookup x=some .local:=by first | exact .inl rfl | exact .inr rfl | assumption) (c :X.fn y=true\/X.env.scope.names.lookup y=some .local:=by first | exact .inl rfl | exact .inr rfl | assumption):
  rV X Y (.Tuple [.Name x pos,.Name y p'] k p2) (zN i j):=by
 refine⟨Bb X.K 2 _,xO f (JA (jI d hi e g) (JA (jI d u hy c) Yk)),λB ρ w H v t Q I r q=> ?_⟩;cases r with
 | @tup l xs ts h r=>
  cases r with
  | nil=>exact q.elim
  | cons o a=>
   cases a with
   | nil=>exact q.elim
   | cons p a=>
    cases a with
    | cons _ _=>exact q.elim
    | nil=>
     exact⟨l,_,rfl,SqT.of (I.sB _ _ h),rfl,_,_,rfl,_,_,rfl,rfl,q _ ((I.setV i o).setV j p)⟩
 | _=>exact q.elim
def Zu (g:T->En->R En)(a:En->RS):List T->En->RS
 | [],ρ=> .nx ρ
 | t :: ts,ρ=>match g t ρ with
  | .ok ρ1=>match a ρ1 with
   | .nx ρ2=>Zu g a ts ρ2
   | .ct ρ2=>Zu g a ts ρ2
   | .bk ρ2=> .nx ρ2
   | r=>r
  | .ex c=> .bad
  | .bad=> .bad
def ZD (fi:En->R (List T))(g:T->En->R En)(a:En->RS):En->RS:=λρ=>(fi ρ).s λts=>Zu g a ts ρ
theorem Ex {g:T->En->R En}(hp:PassesOwn (model X.prog X.w) X.A X.env X.xe)(hc:X.calm=true)(hi:uP X Y tg iter fi)(hg:rV X Y tg g)(hb:We X Y sts fb)
  (hs:∀x,foldedSetIterable iter X.env x=pure x:=by intro _;rfl):Wd X Y (.For tg iter sts [] pos) (ZD fi g fb):= .mk λρ=>by
 obtain⟨tG,hG,Q⟩:=hg;refine PS.imp (xP (tb:=λD G H=>∃ρ',pE Y fb ρ' D G H) hp hc (hi ρ) hG (λZ s G H D I ⟨ρ',q⟩=>hb ρ' _ s G H D I q) hs) λD G H ⟨B,I,q⟩=> ?_;refine Je I q λts J H1 _ s1 r1 I1 q1=> ?_;refine⟨λi m σ' M =>m=ts.length - i/\i<=ts.length/\∃ρ' k,SI Y k ρ' σ' M /\zo _ k /\PoS Y k (Zu g fb (ts.drop i) ρ') D,⟨ts.length,by simp,bf _,ρ,_,I1,zo.refl _,q1⟩, ?_⟩
 rintro i m σ' M ⟨rfl,hi,ρ',k,C,F,d⟩
 obtain⟨P,p,j⟩:=r1 k M F C.sB
 by_cases f:i < ts.length
 ·refine .inr ⟨P i f,λr v=>∃ρ2 u,SI Y u ρ2 r v/\zo _ u/\PoS Y u _ D,λr v ⟨ρ2,u,I2,l,a⟩=>⟨ts.length - (i+1),by omega,rfl,f,ρ2,u,I2,l,a⟩,λx v y=> ?_⟩
  obtain⟨l,r2⟩:=p i _ x v (ah f) y;rw[dX f]at d;unfold Zu at d;refine Q _ ρ' σ' v x _ _ (C.grow l) r2 ?_;cases U:g _ ρ' with
  | bad=>rw[U]at d;exact d
  | ex c=>rw[U]at d;exact d
  | ok ρ1=>
   rw[U]at d;intro σ1 J1;refine⟨ρ1,_,J1, ?_⟩;have a:=PoS.up (zF.ge C.sB l) d;dsimp only at a;have s3:=F.trans (zF.ge C.sB l);revert a;cases fb ρ1 with
   | nx ρ2=>exact λa S H3 N o O=>⟨ρ2,N,O,s3.trans o,PoS.up o a⟩
   | ct ρ2=>exact λa S H3 N o O=>⟨ρ2,N,O,s3.trans o,PoS.up o a⟩
   | bk ρ2=>exact λa=>a
   | rt t=>exact λa=>a
   | rf t=>exact λa=>a
   | ex c=>exact λa=>a
   | bad=>exact λa=>a
 ·have e:i=ts.length:=by omega
  subst e;rw[ix]at d;exact .inl ⟨j _ (am _),d σ' M k (zo.refl _) C⟩
def Zo (g:En->R Bool)(a:En->RS):Nat->En->RS
 | 0,_=> .bad
 | n+1,ρ=>(g ρ).s λk=>if k=true then match a ρ with
   | .nx ρ2=>Zo g a n ρ2
   | .ct ρ2=>Zo g a n ρ2
   | .bk ρ2=> .nx ρ2
   | r=>r
  else .nx ρ
theorem YT (hp:PassesOwn (model X.prog X.w) X.A X.env X.xe)(F:ua X Y c ga)(J:We X Y sts fb):Wd X Y (.While c sts [] pos) (Zo ga fb n):= .mk λρ=>by
 refine PS.imp (V6 (tc:=λd H Q=>∃ρ',tS Y rE ga ρ' d H Q) (tb:=λD d H=>∃ρ',pE Y fb ρ' D d H) hp (λf s d H D I ⟨ρ',q⟩=>F ρ' _ s d H D I q) (λf s d H D I ⟨ρ',q⟩=>J ρ' _ s d H D I q)) λD d H ⟨B,I,q⟩=> ?_;refine⟨λm σ' C =>∃ρ' g,SI Y g ρ' σ' C /\PoS Y g (Zo ga fb m ρ') D,⟨n,ρ,B,I,q⟩, ?_⟩
 rintro m σ' C ⟨ρ',g,M,j⟩
 cases m with
 | zero=>exact j.elim
 | succ m=>
  unfold Zo at j;refine⟨ρ',Je M j λt v N _ O G r u=> ?_⟩;have i :=G;subst i;cases v with
  | false=>exact u _ _ _ (zo.refl _) r
  | true=>
   refine⟨λe y=>∃ρ2 x,SI Y x ρ2 e y/\PoS Y x _ D,λe y h=>⟨m,fA m,h⟩,ρ',_,r, ?_⟩;revert u;cases fb ρ' with
   | nx ρ2=>exact λa l H3 o k p=>⟨ρ2,o,p,PoS.up k a⟩
   | ct ρ2=>exact λa l H3 o k p=>⟨ρ2,o,p,PoS.up k a⟩
   | bk ρ2=>exact λa=>a
   | rt t=>exact λa=>a
   | rf t=>exact λa=>a
   | ex c=>exact λa=>a
   | bad=>exact λa=>a
end
theorem JU:∀(g:List (Str×NameKind)) (acc:List (Str×Addr)),(∀x∈g,x.2=NameKind.free->∃c,env.cells.lookup x.1=some c)->(∀x c,acc.lookup x=some c->env.cells.lookup x=some c)->
  ∃cl,(forIn g acc (λ(x:Str×NameKind) (r:List (Str×Addr))=>if (x.2 == NameKind.free)=true then (do let c ← cellOf env x.1;pure (ForInStep.yield ((x.1,c) :: r))) else pure (ForInStep.yield r)):Sem _)=pure cl/\
   (∀x c,cl.lookup x=some c->env.cells.lookup x=some c)/\(∀x c,acc.lookup x=some c->∃y,cl.lookup x=some y)/\(∀x∈g,x.2=NameKind.free->∃c,cl.lookup x.1=some c)
 | [],acc,_,h=>⟨acc,rfl,h,λx c e=>⟨c,e⟩,λx a=>by simp at a⟩
 | (n,k) :: g,acc,l,h=>by
  by_cases j:k=NameKind.free
  ·obtain⟨c,v⟩:=l _ aa j;have h' :∀x d,((n,c) :: acc).lookup x=some d->env.cells.lookup x=some d:=λx d e=>by
    by_cases a:x=n
    ·subst a;have u :=by simpa[aQ] using e
     cases u;exact v
    ·have u :=by
      rw[aQ,(beq_eq_false_iff_ne.mpr a)]at e;exact e
     exact h x d u
   obtain⟨cl,e,p,i,o⟩:=JU g _ (λx a=>l x (a9 _ a)) h';refine⟨cl, ?_,p,λx d w=> ?_,λx a f=> ?_⟩
   ·rw[ml];subst j;have q:cellOf env n=pure c:=by unfold cellOf;rw[v]
    simp only[beq_self_eq_true,if_true,q];exact e
   ·by_cases a:x=n
    ·subst a;exact i x c (by simp[aQ])
    ·exact i x d (by rw[aQ,(beq_eq_false_iff_ne.mpr a)];exact w)
   ·rcases ak.mp a with rfl | a
    ·exact i n c (by simp[aQ])
    ·exact o x a f
  ·obtain⟨cl,e,p,i,o⟩:=JU g acc (λx a=>l x (a9 _ a)) h;refine⟨cl, ?_,p,i,λx a f=> ?_⟩
   ·rw[ml];have q:(k == NameKind.free)=false:=by simpa using j
    simp only[q,aI,if_false];exact e
   ·rcases ak.mp a with rfl | a
    ·exact absurd f j
    ·exact o x a f
theorem YU (d:∀x∈scope.names,x.2=NameKind.free->∃c,env.cells.lookup x.1=some c):
  ∃cl,closureFor scope env=pure cl/\(∀x c,cl.lookup x=some c->env.cells.lookup x=some c)/\(∀x∈scope.names,x.2=NameKind.free->∃c,cl.lookup x.1=some c):=by
 obtain⟨cl,e,a,_,f⟩:=JU _ [] d (λx c e=>by simp at e)
 refine⟨cl, ?_,a,f⟩;unfold closureFor;exact(by simpa using e)
def oB (X:Cx)(scope:Scope)(N' :List Str)(cl:List (Str×Addr))(C:Addr)(c:Shared)(H3:Hp)(fp:List Addr)(a:List (Addr×Obj)):Cx:=
 { X with N:=N',s₀:=c,H₀:=H3,env:=compEnvC scope cl C X.env,outer:=X.stack,stack:=X.stack,ex:=fp,fn:=λ_=>false,pn:=X.pn++a,xe:=λ_ _=>False }
structure AT (X:Cx) (scope:Scope):Prop where
 kind:scope.kind= .function
 nocell:∀x∈scope.names,x.2 ≠ .cell
 loc:∀x∈scope.names,x.2= .local->scope.names.lookup x.1=some .local
 fre:∀x∈scope.names,x.2= .free->X.env.kindOf x.1=some .cell\/X.env.kindOf x.1=some .free
theorem jX (h:(relabel scope env).names.lookup x=some k)(j:k= .cell\/k= .free)(hn:∀x∈scope.names,x.2 ≠ NameKind.cell):∃y∈scope.names,y.1=x/\y.2= .free:=by
 have go:∀c:List (Str×NameKind),(∀x∈c,x.2 ≠ NameKind.cell)->(c.map λ(n,k)=>if (k == NameKind.free && env.scope.kind == .function && env.kindOf n == some .cell) then (n,NameKind.cell) else (n,k)).lookup x=some k->∃y∈c,y.1=x/\y.2= .free:=by
  intro c
  induction c with
  | nil=>intro _ h;simp at h
  | cons y c i=>
   intro hn h;obtain⟨n,e⟩:=y
   by_cases d:x=n
   ·subst d;refine⟨(x,e),aa,rfl, ?_⟩;rw[ar]at h
    by_cases a:(e == NameKind.free && env.scope.kind == .function && env.kindOf x == some .cell)=true
    ·rw[aj,aj]at a;exact eq_of_beq a.1.1
    ·simp only[if_neg a,aQ,beq_self_eq_true]at h;cases h;rcases j with rfl | rfl
     ·exact absurd rfl (hn _ aa)
     ·rfl
   ·obtain⟨z,hz,g,f⟩:=i (λz hz=>hn z (a9 _ hz)) (by
     rw[ar]at h
     by_cases a:(e == NameKind.free && env.scope.kind == .function && env.kindOf n == some .cell)=true
     ·simp only[if_pos a,aQ,(beq_eq_false_iff_ne.mpr d)]at h;exact h
     ·simp only[if_neg a,aQ,(beq_eq_false_iff_ne.mpr d)]at h;exact h)
    exact⟨z,a9 _ hz,g,f⟩
 exact go _ hn h
section
theorem YV (I:L2.Inv X pins σ H s)(S:AT X scope)(hc:X.calm=true)
  (a:∀x c,cl.lookup x=some c->X.env.cells.lookup x=some c) (B:∀x∈scope.names,x.2=NameKind.free->∃c,cl.lookup x.1=some c)
  (l:∀b∈fp,wC X pins H b) (hfo:∀b∈fp,∃o,s.heap.get? b=some o)
  (P:h'.Ns s.heap.objs.size (λ_=>none)) (J:∀b o,s.heap.get? b=some o->h'.get? b=some o)
  (hl:σ'.length=N'.length) (hσ:∀(i:Nat) (x:Str) (v:V),N'[i]? =some x->σ'[i]? =some (some v)->∃j:Nat,X.N[j]? =some x/\σ[j]? =some (some v)/\sy X.env.scope x/\(scope.names.lookup x=some .free)/\(X.env.kindOf x=some .cell\/X.env.kindOf x=some .free)):
  L2.Inv (oB X scope N' cl s.heap.objs.size s H fp pins) [] σ' H { s with heap:=h',toks:=tk }:=by
 have F:=I.stkSub;have hlt:=λb f=>let ⟨o,e⟩:=hfo b f;au e;have fresh:=I.hok.fresh (am _);refine⟨⟨I.ok.mod,S.kind,I.ok.glob,I.ok.blt,am _,λx y c h1 h2=>I.ok.inj x y c (a _ _ h1) (a _ _ h2),λx r=> ?_,λx c h _=>(ax h).elim,λ_=>I.ok.hd hc,I.ok.frames,.inl rfl,λb f=> ?_,I.bs,
   av I.ok.bsz I.sz,λb o e f=> ?_,λb f hb' => ?_,I.stack,I.stkFree⟩,rfl,I.bare,Un.kept J,⟨_,P,λi x v h1 h2 h3=> ?_⟩,λx c e=> ?_,fresh,λx c e=>I.freeC x c (a _ _ e),λp hp=> ?_,I.hok.kept J,hl⟩
 ·have Z :=r;obtain⟨y,hy,rfl,hyf⟩:∃y∈scope.names,y.1=x/\y.2= .free:=by
   rcases Z with h | h
   ·exact jX h (.inl rfl) S.nocell
   ·exact jX h (.inr rfl) S.nocell
  exact B y hy hyf
 ·refine⟨aF (hlt b f),λx c e=>(l b f).2.2.2.2.1 x c (a _ _ e)⟩
 ·rcases(l b f).2.2.2.1 with h | h
  ·exact I.ok.noex b o e h
  ·exact absurd (aL (au e) (av I.ok.bsz h)) (bE _)
 ·have q:=l b f;rcases ak.mp (F b hb') with z | z
  ·exact q.2.1 z
  ·exact q.2.2.1 z
 ·obtain⟨j,e1,e2,e3,e4,e5⟩:=hσ i x v h1 h2;obtain⟨m,hn,D⟩:=I.loc;obtain⟨u,ru,lk⟩:=D j x v e1 e2 e3;refine⟨u,ru,.inr ⟨?_, ?_⟩⟩
  ·rcases h3 with h | h | h
   ·exfalso;have:∀G:List _,G.lookup x=some .free->(G.map λ(n,k)=>if (k == NameKind.free && X.env.scope.kind == .function && X.env.kindOf n == some .cell) then (n,NameKind.cell) else (n,k)).lookup x ≠ some .local:=by
     intro G
     induction G with
     | nil=>intro z;simp at z
     | cons y G ih=>
      obtain⟨n,k⟩:=y;intro z w;rw[ar]at w
      by_cases r:x=n
      ·subst r;have O:=by simpa[aQ] using z
       by_cases d:(k == NameKind.free && X.env.scope.kind == .function && X.env.kindOf x == some .cell)=true
       ·simp only[if_pos d,aQ,beq_self_eq_true]at w;cases w
       ·simp only[if_neg d,aQ,beq_self_eq_true]at w;rw[O]at w;cases w
      ·have z' :=by rw[aQ,(beq_eq_false_iff_ne.mpr r)]at z;exact z
       refine ih z' ?_
       by_cases d:(k == NameKind.free && X.env.scope.kind == .function && X.env.kindOf n == some .cell)=true
       ·simp only[if_pos d,aQ,(beq_eq_false_iff_ne.mpr r)]at w;exact w
       ·simp only[if_neg d,aQ,(beq_eq_false_iff_ne.mpr r)]at w;exact w
    exact this _ e4 h
   ·exact .inl h
   ·exact .inr h
  ·rcases lk with ⟨C,_⟩ | ⟨_,c,hc',g⟩
   ·rcases e5 with z | z <;> (rw[z]at C;cases C)
   ·obtain⟨c',M⟩:=B _ (bH e4) rfl;have:=a x c' M;rw[hc']at this;cases this;obtain⟨o,Q,ed⟩:=g;exact⟨c,M,o,J _ _ Q,ed⟩
 ·obtain⟨v,o,Q,ed⟩:=I.cell x c (a _ _ e);exact⟨v,o,J _ _ Q,ed⟩
 ·have U :=by
   have:=hp;rwa[bw]at this
  obtain⟨e,n,ne,nf,dc⟩:=I.pin p U;refine⟨J _ _ e,n,aF (au e),λf=> ?_,dc⟩;rcases ak.mp (F _ f) with z | z
  ·exact ne z
  ·exact nf z
end
def PIf (X:Cx)(d:List Expr)(t:TT):Prop:=
 ∀(a:List (Addr×Obj)) (s:Shared) (e:Sg) (H:Hp) (Q:Bool->Hp->Prop),L2.Inv X a e H s->t e H Q->
  wpAny (model X.prog X.w) X.A (forIn d true λc r=>if r=true then do let ok ← isTrue c X.env (eval c X.env);pure (ForInStep.yield ok) else pure (ForInStep.yield r)) (TP X a e Q) X.xe s
theorem K1:PIf X [] (λ_ H Q=>Q true H):=λ_ _ a H _ I h=>wpAny_tests_nil ⟨H,I,h⟩
theorem K2 (h:PT X c t):PIf X [c] t:=λa s d H Q I q=>wpAny_tests_one (h _ s d H Q I q)
noncomputable abbrev XE (X:Cx)(xe:Value->Shared->Prop):Cx:={ X with xe:=xe }
theorem Uu (I:L2.Inv X pins σ H s):L2.Inv (XE X xe) pins σ H s:=
 ⟨⟨I.ok.mod,I.ok.kind,I.ok.glob,I.ok.blt,I.ok.above,I.ok.inj,I.ok.has,I.ok.cab,I.ok.hd,I.ok.frames,I.ok.stk,I.ok.exf,I.ok.bs,I.ok.bsz,I.ok.noex,I.ok.exfs,I.ok.funs,I.ok.frf⟩,I.os,I.bare,I.base,I.loc,I.cell,I.free,I.freeC,I.pin,I.hok,I.len⟩
theorem YW (I:L2.Inv (XE X xe) pins σ H s):L2.Inv X pins σ H s:=(Uu I:L2.Inv _ _ σ H s)
theorem E8 (c:X.xe=λ_ _=>False)(h:PG X e t):PG (XE X xe) e t:=λa s f H v u Q I r q=>cV (h _ s f H v u Q (YW I) r q) (λ_ j ⟨σ',i,d,g⟩=>⟨σ',i,Uu d,g⟩) λe j z=>by rw[c]at z;exact z.elim
theorem HU (c:X.xe=λ_ _=>False)(h:PIf X e t):PIf (XE X xe) e t:=λa s f H Q I q=>cV (h _ s f H Q (YW I) q) (λ_ j ⟨i,d,g⟩=>⟨i,Uu d,g⟩) λe j z=>by rw[c]at z;exact z.elim
theorem Uv {c:Type}{m:Sem c}{Q:c->Shared->Prop}(hE:∀e a,E' e a ->E e a)(h:wpAny M A m Q E' s):wpAny M A m Q E s:=cV h (λ_ _ q=>q) hE
def Vo (J:It)(D:Addr)(g:TG)(tt:TT)(te:TE)(f:Sg->Hp->Prop)(W:Nat->Nat->List V->Sg->Hp->Prop):Prop:=
 ∀i m c e H,W i m c e H->H D=some (.lst c)/\((J.stop i H/\f e H)\/(J.go i H/\∀x l,J.yld i H x l->g x e l λa H3=>tt a H3 λk j=>
  if k=true then te a j λv o=>o D=some (.lst c)/\c.length < sizeLine/\∃d,d < m/\W (i+1) d (c++[v]) a (mz o D (.lst (c++[v]))) else ∃d,d < m/\W (i+1) d c a j))
theorem YX {X:Cx}{R:Result->Shared->Prop}(hx:∀e G,X.xe e G ->notedBy (model X.prog X.w) X.A X.env (λe G =>R (.error e) G) e G)(hc:X.calm=true){tg iter elt:Expr}{P:List Expr}{scope:Scope}{pos:Pos}{J:It}{fp:List Addr}{it:Addr}{tn:Nat->Heap->Prop}(S:yt X.prog X.w X.K tg J fp it tn)
  {g:TG} {tt:TT} {te:TE} (hg:PG X tg g) (ht:PIf X P tt) (he:PE X elt te) {D:Addr} {U:Sg->Hp->Prop} (W:Nat->Nat->List V->Sg->Hp->Prop) (turn:Vo J D g tt te U W)
  (hR:∀s σ H,L2.Inv X [] σ H s->U σ H->R (.ok .next) s) {m0:Nat} {q:Sg} {H0:Hp} {s0:Shared} (w0:W 0 m0 [] q H0) (I0:L2.Inv X [] q H0 s0) (t0:tn 0 s0.heap) (f0:∀b∈fp,wC X [] H0 b):
  codeAny (model X.prog X.w) X.A (.compLoop (.ListComp elt [⟨tg,iter,P,0⟩] scope pos) 0 (.ref it) (.ref D) X.env) R s0:=by
 have a:∀{f :Hp},(∀b∈fp,f b=none)->∀b∈fp,wC X [] f b:=λhn b l=>⟨hn b l,(f0 b l).2⟩;refine codeAny_loop rfl (λn G =>∃i M σ' f,L2.Inv X [] σ' f G /\tn i G.heap/\(∀b∈fp,f b=none)/\W i n M σ' f) (λn s3 h3=> ?_) m0 ⟨0,[],q,H0,I0,t0,λb l=>(f0 b l).1,w0⟩;obtain⟨i,M,c,H3,I3,O,Z,w3⟩:=h3;show wpAny _ X.A ((compTurn _ 0 _ _ _).onRaise (λx=>do noteFrame x _;theTreesLotGoes x)) _ _ s3
 refine wpAny_noted ?_;obtain⟨hD,h⟩:=turn i n M c H3 w3;rcases h with ⟨stop,qn⟩ | ⟨go,next⟩
 ·refine a8 (wpAny_standAt (a8 (mH (S.done X rfl rfl rfl hc i [] s3 c H3 _ I3 (a Z) O stop) λr s4 ⟨hr,I4⟩=> ?_)));subst hr;exact ac (hR s4 c H3 I4 qn)
 ·refine a8 (wpAny_standAt (a8 (mH (S.item X rfl rfl rfl hc i [] s3 c H3 _ I3 (a Z) O go) λr s4 ⟨u,hr,h4⟩=> ?_)));subst hr;refine a8 (mH h4 λ_ s5 ⟨x,H5,I5,r5,y5,F,fr5⟩=> ?_);have I5' :=I5.pinned (a fr5) (S.obj _ _ F);refine a8 (Uv hx (mH (hg _ s5 c H5 x u _ I5' r5 (next x H5 y5)) λ_ s6 ⟨p,H6,I6,q6⟩=> ?_));have again:∀{j:Sg} {N:Hp} {Q:Shared} {B :List V},L2.Inv X _ j N Q->(∃C,C < n/\W (i+1) C B j N)->∃m,m < n/\∃i M σ' f,L2.Inv X [] σ' f Q/\tn i _/\(∀b∈fp,f b=none)/\W i m M σ' f :=λ{j N Q B} I ⟨C,hm,w7⟩=>by
   refine⟨C,hm,i+1,B,j,N,I.unpinned,S.keep _ _ _ F λb l o e=>(I.pin _ (aG _ (aG _ (jt l e)))).1,λb l=> ?_,w7⟩;obtain⟨o,e,d⟩:=S.obj _ _ F b l;exact(I.pin _ (aG _ (aG _ (jt l e)))).2.1
  refine a8 (Uv hx (mH (ht _ s6 p H6 _ I6 q6) λk Q ⟨N,I,q7⟩=> ?_));cases k with
  | false=>exact ac ⟨rfl,again I q7⟩
  | true=>
   refine a8 (a8 (Uv hx (mH (he _ Q p N _ I q7) λv s8 ⟨y,H8,I8,r8,hD8,hlen,q8⟩=> ?_)));refine a8 (Uv hx (mH (JQ _ s8 p H8 (.ref D) [y] _ [v] (λ_ H9=>∃C,C < n/\W _ C _ p H9) I8 rfl (.cons r8 .nil) ⟨D,M,y,rfl,rfl,hD8,hlen,q8⟩) λw s9 ⟨_,H9,I9,_,q9⟩=> ?_));exact ac (ac ⟨rfl,again I9 q9⟩)
def Uw (k:Nat)(js:List Nat)(a:Sg):Sg:=ag k none++js.map λj=>(a[j]?).getD none
section
abbrev X8 (X:Cx)(scope:Scope)(N' :List Str)(P:Cx->Prop):Prop:=∀cl C s3 H3 fp pins,P (oB X scope N' cl C s3 H3 fp pins)
abbrev rk (X:Cx)(scope:Scope)(N' :List Str)(E:XK)(P:Cx->Prop):Prop:=∀cl C s3 H3 fp pins xe,jB (nc X.prog X.w) (XE (oB X scope N' cl C s3 H3 fp pins) xe) E->P (XE (oB X scope N' cl C s3 H3 fp pins) xe)
structure tm (X:Cx) (scope:Scope) (N' :List Str) (k:Nat) (js:List Nat):Prop where
 len:N'.length=k+js.length
 cap:∀(i j:Nat),js[i]? =some j->∃x,N'[k+i]? =some x/\X.N[j]? =some x/\sy X.env.scope x/\scope.names.lookup x=some .free/\(X.env.kindOf x=some .cell\/X.env.kindOf x=some .free)
theorem JB (hp:GR X E){js:List Nat}{use:Option (Value->Sem Unit)}(S:AT X scope)(CP:tm X scope N' k js)(hc:X.calm=true)
  (hi:PI X tg iter wi) (hg:X8 X scope N' λXC=>PG XC tg g) (ht:X8 X scope N' λXC=>PIf XC ifs tt) (he:rk X scope N' E λXC=>PE XC elt te) {a:List (Addr×Obj)} {O:Sg} {H:Hp} {s:Shared} {Q:Value->Shared->Prop} {F:Addr->Hp->Prop} (I:L2.Inv X a O H s)
  (h:wi O H λJ H1=>∀D,H1 D=none->∃W,(∃m,W 0 m [] (Uw k js O) (mz H1 D (.lst [])))/\Vo J D g tt te (λ_ H' =>F D H') W)
  (hQ:∀D C H' s',L2.Inv X a O H' s' ->F D H' ->H' C=none->(X.s₀.heap.objs.size<=C)->C ≠ X.env.locals->(∀x c,X.env.cells.lookup x=some c->c ≠ C)->(∀p∈X.pn++a,p.1 ≠ C)->(∃m,s'.heap.Ns C m)->compPost (model X.prog X.w) X.A X.xe use Q (.ref D) C (.ok .next) s')
  (hs:∀x,foldedSetIterable iter X.env x=pure x:=by intro _;rfl):
  wpAny (model X.prog X.w) X.A (comprehension (.ListComp elt [⟨tg,iter,ifs,0⟩] scope pos) scope X.env pos' (newList []) false (eval iter X.env) use) Q X.xe s:=by
 obtain⟨cl,ecl,hcl,hcf⟩:=YU (scope:=scope) (env:=X.env) λx hx hf=>I.ok.has x.1 (S.fre x hx hf);refine wpAny_comprehension_free rfl hs ecl S.kind S.loc ?_;refine mH (hi a s O H _ I h) λv s1 h1=>mH h1 λitv d N=> ?_;obtain⟨it,fp,tn,J,H2,e,I2,TJ,nO,f2,q2⟩:=N;subst e;refine aO ?_;have hD:=I2.hok.fresh (am _);have r:L2.Inv X a O (mz H2 d.heap.objs.size (.lst [])) { d with heap:=d.heap.push { cls:= .type "list",data:= .seq _ } }:=
  I2.laid (t' :=d.toks) (λb u e=>ab _ e) (am _) ⟨bf _,[],_,.nil,af _ rfl⟩
 obtain⟨W,⟨m0,w0⟩,turn⟩:=q2 d.heap.objs.size hD;have f3:∀b∈fp,wC X a (mz H2 d.heap.objs.size (.lst [])) b:=λb l=>by
  obtain⟨o,U,_⟩:=TJ.obj _ _ nO b l;exact⟨by rw[zi (aF (au U))];exact(f2 b l).1,(f2 b l).2⟩
 have o3:∀b∈fp,∃o,(d.heap.push { cls:= .type "list",data:= .seq ([]:List Value).toArray }).get? b=some o:=λb l=>by
  obtain⟨o,U,_⟩:=TJ.obj _ _ nO b l;exact⟨o,ab _ U⟩
 refine wpAny_newFunctionEnv S.nocell (by intro y hy;simp at hy) (λh4 B G=> ?_) S.kind
 generalize hG:d.heap.push _=G3 at r o3 B G ⊢;have s3e:∃f:Shared,f={ d with heap:=G3 }:=⟨_,rfl⟩;obtain⟨f,Z⟩:=s3e;have hh3:f.heap=d.heap.push { cls:= .type "list",data:= .seq ([]:List Value).toArray }:=by rw[Z,hG]
 have hg3:G3=f.heap:=by rw[Z]
 rw[← Z]at r;rw[hg3]at B G o3;have k4:=λb o e=>G.extBut b o (aF (au e)) (ab _ e);have IC:=YV (N' :=N') (cl:=cl) (fp:=fp) (σ' :=Uw k js O) (tk:=f.toks+([]:List (Str×Value)).length) r S hc hcl hcf f3 o3 B k4 (by unfold Uw;simp[CP.len]) (λi x v h1 N=>by
  unfold Uw at N
  by_cases hik:i < k
  ·rw[aY (by simpa using hik),aU,if_pos hik]at N
   cases N
  ·have hk' :k<=i:=by omega
   rw[aR (by simpa using hk'),aV,ao]at N
   cases ej:js[i - k]? with
   | none=>rw[ej]at N;cases N
   | some j=>
    rw[ej]at N;obtain⟨y,e1,e2,e3,e4,e5⟩:=CP.cap (i - k) j ej;have:k+(i - k)=i:=by omega
    rw[this,h1]at e1;cases e1;refine⟨j,e2, ?_,e3,e4,e5⟩;have P :some ((O[j]?).getD none)=some (some v):=N;cases ez:O[j]? with
    | none=>rw[ez]at P;cases P
    | some z=>rw[ez]at P;exact congrArg some (aH P))
 have TC:yt _ _ _ tg J fp it tn:=TJ;have t4:tn 0 h4:=TJ.keep _ _ _ nO λb l o e=>k4 b o (by rw[hh3];exact ab _ e)
 have fC:∀b∈fp,wC (oB X scope N' cl f.heap.objs.size f (mz H2 d.heap.objs.size (.lst [])) fp a) [] _ b:=λb l=>by
  obtain⟨q0,q1,q2,q3,q4,q5⟩:=f3 b l;obtain⟨o,U⟩:=o3 b l;refine⟨q0,aF (au U),λhb' => ?_,.inl l,λx c e=>q4 x c (hcl _ _ e),λp hp=> ?_⟩
  ·rcases ak.mp (r.stkSub b hb') with z | z
   ·exact q1 z
   ·exact q2 z
  ·exact q5 p (by
    have:=hp;rwa[bw]at this)
 have fin:∀(s5:Shared) (σ5:Sg) (H5:Hp),L2.Inv (oB X scope N' cl f.heap.objs.size f (mz H2 d.heap.objs.size (.lst [])) fp a) [] σ5 H5 s5->F d.heap.objs.size H5->compPost (model X.prog X.w) X.A X.xe use Q _ f.heap.objs.size (.ok .next) s5:=λs5 σ5 H5 I5 q5=>by
  have J5:=r.call' (ch:=fp) I5.os I5.base I5.hok I5.bare λb l=>by
   obtain⟨q0,q1,q2,q3,q4,q5⟩:=f3 b l;exact⟨q3,q1,q4,q5⟩
  refine hQ _ _ H5 s5 J5 q5 I5.free r.sz (cO r.lt) (λx c e z=> ?_) (λp hp z=> ?_) (let ⟨m,hm,_⟩:=I5.loc;⟨m,hm⟩)
  ·obtain⟨v',o,U,_⟩:=r.cell x c e;exact absurd (au U) (by rw[z];exact bE _)
  ·exact absurd (au (r.pin p hp).1) (by rw[z];exact bE _)
 have pass:jB (nc X.prog X.w) (XE (oB X scope N' cl f.heap.objs.size f (mz H2 d.heap.objs.size (.lst [])) fp a) (notedBy (model X.prog X.w) X.A (compEnvC scope cl f.heap.objs.size X.env) λe s' =>compPost (model X.prog X.w) X.A X.xe use Q (.ref d.heap.objs.size) f.heap.objs.size (.error e) s')) E:=by
  intro pins1 σ1 H1 s1 e s' I1 c1;have J1:=r.call' I1.os I1.base I1.hok I1.bare λb l=>by
   obtain⟨q0,q1,q2,q3,q4,q5⟩:=f3 b l;exact⟨q3,q1,q4,q5⟩
  obtain⟨m1,hm1,_⟩:=I1.loc;refine mH (hp a O H1 s1 e s' _ m1 _ _ J1 hm1 I1.free r.sz (λz=> ?_) rfl c1) λ_ s'' q=> ?_
  ·obtain⟨_,o,U,_⟩:=r.stack.mem z;exact absurd (au U) (bE _)
  ·cases use <;> exact q
 have M:=YX (X:=XE (oB X scope N' cl _ f _ fp _) (notedBy _ X.A _ λe s' =>compPost _ X.A _ use Q _ _ _ s')) (iter:=iter) (scope:=scope) (pos:=pos) (λ_ _ z=>z) hc TC (E8 rfl (hg _ _ _ _ _ _)) (HU rfl (ht _ _ _ _ _ _)) (he _ _ _ _ _ _ _ pass) W turn (λs5 σ5 H5 I5=>fin s5 σ5 H5 (YW I5)) w0 (Uu IC) t4 fC;rw[Z]at M;exact codeAny_compStart_list M (TJ.self _ _ _ _ _ t4 M)
end
def zx (g:T->En->R En)(ft:En->R Bool)(a:En->R T):List T->En->R (List T)
 | [],_=> .ok []
 | t :: ts,ρ=>(g t ρ).bind λρ1=>(ft ρ1).bind λk=>if k=true then (a ρ1).bind λv=>(zx g ft a ts ρ1).bind λvs=> .ok (v :: vs) else zx g ft a ts ρ1
noncomputable def uV:Option Sl->Sl
 | some (.vl t)=> .vl t
 | some (.ob k _)=> .oc k []
 | some (.oc k fs)=> .oc k fs
 | _=> .un
def Jp (k:Nat)(js:List Nat)(ρ:En):En:=ag k .un++js.map λj=>uV ρ[j]?
noncomputable def quiet {c:Type}:R c->R c
 | .ok a=> .ok a
 | _=> .bad
def zq (g:T->En->R En)(ft:En->R Bool)(a:En->R T)(k:Nat)(js:List Nat)(ρ:En)(ts:List T):R (List T):=if ts.length<=mF then quiet (zx g ft a ts (Jp k js ρ)) else .bad
def zA (fi:En->R (List T))(g:T->En->R En)(ft:En->R Bool)(a:En->R T)(k:Nat)(js:List Nat):En->R T:=λρ=>(fi ρ).bind λts=>(zq g ft a k js ρ ts).bind λvs=> .ok (.lst vs)
def pN (c:TG)(g:T->En->R En):Prop:=∀Y B ρ a H v x Q,SI Y B ρ a H->Rep B v x->(match g x ρ with | .ok ρ' =>∀σ',SI Y B ρ' σ' H->Q σ' H | _=>False)->c v a H Q
theorem Vp (i:Nat):pN (W7 i) (zw i):=λY B ρ a H v x Q I r q=>q _ (I.setV i r)
theorem Vq (K:ai)(i j:Nat):pN (Bb K 2 (Yj (W7 i) (Yj (W7 j) Dz))) (zN i j):=λY B ρ e H v t Q I r q=>by
 cases r with
 | @tup l xs ts h r=>
  cases r with
  | nil=>exact q.elim
  | cons c a=>
   cases a with
   | nil=>exact q.elim
   | cons d a=>
    cases a with
    | cons _ _=>exact q.elim
    | nil=>exact⟨l,_,rfl,SqT.of (I.sB _ _ h),rfl,_,_,rfl,_,_,rfl,rfl,q _ ((I.setV i c).setV j d)⟩
 | _=>exact q.elim
theorem SI.blockS (I:SI Y B ρ σ H)(k:Nat)(js:List Nat)(E:XK)(s:zo H H'):SI ⟨B,H,E,Y.cl,[]⟩ B (Jp k js ρ) (Uw k js σ) H' where
 s0:=I.sB
 sH:=s
 sB:=I.sB.trans s
 old:=λ_ _ _=>rfl
 len:=by unfold Jp Uw;simp
 vl:=λi t h=>by
  unfold Jp at h;unfold Uw
  by_cases g:i < k
  ·rw[aY (by simpa using g),aU,if_pos g]at h;cases h
  ·have l :k<=i:=by omega
   rw[aR (by simpa using l),aV,ao]at h ⊢
   cases o:js[i - k]? with
   | none=>rw[o]at h;cases h
   | some j=>
    rw[o]at h;have h' :uV ρ[j]? = .vl t:=aH h;unfold uV at h';split at h'
    ·rename_i u e;cases h';obtain⟨v,N,r⟩:=I.vl j _ e;exact⟨v,by show some ((σ[j]?).getD none)=_;rw[N];rfl,r⟩
    all_goals cases h'
 ow:=λi ts h=>by
  exfalso;unfold Jp at h
  by_cases g:i < k
  ·rw[aY (by simpa using g),aU,if_pos g]at h;cases h
  ·have l :k<=i:=by omega
   rw[aR (by simpa using l),aV,ao]at h
   cases o:js[i - k]? with
   | none=>rw[o]at h;cases h
   | some j=>
    rw[o]at h;have h' :uV ρ[j]? = .ow ts:=aH h;unfold uV at h';split at h' <;> cases h'
 xc:=λi c h=>by
  exfalso;unfold Jp at h
  by_cases g:i < k
  ·rw[aY (by simpa using g),aU,if_pos g]at h;cases h
  ·have l :k<=i:=by omega
   rw[aR (by simpa using l),aV,ao]at h
   cases o:js[i - k]? with
   | none=>rw[o]at h;cases h
   | some j=>
    rw[o]at h;have h' :uV ρ[j]? = .xc c:=aH h;unfold uV at h';split at h' <;> cases h'
 st:=by
  have get:∀(i:Nat) (x:Sl),x.isO=true->(Jp k js ρ)[i]? =some x->∃j,js[i - k]? =some j/\k<=i/\uV ρ[j]? =x:=λi x G h=>by
   unfold Jp at h
   by_cases g:i < k
   ·rw[aY (by simpa using g),aU,if_pos g]at h
    cases h;cases G
   ·have l :k<=i:=by omega
    rw[aR (by simpa using l),aV,ao]at h
    cases o:js[i - k]? with
    | none=>rw[o]at h;cases h
    | some j=>
     rw[o]at h;exact⟨j,rfl,l,aH h⟩
  refine⟨[],λ_=>none,iu _,λi os h=> ?_,λi _ os _ h=> ?_,λi Q n h=> ?_,λi Q fs h=> ?_,λi os h=> ?_⟩
  ·obtain⟨j,_,_,e⟩:=get i _ rfl h;unfold uV at e;split at e <;> cases e
  ·obtain⟨j,_,_,e⟩:=get i _ rfl h;unfold uV at e;split at e <;> cases e
  ·obtain⟨j,_,_,e⟩:=get i _ rfl h;unfold uV at e;split at e <;> cases e
  ·obtain⟨j,o,l,e⟩:=get i _ rfl h;have F:(Uw k js σ)[i]? =some ((σ[j]?).getD none):=by
    unfold Uw;rw[aR (by simpa using l),aV,ao,o];rfl
   obtain⟨S,O,x⟩:=I.st;unfold uV at e;split at e
   ·cases e
   ·rename_i J U D;cases e;obtain⟨a,C,p,vs,_,q,y,e5,_,_,w⟩:=x.ob j _ _ D;exact⟨a,C,p,vs,by rw[F,q];rfl,y,e5,w,λm f d z=>by cases z⟩
   ·rename_i J P D;cases e;obtain⟨a,C,p,vs,q,y,e5,w,M⟩:=x.oc j _ _ D;exact⟨a,C,p,vs,by rw[F,q];rfl,y,I.sH _ _ e5,w,M.mono (zo.refl _) I.sH⟩
   ·cases e
  ·obtain⟨j,_,_,e⟩:=get i _ rfl h;unfold uV at e;split at e <;> cases e
theorem SI.block {Y:Fx}{B:Hp}{ρ:En}{a:Sg}{H H3:Hp}{D:Addr}(I:SI Y B ρ a H)(k:Nat)(js:List Nat)(E:XK)(c:H D=none)(o:HO):SI ⟨B,H,E,Y.cl,[]⟩ B (Jp k js ρ) (Uw k js a) (mz H D o):=I.blockS k js E (zo.new c _)
theorem SI.acc {Y:Fx}{B:Hp}{ρ:En}{g:Sg}{H:Hp}{D:Addr}(I:SI Y B ρ g H)(l:B D=none)(q:Y.H0 D=none)(v:∀(i:Nat) (ts:List T),ρ[i]? =some (Sl.ow ts)->g[i]? ≠ some (some (V.ref D)))(c:∀(i:Nat) (x:Sl),ρ[i]? =some x->Sl.isS x=true->False)(o:HO):SI Y B ρ g (mz H D o) where
 s0:=I.s0
 sH:=λb u h=>by
  rw[zi (λz=>by subst z;rw[q]at h;cases h)];exact I.sH b u h
 sB:=λb u h=>by
  rw[zi (λz=>by subst z;rw[l]at h;cases h)];exact I.sB b u h
 old:=I.old
 len:=I.len
 vl:=I.vl
 ow:=λi ts h=>by
  obtain⟨a,xs,e,w,f,y,r,d⟩:=I.ow i ts h;refine⟨a,xs,e,w,f, ?_,r,d⟩;rw[zi (λz=>v i ts h (by rw[e,z]))];exact y
 xc:=I.xc
 st:=let ⟨as,O,x⟩:=I.st;⟨as,O,x.pre,λi os h=>c i _ h rfl |>.elim,λi j os p h=>c i _ h rfl |>.elim,λi k n h=>c i _ h rfl |>.elim,x.oc,λi os h=>c i _ h rfl |>.elim⟩
def G7 (ρ:En):Prop:=∀(i:Nat) (x:Sl),ρ[i]? =some x->(∀ts,x ≠ Sl.ow ts)/\(x.isS=true->False)
theorem Vr (k:Nat)(js:List Nat)(ρ:En):G7 (Jp k js ρ):=λi x h=>by
 unfold Jp at h
 by_cases a:i < k
 ·rw[aY (by simpa using a),aU,if_pos a]at h
  cases h;exact⟨λ_=>Sl.noConfusion,ax⟩
 ·have c :=by omega
  rw[aR (by simpa using c),aV,ao]at h
  cases d:js[i - k]? with
  | none=>rw[d]at h;cases h
  | some j=>
   rw[d]at h;have h' :uV _=x:=aH h;unfold uV at h';split at h' <;> (subst h';exact⟨λ_=>Sl.noConfusion,ax⟩)
theorem Wf {ρ:En}{i:Nat}{t:T}(h:G7 ρ):G7 (ρ.set i (.vl t)):=λj x e=>by
 rcases zz e with ⟨_,z⟩ | ⟨_,z⟩
 ·subst z;exact⟨λ_=>Sl.noConfusion,ax⟩
 ·exact h j x z
def pS (g:T->En->R En):Prop:=(∀t ρ ρ',G7 ρ->g t ρ= .ok ρ' ->G7 ρ')/\∀t ρ c,g t ρ ≠ .ex c
theorem Vs (i:Nat):pS (zw i):=⟨λt ρ ρ' h e=>by
 cases e;exact Wf h,λt ρ c e=>by cases e⟩
theorem Vt (i j:Nat):pS (zN i j):=⟨λt ρ ρ' h e=>(by
 unfold zN at e;split at e
 ·cases e;exact Wf (Wf h)
 ·cases e),λt ρ c e=>by unfold zN at e;split at e <;> cases e⟩
section
variable {X:Cx}{Y:Fx}{tg iter elt:Expr}{ifs:List Expr}{scope:Scope}{pos pos' :Pos}{N' :List Str}{k:Nat}{js:List Nat}{fi:En->R (List T)}{tG:TG}{g:T->En->R En}{ft:En->R Bool}{fe:En->R T}
structure Wg (X:Cx) (Y:Fx) (ifs:List Expr) (f:En->R Bool):Prop where
 mk ::
 go:∀ρ,PIf X ifs (tS Y rE f ρ)
instance {X:Cx}{Y:Fx}{ifs:List Expr}{f:En->R Bool}:CoeFun (Wg X Y ifs f) λ_=>∀ρ,PIf X ifs (tS Y rE f ρ):=⟨Wg.go⟩
theorem PIf.imp {X:Cx}{e:List Expr}{t t' :TT}(h:PIf X e t)(i:∀a H Q,t' a H Q->t a H Q):PIf X e t' :=λc s a H Q I q=>h _ s a H Q I (i a H Q q)
def zV:En->R Bool:=λ_=> .ok true
theorem LN {X:Cx}:Wg X Y [] zV:= .mk λρ=>PIf.imp K1 λa H Q ⟨B,I,q⟩=>ZN I q rfl
theorem LX {X:Cx}{c:Expr}(h:ua X Y c ft):Wg X Y [c] ft:= .mk λρ=>K2 (h ρ)
noncomputable def CB (r:R (List T))(P:List T->Prop)(Z:Nat->Prop):Prop:=match r with
 | .ok vs=>P vs
 | .ex c=>Z c
 | .bad=>False
theorem yF {N M:Hp}{σ:Sg}{ρ:En}{J:It}{ts:List T}{r:R (List T)}{D:Addr}{E0:XK}(hG:pN tG g)(hN:pS g)(I:SI Y N ρ σ M)(rI' :rI N M J ts)(hl:ts.length<=mF)(ev:zx g ft fe ts (Jp k js ρ)=r)(hD:M D=none){F:Hp->Prop}
  (hF:CB r (λvs=>∀f xs l,zo M f ->f D=some (.lst xs)->zy l xs vs->zo l (zF N M f)->l D=none->zo N l ->F f) λc=>∀d f,zo M f ->zo N f ->E0 (Y.cl c) d f):
  ∃W,(∃m,W 0 m [] (Uw k js σ) (mz M D (.lst [])))/\Vo J D tG (λσ H Q=>∃Y' ρ',Y'.cl=Y.cl/\tS Y' rE ft ρ' σ H Q) (λσ H Q=>∃Y' ρ',Y'.cl=Y.cl/\Y'.E=E0/\tS Y' rC fe ρ' σ H Q) (λ_ f =>F f) W:=by
 refine⟨λi m ys σ' f =>m=ts.length - i/\i<=ts.length/\ys.length<=i/\f D=some (.lst ys)/\∃ρ' l us,SI ⟨N,M,E0,Y.cl,[]⟩ l ρ' σ' f /\G7 ρ' /\zo N l /\l D=none/\zy l ys us/\((zx g ft fe (ts.drop i) ρ').bind λws=> .ok (us++ws))=r,
  ⟨ts.length,by simp,bf _,bf _,zl,_,N,[],I.block (H3:=M) k js _ hD _,Vr k js ρ,zo.refl _,I.sB.free hD,.nil,by rw[dN,ev];cases r <;> rfl⟩, ?_⟩
 rintro i m ys σ' f ⟨rfl,hi,hyl,O,ρ',l,us,I',no',B,bD,r',Z⟩
 refine⟨O, ?_⟩;obtain⟨hgo,hyld,hstop⟩:=rI' l f B I'.sB;have tD:∀P,zo f P->zF l f P D=none:=λP s=>by rw[zR O];exact bD
 by_cases G:i < ts.length
 ·refine .inr ⟨hgo i G,λx P y=> ?_⟩;obtain⟨s2,r2⟩:=hyld i _ x P (ah G) y;rw[dX G]at Z;unfold zx at Z;have I2:=I'.grow s2;refine hG _ _ ρ' σ' P x _ _ I2 r2 ?_;cases eg:g ts[i] ρ' with
  | bad=>rw[eg]at Z;subst Z;exact hF
  | ex c=>exact(hN.2 _ _ _ eg).elim
  | ok ρ1=>
   rw[eg]at Z;have S:=hN.1 _ _ _ no' eg;intro σ1 J1;refine⟨⟨N,M,E0,Y.cl,[]⟩,ρ1,rfl,_,J1, ?_⟩;have C:((ft ρ1).bind (λk=>if k=true then (fe ρ1).bind λv=>(zx g ft fe (ts.drop (i+1)) ρ1).bind λvs=> .ok (v :: vs) else zx g ft fe (ts.drop _) ρ1)).bind (λws=> .ok _)=r:=Z
   cases ef:ft ρ1 with
   | bad=>rw[ef]at C;subst C;exact hF
   | ex c=>
    rw[ef]at C;subst C;exact λd f a b=>hF d f a ((B.trans (zF.ge I'.sB s2)).trans b)
   | ok kk=>
    rw[ef]at C;intro b H3 s3 eb;have eb' :=eb;subst eb';have ew2:=C;have J2:=J1.grow s3;have hD3:H3 D=some _:=s3 _ _ (s2 _ _ O);have bD3:zF (zF l f P) P H3 D=none:=by rw[zR (s2 _ _ O)];exact tD P s2
    have U:=(zF.ge I'.sB s2).trans (zF.ge I2.sB s3);cases b with
    | false=>exact⟨ts.length - (i+1),by omega,rfl,G,by omega,hD3,ρ1,_,us,J2,S,B.trans U,bD3,r'.mono U,ew2⟩
    | true=>
     refine⟨⟨N,M,E0,Y.cl,[]⟩,ρ1,rfl,rfl,_,J2, ?_⟩;have p:=ew2;cases ee:fe ρ1 with
     | bad=>rw[ee]at p;subst p;exact hF
     | ex c=>
      rw[ee]at p;subst p;exact λd f a b=>hF d f a ((B.trans U).trans b)
     | ok v=>
      rw[ee]at p;have ew4:=p;have ew5:(zx g ft fe (ts.drop (i+1)) ρ1).bind (λws=> .ok ((us++[v])++ws))=r:=by
       rw[← ew4];cases zx g ft fe _ ρ1 with
       | ok ws=>show R.ok _=R.ok _;rw[bi];rfl
       | _=>rfl
      intro w H4 s4 rw4;have hD4:=s4 _ _ hD3;have J3:=J2.grow s4;have bD4:zF (zF (zF l f P) P H3) H3 H4 D=none:=by rw[zR hD3];exact bD3
      have sB4:=U.trans (zF.ge J2.sB s4);refine⟨hD4,aL (bq hyl G) (ZF hl),ts.length - (i+1),by omega,rfl,G,by rw[az,aK];omega,zl,ρ1,_,us++[v], ?_,S,B.trans sB4,bD4,(r'.mono sB4).append (.cons rw4 .nil),ew5⟩
      exact J3.acc bD4 hD (λj ts' e=>((S j _ e).1 ts' rfl).elim) (λj x e=>(S j x e).2) _
 ·have e:i=ts.length:=by omega
  subst e;refine .inl ⟨hstop _ (am _), ?_⟩;rw[ix]at Z;have ew' :R.ok _=r:=Z;rw[bw]at ew';subst ew';refine hF f ys l I'.sH O r' (λb o h=> ?_) bD B;cases q:M b with
  | none=>rw[zM q];exact I'.sB b o h
  | some u=>
   rw[zR q];have z:l b=N b:=I'.old b u q;rw[← z];exact h
theorem jY {J:It}(i:pN tG g)(l:pS g)(I:SI Y B1 ρ d H1)(f :rI B1 H1 J ts)(p:ts.length<=mF)(q:zx g ft fe ts (Jp k js ρ)= .ok vs)(o:H1 D=none){F:Hp->Prop}
  (j:∀c xs e,zo H1 c ->c D=some (.lst xs)->zy e xs vs->zo e (zF B1 H1 c)->e D=none->zo B1 e ->F c):
  ∃W,(∃m,W 0 m [] (Uw k js d) (mz H1 D (.lst [])))/\Vo J D tG (λd H Q=>∃a ρ',a.cl=Y.cl/\tS a rE ft ρ' d H Q) (λd H Q=>∃a ρ',a.cl=Y.cl/\(a.E=λ_ _ _=>False)/\tS a rC fe ρ' d H Q) (λ_ c =>F c) W:=yF i l I f p q o j
structure Jq (X:Cx) (Y:Fx) (tg iter elt:Expr) (ifs:List Expr) (scope:Scope) (N' :List Str) (k:Nat) (js:List Nat) (fi:En->R (List T)) (tG:TG) (g:T->En->R En) (ft:En->R Bool) (fe:En->R T):Prop where
 sc:AT X scope
 cp:tm X scope N' k js
 cm:X.calm=true
 it:uP X Y tg iter fi
 gt:X8 X scope N' λXC=>PG XC tg tG
 gk:pN tG g
 gn:pS g
 tt:∀Y',Y'.cl=Y.cl->X8 X scope N' λXC=>Wg XC Y' ifs ft
 el:∀Y',Y'.cl=Y.cl->rk X scope N' Y'.E λXC=>Snd XC Y' elt fe
 hs:∀x,foldedSetIterable iter X.env x=pure x
theorem X9 (C:Jq X Y tg iter elt ifs scope N' k js fi tG g ft fe):Snd X Y (.ListComp elt [⟨tg,iter,ifs,0⟩] scope pos) (zA fi g ft fe k js):= .mk λρ=>by
 intro i s f H Q I ⟨B,J,q⟩;refine JB (ju rfl) (F:=λD r =>Q (.ref D) r) (te:=λf H Q=>∃a ρ',a.cl=Y.cl/\(a.E=λ_ _ _=>False)/\tS a rC fe ρ' f H Q) (tt:=λf H Q=>∃a ρ',a.cl=Y.cl/\tS a rE ft ρ' f H Q) C.sc C.cp C.cm (C.it ρ) C.gt
  (λcl p y H3 fp i l s f H Q I ⟨a,ρ',G,q⟩=>C.tt a G cl p y H3 fp _ ρ' _ s f H Q I q) (λcl p y H3 fp i xe hp l s f H Q I ⟨a,ρ',G,eE,q⟩=>C.el a G cl p y H3 fp _ xe (eE ▸ hp) ρ' _ s f H Q I q) I ?_ ?_ C.hs
 ·refine step J q λts it' Z _ s1 O J1 d=> ?_;intro D M;unfold zq at d;split at d
  ·rename_i hl;cases v:zx g ft fe ts _ with
   | bad=>rw[v]at d;exact d.elim
   | ex c=>rw[v]at d;exact d.elim
   | ok vs=>
    rw[v]at d;refine jY C.gk C.gn J1 O hl v M λr xs B' N e' r' S b' P => ?_;refine(show Po Y rC _ Z _ Q from d) _ r N ?_;exact .lst (by rw[zM M];exact e') (r'.mono S)
  ·exact d.elim
 ·intro D Cc r N I' U hC h0 hL j u x;obtain⟨m,hm⟩:=x;refine⟨m,hm,λh' w=>⟨.ref D,r, ?_,rfl,U⟩⟩;exact I'.turned (λb o hb e=>w.extBut b o hb e) hC (bj hL).symm (.inr h0) j u
end
section
variable {js:List Nat}{g:T->En->R En}
theorem Lk (C:Jq X Y tg iter elt ifs scope N' k js fi tG g ft fe)(hN:X.N.Nodup)(hi:X.N[i]? =some x)(hx:L2.Loc X.env.scope x)
  (hsw:swapsWith (.ListComp elt [⟨tg,iter,ifs,0⟩] scope pc) (some (.Name x p')) pos.line X.env=pure true) (hf:X.fn x=true\/X.env.scope.names.lookup x=some .local:=by first | exact .inl rfl | exact .inr rfl | assumption):
  Wd X Y (.Assign [.Name x p'] (.ListComp elt [⟨tg,iter,ifs,0⟩] scope pc) pos) (zC i (zA fi g ft fe k js)):= .mk λρ=>by
 intro p s l H D I ⟨B,J,q⟩;rw[exec_Assign_Name_used _ _ _ _ hsw];refine a8 (wpAny_standAt (a8 ?_));refine a8 (mH (JB (ju rfl) (F:=λG O =>D.nx (l.set i (some (.ref G))) O) (te:=λl H Q=>∃f ρ',f.cl=Y.cl/\(f.E=λ_ _ _=>False)/\tS f rC fe ρ' l H Q) (tt:=λl H Q=>∃f ρ',f.cl=Y.cl/\tS f rE ft ρ' l H Q) C.sc C.cp C.cm (C.it ρ) C.gt
  (λcl u s3 H3 fp p r s l H Q I ⟨f,ρ',Z,q⟩=>C.tt f Z cl u s3 H3 fp _ ρ' _ s l H Q I q) (λcl u s3 H3 fp p xe hp r s l H Q I ⟨f,ρ',Z,eE,q⟩=>C.el f Z cl u s3 H3 fp _ xe (eE ▸ hp) ρ' _ s l H Q I q) I ?_ ?_ C.hs) λ_ P hq=>ac (ac hq))
 ·have q' :PoS Y B (((fi ρ).s λts=>(zq g ft fe k js ρ ts).s λvs=> .nx (ρ.set i (.vl (.lst vs))))) D:=by
   unfold zC zA at q;revert q;cases fi ρ with
   | bad=>exact λq=>q
   | ex c=>exact λq=>q
   | ok ts=>
    intro q;have q2:PoS Y B (((zq g ft fe k js ρ ts).bind λvs=>R.ok _).s λt=>RS.nx _) D:=q;show PoS Y B ((zq g ft fe k js ρ ts).s λvs=>RS.nx _) D;revert q2;cases zq g ft fe k js ρ ts with
    | bad=>exact λq=>q
    | ex c=>exact λq=>q
    | ok vs=>exact λq=>q
  refine Je J q' λts it' H1 _ s1 r1 J1 j=> ?_;intro G hD;unfold zq at j;split at j
  ·rename_i hl;cases M:zx g ft fe ts _ with
   | bad=>rw[M]at j;exact j.elim
   | ex c=>rw[M]at j;exact j.elim
   | ok vs=>
    rw[M]at j;refine jY C.gk C.gn J1 r1 hl M hD λO xs B' P e' r' l' b' sb' => ?_;have rr:Rep _ _ _:= .lst (by rw[zM hD];exact e') (r'.mono l')
    exact j _ _ _ (zF.ge J1.sB P) ((J1.grow P).setV i rr)
  ·exact j.elim
 ·intro G Cc O P I' q' hC h0 hL d w U;obtain⟨m,hm⟩:=U;refine wpAny_assign_Name (WU (v:= .ref G) I' hN hi hx rfl (λs'' I'' ⟨a,S,ha⟩=> ?_) hf);have hne:Cc ≠ a:=by
   rcases ha with rfl | ha
   ·exact hL
   ·exact(d x a ha).symm
  refine⟨m,hm.sameBut S hne,λh' y =>⟨_,O, ?_,q'⟩⟩;exact I''.turned (λb o hb e=>y.extBut b o hb e) hC hL (.inr h0) d w
end
noncomputable def Dk (x:Str):It:=⟨λi _=>i < x.cps.size,λi H v a =>a =H/\∃c,x.cps[i]? =some c/\v= .str ⟨#[c]⟩,λi _=>x.cps.size<=i⟩
theorem wQ {P:Program}{w:World}{K:ai}{tg:Expr}{x:Str}{t:Tok}{g:String}(it:Addr)(f:g="str_ascii_iterator"\/g="str_iterator"):yt P w K tg (Dk x) [it] it (λi h=>h.IsStrIter it g x t i):=by
 have W:∀A:Around,A.handled=none->Walks P w A it [it] [it] x.cps.size (SignAt x) (λi h=>h.IsStrIter it g x t i):=λA S=>by
  rcases f with rfl | rfl
  ·exact Walks.strAscii S it x t
  ·exact Walks.strWide S it x t
 have hn:["enumerate","zip","dict_itemiterator","dict_reverseitemiterator","odict_iterator","itertools.zip_longest","itertools.pairwise"].contains g=false:=by rcases f with rfl | rfl <;> decide
 refine⟨by simp,λi h st b a=> ?_,λi h h' st k=> ?_, ?_, ?_,λA i s Q E st h=> ?_⟩
 ·have e:b=it:=by simpa using a
  subst e;obtain⟨o,e,c,d⟩:=st;exact⟨o,e,λv z=>by rw[d]at z;cases z⟩
 ·obtain⟨o,e,r⟩:=st;exact⟨o,k it (by simp) o e,r⟩
 ·intro X hP hw hK q i l s O H E I B st J;obtain⟨F,p,U,y,C,D⟩:=B it (by simp)
  refine(W X.A (I.ok.hd q)).item i s _ _ J st λv h' tk hv j kk=> ?_;obtain⟨c,u,M,rfl⟩:=hv;have Z:L2.Inv X _ O H { s with heap:=h',toks:=tk }:=I.turned (λb o a e=>kk b o (by simpa using a) e) F p y C D
  obtain⟨o,e,cl,d⟩:=id j;exact⟨_,rfl,yu e cl d hn ⟨.str _,H,Z,⟨u,rfl⟩,⟨rfl,c,M,rfl⟩,j,λb a=>(B b a).1⟩⟩
 ·intro X hP hw hK q i l s O H E I B st J;obtain⟨F,p,U,y,C,D⟩:=B it (by simp)
  have N:=b_ J;rcases f with rfl | rfl
  ·exact wpAny_pyNext_ascii_end (I.ok.hd q) st N λh' G=>⟨rfl,I.turned (λb o a e=>G b o a e) F p y C D⟩
  ·exact wpAny_pyNext_wide_end (I.ok.hd q) st N λh' G=>⟨rfl,I.turned (λb o a e=>G b o a e) F p y C D⟩
 ·rcases f with rfl | rfl
  ·exact wpAny_pyIter_striter_ascii st h
  ·exact wpAny_pyIter_striter_wide st h
noncomputable def JV (x:Str):List T:=x.cps.toList.map λc=>T.str ⟨#[c]⟩
theorem Vu:rI B1 H1 (Dk x) (JV x):=λk l j g=>by
 have d:(JV x).length=x.cps.size:=by unfold JV;simp
 refine⟨λi hi=>by rw[d]at hi;exact hi,λi t v H3 e y=> ?_,λi hi=>by rw[d]at hi;exact hi⟩
 obtain⟨rfl,c,f,rfl⟩:=y;refine⟨zo.refl _, ?_⟩;unfold JV at e;rw[ao]at e;have a :x.cps.toList[i]? =some c:=by simpa using f
 rw[a]at e;cases e;exact .str _
section
theorem FQ {l:Expr}{tl:TE}(y:PE X l tl):PI X tg l (λi H R=>tl i H λx c=>(∃a,x= .ref a/\(((∃xs,SqL X.K c a xs)/\R (AN X.K a) c)\/((∃xs,SqT X.K c a xs)/\R (Be X.K a) c)))\/(∃z,x= .str z/\R (Dk z) c)):=by
 intro u s i H R I h;refine mH (y _ s i H _ I h) λv d ⟨x,c,f,k,B⟩=> ?_;have ok:∀b∈[d.heap.objs.size],wC X _ c b:=λb C=>by
  have e:=by simpa using C
  subst e;exact f.fpOk (am _) (f.hok.fresh (am _))
 rcases B with ⟨a,e,q⟩ | ⟨z,e,q⟩
 ·subst e;obtain rfl:v=Value.ref a:=k;rcases q with ⟨⟨xs,j⟩,q⟩ | ⟨⟨xs,j⟩,q⟩
  ·obtain⟨g,w,p,hz⟩:=f.list j;exact ck p.isList ⟨d.heap.objs.size,[d.heap.objs.size],_,_,c,rfl,f.kept λb o e=>ab _ e,WV a _,⟨_,af _ rfl,rfl,rfl⟩,ok,q⟩
  ·obtain⟨g,w,p,hz⟩:=f.tuple j;exact cC (show d.heap.IsTuple a _ from p) ⟨d.heap.objs.size,[d.heap.objs.size],_,_,c,rfl,f.kept λb o e=>ab _ e,wN a _,⟨_,af _ rfl,rfl,rfl⟩,ok,q⟩
 ·subst e;obtain⟨t,rfl⟩:=k;cases r:z.cps.all _
  ·exact wpAny_pyIter_wide r ⟨d.heap.objs.size,[d.heap.objs.size],_,_,c,rfl,f.kept λb o e=>ab _ e,wQ _ (.inr rfl),⟨_,af _ rfl,rfl,rfl⟩,ok,q⟩
  ·exact wpAny_pyIter_ascii r ⟨d.heap.objs.size,[d.heap.objs.size],_,_,c,rfl,f.kept λb o e=>ab _ e,wQ _ (.inl rfl),⟨_,af _ rfl,rfl,rfl⟩,ok,q⟩
def JW:T->R (List T)
 | .lst xs=> .ok xs
 | .tup xs=> .ok xs
 | .str x=> .ok (JV x)
 | _=> .bad
def Z5 (a:En->R T):En->R (List T):=λρ=>(a ρ).bind JW
theorem FL (f:Snd X Y a fa):uP X Y tg a (Z5 fa):= .mk λρ=>PI.imp (FQ (f ρ)) λi H R ⟨B,I,q⟩=>step I q λt v e _ j g c d=>by
 cases g with
 | @tup l xs ts h r=>
  exact .inl ⟨l,rfl,.inr ⟨⟨xs,SqT.of (c.sB _ _ h)⟩,ZN c (show Po Y rI _ e _ R from d) (IP h r)⟩⟩
 | @lst l xs ts h r=>
  exact .inl ⟨l,rfl,.inl ⟨⟨xs,SqL.of (c.sB _ _ h)⟩,ZN c (show Po Y rI _ e _ R from d) (EN h r)⟩⟩
 | str z=>exact .inr ⟨z,rfl,ZN c (show Po Y rI _ e _ R from d) Vu⟩
 | _=>exact d.elim
end
theorem Inv.laidT {X:Cx}{d:List (Addr×Obj)}{p:Sg}{H:Hp}{s:Shared}{h' :Heap}{tk:Nat}{ch:List Addr}{a:Addr}{xs:List V}(I:L2.Inv X d p H s)(j:∀b∈ch,wC X d H b)(k:∀b o,b ∉ ch->s.heap.get? b=some o->h'.get? b=some o)
  (G:∀b o,b∈ch->s.heap.get? b=some o->∃x,h'.get? b=some x) (l:s.heap.objs.size<=a) (new:zQ X.prog X.w (mz H a (.tup xs)) h' a (.tup xs)):L2.Inv X d p (mz H a (.tup xs)) { s with heap:=h',toks:=tk }:=by
 have hn:=I.hok.fresh l;have i:∀b u,H b=some u->b ∉ ch:=λb u e g=>by rw[(j b g).1]at e;cases e
 refine I.call' rfl ⟨λb o e n _ f=>k b o f e,λb o e n _ f=>⟨o.slots,k b o f e⟩,λb o e n _=>by rw[zi (aF (aL (au e) l))];exact n,λb o e f=>⟨o,k b o f e⟩,
  λb D e=>by rw[zi (zG e hn)];exact e,λb o u e=>by rw[zi (zG e hn)];exact e,λb J q e=>by rw[zi (zG e hn)];exact e⟩ (λb u e=> ?_) I.bare λb g=> ?_
 ·by_cases g:b=a
  ·subst g;rw[zl]at e;cases e;exact new
  ·rw[zi g]at e;refine(I.hok b u e).stay (λc v f q=> ?_) (λc q=>by rw[zi (zG q hn)];exact q) (λc D q=>by rw[zi (zG q hn)];exact q) λc o u q=>by rw[zi (zG q hn)];exact q
   rcases f with rfl | f
   ·exact k c v (i c u e) q
   ·exact k c v (i c _ f) q
 ·obtain⟨M,r,F,y,B,C⟩:=j b g;exact⟨y,r,B,C⟩
def Dx (K:ai)(l:Addr):It:=
 ⟨λi H=>∃xs x,SqL K H l xs/\xs[i]? =some x,λi H v a =>∃p x,H p=none/\v= .ref p/\(∀xs,SqL K H l xs->xs[i]? =some x)/\a =mz H p (.tup [.int i,x]),λi H=>∃xs,SqL K H l xs/\xs.length<=i⟩
theorem YY {P:Program}{w:World}{K:ai}{B:List Expr}{kk:Nat}{pt:Pos}(e it l:Addr)(M:e ≠ it)(O:l ≠ e)(F:l ≠ it):
  yt P w K (.Tuple B kk pt) (Dx K l) [e,it] e (λi h=>(∃old,IsEnum h e it i old)/\h.IsListIter it l i) where
 mem:=by simp
 obj:=λi h st b a=>by
  obtain⟨⟨old,q⟩,o,e1,c,d⟩:=st;rcases ak.mp a with rfl | a
  ·exact⟨_,q,λv z=>nomatch z⟩
  ·have z:b=it:=by simpa using a
   subst z;exact⟨o,e1,λv z=>by rw[d]at z;cases z⟩
 keep:=λi h h' st k=>by
  obtain⟨⟨old,q⟩,g⟩:=st;exact⟨⟨old,k e (by simp) _ q⟩,g.at λo x=>k it (by simp) o x⟩
 item:=by
  intro X J hw hK U i G s σ H E I Q st hg;subst J hw hK;obtain⟨xs,x,S,Z⟩:=hg;obtain⟨f,rv,p,hz⟩:=I.list S;obtain⟨u,hu,ru⟩:=rv.get Z;obtain⟨⟨old,q⟩,g⟩:=st;have hi:i < f.toArray.size:=by
   have:=(ay.mp hu).1;simpa using this
  refine(m8 (prog:=X.prog) (w:=X.w) (I.ok.hd U) e it l M O F f.toArray).item i s _ _ hi ⟨⟨old,q⟩,g,p.isList⟩ λT vals h' tk J hT D hM hk=> ?_;obtain⟨t,y,hy,rfl⟩:=J;have hyu:y=u:=by
   have:f[i]? =some y:=by simpa using hy
   rw[hu]at this;exact(aH this).symm
  subst hyu;refine⟨.ref T,rfl, ?_⟩;refine(m8 (prog:=X.prog) (w:=X.w) (I.ok.hd U) e it l M O F f.toArray).go B kk pt i T _ _ _ hM λh2 j N=> ?_;have hTn:H T=none:=I.hok.fresh hT;have C:∀b∈[e,it],b ≠ T:=λb a z=>by
   obtain⟨_,_,_,h3,h4⟩:=hM;rcases ak.mp a with rfl | a
   ·exact h3 z.symm
   ·have:b=it:=by simpa using a
    subst this;exact h4 z.symm
  have UO:IsTup h2 T #[.int i t,y]:=by
   obtain⟨o,eo,r⟩:=D;exact⟨o,N T o (λa=>C T a rfl) eo,r⟩
  refine⟨.ref T,mz H T (.tup [.int i,x]),Inv.laidT (s:=s) (h' :=h2) (ch:=[e,it]) (tk:=tk) I Q (λb o a e=>N b o a (hk b o a e)) (λb o a _=> ?_) hT ⟨by rw[bY];show 2<=16777216;decide,[.int i t,y],.cons ⟨t,rfl⟩ (.cons ru .nil),UO,.inl ⟨_,_,rfl⟩⟩,rfl,⟨T,x,hTn,rfl,λys hy=>by rw[I.list_inj hy S];exact Z,rfl⟩,⟨j.1,j.2.1⟩,λb a=> ?_⟩
  ·obtain⟨⟨old2,he2⟩,⟨o2,eo2,_⟩,_⟩:=j;rcases ak.mp a with rfl | a
   ·exact⟨_,he2⟩
   ·have:b=it:=by simpa using a
    subst this;exact⟨o2,eo2⟩
  ·rw[zi (C b a)];exact(Q b a).1
 done:=by
  intro X J hw hK U i G s σ H E I Q st hg;subst J hw hK;obtain⟨xs,S,Z⟩:=hg;obtain⟨f,rv,p,hz⟩:=I.list S;obtain⟨⟨old,q⟩,g⟩:=st;have hl:=rv.length;refine wpAny_pyNext_enum_end (I.ok.hd U) q g p.isList (b_ (by simp;omega)) λh' hk=>⟨rfl, ?_⟩
  obtain⟨f0,f1,f2,f3,f4,f5⟩:=Q it (by simp)
  exact I.turned (t' :=s.toks) (λb o a e=>hk b o a e) f0 f1 f3 f4 f5
 self:=λ_ _ _ _ _ st h=>let ⟨⟨_,q⟩,_⟩:=st;wpAny_pyIter_enum q h
noncomputable def jM (xs:List T):List T:=(xs.zipIdx).map λp=>T.tup [.int (p.2:Nat),p.1]
theorem ud {xs:List T}{i:Nat}{t:T}(h:(jM xs)[i]? =some t):∃x,xs[i]? =some x/\t= .tup [.int (i:Nat),x]:=by
 unfold jM at h;rw[ao,iV]at h;cases e:xs[i]? with
 | none=>rw[e]at h;cases h
 | some x=>rw[e]at h;cases h;exact⟨x,rfl,by simp⟩
theorem Jr (xs:List T):(jM xs).length=xs.length:=by unfold jM;simp
theorem K3 {K:ai}{d l:Hp}{a:Addr}{xs:List V}{ts:List T}(h:d a=some (.lst xs))(r:zy d xs ts):rI d l (Dx K a) (jM ts):=λu w g f=>by
 have c:=f _ _ (g _ _ h);rw[Jr];refine⟨λi hi=> ?_,λi t x H3 e y=> ?_,λi hi=>⟨xs,SqL.of c,by rw[r.length];exact hi⟩⟩
 ·obtain⟨v,e,_⟩:=r.get (ah hi);exact⟨xs,v,SqL.of c,e⟩
 ·obtain⟨p,v,hp,rfl,y,rfl⟩:=y;obtain⟨t',o,rfl⟩:=ud e;obtain⟨q,j,k⟩:=r.get o;have:=y xs (SqL.of c);rw[j]at this;cases this;refine⟨zo.new hp _,.tup (jd hp _) (.cons (.int _) (.cons ?_ .nil))⟩;exact(k.mono g).mono (zF.ge f (zo.new hp _))
section
variable {X:Cx}{Y:Fx}{a:Expr}{fa:En->R T}{pos p pt:Pos}{elts:List Expr}{kk:Nat}
theorem K4 {y:TA}(J:Gl X "enumerate")(O:X.mg "enumerate"=none)(M:PA X [a] y)(N:mY X a:=by exact mQ rfl):
  PI X (.Tuple elts kk pt) (.Call (.Name "enumerate" p) [a] [] pos) (λo H R=>y o H λvs d=>∃l xs,vs=[.ref l]/\d l=some (.lst xs)/\R (Dx X.K l) d):=by
 intro x s o H R I h;refine Call_ (j5 I J O PyProof.Rows.Boot.«enumerate» (a_ (mH (M pos _ s o H _ I h) λS i ⟨vs,d,c,B,F⟩=> ?_) N rfl));obtain⟨l,xs,e,C,q⟩:=F;subst e;obtain⟨u,rfl,P⟩:=Zn B;obtain rfl:u=Value.ref l:=P;obtain⟨_,D,n,Q,v⟩:=(show zQ _ X.w d _ l _ from c.hok l _ C);have g:=au v;refine call_enumerate_1 v λh' r j hsz G=>wpAny_pyIter_enum r ?_;have f:∀b∈[i.heap.objs.size+1,i.heap.objs.size],wC X _ d b:=λb k=>by
  rcases ak.mp k with rfl | k
  ·exact c.fpOk (cP _) (c.hok.fresh (cP _))
  ·have z:=by simpa using k
   subst z;exact c.fpOk (am _) (c.hok.fresh (am _))
 exact⟨i.heap.objs.size+1,[i.heap.objs.size+1,i.heap.objs.size],_,_,d,rfl,c.kept G,YY _ _ l (m9 _) (aF (cQ g)) (aF g),⟨⟨_,r⟩,j⟩,f,q⟩
def K5 (fa:En->R T):En->R (List T):=λρ=>(fa ρ).bind λt=>match t with
 | .lst xs=> .ok (jM xs)
 | _=> .bad
theorem Fp (f:Gl X "enumerate")(j:X.mg "enumerate"=none)(g:Snd X Y a fa)(d:mY X a:=by exact mQ rfl):uP X Y (.Tuple elts kk pt) (.Call (.Name "enumerate" p) [a] [] pos) (K5 fa):= .mk λρ=>
 PI.imp (K4 f j (zm (g ρ) zH d) d) λo H R ⟨B,I,q⟩=>step I q λt v k _ u i c e=>by
  cases i with
  | @lst l xs ts h r=>exact⟨l,xs,rfl,c.sB _ _ h,ZN c (show Po Y rI _ k _ R from e) (K3 h r)⟩
  | _=>exact e.elim
noncomputable def Ya:List T->Option (List Str)
 | []=>some []
 | .str x :: r=>match Ya r with | some c=>some (x :: c) | none=>none
 | _ :: _=>none
def D4 (c:Str):T->R T
 | .lst ts=>match Ya ts with
  | some d=>if (d.map (·.length)).sum+d.length*c.length<=16777216 then .ok (.str (Txt.join c d)) else .bad
  | none=> .bad
 | _=> .bad
theorem Wh {H:Hp}:∀{xs:List V} {ts:List T} {c:List Value} {d:List Str},zy H xs ts->Vals xs c->Ya ts=some d->StrsAre c d
 | _,_,_,d,.nil,q,h=>by
  have h' :=h;cases q;cases h';exact .nil
 | _,_,_,d,.cons r rs,q,h=>by
  cases q with
  | cons f vs=>
  cases r with
  | str x=>
   unfold Ya at h;split at h
   ·rename_i g e;cases h;obtain⟨tk,rfl⟩:=f;exact .cons x tk (Wh rs vs e)
   ·cases h
  | _=>cases h
theorem K6:oW X "str.join" (λx xs H Q=>∃z l f ts c,x= .str z/\xs=[.ref l]/\H l=some (.lst f)/\zy H f ts/\Ya ts=some c/\(c.map (·.length)).sum+c.length*z.length<=16777216/\Q (.str (Txt.join z c)) H):=by
 intro g s C H x xs v B Q I y d h;obtain⟨z,l,f,ts,c,rfl,rfl,i,r,e,o,q⟩:=h;obtain⟨t,rfl⟩:=y;obtain⟨u,rfl,w⟩:=Zn d;obtain rfl:u=Value.ref l:=w;obtain⟨j,d,p,_⟩:=zL I (.inl i) r;exact join_list p (by simpa using Wh r d e) o λt' k=>⟨.str _,H,I.tok k,⟨t',rfl⟩,q⟩
theorem LK (g:jz X Y a fa)(w:attributeBase (.Constant (.str z) kc pz) "join" X.env (eval (.Constant (.str z) kc pz) X.env)=eval (.Constant (.str z) kc pz) X.env:=by rfl)(f:mY X a:=by exact mQ rfl)
  (hz:(pa.endLine == p.line)=true:=by rfl):Snd X Y (.Call (.Attribute (.Constant (.str z) kc pz) "join" pa) [a] [] p) (mw (D4 z) fa):= .mk λρ=>by
 have j:(((((backTo p (starEach [a] X.env)).all λx=> !x.fst) && (backToKw p (keywordEach [] X.env)).all λx=>x.fst.isSome) && decide (([a].length+([]:List Keyword).length+if ([]:List Keyword).isEmpty=true then 0 else 1) < 30))=true):=by rw[f];rfl
 refine PE.imp (yB PySem.F.plainAttrs_str PySem.F.slot_str_join PySem.F.type_str_join K6 xN (zm (g ρ) zH f) w j hz f rfl) λy H Q ⟨B,I,q⟩=> ?_;refine⟨rfl,step I q λt v o _ C k i c=> ?_⟩;cases k with
 | @lst l xs ts h r=>
  have c:Po Y rC _ o (match Ya ts with | some d=>if (d.map _).sum+d.length*z.length<=16777216 then .ok _ else .bad | none=> .bad) Q:=c
  split at c
  ·rename_i d e;split at c
   ·rename_i u;exact⟨z,l,xs,ts,d,rfl,rfl,h,r,e,u,mV i.sB c rfl (.str _)⟩
   ·exact c.elim
  ·exact c.elim
 | _=>exact c.elim
end
noncomputable def dd:List Str->List Str->List Str
 | acc,[]=>acc
 | acc,x :: r=>dd (if x∈acc then acc else acc++[x]) r
section
variable {prog:Program}{w:World}{A:Around}{R:Result->Shared->Prop}{I:Addr}{fp wr:List Addr}{n:Nat}{P:Nat->Value->Prop}{St:Nat->Heap->Prop}
theorem jv {h h' :Heap}{S:Addr}{f g:Str->Bool}{m k:Nat}(x:h.SetOf (strKind prog w) S f m)(e:∀o,h.get? S=some o->h'.get? S=some o)(a:f=g)(i:m=k):h'.SetOf (strKind prog w) S g k:=by
 subst a i;obtain⟨o,c,ep,t,d,r⟩:=x;exact⟨o,c,ep,t,e o d,r⟩
theorem Vv (W:Walks prog w A.in1 I fp wr n P St)(S:Addr)(d:S ∉ fp)(val:Nat->Str)(g:∀i v,P i v->∃t,v=Value.str (val i) t)(a:n+1 < scanBound):
  ∀(k i:Nat) (acc:List Str) (s:Shared),n - i=k->i<=n->acc.length<=i->St i s.heap->s.heap.SetOf (strKind prog w) S (λx=>decide (x∈acc)) acc.length->
   (∀h' tk,(∀b o,b ∉ S :: wr->s.heap.get? b=some o->h'.get? b=some o)->h'.SetOf (strKind prog w) S (λx=>decide (x∈dd acc ((me i k).map val))) (dd acc ((me i k).map val)).length->
    R (.ok (.ret .none)) { s with heap:=h',toks:=tk })->codeAny (model prog w) A (.builtin "set.update.loop" ⟨[.ref S,.ref I],[]⟩) R s:=by
 intro k
 induction k with
 | zero=>
  intro i acc s Z hi J c D C;obtain rfl:i=n:=by omega
  refine bQ iy ?_;refine a8 (W.done s _ _ c λh' tk q =>ac ?_);exact C h' tk (λb o a e=>q b o (λz=>a (a9 _ z)) e) (jv D (λo e=>q S o (λz=>d (W.sub _ z)) e) rfl rfl)
 | succ k ih=>
  intro i acc s Z hi J c D C;refine bQ iy ?_;refine a8 (W.item i s _ _ (by omega) c λv X tk1 U j r=> ?_)
  obtain⟨t,rfl⟩:=g i v U;have y:=jv D (λo e=>r S o (λz=>d (W.sub _ z)) e) rfl rfl;refine a8 (m:=holding _ _) (bp ?_);unfold setAdd;have p:(strKind prog w).is (val i) (.str (val i) t)=true:=strKind_is _ _ _ _;refine bp (a8 ((strKind _ w).pyHash p ?_));refine wpAny_setAddHashed_of p rfl y (by omega) λh2 l B=> ?_
  have e2:(if decide (val i∈acc)=true then acc.length else acc.length+1)=(if val i∈acc then acc else acc++[val i]).length:=by
   by_cases f:val i∈acc
   ·simp[f]
   ·simp[f]
  have e1:(λx=>decide (x∈acc) || decide (x=val i))=(λx=>decide (x∈(if val i∈acc then acc else acc++[val i]))):=by
   funext x
   by_cases f:val i∈acc
   ·simp only[if_pos f]
    by_cases O:x=val i
    ·subst O;simp[f]
    ·simp[O]
   ·simp[f,Bool.decide_or]
  have N:=jv B (λo e=>e) e1 e2;refine ac ⟨cf F.plain_set_update_loop _,ih _ _ _ (by omega) (by omega) ?_ (W.frame _ X _ j λb a o e=> ?_) N λQ G M u=> ?_⟩
  ·split
   ·omega
   ·rw[az,aK];omega
  ·exact(l.2 b (λz=>d (z ▸ a))).trans e
  ·refine C Q G (λb o a e=>M b o a ?_) u;exact(l.2 b (λz=>a (z ▸ aa))).trans (r b o (λz=>a (a9 _ z)) e)
end
section
set_option maxRecDepth 100000 in
set_option maxHeartbeats 3200000 in
theorem YZ {l:Addr}{a:List Value}{g:List Str}{Q:Value->Shared->Prop}(hh:A.handled=none)(hl:s.heap.IsList l a.toArray)(hi:StrsAre a g)(hb:a.length+1 < scanBound)
  (h:∀(h' :Heap) (tk:Nat),h'.SetOf (strKind prog w) s.heap.objs.size (λx=>decide (x∈dd [] g)) (dd [] g).length->(∀b o,b < s.heap.objs.size->s.heap.get? b=some o->h'.get? b=some o)->
   Q (.ref s.heap.objs.size) { s with heap:=h',toks:=tk }):wpAny (model prog w) A (call (.type "set") [.ref l]) Q E s:=by
 have M:∀{a:List Value} {g:List Str},StrsAre a g->a.length=g.length/\∀(i:Nat) (v:Value),a[i]? =some v->∃t,v=Value.str (g.getD i ⟨#[]⟩) t:=λ{a g} hi=>by
  induction hi with
  | nil=>exact⟨rfl,λi v e=>by simp at e⟩
  | cons y t _ ih=>
   refine⟨by simp[ih.1],λi v e=> ?_⟩
   cases i with
   | zero=>exact⟨t,by simpa using e.symm⟩
   | succ i=>exact ih.2 i v (by simpa using e)
 obtain⟨X,D⟩:=M hi;have hys:(me 0 a.length).map (λi=>g.getD i ⟨#[]⟩)=g:=by
  rw[X];refine dL λi=> ?_;rw[ao]
  by_cases q :i < g.length
  ·rw[List.getElem?_range' q,ah q];simp[ah q]
  ·rw[aP (by simp;omega),aP (by omega)]
   rfl
 obtain⟨c,tl,hmro⟩:=dw.mro;have hmade:=dw.made;have hsub:=dw.sub;have h1:=dw.notType;have h2:=dw.canCreate;have hct:=F.typeCall_set_1 (.ref l);refine wpAny_call (codeAny_of_tree (show wpAny _ _ (callAny (.type "set") _) _ _ _ from ?_));refine ac ⟨Code.quiet_builtin _ (by decide+kernel),bQ F.entry_type_call ?_⟩
 rw[Around.under_plain (weight_type_call_type "set" [.ref l] []) rfl]
 repeat any_goals (first | assumption | wp_step)
 refine eN (code_set_new_1 (.ref l) (E:=E) (Q₁:=λobj k=>∃d:Bool,obj= .ref s.heap.objs.size/\k={ s with heap:=s.heap.push { cls:= .type "set",dict:=none,data:= .set #[] 0 (.fresh 0 0 d) } }) λd=>⟨d,rfl,rfl⟩) λr k hr=> ?_;cases r with
 | error e=>exact hr
 | ok fl=>
  cases fl with
  | ret obj=>
   obtain⟨d,rfl,rfl⟩:=hr;generalize hG:s.heap.push { cls:= .type "set",dict:=none,data:= .set #[] 0 (.fresh 0 0 d) }=G;have hS:G.get? s.heap.objs.size=some { cls:= .type "set",dict:=none,data:= .set #[] 0 (.fresh 0 0 d) }:=by rw[← hG];exact af _ rfl
   have u:G.objs.size=s.heap.objs.size+1:=by rw[← hG,ci]
   have I:∀b o,s.heap.get? b=some o->G.get? b=some o:=λb o e=>by rw[← hG];exact ab _ e
   have hT:fL { s with heap:=G } (.ref s.heap.objs.size) "set":=⟨_,hS,rfl⟩;have hli:=dw.init.lookup;have hbi:=dw.init.bind (.ref s.heap.objs.size)
   repeat any_goals (first | assumption | wp_step)
   refine eN (codeAny_call_builtin (R:=wants (λr p=>r= .none/\∃h' tk,p={ s with heap:=h',toks:=tk }/\h'.SetOf (strKind prog w) s.heap.objs.size (λx=>decide (x∈dd [] g)) (dd [] g).length/\
     (∀b o,b < s.heap.objs.size->s.heap.get? b=some o->h'.get? b=some o)) E) dw.init.plain F.entry_set_init (check_set_init_1 hT ?_)) λP p f=> ?_
   ·obtain⟨⟨ocls,odict,odata,oslots⟩,J,O,nl,N⟩:=hl;simp only at O N;subst O;subst N;have S :=I _ _ J;have hsls:=F.sub_list_set;have hslf:=F.sub_list_frozenset;have hne:(Value.type "list" == Value.type "dict")=false:=by decide
    have Z:G.IsList l a.toArray:=⟨_,S,rfl,nl,rfl⟩;have U:l < s.heap.objs.size:=au J;unfold Builtin.«set.__init__» noKeywords Builtin.Frozenset.updateFrom;generalize hPI:pyIter=PI
    wp_walk
    subst hPI;refine ck Z (a8 (wpAny_runValue ?_));have hSf:s.heap.objs.size ∉ [G.objs.size,l]:=by
     rw[u];intro z;rcases ak.mp z with z | z
     ·exact absurd z (aF (fA _))
     ·exact absurd (aq.mp z) (cO U)
    refine Vv (hW (A:=A.in1.in1.in1) (by simp[hh]) G.objs.size l (by rw[u];exact aF (cQ U)) a.toArray) s.heap.objs.size hSf (λi=>g.getD i ⟨#[]⟩) (λi v e=>D i v (by simpa using e)) (by simpa using hb) a.length 0 [] _ (by simp) (bf _) (am _)
     ⟨⟨_,af _ rfl,rfl,rfl⟩,Z.push _⟩ ?_ ?_
    ·have C :(G.push { cls:= .type "list_iterator",data:= .fields #[.ref l,.int 0 0] }).get? s.heap.objs.size=some { cls:= .type "set",dict:=none,data:= .set #[] 0 (.fresh 0 0 d) }:=ab _ hS;exact jv ((PyProof.Rows.setObjOf_fresh (knd:=strKind prog w) d).setOf C (by unfold scanBound;omega)) (λo e=>e) (by funext x;simp) rfl
    ·intro h' tk' hm j;rw[hys]at j;refine ac (show wpAny _ _ (ret Value.none) _ _ _ from ac ⟨rfl,h',tk',rfl,j,λb o hb e=> ?_⟩);refine hm b o (λz=> ?_) (ab _ (I b o e));rcases ak.mp z with z | z
     ·exact absurd z (aF hb)
     ·have z' :b=G.objs.size:=aq.mp z;rw[u]at z';exact absurd z' (aF (cQ hb))
   ·cases P with
    | error e=>exact f
    | ok B=>
     cases B with
     | ret r=>
      obtain⟨rfl,h',tk,rfl,j,hk'⟩:=f
      repeat any_goals (first | assumption | wp_step)
      exact h _ _ j hk'
     | _=>exact f.elim
  | _=>exact hr.elim
end
section
theorem qa (J:X.A.handled=none):Z7 X (.type "set") (λvs H Q=>∃l xs ts a,vs=[.ref l]/\H l=some (.lst xs)/\zy H xs ts/\Ya ts=some a/\ts.length+1 < 4096/\
  ∀q,H q=none->Q (.ref q) (mz H q (.ext λh=>h.SetOf (strKind X.prog X.w) q (λx=>decide (x∈dd [] a)) (dd [] a).length))):=by
 intro k s Z H vs S Q I c h;obtain⟨l,xs,ts,a,rfl,v,r,B,P,q⟩:=h;obtain⟨u,rfl,G⟩:=Zn c;obtain rfl:u=Value.ref l:=G;obtain⟨y,c,pl,p,_⟩:=zL I (.inl v) r;refine YZ J pl (Wh r c B) (by unfold scanBound;omega) λh' tk j D=> ?_
 refine⟨.ref _,_,I.laid (λb u e=>D b u (au e) e) (am _) ?_,rfl,q _ (I.hok.fresh (am _))⟩;obtain⟨o,es,ep,t,F,N⟩:=id j;exact⟨j,⟨o,F⟩,λO U ⟨M,d,f,C,g,i⟩ e=>⟨M,d,f,C,e _ g,i⟩⟩
theorem qb:Z7 X (.builtin "len") (λvs H Q=>∃q a f n,vs=[.ref q]/\H q=some (.ext a)/\(∀h:Heap,a h->h.SetOf (strKind X.prog X.w) q f n)/\Q (.int n) H):=by
 intro d s y H vs x Q I g h;obtain⟨l,a,f,n,rfl,i,c,q⟩:=h;obtain⟨u,rfl,v⟩:=Zn g;obtain rfl:u=Value.ref l:=v;obtain⟨j,_,_⟩:=(show zQ _ X.w H _ l _ from I.hok l _ i);obtain⟨o,p,ep,t,r,hex,hd,_,_,k,e,hn⟩:=c _ j;refine call_len_set r hex hd e ?_ ⟨.int _,H,I.tok _,⟨_,rfl⟩,by rw[hn];exact q⟩
 have:p.size < 4096:=k;omega
def Vw:T->R T
 | .lst ts=>match Ya ts with
  | some a=>if ts.length+1 < 4096 then .ok (.int (dd [] a).length) else .bad
  | none=> .bad
 | _=> .bad
theorem Fb (i:X.A.handled=none)(x:Gl X "len")(C:X.mg "len"=none)(g :Gl X "set")(f :X.mg "set"=none)(y:jz X Y a fa)(k:mY X a:=by exact mQ rfl)(d :mY X (.Call (.Name "set" p') [a] [] pos'):=by exact mQ rfl):
  Snd X Y (.Call (.Name "len" p) [.Call (.Name "set" p') [a] [] pos'] [] pos) (mw Vw fa):= .mk λρ=>
 PE.imp (ZM qb x C PySem.boot_len (zm (ZZ (qa i) g f PyProof.Rows.Boot.«set» (zm (y ρ) zH k) (by decide) (by decide) k rfl) zH d) (by decide) (by decide) d rfl) λF H Q ⟨B,I,q⟩=>
  step I q λt v u _ G o D c=>by
   cases o with
   | @lst l xs ts h r=>
    have c:Po Y rC _ u (match Ya ts with | some j=>if ts.length+1 < 4096 then .ok _ else .bad | none=> .bad) Q:=c
    split at c
    ·rename_i j e;split at c
     ·rename_i w;refine⟨l,xs,ts,j,rfl,h,r,e,w,λz hz=>⟨z,_,_,_,rfl,zl,λh i=>i, ?_⟩⟩;exact c _ _ (zo.new hz _) (.int _)
     ·exact c.elim
    ·exact c.elim
   | _=>exact c.elim
end
theorem uW:jB mT X E:=λ_ _ _ _ _ _ _ h=>h.elim
section
theorem K7 (hy:Y.cl=cl)(F:wD X.prog X.w X.K X.mg X.base mT j f fd ps (spP cl n g))(hr:ja k X.A)(o:j<=k)(i:Gl X x)
  (d:X.mg x=some (.ref f)) (kp:d0 X.K (.ref f)=true) (e:L2.Binds X.K fd ps []) (c:Up X Y (a :: es) ga) (hd:(x == ("__debug__":Str))=false:=by decide)
  (l:starEach (a :: es) X.env=(false,eval a X.env) :: starEach es X.env:=by exact zD rfl) (hz:((backTo pos (starEach es X.env)).any λx=>x.fst)=false:=by exact zT rfl):Snd X Y (.Call (.Name x p) (a :: es) [] pos) (zb n g ga):=by
 subst hy;exact LH F (hr.mono o) i d kp e uW c hd l hz
theorem Wi (d:Gl X x)(c:X.mg x=some u)(a:∃t,u=Value.int i t)(hd:(x == ("__debug__":Str))=false:=by decide):Snd X Y (.Name x pos) (cE (.int i)):= .mk λρ=>
 PE.imp (k7 (v:= .int i) d c a hd) λe H Q ⟨B,I,q⟩=>ZN I q (.int i)
end
noncomputable def sT (scope a:Scope):Bool:=(scope.kind == .function) && scope.names.all (λx=>x.2 != .cell) && scope.names.all (λx=>x.2 != .local || scope.names.lookup x.1 == some .local) &&
 scope.names.all (λx=>x.2 != .free || a.names.lookup x.1 == some .cell || a.names.lookup x.1 == some .free)
theorem Xa (c:Scope)(j:X.env.scope=c)(h:sT scope c=true):AT X scope:=by
 unfold sT at h;simp only[aj,aJ]at h;obtain⟨⟨⟨g,d⟩,k⟩,f⟩:=h;refine⟨eq_of_beq g,λx a=>by simpa using d x a,λx a e=> ?_,λx a i=> ?_⟩
 ·have:=k x a;rw[e]at this;simpa using this
 ·have:=f x a;rw[i]at this;show X.env.scope.names.lookup x.1=_\/X.env.scope.names.lookup x.1=_;rw[j];simpa using this
noncomputable def rD (N N' :List Str)(scope a:Scope)(k:Nat)(js:List Nat):Bool:=(N'.length == k+js.length) && (aN js.length).all λi=>match js[i]? with
 | none=>true
 | some j=>match N'[k+i]?,N[j]? with
  | some x,some y=>(x == y) && (a.names.lookup x == some .cell || a.names.lookup x == some .free) && (scope.names.lookup x == some .free)
  | _,_=>false
theorem qc {js:List Nat}(N:List Str)(a:Scope)(o:X.N=N)(c:X.env.scope=a)(h:rD N N' scope a k js=true):tm X scope N' k js:=by
 unfold rD at h;simp only[aj,aJ]at h;obtain⟨r,g⟩:=h;refine⟨eq_of_beq r,λi j e=> ?_⟩;have hi:=(ay.mp e).1;have q:=g i (aT.mpr hi);rw[e]at q;dsimp only at q;split at q
 ·rename_i x y l p;simp only[aj,fS,beq_iff_eq]at q;obtain⟨⟨rfl,d⟩,f⟩:=q;refine⟨x,l,by rw[o];exact p, ?_,f, ?_⟩
  ·rw[c];exact .inr d
  ·show X.env.scope.names.lookup x=_\/X.env.scope.names.lookup x=_;rw[c];exact d
 ·cases q
theorem Xb {js:List Nat}{g:T->En->R En}(N' :List Str)(N:List Str)(a:Scope)(i:X.N=N)(e:X.env.scope=a)
  (h:(sT scope a && rD N N' scope a k js)=true) (f:X.calm=true) (it:uP X Y tg iter fi) (o:X8 X scope N' λd=>PG d tg tG) (p:pN tG g) (l:pS g) (tt:∀c,c.cl=Y.cl->X8 X scope N' λd=>Wg d c ifs ft)
  (q:∀c,c.cl=Y.cl->rk X scope N' c.E λd=>Snd d c elt fe) (j:∀x,foldedSetIterable iter X.env x=pure x:=by intro _;rfl):Jq X Y tg iter elt ifs scope N' k js fi tG g ft fe:=by
 rw[aj]at h;exact⟨Xa a e h.1,qc N a i e h.2,f,it,o,p,l,tt,q,j⟩
end PV
namespace PV
open PySem PySem.Spec PyProof.Rows L2 PySem.W
section
end
end PV
namespace PySem.W
open PySem PySem.Calls PyProof.Rows PySem.Spec Builtin Builtin.ObjectAttr Builtin.Getset_descriptor
end PySem.W
namespace PySem.W
open PySem PySem.Calls PyProof.Rows PySem.Spec Builtin Builtin.ObjectAttr Builtin.Getset_descriptor
end PySem.W
namespace PySem.W
open PySem PySem.Calls PyProof.Rows PySem.Spec Builtin Builtin.ObjectAttr Builtin.Getset_descriptor
end PySem.W
namespace PV
open PySem PySem.Spec PyProof.Rows L2 PySem.W
section
end
end PV
namespace PySem.ZG
open PySem PySem.Spec PySem.Builtin.SmallTypes
structure uX (i:Addr) (fp:List Addr) (v:Nat->Option Value) (St:Nat->Heap->Prop):Prop where
 mem:i∈fp
 item:∀{prog:Program} {w:World} {A:Around} {E:Value->Shared->Prop} {s:Shared} {Q:Value->Shared->Prop} {k:Nat} {x:Value},St k s.heap->v k=some x->(∀h',St (k+1) h' ->bc i s.heap h' ->Q x { s with heap:=h' })->wpAny (model prog w) A (nextOf (.ref i)) Q E s
 stop:∀{prog:Program} {w:World} {A:Around} {E:Value->Shared->Prop} {s:Shared} {Q:Value->Shared->Prop} {k:Nat},A.handled=none->St k s.heap->v k=none->(∀h' e,fM i s.heap h' ->(∃o,h'.get? e=some o/\o.cls= .type "StopIteration")->E (.ref e) { s with heap:=h' })->wpAny (model prog w) A (nextOf (.ref i)) Q E s
 keep:∀{k:Nat} {h h' :Heap},St k h->(∀b∈fp,∀o,h.get? b=some o->h'.get? b=some o)->St k h'
 there:∀{k:Nat} {h:Heap},St k h->∀b∈fp,∃o,h.get? b=some o
theorem uX.but {v:Nat->Option Value}{St:Nat->Heap->Prop}(N:uX i fp v St)(x:St k h)(e:fM b h h')(n:b ∉ fp):St k h' :=
 N.keep x λc a o q=>e c o (λz=>n (z ▸ a)) q
theorem K8 (d:l ≠ i)(xs:Array Value):uX i [i,l] (λk=>xs[k]?) (λk h=>h.IsListIter i l k/\h.IsList l xs) where
 mem:= .head _
 item:=λst c h=>wpAny_nextOf_list_item st.1 st.2 c λh' a b=>h h' ⟨a,st.2.extBut b.extBut d⟩ b
 stop:=λg st c h=>wpAny_nextOf_list_end g st.1 st.2 c h
 keep:=λst k=>⟨st.1.at λo e=>k i (.head _) o e,st.2.at λo e=>k l (.tail _ (.head _)) o e⟩
 there:=λst b f=>by
  obtain⟨⟨o,e,_⟩,j,p,_⟩:=st;rcases ak.mp f with z | f
  ·exact⟨o,z ▸ e⟩
  ·exact⟨j,(aq.mp f) ▸ p⟩
end PySem.ZG
namespace PySem.ZG
open PySem PySem.Spec PySem.Builtin.SmallTypes
section
theorem Ux (a:s.heap.IsTupleIter it l k)(h:wpAny (model prog w) A.in1 (Builtin.«tuple_iterator.__next__» ⟨[.ref it],[]⟩) (λc d =>∃v,c= .done (.ret v)/\Q v d) E s):wpAny (model prog w) A (nextOf (.ref it)) Q E s:=by
 exact a8 (aX a.typeIs eS (aM eS a.typeIs PySem.F.entry_tuple_iterator_next
  (cV h (λc d ⟨v,e,q⟩=>⟨v,e,ac q⟩) λ_ _ z=>z) (PySem.F.args_tuple_iterator_next_1 _)))
theorem tup_item (a:s.heap.IsTupleIter it l k)(i:s.heap.IsTuple l xs)(f:xs[k]? =some x)(h:∀h',h'.IsTupleIter it l (k+1)->bc it s.heap h' ->Q x { s with heap:=h' }):wpAny (model prog w) A (nextOf (.ref it)) Q E s:=by
 refine Ux a ?_;obtain⟨o,c,j,hd⟩:=id a;obtain⟨p,e,_,q,d⟩:=i;refine a8 (m:=field _ 0) (ba c hd rfl ?_);refine a8 (ba c hd rfl (a8 (bM e d ?_)));simp only[b9,f];have g:=fg (ii (·.setIfInBounds 1 (rawInt (k+1)))) c (iQ (eJ hd _));refine a8 (wpAny_setField c hd (by simp) (ac ⟨x,rfl,h _ ⟨_,g,(lM ..).trans j, ?_⟩ (bV ..)⟩))
 rw[eJ hd];simp[rawInt]
theorem tup_stop (j:A.handled=none)(a:s.heap.IsTupleIter it l k)(i:s.heap.IsTuple l xs)(g:xs[k]? =none)
  (h:∀h' e,fM it s.heap h' ->(∃o,h'.get? e=some o/\o.cls= .type "StopIteration")->E (.ref e) { s with heap:=h' }):wpAny (model prog w) A (nextOf (.ref it)) Q E s:=by
 refine Ux a ?_;obtain⟨o,c,p,hd⟩:=id a;obtain⟨r,f,_,q,d⟩:=i;refine a8 (m:=field _ 0) (ba c hd rfl ?_);refine a8 (ba c hd rfl (a8 (bM f d ?_)));simp only[b9,g];refine a8 (du (a8 (wpAny_setField c hd (by simp) (a8 ?_))))
 refine a8 (aO (a8 (c9 (by first | rfl | (simp only[firstArgMember])) (aO ?_ (by size_fits)))) (by size_fits))
 refine a8 (wpAny_handled ?_);rw[j];exact a8 (ac (wpAny_throw (h _ _ (((bV ..).extBut.push _).push _) ⟨_,af _ rfl,rfl⟩)))
end
theorem nx_tup (f:l ≠ i)(xs:Array Value):uX i [i,l] (λk=>xs[k]?) (λk h=>h.IsTupleIter i l k/\h.IsTuple l xs) where
 mem:= .head _
 item:=λst d h=>tup_item st.1 st.2 d λh' a b=>h h' ⟨a,st.2.extBut b.extBut f⟩ b
 stop:=λp st d h=>tup_stop p st.1 st.2 d h
 keep:=λst k=>by
  obtain⟨⟨o,e,r⟩,c,g,q⟩:=st;exact⟨⟨o,k i (.head _) o e,r⟩,c,k l (.tail _ (.head _)) c g,q⟩
 there:=λst b j=>by
  obtain⟨⟨o,e,_⟩,c,g,_⟩:=st;rcases ak.mp j with z | j
  ·exact⟨o,z ▸ e⟩
  ·exact⟨c,(aq.mp j) ▸ g⟩
end PySem.ZG
namespace PySem.ZG
open PySem PySem.Spec PySem.Builtin.SmallTypes
structure Ap (z TI TO i1 i2:Addr) (fp1 fp2:List Addr):Prop where
 Iz:TI ≠ z
 Oz:TO ≠ z
 IO:TI ≠ TO
 I1:TI ≠ i1
 I2:TI ≠ i2
 z1:z ∉ fp1
 z2:z ∉ fp2
 O1:TO ∉ fp1
 O2:TO ∉ fp2
 a:i1 ∉ fp2
 b:i2 ∉ fp1
section
variable {v1 v2:Nat->Option Value}{S1 S2:Nat->Heap->Prop}
theorem Ap.ne1 (D:Ap z TI TO i1 i2 fp1 fp2)(a:uX i1 fp1 v1 S1):i1 ≠ z/\i1 ≠ TO:=⟨λe=>D.z1 (e ▸ a.mem),λe=>D.O1 (e ▸ a.mem)⟩
theorem Ap.ne2 (D:Ap z TI TO i1 i2 fp1 fp2)(a:uX i2 fp2 v2 S2):i2 ≠ z/\i2 ≠ TO:=⟨λe=>D.z2 (e ▸ a.mem),λe=>D.O2 (e ▸ a.mem)⟩
theorem K9 {Q:Value->Shared->Prop}(d:uX i1 fp1 v1 S1)(f:uX i2 fp2 v2 S2)(D:Ap z TI TO i1 i2 fp1 fp2)(hz:IsZip s.heap z TI TO .none)(N:IsPair s.heap TI (.ref i1) (.ref i2))(M:IsPair s.heap TO a b)(p1:S1 k s.heap)(p2:S2 k s.heap)(hx:v1 k=some x)(hy:v2 k=some y)
  (hQ:∀h',IsZip h' z TI TO (rawInt s.heap.objs.size)->IsPair h' TO x y->S1 (k+1) h' ->S2 (k+1) h' ->IsPair h' s.heap.objs.size x y->
   (∀c o,c ≠ z->c ≠ TO->c ≠ i1->c ≠ i2->s.heap.get? c=some o->h'.get? c=some o)->Q (.ref s.heap.objs.size) { s with heap:=h' }):
  wpAny (model prog w) A (Builtin.«zip.__next__» ⟨[.ref z],[]⟩) (λF s' =>∃v,F= .done (.ret v)/\Q v s') E s:=by
 refine a8 (m:=field (.ref z) 2) (ba hz rfl (x:= .bool false) rfl (a8 (ba hz rfl (x:= .ref TI) rfl (a8 (bM N rfl ?_)))));refine a8 ?_;refine a8 (ba hz rfl (x:= .none) rfl (ac ?_));refine a8 (du (a8 (ba hz rfl (x:= .ref TO) rfl (a8 (bb hz (by simp) λg1 J p=> ?_)))))
 replace J:=J
 refine a8 ?_;refine a8 (a8 (wpAny_onRaise (a8 (d.item (d.but p1 p.extBut D.z1) hx λg2 q1 r=>ac ?_))));have P:IsPair g2 TO a b:=r.extBut _ _ (D.ne1 d).2.symm (p.extBut _ _ D.Oz M);refine a8 (bM P rfl (a8 (wpAny_updateSeq_pair P λg3 t3 j=> ?_)));refine a8 (dO (ac ?_));refine a8 (a8 (wpAny_onRaise (a8 (f.item (f.but (f.but (f.but p2 p.extBut D.z2) r.extBut D.a) j.extBut D.O2) hy λg4 q2 l=>ac ?_))));have t4:IsPair g4 TO x b:=l.extBut _ _ (D.ne2 f).2.symm t3;refine a8 (bM t4 rfl (a8 (wpAny_updateSeq_pair t4 λg u e5=> ?_)))
 replace u:IsPair g TO x y:=u
 refine a8 (dO (ac (ac ?_)));refine a8 (bM u rfl (a8 (wpAny_newTuple ?_)));have sz:g.objs.size=s.heap.objs.size:=by rw[e5.1,l.1,j.1,r.1,p.1]
 have z5:=e5.extBut _ _ D.Oz.symm (l.extBut _ _ (D.ne2 f).1.symm (j.extBut _ _ D.Oz.symm (r.extBut _ _ (D.ne1 d).1.symm J)));have k5:∀c o,c ≠ z->c ≠ TO->c ≠ i1->c ≠ i2->s.heap.get? c=some o->g.get? c=some o:=λc o i B G I e=>
  e5.extBut _ _ B (l.extBut _ _ I (j.extBut _ _ B (r.extBut _ _ G (p.extBut _ _ i e))))
 have r1:S1 (k+1) g:=d.but (d.but (d.but q1 j.extBut D.O1) l.extBut D.b) e5.extBut D.O1;have r2:S2 (k+1) g:=f.but q2 e5.extBut D.O2;refine a8 ?_;have z6:IsZip (g.push { cls:= .type "tuple",data:= .seq #[x,y] }) z TI TO _:=ab _ z5;refine a8 (bb z6 (by simp) λg7 z7 S=> ?_)
 refine bb z7 (by simp) λU Z X=> ?_
 have up:∀c o,c ≠ z->g.get? c=some o->U.get? c=some o:=λc o i e=>X.extBut _ _ i (S.extBut _ _ i (ab _ e));have hn:g.objs.size ≠ z:=cO (au z5);have O:=X.extBut _ _ hn (S.extBut _ _ hn (af _ rfl));rw[sz]at Z O;refine ac ⟨_,rfl, ?_⟩;rw[sz];exact hQ U Z (up _ _ D.Oz u) (d.keep r1 λc C o e=>up c o (λq=>D.z1 (q ▸ C)) e) (f.keep r2 λc C o e=>up c o (λq=>D.z2 (q ▸ C)) e) O λc o i B G I e=>up c o i (k5 c o i B G I e)
theorem Ka {Q:Fin->Shared->Prop}(U:A.handled=none)(f:uX i1 fp1 v1 S1)(B:uX i2 fp2 v2 S2)(D:Ap z TI TO i1 i2 fp1 fp2)(hz:IsZip s.heap z TI TO .none)(J:IsPair s.heap TI (.ref i1) (.ref i2))(I:IsPair s.heap TO a b)(S:S1 k s.heap)(p2:S2 k s.heap)(u:v1 k=none\/v2 k=none)
  (hE:∀h' e,(∀c o,c ≠ z->c ≠ TO->c ≠ i1->c ≠ i2->s.heap.get? c=some o->h'.get? c=some o)->(∃o,h'.get? e=some o/\o.cls= .type "StopIteration")->E (.ref e) { s with heap:=h' }):
  wpAny (model prog w) A (Builtin.«zip.__next__» ⟨[.ref z],[]⟩) Q E s:=by
 refine a8 (m:=field (.ref z) 2) (ba hz rfl (x:= .bool false) rfl (a8 (ba hz rfl (x:= .ref TI) rfl (a8 (bM J rfl ?_)))));refine a8 ?_;refine a8 (ba hz rfl (x:= .none) rfl (ac ?_));simp only[if_true];refine a8 (du (a8 (ba hz rfl (x:= .ref TO) rfl (a8 (bb hz (by simp) λg1 C r=> ?_)))))
 replace C:=C
 refine a8 ?_;have off:∀{g:Heap} {e:Addr} {l:Obj},IsZip g z TI TO .ellipsis->g.get? e=some l->l.cls= .type "StopIteration"->e ≠ z:=λhg p d q=>by
  subst q;rw[hg]at p;cases p;simp at d
 cases F:v1 k with
 | none=>
  refine a8 (a8 (wpAny_onRaise (a8 (f.stop U (f.but S r.extBut D.z1) F λg2 e i p=> ?_))));obtain⟨l,y,d⟩:=p;have X:=i _ _ (D.ne1 f).1.symm C;exact bb X (by simp) λP _ j=>hE P e (λc o v _ G _ q=>j.extBut _ _ v (i _ _ G (r.extBut _ _ v q))) ⟨l,j.extBut _ _ (off X y d) y,d⟩
 | some x=>
  have hy:v2 k=none:=by
   rcases u with q | q
   ·rw[F]at q;cases q
   ·exact q
  refine a8 (a8 (wpAny_onRaise (a8 (f.item (f.but S r.extBut D.z1) F λg2 q1 i=>ac ?_))));have N:=i.extBut _ _ (D.ne1 f).2.symm (r.extBut _ _ D.Oz I);refine a8 (bM N rfl (a8 (wpAny_updateSeq_pair N λP t3 j=>a8 (dO (ac ?_)))));refine a8 (a8 (wpAny_onRaise (a8 (B.stop U (B.but (B.but (B.but p2 r.extBut D.z2) i.extBut D.a) j.extBut D.O2) hy λg4 e M p=> ?_))));obtain⟨l,y,d⟩:=p;have O:=M _ _ (D.ne2 B).1.symm (j.extBut _ _ D.Oz.symm (i.extBut _ _ (D.ne1 f).1.symm C));exact bb O (by simp) λg5 _ e5=>hE g5 e (λc o v Z G c4 q=>e5.extBut _ _ v (M _ _ c4 (j.extBut _ _ Z (i.extBut _ _ G (r.extBut _ _ v q))))) ⟨l,e5.extBut _ _ (off O y d) y,d⟩
theorem Kc {Q:Option Value->Shared->Prop}(r:uX i1 fp1 v1 S1)(F:uX i2 fp2 v2 S2)(D:Ap z TI TO i1 i2 fp1 fp2)(hz:IsZip s.heap z TI TO .none)(e:IsPair s.heap TI (.ref i1) (.ref i2))(d:IsPair s.heap TO a b)(l:S1 k s.heap)(q:S2 k s.heap)(g:v1 k=some x)(hy:v2 k=some y)
  (B:∀h',IsZip h' z TI TO (rawInt s.heap.objs.size)->IsPair h' TO x y->S1 (k+1) h' ->S2 (k+1) h' ->IsPair h' s.heap.objs.size x y->
   (∀c o,c ≠ z->c ≠ TO->c ≠ i1->c ≠ i2->s.heap.get? c=some o->h'.get? c=some o)->Q (some (.ref s.heap.objs.size)) { s with heap:=h' }):wpAny (model prog w) A (pyNext (.ref z)) Q E s:=by
 have f:s.TypeIs (.ref z) _:=⟨_,hz,rfl⟩;exact a8 (cy (aX f dG (aM dG f iJ
  (K9 r F D hz e d l q g hy λh' C v j u i p=>ac (B h' C v j u i p)) (iz _))))
theorem Ke {Q:Option Value->Shared->Prop}(v:A.handled=none)(q:uX i1 fp1 v1 S1)(y:uX i2 fp2 v2 S2)(D:Ap z TI TO i1 i2 fp1 fp2)(hz:IsZip s.heap z TI TO .none)(g:IsPair s.heap TI (.ref i1) (.ref i2))(f:IsPair s.heap TO a b)(l:S1 k s.heap)(p:S2 k s.heap)(d:v1 k=none\/v2 k=none)
  (u:∀h',(∀c o,c ≠ z->c ≠ TO->c ≠ i1->c ≠ i2->s.heap.get? c=some o->h'.get? c=some o)->Q none { s with heap:=h' }):wpAny (model prog w) A (pyNext (.ref z)) Q E s:=by
 have i:s.TypeIs (.ref z) _:=⟨_,hz,rfl⟩;refine a8 (cy (aX i dG (aM dG i iJ
  (Ka v q y D hz g f l p d λh' e kp x=> ?_) (iz _))))
 obtain⟨o,r,j⟩:=x;exact a8 (cA ⟨o,r,j⟩ isSubtype_stop (ac (u _ kp)))
end
end PySem.ZG
namespace PySem.ZG
open PySem PySem.Spec PySem.Builtin.SmallTypes
structure Kf (l:Addr) (o:Obj) (P:Heap->Prop):Prop where
 go:∀{prog:Program} {w:World} {A:Around} {E:Value->Shared->Prop} {s:Shared} {Q:Value->Shared->Prop},P s.heap->Q (.ref s.heap.objs.size) { s with heap:=s.heap.push o }->wpAny (model prog w) A (pyIter (.ref l)) Q E s
 push:∀{h:Heap} (o' :Obj),P h->P (h.push o')
 fresh:o.isFreed=false
noncomputable abbrev oL (l:Addr):Obj:={ cls:= .type "list_iterator",data:= .fields #[.ref l,.int 0 0] }
noncomputable abbrev oT (l:Addr):Obj:={ cls:= .type "tuple_iterator",data:= .fields #[.ref l,.int 0 0] }
theorem Kg (l:Addr)(xs:Array Value):Kf l (oL l) (λh=>h.IsList l xs):=⟨λp q=>ck p q,λo p=>Heap.IsList.push p o,rfl⟩
theorem Ie (l:Addr)(xs:Array Value):Kf l (oT l) (λh=>h.IsTuple l xs):=⟨λp q=>cC p q,λo p=>lN.push p o,rfl⟩
noncomputable abbrev DC (h:Heap)(o1 o2:Obj):Heap:=(h.push o1).push o2
abbrev Bw (h:Heap)(o1 o2:Obj):Heap:=(DC h o1 o2).push { cls:= .type "tuple",data:= .seq #[.ref h.objs.size,.ref (h.push o1).objs.size] }
abbrev DM (h:Heap)(o1 o2:Obj):Heap:=(Bw h o1 o2).push { cls:= .type "tuple",data:= .seq #[.none,.none] }
abbrev pO (h:Heap)(o1 o2:Obj):Heap:=(DM h o1 o2).push { cls:= .type "zip",data:= .fields #[.none,.bool false,.bool false,.ref (DC h o1 o2).objs.size,.ref (Bw h o1 o2).objs.size] }
theorem Ig {a c:Heap->Prop}(i:Kf l1 o1 a)(f:Kf l2 o2 c):
  Meets (Builtin.«zip.__new__» ⟨[.type "zip",.ref l1,.ref l2],[]⟩) (λ_ R s=>a s.heap/\c s.heap/\R (.ok (.ret (.ref (DM s.heap o1 o2).objs.size))) { s with heap:=pO s.heap o1 o2 }):=
 .of_wp λprog w A R s h=>by
  obtain⟨hp,g,d,tk,os⟩:=s;obtain⟨l,o,h⟩:=h;have e:=sub_zip;have j:a (mh ⟨hp,g,d,tk,os⟩):=l;have k:c (mh ⟨hp.push o1,g,d,tk,os⟩):=f.push o1 o
  wp_walk using i.go j,f.go k
  exact⟨_,rfl,h⟩
end PySem.ZG
namespace PySem.ZG
open PySem PySem.Spec PySem.Builtin.SmallTypes
theorem Kh {i l:Heap->Prop}(j:Kf l1 o1 i)(p:Kf l2 o2 l)(y:i s.heap)(B:l s.heap)
  (h:∀h' n,n=s.heap.objs.size->IsZip h' (n+4) (n+2) (n+3) .none->IsPair h' (n+2) (.ref n) (.ref (n+1))->IsPair h' (n+3) .none .none->h'.get? n=some o1->h'.get? (n+1)=some o2->
   (∀c o,s.heap.get? c=some o->h'.get? c=some o)->Q (.ref (n+4)) { s with heap:=h' }):wpAny (model prog w) A (call (.type "zip") [.ref l1,.ref l2]) Q E s:=by
 refine callType_new PySem.F.called_zip (by decide) (PySem.F.typeCall_zip_2 _ _) (PySem.F.newCall_zip_2 _ _) (λobj=>PySem.F.args_object_init_3 obj _ _) PySem.F.entry_zip_new (Ig j p) ⟨y,B, ?_⟩
 have g:(s.heap.push o1).objs.size=s.heap.objs.size+1:=ci ..;have f:(DC s.heap o1 o2).objs.size=s.heap.objs.size+2:=by rw[ci,g]
 have d:(Bw s.heap o1 o2).objs.size=s.heap.objs.size+3:=by rw[ci,f]
 have v:(DM s.heap o1 o2).objs.size=s.heap.objs.size+4:=by rw[ci,d]
 have up:∀{h:Heap} {c:Addr} {o:Obj} (a :Obj),h.get? c=some o->(h.push a).get? c=some o:=λa e=>ab a e;have e5:(pO s.heap o1 o2).get? _=some _:=af _ rfl;have r:(pO s.heap o1 o2).get? _=some _:=up _ (af _ rfl);have k:(pO s.heap o1 o2).get? _=some _:=up _ (up _ (af _ rfl));have u:(pO s.heap o1 o2).get? _=some _:=up _ (up _ (up _ (af _ p.fresh)));have x:(pO s.heap o1 o2).get? _=some _:=up _ (up _ (up _ (up _ (af _ j.fresh))));rw[f,d,v]at e5;rw[g,f]at k;rw[d]at r;rw[g]at u;rw[v];exact⟨⟨_,e5,rfl⟩,h _ _ rfl e5 k r x u λc o q=>up _ (up _ (up _ (up _ (up _ q))))⟩
end PySem.ZG
namespace PV
open PySem PySem.Spec PyProof.Rows L2 PySem.ZG
inductive SK where
 | l | t
noncomputable def SK.it:SK->Heap->Addr->Addr->Nat->Prop
 | .l=>λh i l k=>h.IsListIter i l k
 | .t=>λh i l k=>h.IsTupleIter i l k
noncomputable def SK.has:SK->Heap->Addr->Array Value->Prop
 | .l=>λh l xs=>h.IsList l xs
 | .t=>λh l xs=>h.IsTuple l xs
def SK.sq (K:ai):SK->Hp->Addr->List V->Prop
 | .l=>λH a xs=>SqL K H a xs
 | .t=>λH a xs=>SqT K H a xs
noncomputable def SK.tr:SK->List V->HO
 | .l=> .lst
 | .t=> .tup
def SK.ob:SK->Addr->Obj
 | .l=>oL
 | .t=>oT
theorem SK.nx (k:SK){i l:Addr}(h:l ≠ i)(xs:Array Value):uX i [i,l] (λn=>xs[n]?) (λn hp=>k.it hp i l n/\k.has hp l xs):=by
 cases k with
 | l=>exact K8 h xs
 | t=>exact nx_tup h xs
theorem SK.of (k:SK)(l:Addr)(xs:Array Value):Kf l (k.ob l) (λh=>k.has h l xs):=by
 cases k with
 | l=>exact Kg l xs
 | t=>exact Ie l xs
theorem SK.start (k:SK){h:Heap}{i l:Addr}(e:h.get? i=some (k.ob l)):k.it h i l 0:=by
 cases k with
 | l=>exact⟨_,e,rfl,rfl⟩
 | t=>exact⟨_,e,rfl,rfl⟩
theorem SK.obj {k:SK}{h:Heap}{i l:Addr}{n:Nat}(x:k.it h i l n):∃o,h.get? i=some o/\∀v,o.data ≠ .cell v:=by
 cases k with
 | l=>obtain⟨o,e,_,d⟩:=x;exact⟨o,e,λv z=>by rw[d]at z;cases z⟩
 | t=>obtain⟨o,e,_,d⟩:=x;exact⟨o,e,λv z=>by rw[d]at z;cases z⟩
theorem SK.at_ {k:SK}{h h' :Heap}{i l:Addr}{n:Nat}(x:k.it h i l n)(q:∀o,h.get? i=some o->h'.get? i=some o):k.it h' i l n:=by
 cases k with
 | l=>obtain⟨o,e,r⟩:=x;exact⟨o,q o e,r⟩
 | t=>obtain⟨o,e,r⟩:=x;exact⟨o,q o e,r⟩
theorem SK.sqOf {K:ai}(k:SK){H:Hp}{a:Addr}{xs:List V}(e:H a=some (k.tr xs)):k.sq K H a xs:=by
 cases k with
 | l=>exact SqL.of e
 | t=>exact SqT.of e
theorem Inv.seq (I:L2.Inv X pins σ H s)(k:SK)(h:k.sq X.K H a xs):∃c:List Value,Vals xs c/\k.has s.heap a c.toArray/\∃o,s.heap.get? a=some o:=by
 cases k with
 | l=>
  obtain⟨c,r,p,_⟩:=I.list h;obtain⟨o,_,e,_⟩:=id p;exact⟨c,r,p.isList,o,e⟩
 | t=>
  obtain⟨c,r,p,_⟩:=I.tuple h;obtain⟨o,e,_⟩:=id p;exact⟨c,r,p,o,e⟩
def CV (K:ai)(e f:SK)(c d:Addr):It:=
 ⟨λi H=>∃xs a x y,e.sq K H c xs/\f.sq K H d a/\xs[i]? =some x/\a[i]? =some y,λi H v g =>∃p x y,H p=none/\v= .ref p/\(∀xs,e.sq K H c xs->xs[i]? =some x)/\(∀a,f.sq K H d a->a[i]? =some y)/\g =mz H p (.tup [x,y]),
  λi H=>∃xs a,e.sq K H c xs/\f.sq K H d a/\(xs.length<=i\/a.length<=i)⟩
theorem Inv.seq_inj (I:L2.Inv X pins σ H s)(k:SK)(h:k.sq X.K H a xs)(h' :k.sq X.K H a ys):xs=ys:=by
 cases k with
 | l=>exact I.list_inj h h'
 | t=>exact I.tuple_inj h h'
theorem nN {a b:Nat}(h:a ≠ b): @Ne Addr a b:=h
theorem nM {a b c:Nat}(h:a ≠ b)(h' :a ≠ c):¬ @Membership.mem Addr (List Addr) _ [b,c] a:=λq=>by
 rcases ak.mp q with z | z
 ·exact h z
 ·exact h' (aq.mp z)
theorem Vx {P:Program}{w:World}{K:ai}{U:List Expr}{kk:Nat}{pt:Pos}(M B:SK){n l1 l2:Nat}(h1:l1 < n)(h2:l2 < n):
  yt P w K (.Tuple U kk pt) (CV K M B l1 l2) [n+4,n+2,n+3,n,n+1] (n+4)
   (λi h=>IsZip h (n+4) (n+2) (n+3) .none/\IsPair h (n+2) (.ref n) (.ref (n+1))/\(∃a b,IsPair h (n+3) a b)/\M.it h n l1 i/\B.it h (n+1) l2 i):=by
 have D:Ap (n+4) (n+2) (n+3) n (n+1) [n,l1] [n+1,l2]:=by
  refine⟨nN (by omega),nN (by omega),nN (by omega),nN (by omega),nN (by omega),nM (by omega) (by omega),nM (by omega) (by omega),nM (by omega) (by omega),nM (by omega) (by omega),nM (by omega) (by omega),nM (by omega) (by omega)⟩
 refine⟨by simp,λi h st b d=> ?_,λi h h' st k=> ?_, ?_, ?_, ?_⟩
 ·obtain⟨hz,r,⟨a,c,J⟩,C,F⟩:=st;simp only[ak,bR,or_false]at d;rcases d with rfl | rfl | rfl | rfl | rfl
  ·exact⟨_,hz,λv z=>nomatch z⟩
  ·exact⟨_,r,λv z=>nomatch z⟩
  ·exact⟨_,J,λv z=>nomatch z⟩
  ·exact SK.obj C
  ·exact SK.obj F
 ·obtain⟨hz,r,⟨a,c,J⟩,C,F⟩:=st;exact⟨k _ (by simp) _ hz,k _ (by simp) _ r,⟨a,c,k _ (by simp) _ J⟩,SK.at_ C λo e=>k n (by simp) o e,SK.at_ F λo e=>k (n+1) (by simp) o e⟩
 ·intro X hP hw hK j i pins s σ H E I S st hg;subst hP hw hK;obtain⟨xs,ys,x,y,s1,s2,hx,hy⟩:=hg;obtain⟨hz,r,⟨a,c,J⟩,C,F⟩:=st;obtain⟨l,r1,b1,_⟩:=Inv.seq I M s1;obtain⟨p,r2,b2,_⟩:=Inv.seq I B s2;obtain⟨u,hu,ru⟩:=r1.get hx;obtain⟨v,hv,rv⟩:=r2.get hy;refine Kc (M.nx (aF h1) l.toArray) (B.nx (i:=n+1) (nN (by omega)) p.toArray) D hz r J ⟨C,b1⟩ ⟨F,b2⟩ (x:=u) (y:=v) (by simpa using hu) (by simpa using hv) λg a1 a2 a3 a4 a5 kp=>⟨_,rfl, ?_⟩
  refine wpAny_letOwnedTupleGo_zip a1 λg2 z2 N=> ?_;have hlt:n+4 < s.heap.objs.size:=au hz;have ne:∀b:Nat,b<=n+4->s.heap.objs.size ≠ b:=λb d=>by
   omega
  have f:∀b o,b ∉ [n+4,n+2,n+3,n,n+1]->s.heap.get? b=some o->g2.get? b=some o:=λb o d e=>by
   simp only[ak,bR,or_false,not_or]at d;exact N.extBut _ _ d.1 (kp b o d.1 d.2.2.1 d.2.2.2.1 d.2.2.2.2 e)
  have Z:=N.extBut _ _ (ne _ (am _)) a5;have g2I:=N.extBut _ _ D.Iz (kp _ _ D.Iz D.IO D.I1 D.I2 r);have g2O:=N.extBut _ _ D.Oz a2;have q1:=SK.at_ a3.1 λo e=>N.extBut _ _ (nN (by omega)) e
  have q2:=SK.at_ a4.1 λo e=>N.extBut _ _ (nN (by omega)) e
  have hfr:=I.hok.fresh (am _);refine⟨.ref s.heap.objs.size,mz H s.heap.objs.size (.tup [x,y]),Inv.laidT (s:=s) (h' :=g2) (tk:=s.toks) I S f (λb o d _=> ?_) (am _)
   ⟨by rw[bY];show 2<=16777216;decide,[u,v],.cons ru (.cons rv .nil),⟨_,Z,rfl,_,rfl⟩,.inr ⟨_,Z,rfl⟩⟩,rfl,⟨_,x,y,hfr,rfl,λzs hq=>by rw[← Inv.seq_inj I M s1 hq];exact hx,λzs hq=>by rw[← Inv.seq_inj I B s2 hq];exact hy,rfl⟩,⟨z2,g2I,⟨u,v,g2O⟩,q1,q2⟩,λb d=> ?_⟩
  ·simp only[ak,bR,or_false]at d;rcases d with rfl | rfl | rfl | rfl | rfl
   ·exact⟨_,z2⟩
   ·exact⟨_,g2I⟩
   ·exact⟨_,g2O⟩
   ·obtain⟨o',e',_⟩:=SK.obj q1;exact⟨o',e'⟩
   ·obtain⟨o',e',_⟩:=SK.obj q2;exact⟨o',e'⟩
  ·have hb2:(b:Nat)<=n+4:=by
    have d:=by simpa using d
    rcases d with rfl | rfl | rfl | rfl | rfl
    ·exact am _
    ·exact fW (by decide) n
    ·exact fW (by decide) n
    ·exact aE _ _
    ·exact fW (by decide) n
   rw[zi λz=>ne b hb2 z.symm];exact(S b d).1
 ·intro X hP hw hK j i pins s σ H E I S st hg;subst hP hw hK;obtain⟨xs,ys,s1,s2,hend⟩:=hg;obtain⟨hz,r,⟨a,c,J⟩,C,F⟩:=st;obtain⟨l,r1,b1,_⟩:=Inv.seq I M s1;obtain⟨p,r2,b2,_⟩:=Inv.seq I B s2;have l1' :=r1.length;have l2' :=r2.length;refine Ke (I.ok.hd j) (M.nx (aF h1) l.toArray) (B.nx (nN (by omega)) _) D hz r J ⟨C,b1⟩ ⟨F,b2⟩ ?_ λg kp=>⟨rfl, ?_⟩
  ·rcases hend with q | q
   ·exact .inl (b_ (by rw[aD,← l1'];exact q))
   ·exact .inr (b_ (by rw[aD,← l2'];exact q))
  ·have f:∀b o,b ∉ [n+4,n+3,n,n+1]->s.heap.get? b=some o->g.get? b=some o:=λb o d e=>by
    simp only[ak,bR,or_false,not_or]at d;exact kp b o d.1 d.2.1 d.2.2.1 d.2.2.2 e
   have O:∀b u,H b=some u->b ∉ [n+4,n+3,n,n+1]:=λb u e d=>by
    have G :b∈[n+4,n+2,n+3,n,n+1]:=by
     simp only[ak,bR,or_false]at d ⊢;rcases d with q | q | q | q
     ·exact .inl q
     ·exact .inr (.inr (.inl q))
     ·exact .inr (.inr (.inr (.inl q)))
     ·exact .inr (.inr (.inr (.inr q)))
    rw[(S b G).1]at e;cases e
   refine I.call' rfl ⟨λb o e _ _ j=>f b o j e,λb o e _ _ j=>⟨o.slots,f b o j e⟩,λb o e q _=>q,λb o e j=>⟨o,f b o j e⟩,λb ys e=>e,λb o u e=>e,λ_ _ _ e=>e⟩ (λb u e=> ?_) I.bare λb d=> ?_
   ·refine(I.hok b u e).stay (λc v j q=>f c v ?_ q) (λ_ q=>q) λ_ _ q=>q;rcases j with rfl | j
    ·exact O c u e
    ·exact O c _ j
   ·have G :b∈[n+4,n+2,n+3,n,n+1]:=by
     simp only[ak,bR,or_false]at d ⊢;rcases d with q | q | q | q
     ·exact .inl q
     ·exact .inr (.inr (.inl q))
     ·exact .inr (.inr (.inr (.inl q)))
     ·exact .inr (.inr (.inr (.inr q)))
    obtain⟨f0,f1,f2,f3,f4,f5⟩:=S b G;exact⟨f3,f1,f4,f5⟩
 ·intro A i s Q E st h;exact wpAny_pyIter_zip st.1 h
noncomputable def yG (xs a:List T):List T:=(xs.zip a).map λp=>T.tup [p.1,p.2]
theorem Vy {xs a:List T}{i:Nat}{t:T}(h:(yG xs a)[i]? =some t):∃x y,xs[i]? =some x/\a[i]? =some y/\t= .tup [x,y]:=by
 unfold yG at h;rw[ao]at h;cases e:(xs.zip a)[i]? with
 | none=>rw[e]at h;cases h
 | some p=>
  rw[e]at h;cases h;have:=cG.mp e;exact⟨p.1,p.2,this.1,this.2,rfl⟩
theorem uY (xs a:List T):(yG xs a).length=min xs.length a.length:=by unfold yG;simp
theorem Mf {K:ai}{c J:Hp}{q j:SK}{a b:Addr}{xs d:List V}{ts l:List T}(Q:c a=some (q.tr xs))(P:c b=some (j.tr d))(B:zy c xs ts)(w:zy c d l):rI c J (CV K q j a b) (yG ts l):=λX Z f g=>by
 have k:=q.sqOf (K:=K) (g _ _ (f _ _ Q));have b2:=j.sqOf (K:=K) (g _ _ (f _ _ P));rw[uY];refine⟨λi hi=> ?_,λi t x H3 e y=> ?_,λi hi=>⟨xs,d,k,b2, ?_⟩⟩
 ·obtain⟨v,o,_⟩:=B.get (ah (show i < ts.length by omega))
  obtain⟨u,r,_⟩:=w.get (ah (show i < l.length by omega))
  exact⟨xs,d,v,u,k,b2,o,r⟩
 ·obtain⟨p,v,u,hp,rfl,F,N,rfl⟩:=y;obtain⟨t1,U,O,I,rfl⟩:=Vy e;obtain⟨v',o,G⟩:=B.get O;obtain⟨S,r,M⟩:=w.get I;have C:=F xs k;have D:=N d b2;rw[o]at C;cases C;rw[r]at D;cases D;have up:=zF.ge g (zo.new hp (.tup [v,u]));exact⟨zo.new hp _,.tup (jd hp _) (.cons ((G.mono f).mono up) (.cons ((M.mono f).mono up) .nil))⟩
 ·rw[B.length,w.length];omega
section
theorem Fc {J:TA}(S:Gl X "zip")(hm:X.mg "zip"=none)(U:PA X [a,b] J)(hs:starEach [a,b] X.env=[(false,eval a X.env),(false,eval b X.env)])(w:starEach [b] X.env=[(false,eval b X.env)]):
  PI X (.Tuple elts kk pt) (.Call (.Name "zip" p) [a,b] [] pos) (λx H R=>J x H λvs l=>∃d c j k xs B,vs=[.ref j,.ref k]/\l j=some (SK.tr d xs)/\l k=some (SK.tr c B)/\R (CV X.K d c j k) l):=by
 intro G s x H R I h;refine Call_ (j5 I S hm PyProof.Rows.Boot.«zip» (a_ (mH (U pos _ s x H _ I h) λus i ⟨vs,l,r,N,Q⟩=> ?_) (by rw[hs,w]) (by rw[w];rfl)))
 obtain⟨d,c,j,k,xs,B,e,O,Z,q⟩:=Q;subst e;obtain⟨u,v,rfl,ru,M⟩:=uR N;obtain rfl:u=Value.ref j:=ru;obtain rfl:v=Value.ref k:=M;obtain⟨C,_,b1,o1,e1⟩:=Inv.seq r d (d.sqOf O);obtain⟨F,_,b2,o2,e2⟩:=Inv.seq r c (c.sqOf Z);refine Kh (d.of j _) (c.of k _) b1 b2 λg n hn D z2 z3 P z5 kp=>wpAny_pyIter_zip D ?_;subst hn;have f:∀b∈[i.heap.objs.size+4,i.heap.objs.size+2,i.heap.objs.size+3,i.heap.objs.size,i.heap.objs.size+1],wC X _ l b:=λb y=>by
  have o :i.heap.objs.size<=b:=by
   simp only[ak,bR,or_false]at y;rcases y with rfl | rfl | rfl | rfl | rfl
   ·exact aE _ _
   ·exact aE _ _
   ·exact aE _ _
   ·exact am _
   ·exact aE _ _
  exact r.fpOk o (r.hok.fresh o)
 exact⟨i.heap.objs.size+4,_,_,_,l,rfl,r.kept kp,Vx d c (au e1) (au e2),⟨D,z2,⟨_,_,z3⟩,SK.start d P,SK.start c z5⟩,f,q⟩
noncomputable def jN:T->R (List T)
 | .lst xs=> .ok xs
 | .tup xs=> .ok xs
 | _=> .bad
def Yb (c d:En->R T):En->R (List T):=λρ=>(c ρ).bind λt=>(d ρ).bind λu=>(jN t).bind λxs=>(jN u).bind λa=> .ok (yG xs a)
theorem qd (r:Rep B v t)(e:jN t= .ok xs):∃(k:SK) (a:Addr) (vs:List V),v= .ref a/\B a=some (k.tr vs)/\zy B vs xs:=by
 cases r with
 | lst h r=>cases e;exact⟨.l,_,_,rfl,h,r⟩
 | tup h r=>cases e;exact⟨.t,_,_,rfl,h,r⟩
 | _=>cases e
theorem Uy (t:T)(c:Nat):jN t ≠ .ex c:=by cases t <;> exact λz=>nomatch z
theorem L6 (N:Gl X "zip")(Q:X.mg "zip"=none)(O:Snd X Y a fa)(J:Snd X Y b fb)(w:starEach [a,b] X.env=[(false,eval a X.env),(false,eval b X.env)]:=by exact nO rfl rfl)(d:starEach [b] X.env=[(false,eval b X.env)]:=by exact mQ rfl):
  uP X Y (.Tuple elts kk pt) (.Call (.Name "zip" p) [a,b] [] pos) (Yb fa fb):= .mk λρ=>
 PI.imp (Fc N Q (zm (O ρ) (zm (J ρ) zH d) (by rw[w,d])) w d) λσ H R ⟨B,I,q⟩=>step I q λt v U _ s1 y l G=>step l G λu v' M _ x F i e=>by
  cases f:jN t with
  | bad=>rw[f]at e;exact e.elim
  | ex c=>exact absurd f (Uy _ _)
  | ok xs=>
   rw[f]at e;cases g:jN u with
   | bad=>rw[g]at e;exact e.elim
   | ex c=>exact absurd g (Uy _ _)
   | ok Z=>
    rw[g]at e;obtain⟨P,S,k,rfl,o,w1⟩:=qd (y.mono (zF.ge l.sB x)) f;obtain⟨C,D,j,rfl,r,w2⟩:=qd F g;exact⟨P,C,S,D,k,j,rfl,i.sB _ _ o,i.sB _ _ r,ZN i (show Po Y rI _ M _ R from e) (Mf o r w1 w2)⟩
end
end PV
namespace PV
open PySem PySem.Spec PyProof.Rows L2
section
def qe:T->R T
 | .bl b=> .ok (.int (b2 b))
 | .int i=> .ok (.int i)
 | _=> .bad
theorem HM (v:V)(t:T)(B H:Hp)(Q:VK)(r:Rep B v t)(a:zo B H)(q:Po Y rC B H (qe t) Q):
  (∃i,[v]=[V.int i]/\Q (.int i) H)\/∃k,[v]=[V.bl k]/\Q (.int (if k then 1 else 0)) H:=by
 cases r with
 | int i=>exact .inl ⟨i,rfl,mV a q rfl (.int i)⟩
 | bl k=>exact .inr ⟨k,rfl,mV a q rfl (by cases k <;> exact .int _)⟩
 | _=>exact q.elim
theorem LR (d:Gl X "int")(f:X.mg "int"=none)(c:Snd X Y a fa)(e:mY X a:=by exact mQ rfl):Snd X Y (.Call (.Name "int" p) [a] [] pos) (mw qe fa):=
 X1 Yr HM d f (PyProof.Rows.Boot.«int») c e
theorem qf:Z7 X (.type "range") (λxs H Q=>∃i j,xs=[.int i,.int j]/\∀r,H r=none->Q (.ref r) (mz H r (.rng i j))):=by
 intro a s g H xs f Q I r h;obtain⟨i,j,rfl,q⟩:=h;obtain⟨u,v,rfl,d,c⟩:=uR r;obtain⟨t,rfl⟩:=d;obtain⟨t',rfl⟩:=c;exact call_range_2 ⟨.ref _,_,I.laid (λb o e=>ab _ e) (am _) (show zQ _ X.w _ _ _ (.rng i j) from ⟨_,_,_,af _ rfl⟩),rfl,q _ (I.hok.fresh (am _))⟩
noncomputable def vZ (lo:Int)(n:Nat):List V:=(aN n).map λ(i:Nat)=>V.int (lo+(i:Int))
theorem Wj (D:X.A.handled=none):Z7 X (.type "list") (λxs H Q=>∃r lo hi,xs=[.ref r]/\H r=some (.rng lo hi)/\(-1000000 < lo/\lo < 1000000/\ -1000000 < hi/\hi < 1000000)/\∀l,H l=none->Q (.ref l) (mz H l (.lst (vZ lo (hi - lo).toNat)))):=by
 intro k s P H xs M Q I p h;obtain⟨r,lo,hi,rfl,e,⟨O,J,G,N⟩,q⟩:=h;obtain⟨u,rfl,C⟩:=Zn p;obtain rfl:u=Value.ref r:=C;obtain⟨t,v,S,B⟩:=(show zQ _ X.w H _ r _ from I.hok r _ e);have hn:ir lo hi 1=((hi - lo).toNat):=by rw[rangeSize_one];split <;> omega
 refine call_list_range D B (small_one (by omega) (by omega) (by omega) (by omega)) hn (by omega) λh' tk acc c kp g a=> ?_
 have d:Vals (vZ lo (hi - lo).toNat) acc.toList:=by
  have i:∀(n:Nat) (lo:Int) (vs:List _),vs.length=n->(∀(j:Nat) (v:Value),vs[j]? =some v->∃t,v=Value.int (lo+(j)) t)->Vals (vZ lo n) vs:=by
   intro n
   induction n with
   | zero=>
    intro lo vs f _;rw[cj f];exact .nil
   | succ n F=>
    intro lo vs f d;cases vs with
    | nil=>cases f
    | cons v vs=>
     have e:vZ lo (n+1)=V.int (lo+0) :: vZ (lo+1) n:=by
      unfold vZ;rw[dq,ar,aZ];refine congrArg _ (c6 λj _=> ?_);show V.int _=V.int _;congr 1;omega
     rw[e];refine .cons (d 0 v rfl) (F _ vs (by simpa using f) λj x o=> ?_)
     obtain⟨t,z⟩:=d (j+1) x (by simpa using o)
     exact⟨t,by rw[z];congr 1;omega⟩
  refine i _ lo _ (by simpa using a.1) λj v y=> ?_
  obtain⟨t,z⟩:=a.2 j v (by simpa using y)
  exact⟨t,by rw[z];congr 1;omega⟩
 have hz:(vZ lo (hi - lo).toNat).length<=sizeLine:=by
  rw[bY];unfold vZ;rw[ae,bJ];omega
 exact⟨.ref _,_,I.laid kp (am _) (show zQ _ X.w _ h' _ (.lst _) from ⟨hz,acc.toList,c,d,by simpa using g⟩),rfl,q _ (I.hok.fresh (am _))⟩
def sY (fi:En->R (List T)):En->R T:=λρ=>(fi ρ).bind λts=> .ok (.lst ts)
theorem qg (lo:Int)(n:Nat):zy B (vZ lo n) (rng lo n):=by
 unfold vZ rng
 induction aN n with
 | nil=>exact .nil
 | cons i c a=>exact .cons (.int _) a
theorem Ki (N:X.A.handled=none)(D:Gl X "list")(M:X.mg "list"=none)(k :Gl X "range")(g :X.mg "range"=none)(J:Snd X Y a fa)(G:Snd X Y b fb)
  (x:starEach [a,b] X.env=[(false,eval a X.env),(false,eval b X.env)]:=by exact nO rfl rfl) (d:mY X b:=by exact mQ rfl):Snd X Y (.Call (.Name "list" p) [.Call (.Name "range" p') [a,b] [] pos'] [] pos) (sY (Jy fa fb)):= .mk λρ=>
 PE.imp (ZZ (Wj N) D M PyProof.Rows.Boot.«list» (zm (ZZ qf k g boot_range (zm (J ρ) (zm (G ρ) zH d) (by rw[x,d])) (by decide) (by decide) (by rw[x,d]) (by rw[d];rfl)) zH (mQ rfl)) (by decide) (by decide) (mQ rfl) rfl) λZ H Q ⟨B,I,q⟩=>by
  have q:Po Y rC B H ((fa ρ).bind λt=>(fb ρ).bind λt' =>(match t,t' with | .int i,.int j=>if -1000000 < i/\i < 1000000/\ -1000000 < j/\j < 1000000 then R.ok (rng i (j - i).toNat) else .bad | _,_=> .bad).bind λts=> .ok (.lst ts)) Q:=by
   revert q;unfold sY Jy;cases fa ρ with
   | ok t=>cases fb ρ <;> exact λq=>q
   | ex c=>exact λq=>q
   | bad=>exact λq=>q
  refine step I q λt v S _ s1 C y F=>step y F λt' v' U _ P w O e=> ?_;cases C with
  | int i=>
   cases w with
   | int j=>
    by_cases c: -1000000 < i/\i < 1000000/\ -1000000 < j/\j < 1000000
    ·dsimp only at e;rw[if_pos c]at e;refine⟨i,j,rfl,λr hr=>⟨r,i,j,rfl,zl,c,λl f=> ?_⟩⟩;have o:l ≠ r:=λz=>by rw[z,zl]at f;cases f
     have u:=by rw[zi o]at f;exact f
     refine e _ _ (zo.new hr _ |>.trans (zo.new f _)) (.lst ?_ (qg _ _))
     rw[zM u,zl]
    ·dsimp only at e;rw[if_neg c]at e;exact e.elim
   | _=>exact e.elim
  | _=>cases w <;> exact e.elim
def tU (i j:Nat):En->RS:=λρ=>match ρ[j]? with
 | some (.ow ts)=> .nx ((ρ.set j (.vl (.lst ts))).set i (.vl (.lst ts)))
 | _=> .bad
theorem SI.give (I:SI Y B ρ σ H)(Q:ρ[j]? =some (.ow ts)):∃(a:Addr) (G :Hp),σ[j]? =some (some (V.ref a))/\zo B G /\Rep G (.ref a) (.lst ts)/\SI Y G (ρ.set j (.vl (.lst ts))) σ H:=by
 obtain⟨a,xs,e,b0,h0,S,rr,d⟩:=I.ow j ts Q;have p:zo B (mz B a (.lst xs)):=zo.new b0 _;have P:Rep _ _ _:= .lst zl (rr.mono p);refine⟨a,_,e,p,P,⟨I.s0,I.sH,λb o q=> ?_,λb o q=> ?_,by rw[bx];exact I.len,λk t q=> ?_,λk F q=> ?_,λk c q=> ?_, ?_⟩⟩
 ·by_cases l:b=a
  ·subst l;rw[zl]at q;cases q;exact S
  ·rw[zi l]at q;exact I.sB b o q
 ·rw[zi λz=>by rw[z,h0]at q;cases q];exact I.old b o q
 ·rcases zz q with ⟨rfl,z⟩ | ⟨_,z⟩
  ·cases z;exact⟨_,e,P⟩
  ·obtain⟨v,e1,r⟩:=I.vl k t z;exact⟨v,e1,r.mono p⟩
 ·rcases zz q with ⟨rfl,z⟩ | ⟨hk,z⟩
  ·cases z
  ·obtain⟨u,J,D,i,f,N,M,Z⟩:=I.ow k F z;have g:u ≠ a:=λw=>by subst w;exact d k F hk z D
   refine⟨u,J,D,by rw[zi g];exact i,f,N,M.mono p,λm ws hm hw=> ?_⟩
   rcases zz hw with ⟨rfl,w⟩ | ⟨_,w⟩
   ·cases w
   ·exact Z m ws hm w
 ·rcases zz q with ⟨rfl,z⟩ | ⟨_,z⟩
  ·cases z
  ·obtain⟨u,D,r⟩:=I.xc k c z;exact⟨u,D,p _ _ r⟩
 ·obtain⟨X,O,x⟩:=I.st;refine⟨X,O,x.on (λk y hy h=> ?_) p rfl rfl (zo.refl _) λb o l i f U=> ?_⟩
  ·rcases zz h with ⟨_,z⟩ | ⟨_,z⟩
   ·subst z;cases hy
   ·exact⟨z,rfl⟩
  ·have g:b ≠ a:=λz=>by
    subst z;rcases U with ⟨C,dx,vs,ez⟩ | ok
    ·rw[S]at l;cases l;cases ez
    ·exact ok j ts Q e
   refine⟨l,by rw[zi g];exact i,f,λok k F h=> ?_⟩
   rcases zz h with ⟨_,z⟩ | ⟨_,z⟩
   ·cases z
   ·exact ok k F z
theorem Da (p:PE X (.Name y yp) (W6 j))(k:X.N.Nodup)(hi:X.N[i]? =some x)(d:L2.Loc X.env.scope x)(l:swapsWith (.Name y yp) (some (.Name x p')) pos.line X.env=pure false:=by rfl)
  (g:X.fn x=true\/X.env.scope.names.lookup x=some .local:=by first | exact .inl rfl | exact .inr rfl | assumption):Wd X Y (.Assign [.Name x p'] (.Name y yp) pos) (tU i j):= .mk λρ=>
 PS.imp (wM k hi d p l g) λD u H ⟨B,I,q⟩=>by
  unfold tU at q;split at q
  ·rename_i ts e;obtain⟨a,c,f,o,r,J⟩:=I.give e;exact⟨_,f,q _ _ c o (J.setV i r)⟩
  ·exact q.elim
end
def oy (y:T):List T->Option (List Bool)
 | []=>some []
 | t :: ts=>match mE 30 t y with
  | none=>none
  | some b=>match oy y ts with
   | none=>none
   | some bs=>some (b :: bs)
def cntT (y:T)(ts:List T):R T:=match oy y ts with
 | some bs=> .ok (.int (bs.count true))
 | none=> .bad
def Xc (y:T)(ts:List T):R T:=match oy y ts with
 | some bs=>if true∈bs then .ok (.int (bs.idxOf true)) else .bad
 | none=> .bad
def G8 (g:T->List T->R T)(a c:En->R T):En->R T:=λρ=>(a ρ).bind λt=>match t with
 | .lst ts=>(c ρ).bind λu=>g u ts
 | _=> .bad
theorem Xd {H:Hp}{y:T}{e:Value->Bool}(g:∀(v:V) (t:T) (u:Value) (b:Bool),RelV v u->Rep H v t->mE 30 t y=some b->e u=b):∀{xs:List V} {ts:List T} {a:List Value} {bs:List Bool},
  Vals xs a->zy H xs ts->oy y ts=some bs->a.map e=bs/\∀u∈a,∃v t k,RelV v u/\Rep H v t/\mE 30 t y=some k
 | _,_,_,_,.nil,.nil,h=>by
  cases h;exact⟨rfl,λu j=>by simp at j⟩
 | _,_,_,_,.cons f vs,.cons r rs,h=>by
  rename_i v u i p t ts;unfold oy at h;cases q:mE 30 t y with
  | none=>rw[q]at h;cases h
  | some k=>
   rw[q]at h;cases c :oy y ts with
   | none=>rw[c]at h;cases h
   | some x =>
    rw[c]at h;cases h;obtain⟨o,l⟩:=Xd g vs rs c;refine⟨by rw[ar,o,g v t u k f r q],λw d=> ?_⟩
    rcases ak.mp d with z | d
    ·exact⟨v,t,k,z ▸ f,r,q⟩
    ·exact l w d
section
theorem Vz (hu:X.A.units+64 < cLine):oW X "list.index" (λx xs H Q=>∃l j ts v t bs,x= .ref l/\xs=[v]/\H l=some (.lst j)/\zy H j ts/\Rep H v t/\oy t ts=some bs/\true∈bs/\Q (.int (bs.idxOf true)) H):=by
 intro M s σ H x xs v0 us Q I rx S h;obtain⟨l,j,ts,v,t,bs,rfl,rfl,U,r,rt,e,d,q⟩:=h;obtain rfl:v0=Value.ref l:=rx;obtain⟨u,rfl,Z⟩:=Zn S;obtain⟨hz,c,n,p,D⟩:=(show zQ _ X.w H _ l _ from I.hok l _ U);obtain⟨f,y⟩:=YH λz=>mE 30 z t;obtain⟨G,P⟩:=Xd y p r e;have C:=ij.mpr d;have a:bs.length=c.length:=by rw[← G,ae]
 have O:=p.length;rw[bY]at hz;have g:∀m (d:m < c.length),f c[m]=bs[m]'(by rw[a];exact d):=λm d=>by
  have:(c.map f)[m]'(by rw[ae];exact d)=bs[m]'(by rw[a];exact d):=by simp only[G]
  rw[← this,iA]
 refine fv iC ⟨_,D,rfl⟩ PySem.F.entry_list_index (PySem.F.args_list_index_2 _ _) (SeqAt.list_indexAt l _ n _ #[] u f _ (by rw[aD,← a];exact C) (by omega) ?_ ?_) ⟨D,λw hw=> ?_, ?_⟩
 ·rw[iW,g];exact lu C
 ·intro m d o;rw[iW,g m (by simpa using d)]
  have:=List.not_of_lt_findIdx o;simpa using this
 ·obtain⟨J,t',k,i,B,N⟩:=P w (by simpa using hw)
  rw[y J t' w k i B N];exact(Vd I 30 _ (by rw[JS];omega) t' t k J v w u N B rt i Z).1
 ·exact⟨.int _,H,I.tok _,⟨_,rfl⟩,q⟩
theorem Kj (C:X.A.units+64 < cLine)(D:jz X Y a fa)(y:jz X Y b fb)(f:attributeBase a "index" X.env (eval a X.env)=eval a X.env:=by rfl)(d:mY X b:=by exact mQ rfl)(hz:(pa.endLine == p.line)=true:=by rfl):
  Snd X Y (.Call (.Attribute a "index" pa) [b] [] p) (G8 Xc fa fb):= .mk λρ=>by
 have G:(((((backTo p (starEach [b] X.env)).all λx=> !x.fst) && (backToKw p (keywordEach [] X.env)).all λx=>x.fst.isSome) && decide (([b].length+([]:List Keyword).length+if ([]:List Keyword).isEmpty=true then 0 else 1) < 30))=true):=by rw[d];rfl
 refine PE.imp (yB de iC PySem.F.type_list_index (Vz C) (D ρ) (zm (y ρ) zH d) f G hz d rfl) λP H Q ⟨B,I,q⟩=>step I q λt v N _ S o k i=> ?_;cases t with
 | lst ts=>
  cases o with
  | @lst l xs _ h r=>
   refine⟨.inl ⟨rfl,_,SqL.of h⟩,step k i λu J O _ g w j c=> ?_⟩;unfold Xc at c;split at c
   ·rename_i bs e;split at c
    ·rename_i M;exact⟨l,xs,ts,J,u,bs,rfl,rfl,g _ _ h,r.mono g,w,e,M,ZN j c (.int _)⟩
    ·exact c.elim
   ·exact c.elim
 | _=>exact i.elim
end
noncomputable def Z2:List T->Option (List Int)
 | []=>some []
 | .int i :: r=>match Z2 r with | some l=>some (i :: l) | none=>none
 | _ :: _=>none
def qh:T->R T
 | .lst ts=>match Z2 ts with | some l=> .ok (.int l.sum) | none=> .bad
 | _=> .bad
def Aa (fi:En->R (List T))(g:T->En->R En)(ft:En->R Bool)(a:En->R T)(k:Nat)(js:List Nat):En->RS:=λρ=>(fi (frz ρ)).s λts=>(zq g ft a k js (frz ρ) ts).s λvs=> .rf vs
def Kk:En->RS:=λ_=> .bad
theorem IJ {X:Cx}{Y:Fx}{st:Stmt}:Wd X Y st Kk:= .mk λρ=>λa s c H D I ⟨B,J,q⟩=>q.elim
theorem JX:∀{H:Hp} {xs:List V} {ts:List T} {a:List Value} {c:List Int},zy H xs ts->Vals xs a->Z2 ts=some c->∃d:List (Int×Tok),a=d.map (λp=>Value.int p.1 p.2)/\d.map (·.1)=c
 | _,_,_,_,c,.nil,.nil,h=>by
  have h' :=h;cases h';exact⟨[],rfl,rfl⟩
 | H,_,_,_,c,.cons r rs,.cons g vs,h=>by
  cases r with
  | int i=>
   unfold Z2 at h;split at h
   ·rename_i l e;cases h;obtain⟨d,j,f⟩:=JX rs vs e;obtain⟨tk,rfl⟩:=g;exact⟨(i,tk) :: d,by rw[j];rfl,by rw[ar,f]⟩
   ·cases h
  | _=>cases h
section
variable {X:Cx}{Y:Fx}{a b:Expr}{fa fb:En->R T}{pos p p' pos' :Pos}
theorem qi (x:X.A.handled=none):Z7 X (.builtin "sum") (λvs H Q=>∃l xs ts c,vs=[.ref l]/\H l=some (.lst xs)/\zy H xs ts/\Z2 ts=some c/\Q (.int c.sum) H):=by
 intro i s C H vs B Q I d h;obtain⟨l,xs,ts,c,rfl,j,r,o,q⟩:=h;obtain⟨u,rfl,w⟩:=Zn d;obtain rfl:u=Value.ref l:=w;obtain⟨f,d,p,_⟩:=zL I (.inl j) r;obtain⟨g,k,v⟩:=JX r d o;have e:f.toArray=intItems g.toArray:=by rw[k];simp[intItems]
 rw[e]at p;refine sum_intListG x p λh' tk t' kp=> ?_;have y:preSum (numAt g.toArray) g.toArray.size=c.sum:=by
  rw[preSum_eq,eT (by simp),← v]
 rw[y];exact⟨.int _,H,I.kept kp,⟨t',rfl⟩,q⟩
theorem Ho (j:X.A.handled=none)(d:Gl X "sum")(g:X.mg "sum"=none)(f:jz X Y a fa)(i:mY X a:=by exact mQ rfl):Snd X Y (.Call (.Name "sum" p) [a] [] pos) (mw qh fa):=
 JT (qi j) (λv t B H Q r c q=>by
  cases r with
  | @lst l xs ts h r=>
   have q:Po Y rC B H (match Z2 ts with | some k=> .ok _ | none=> .bad) Q:=q
   split at q
   ·rename_i k e;exact⟨l,xs,ts,k,rfl,h,r,e,mV c q rfl (.int _)⟩
   ·exact q.elim
  | _=>exact q.elim) d g boot_sum f i
end
section
variable {X:Cx}{Y:Fx}{tg iter elt:Expr}{ifs:List Expr}{scope:Scope}{pos pos' :Pos}{N' :List Str}{k:Nat}{js:List Nat}{fi:En->R (List T)}{tG:TG}{g:T->En->R En}{ft:En->R Bool}{fe:En->R T}
theorem E7 (C:Jq X Y tg iter elt ifs scope N' k js fi tG g ft fe):Wd X Y (.Return (some (.ListComp elt [⟨tg,iter,ifs,0⟩] scope pos)) pos') (Aa fi g ft fe k js):= .mk λρ=>by
 have pe:PE X (.ListComp elt [⟨tg,iter,ifs,0⟩] scope pos) (λa H Q=>∃B,SI Y B (frz ρ) a H/\PoS Y B ((fi (frz ρ)).s λts=>(zq g ft fe k js (frz ρ) ts).s λvs=> .rf vs) { nx:=λ_ _=>False,rt:=Q }):=by
  intro i s a H Q I ⟨B,J,q⟩;refine JB (ju rfl) (F:=λD v =>Q (.ref D) v) (te:=λa H Q=>∃d ρ',d.cl=Y.cl/\(d.E=λ_ _ _=>False)/\tS d rC fe ρ' a H Q) (tt:=λa H Q=>∃d ρ',d.cl=Y.cl/\tS d rE ft ρ' a H Q) C.sc C.cp C.cm (C.it (frz ρ)) C.gt
   (λcl p M H3 fp i l s a H Q I ⟨d,ρ',G,q⟩=>C.tt d G cl p M H3 fp _ ρ' _ s a H Q I q) (λcl p M H3 fp i xe hp l s a H Q I ⟨d,ρ',G,P,q⟩=>C.el d G cl p M H3 fp _ xe (P ▸ hp) ρ' _ s a H Q I q) I ?_ ?_ C.hs
  ·refine Je J q λts it' H1 _ s1 r1 r f=> ?_;intro D O;unfold zq at f;split at f
   ·rename_i S;cases w:zx g ft fe ts _ with
    | bad=>rw[w]at f;exact f.elim
    | ex c=>rw[w]at f;exact f.elim
    | ok vs=>
     rw[w]at f;refine jY C.gk C.gn r r1 S w O λv xs B' N Z r' l' b' sb' => ?_;exact(show PoS Y _ _ _ from f) D xs v B' (r.sH.trans N) (r.sH.free O) Z r' b' (l'.trans (Ur r.sH r.old N r.sB))
   ·exact f.elim
  ·intro D Cc v N I' q' hC h0 hL j u y;obtain⟨m,hm⟩:=y;refine⟨m,hm,λh' x=>⟨.ref D,v, ?_,rfl,q'⟩⟩;exact I'.turned (λb o U e=>x.extBut b o U e) hC (bj hL).symm (.inr h0) j u
 refine PS.imp (wL pe) λD a H ⟨B,I,q⟩=>⟨_,I.frz, ?_⟩;have q:=PoS.up I.up q;unfold Aa at q;revert q;cases fi _ with
 | bad=>exact λq=>q
 | ex c=>exact λq=>q
 | ok ts=>
  show PoS Y _ ((zq g ft fe k js _ ts).s λvs=> .rf vs) D->PoS Y _ ((zq g ft fe k js _ ts).s λvs=> .rf vs) _;cases zq g ft fe k js _ ts with
  | bad=>exact λq=>q
  | ex c=>exact λq=>q
  | ok vs=>exact λq=>q
end
end PV
namespace PySem.RV
open PySem PySem.Spec PyProof.Rows PySem.Builtin.SmallTypes
theorem Uz:Manifest.owners.lookup (String.ofList "desrever".toList.reverse)=some Manifest.sig_reversed:=by kernel_rfl
theorem je:Slot "reversed" "__next__" "reversed.__next__":=
 .of (owner:="reversed") (n:="__next__") (by kernel_rfl) (by decide+kernel) (by decide+kernel) (by decide+kernel)
  (by first | exact .inl (by decide+kernel) | exact .inr (by decide+kernel)) (by kernel_rfl)
theorem wR:entryFor table "reversed.__next__"=some Builtin.«reversed.__next__»:=entryFor_of_tree (by kernel_rfl)
theorem ue (a:Value):argsOk "reversed.__next__" ⟨[a],[]⟩:=by
 unfold argsOk;rw[signature?_of (n:="__txen__".toList) (by kernel_rfl) Uz];kernel_rfl
theorem uf:Slot "reversed" "__iter__" "reversed.__iter__":=
 .of (owner:="reversed") (n:="__iter__") (by kernel_rfl) (by decide+kernel) (by decide+kernel) (by decide+kernel)
  (by first | exact .inl (by decide+kernel) | exact .inr (by decide+kernel)) (by kernel_rfl)
theorem qj (a:Value):argsOk "reversed.__iter__" ⟨[a],[]⟩:=by
 unfold argsOk;rw[signature?_of (n:="__reti__".toList) (by kernel_rfl) Uz];kernel_rfl
theorem yH:entryFor table "reversed.__iter__"=some Builtin.«dict_keyiterator.__iter__»:=
 entryFor_alias (id' :="dict_keyiterator.__iter__") (by kernel_rfl) (by first | rfl | decide+kernel | (unfold String.splitOn;simp+decide [String.splitOnAux])) (by decide+kernel) (by kernel_rfl)
theorem HS:typeLookup (.type "tuple") "__reversed__"=pure none:=by rw[typeLookup_type,builtinLookup_eq_fast];kernel_rfl
theorem Ha:isSubtype (.type "tuple") (.type "dict")=pure false:=by rw[isSubtype_type];kernel_rfl
noncomputable abbrev IsRv (h:Heap)(it:Addr)(v:Value)(i:Int):Prop:=h.get? it=some { cls:= .type "reversed",data:= .fields #[v,rawInt i] }
section
variable {prog:Program}{w:World}{A:Around}{E:Value->Shared->Prop}{s:Shared}{it l:Addr}{xs:Array Value}
theorem uZ {v:Value}{i:Int}(x:IsRv s.heap it v i):s.TypeIs (.ref it) "reversed":=⟨_,x,rfl⟩
theorem next_item {i:Nat}{x:Value}{Q:Option Value->Shared->Prop}(a:IsRv s.heap it (.ref l) (i:Int))(d:IsTup s.heap l xs)(k:(xs.size:Int) < 2 ^ 63)(c:xs[i]? =some x)
  (f:∀h' tk,IsRv h' it (.ref l) ((i:Int) - 1)->bc it s.heap h' ->Q (some x) { s with heap:=h',toks:=tk }):wpAny (model prog w) A (pyNext (.ref it)) Q E s:=by
 refine a8 (cy (aX (uZ a) je (aM je (uZ a) wR ?_ (ue _))));refine a8 (c9 rfl ?_);refine a8 (ba a rfl rfl ?_);refine a8 (ba a rfl rfl ?_);have hi:=(Array.getElem?_eq_some_iff.mp c).1;have hT:=d.typeIs;refine a8 (c7 hT slot_tuple_getitem.lookup ?_);refine a8 (wpAny_mkInt ?_);refine a8 (cy (getItem_tuple d (by omega) (by omega) (seqIndex_of (by omega) (by omega)) (by simpa using c) ?_))
 refine a8 (ba a rfl rfl ?_);refine a8 (bb a (by simp) λe g j=> ?_)
 exact ac ⟨x,rfl,ac (f e _ g j)⟩
theorem next_end {Q:Option Value->Shared->Prop}(d:A.handled=none)(a:IsRv s.heap it (.ref l) (-1))
  (c:∀h',fM it s.heap h' ->Q none { s with heap:=h' }):wpAny (model prog w) A (pyNext (.ref it)) Q E s:=by
 refine a8 (cy (aX (uZ a) je (aM je (uZ a) wR ?_ (ue _))));refine a8 (c9 rfl ?_);refine a8 (ba a rfl rfl ?_);refine a8 (ba a rfl rfl ?_);refine a8 (du ?_);refine a8 (show wpAny _ _ _ _ _ _ from ?_);refine a8 (bb a (by simp) λj f i=> ?_)
 refine bb f (by simp) λk o g=> ?_
 refine a8 (show wpAny _ _ (newExc _ [] >>= λe=>raiseNew e) _ _ _ from ?_);refine a8 ?_;refine a8 (aO (a8 (c9 (by first | rfl | (simp only[firstArgMember])) (aO ?_ (by size_fits)))) (by size_fits))
 refine a8 (wpAny_handled ?_);rw[d];refine a8 (ac (wpAny_throw ?_));refine a8 (cA ⟨_,af _ rfl,rfl⟩ isSubtype_stop ?_);exact ac (c _ (((i.extBut.trans g.extBut).push _).push _))
theorem iter_rv {v:Value}{i:Int}{Q:Value->Shared->Prop}(a:IsRv s.heap it v i)(h:Q (.ref it) s):wpAny (model prog w) A (pyIter (.ref it)) Q E s:=by
 refine wpAny_pyIter_slot (uZ a) uf (aM uf (uZ a) yH ?_ (qj _));exact ac ⟨_,rfl,"reversed",_,uZ a,je.lookup,h⟩
theorem Xe:mroOf (.type "reversed")=pure [.type "reversed",.type "object"]:=by rw[mroOf_type];kernel_rfl
theorem IL:typeLookup (.type "reversed") "__new__"=pure (some (.builtin "reversed.__new__")):=by kernel_rfl
theorem Kl:Bind.madeBy (.type "reversed")=pure (some "reversed.__new__"):=madeBy_type Xe IL (by decide+kernel)
theorem Lh:isSubtype (.type "reversed") (.type "reversed")=pure true:=by rw[isSubtype_type];kernel_rfl
theorem IA (a:Value):newClass "reversed" ⟨[.type "reversed",a],[]⟩=pure (.type "reversed",[a]):=by
 unfold newClass;simp only[isType,Lh,pure_bind,eD,aI,if_false]
theorem qk:entryFor table "reversed.__new__"=some Builtin.«reversed.__new__»:=entryFor_of_tree (by kernel_rfl)
theorem VA {Q:Fin->Shared->Prop}(a:IsTup s.heap l xs)(c:(xs.size:Int) < 2 ^ 63)
  (h:∀tk,Q (.done (.ret (.ref s.heap.objs.size))) { s with heap:=s.heap.push { cls:= .type "reversed",data:= .fields #[.ref l,rawInt ((xs.size:Int) - 1)] },toks:=tk }):
  wpAny (model prog w) A (Builtin.«reversed.__new__» ⟨[.type "reversed",.ref l],[]⟩) Q E s:=by
 have hT:=a.typeIs;refine a8 (c9 (IA _) ?_);refine a8 (c9 (by first | rfl | kernel_rfl) ?_)
 refine a8 (c9 (by first | rfl | kernel_rfl) ?_)
 refine a8 (c7 hT HS ?_);refine a8 ?_;refine a8 (cA hT Ha ?_);refine a8 (c7 hT slot_tuple_getitem.lookup ?_);refine ac ?_;refine a8 (len_tuple a c ?_);refine a8 (c9 rfl ?_);refine a8 (show wpAny _ _ (newObj _ (.fields #[.ref l,rawInt _])) _ _ _ from ?_);exact aO (ac (h _)) (by size_fits)
theorem qm:Slot "reversed" "__init__" "object.__init__":=
 .of (owner:="object") (n:="__init__") (by kernel_rfl) (by decide+kernel) (by decide+kernel) (by decide+kernel)
  (by first | exact .inl (by decide+kernel) | exact .inr (by decide+kernel)) (by kernel_rfl)
theorem qo:TypeCalled "reversed" "reversed.__new__" "object.__init__":=
 ⟨by decide+kernel,by decide+kernel,⟨_,_,Xe⟩,Kl,by decide+kernel,by kernel_rfl,qm⟩
theorem VB (a:Value):checkTypeCall "reversed" ⟨[a],[]⟩=pure ():=by kernel_rfl
theorem VC (a:Value):checkBuiltinCall "reversed.__new__" ⟨[.type "reversed",a],[]⟩=pure ():=by kernel_rfl
theorem call_rvT (a:IsTup s.heap l xs)(e:(xs.size:Int) < 2 ^ 63)
  (h:∀tk,Q (.ref s.heap.objs.size) { s with heap:=s.heap.push { cls:= .type "reversed",data:= .fields #[.ref l,rawInt ((xs.size:Int) - 1)] },toks:=tk }):wpAny (model prog w) A (call (.type "reversed") [.ref l]) Q E s:=by
 refine callType_new (S:=λ_ R s=>(∃xs,IsTup s.heap l xs/\(xs.size:Int) < 2 ^ 63/\∀tk,R (.ok (.ret (.ref s.heap.objs.size))) { s with heap:=s.heap.push { cls:= .type "reversed",data:= .fields #[.ref l,rawInt ((xs.size) - 1)] },toks:=tk })) qo (by decide) (VB _) (VC _) (λobj=>PySem.F.args_object_init_2 obj _) qk (.of_wp λprog w A R s h=> ?_) ⟨xs,a,e,λtk=> ?_⟩
 ·obtain⟨xs,d,c,f⟩:=h;exact VA d c λtk=>⟨_,rfl,f tk⟩
 ·exact⟨⟨_,af _ rfl,rfl⟩,h tk⟩
end
end PySem.RV
namespace PySem.RV
open PySem PySem.Spec PyProof.Rows
theorem VD:typeLookup (.type "list_reverseiterator") "__len__"=pure none:=by rw[typeLookup_type,builtinLookup_eq_fast];kernel_rfl
theorem Km:typeLookup (.type "list_reverseiterator") "__length_hint__"=pure (some (.builtin "list_reverseiterator.__length_hint__")):=by rw[typeLookup_type];kernel_rfl
section
variable {G:Array GenState->Array GenState->Prop}{P:Nat->Value->Prop}{St:Nat->Shared->Prop}
theorem yI {Q:List Value->Shared->Prop}(W:WalksS prog w A.in1 I fp wr G n P St)(hT:∀i s,St i s->s.TypeIs (.ref I) "list_reverseiterator")(g:St 0 s)(j:∀b∈fp,b < s.heap.objs.size)(r:I∈fp)
  (x:∀d acc,Moved wr G s d ->ItemsOf P acc n->Q acc.toList d) (hn:n<=sizeLine):wpAny (model prog w) A (collect (.ref I)) Q E s:=by
 have p:=λz=>bE _ (j _ z);have y:s.heap.objs.size ≠ I:=λz=>p (z ▸ r);unfold collect;refine a8 (wpAny_runValue (bQ F.entry_proto_collect ?_));refine a8 (aO (ac ⟨cf F.plain_list_iadd _,bQ F.entry_list_iadd ?_⟩));have a:=W.frame 0 s (s.heap.push { cls:= .type "list",data:= .seq ([]:List _).toArray }) _ g (am _) λb _ o e=>ab _ e;have q:(s.heap.push { cls:= .type "list",data:= .seq ([]:List _).toArray }).get? _=some _:=af _ rfl;have u:il (.ref s.heap.objs.size) (.ref I)=false:=by simp[il,y]
 refine(show wpAny _ _ (Builtin.List.listExtendWith _ _ _) _ _ _ from ?_);refine a8 (dS (hT 0 _ a) ?_);rw[if_neg (by rw[u];decide)]
 refine a8 (W.self 0 _ _ _ a (a8 (bp ?_)));refine a8 (c7 (hT 0 _ a) VD ?_);refine a8 (c7 (hT 0 _ a) Km ?_);generalize f:("list_reverseiterator.__length_hint__")=id0;subst f;refine a8 (cA (b:=true) (hT 0 _ a) (by kernel_rfl) ?_)
 refine ac ?_;refine ac ⟨cf F.plain_extend_loop _,codeAny_extend_loopS W hn _ p _ n 0 _ _ _ rfl (bf _) a q (ItemsOf.nil P) λd l B v k c=> ?_⟩;exact a8 (wpAny_load k (ac (x d _ (Moved.drop_new v (am _)) c)))
theorem LB (W:WalksS prog w A.in1.in1 I fp wr G n P St)(hT:∀i s,St i s->s.TypeIs (.ref I) "list_reverseiterator")(d:St 0 s)(g:∀b∈fp,b < s.heap.objs.size)(k:I∈fp)
  (h:∀c acc,Moved wr G s c ->ItemsOf P acc n->Q₁ (.ref c.heap.objs.size) { c with heap:=c.heap.push { cls:= .type "tuple",data:= .seq acc } }) (hsz:n<=sizeLine):
  codeAny (model prog w) A (.call (.builtin "tuple.__new__") ⟨[.type "tuple",.ref I],[]⟩) (wants Q₁ E) s:=by
 refine codeAny_of_tree ?_;refine(show wpAny _ A.in1 (do checkBuiltinCall "tuple.__new__" ⟨[.type "tuple",.ref I],[]⟩;again (.builtin "tuple.__new__" ⟨[.type "tuple",.ref I],[]⟩)) _ _ s from ?_)
 refine a8 (c9 (F.newCall_tuple_1 _) (ac ⟨cf lO _,bQ F.entry_tuple_new ?_⟩));rw[dP lO _];have j:=sub_tuple_self;have f:=init_tuple_lookup;have l:=madeHere_tuple;have o:=hT 0 s d
 wp_walk using dS o,yI (hn:=hsz) W hT d g k
 intro c acc p a;have e:acc.toList.toArray=acc:=by simp
 refine(show wpAny _ _ (im acc.toList.toArray >>= λv=>ret v) _ _ _ from ?_);unfold im;refine a8 (aO (ac ?_) (by rw[e];show acc.size<=sizeLine;rw[a.1];exact hsz))
 rw[e];exact h c acc p a
theorem tuple_lr (W:WalksS prog w A.in1.in1.in1 I fp wr G n P St)(hT:∀i s,St i s->s.TypeIs (.ref I) "list_reverseiterator")(e:St 0 s)(f:∀b∈fp,b < s.heap.objs.size)(g:I∈fp)
  (k:∀c acc,Moved wr G s c ->ItemsOf P acc n->Q (.ref c.heap.objs.size) { c with heap:=c.heap.push { cls:= .type "tuple",data:= .seq acc } }) (hsz:n<=sizeLine):
  wpAny (model prog w) A (call (.type "tuple") [.ref I]) Q E s:=
 callType_codes (Q₁:=λobj a=>a.TypeIs obj _/\Q obj _) iX (F.typeCall_tuple_1 _) F.entry_object_init
  (LB (hsz:=hsz) W hT e f g λc acc j d=>⟨⟨_,af _ rfl,rfl⟩,k c acc j d⟩) λobj a h₁=>
   ⟨h₁.1,iY obj _,object_init_meets iX.init.lookup iX.made (by decide) _ w _ _ _ ⟨h₁.1,rfl,h₁.2⟩⟩
end
end PySem.RV
namespace PV
open PySem PySem.Spec PyProof.Rows L2
def DF (K:ai)(a:Addr)(n:Nat):It:=
 ⟨λi H=>∃xs x,SqT K H a xs/\xs.length=n/\xs.reverse[i]? =some x,λi H x c =>c =H/\∀xs,SqT K H a xs->xs.reverse[i]? =some x,λi H=>∃xs,SqT K H a xs/\xs.length=n/\n<=i⟩
def DJ (K:ai)(a:Addr)(n:Nat):It:=
 ⟨λi H=>∃xs x,SqL K H a xs/\xs.length=n/\xs.reverse[i]? =some x,λi H x c =>c =H/\∀xs,SqL K H a xs->xs.reverse[i]? =some x,λi H=>∃xs,SqL K H a xs/\xs.length=n/\n<=i⟩
theorem Xf {a:Type}{xs:List a}{x:a}(h:xs.reverse[i]? =some x):i < xs.length/\xs[xs.length - 1 - i]? =some x:=by
 have hi:=(ay.mp h).1;rw[cu]at hi;rw[iR hi]at h;exact⟨hi,h⟩
theorem VE {P:Program}{w:World}{K:ai}{tg:Expr}(a it:Addr)(n:Nat):yt P w K tg (DF K a n) [it] it (λi h=>i<=n/\RV.IsRv h it (.ref a) ((n:Int) - 1 - (i:Int))) where
 mem:=by simp
 obj:=λi h st b d=>by
  have e:b=it:=by simpa using d
  subst e;exact⟨_,st.2,λv z=>nomatch z⟩
 keep:=λi h h' st k=>⟨st.1,k it (by simp) _ st.2⟩
 item:=by
  intro X y N J Q i f s U H E I j st F;subst y N J;obtain⟨xs,x,M,hn,q⟩:=F;obtain⟨C,S,p,hz⟩:=I.tuple M;obtain⟨hi,G⟩:=Xf q;obtain⟨u,hu,ru⟩:=S.get G;obtain⟨O,l,Z,r,B,D⟩:=j it (by simp)
  have hl:=S.length;have e:(n:Int) - 1 - (i:Int)=((xs.length - 1 - i:Nat):Int):=by omega
  have c:=st.2;rw[e]at c;have d:(C.toArray.size:Int) < 2 ^ 63:=by
   rw[bY]at hz;simp;omega
  refine RV.next_item c p d (x:=u) (by simpa using hu) λh' tk g sb=> ?_
  have I1:Inv X f U H { s with heap:=h',toks:=tk }:=I.turned (t' :=tk) (λb o d e=>(sb.2 b d).trans e) O l r B D;have e2:((xs.length - 1 - i:Nat):Int) - 1=(n:Int) - 1 - ((i+1:Nat):Int):=by omega
  rw[e2]at g;exact⟨u,rfl,yu (s:={ s with heap:=h',toks:=tk }) g rfl rfl (by decide) ⟨x,H,I1,ru,⟨rfl,λys hy=>by rw[I.tuple_inj hy M];exact q⟩,⟨by omega,g⟩,λb d=>(j b d).1⟩⟩
 done:=by
  intro X y N J Q i f s U H E I j st F;subst y N J;obtain⟨xs,M,hn,q⟩:=F;obtain⟨O,l,Z,r,B,D⟩:=j it (by simp)
  have c:=st.2;have h1:=st.1;rw[show (n:Int) - 1 - (i:Int)= -1 by omega]at c
  exact RV.next_end (I.ok.hd Q) c λh' eb=>⟨rfl,I.turned (t' :=s.toks) (λb o d e=>eb b o d e) O l r B D⟩
 self:=λ_ _ _ _ _ st h=>RV.iter_rv st.2 h
theorem VF {P:Program}{w:World}{K:ai}{tg:Expr}(a it:Addr)(n:Nat):yt P w K tg (DJ K a n) [it] it (λi h=>i<=n/\h.IsRevIter it a ((n:Int) - 1 - (i:Int))) where
 mem:=by simp
 obj:=λi h st b j=>by
  have e:b=it:=by simpa using j
  subst e;obtain⟨o,e,c,d⟩:=st.2;exact⟨o,e,λv z=>by rw[d]at z;cases z⟩
 keep:=λi h h' st k=>⟨st.1,st.2.at λo e=>k it (by simp) o e⟩
 item:=by
  intro X C O M S i g s U H E I q st G;subst C O M;obtain⟨xs,x,N,hn,y⟩:=G;obtain⟨its,rv,p,hz⟩:=I.list N;obtain⟨hi,J⟩:=Xf y;obtain⟨u,hu,ru⟩:=rv.get J;obtain⟨Q,r,Z,B,D,F⟩:=q it (by simp)
  have e:(n:Int) - 1 - (i:Int)=((xs.length - 1 - i:Nat):Int):=by omega
  have f:=st.2;rw[e]at f;refine wpAny_pyNext_rev_item f p.isList (x:=u) (by simpa using hu) λh' l sb=> ?_
  have I1:Inv X g U H { s with heap:=h' }:=I.turned (t' :=s.toks) (λb o j e=>(sb.2 b j).trans e) Q r B D F;have e2:((xs.length - 1 - i:Nat):Int) - 1=(n:Int) - 1 - ((i+1:Nat):Int):=by omega
  rw[e2]at l;obtain⟨o,e,c,d⟩:=id l;exact⟨u,rfl,yu (s:={ s with heap:=h' }) e c d (by decide) ⟨x,H,I1,ru,⟨rfl,λys hy=>by rw[I.list_inj hy N];exact y⟩,⟨by omega,l⟩,λb j=>(q b j).1⟩⟩
 done:=by
  intro X C O M S i g s U H E I q st G;subst C O M;obtain⟨xs,N,hn,y⟩:=G;obtain⟨Q,r,Z,B,D,F⟩:=q it (by simp)
  have f:=st.2;have h1:=st.1;rw[show (n:Int) - 1 - (i:Int)= -1 by omega]at f
  exact wpAny_pyNext_rev_end (I.ok.hd S) f λh' eb=>⟨rfl,I.turned (t' :=s.toks) (λb o j e=>eb b o j e) Q r B D F⟩
 self:=λ_ _ _ _ _ st h=>wpAny_pyIter_revIter st.2 h
theorem zy.rev {H:Hp}:∀{vs:List V} {ts:List T},zy H vs ts->zy H vs.reverse ts.reverse
 | _,_,.nil=> .nil
 | _,_,.cons r t=>by rw[cR,cR];exact(zy.rev t).append (.cons r .nil)
theorem FX {K:ai}{d l:Hp}{a:Addr}{xs:List V}{ts:List T}(h:d a=some (.tup xs))(r:zy d xs ts):rI d l (DF K a xs.length) ts.reverse:=λo p g f=>by
 have c:=f _ _ (g _ _ h);have hr:=r.rev;refine⟨λi hi=> ?_,λi t x H3 e y=> ?_,λi hi=>⟨xs,SqT.of c,rfl,by rw[cu]at hi;rw[r.length];exact hi⟩⟩
 ·obtain⟨v,e,_⟩:=hr.get (ah hi);exact⟨xs,v,SqT.of c,rfl,e⟩
 ·obtain⟨rfl,y⟩:=y;obtain⟨v,j,k⟩:=hr.get e;have:=y xs (SqT.of c);rw[j]at this;cases this;refine⟨zo.refl _, ?_⟩;rw[zF.self o _ f];exact k.mono g
theorem IH {K:ai}{d l:Hp}{a:Addr}{xs:List V}{ts:List T}(h:d a=some (.lst xs))(r:zy d xs ts):rI d l (DJ K a xs.length) ts.reverse:=λo p g f=>by
 have c:=f _ _ (g _ _ h);have hr:=r.rev;refine⟨λi hi=> ?_,λi t x H3 e y=> ?_,λi hi=>⟨xs,SqL.of c,rfl,by rw[cu]at hi;rw[r.length];exact hi⟩⟩
 ·obtain⟨v,e,_⟩:=hr.get (ah hi);exact⟨xs,v,SqL.of c,rfl,e⟩
 ·obtain⟨rfl,y⟩:=y;obtain⟨v,j,k⟩:=hr.get e;have:=y xs (SqL.of c);rw[j]at this;cases this;refine⟨zo.refl _, ?_⟩;rw[zF.self o _ f];exact k.mono g
def BI (a:En->R T):En->R (List T):=λρ=>(a ρ).bind λt=>(jN t).bind λxs=> .ok xs.reverse
def VG:T->R T
 | .lst xs=>if xs.length<=mF then .ok (.tup xs.reverse) else .bad
 | _=> .bad
section
variable {X:Cx}{Y:Fx}{a b tg:Expr}{fa fb:En->R T}{pos p p' pos' :Pos}
theorem Mh {w:TA}(C:Gl X "reversed")(G:X.mg "reversed"=none)(D:PA X [a] w)(F:mY X a:=by exact mQ rfl):
  PI X tg (.Call (.Name "reversed" p) [a] [] pos) (λk H R=>w k H λvs c=>∃l xs,vs=[.ref l]/\((c l=some (.lst xs)/\R (DJ X.K l xs.length) c)\/(c l=some (.tup xs)/\R (DF X.K l xs.length) c))):=by
 intro r s k H R I h;refine Call_ (j5 I C G boot_reversed (a_ (mH (D pos _ s k H _ I h) λM g ⟨vs,c,f,x,y⟩=> ?_) F rfl));obtain⟨l,xs,e,q⟩:=y;subst e;obtain⟨u,rfl,J⟩:=Zn x;obtain rfl:u=Value.ref l:=J;have ok:∀b∈[g.heap.objs.size],wC X _ c b:=λb B=>by
  have e:=by simpa using B
  subst e;exact f.fpOk (am _) (f.hok.fresh (am _))
 rcases q with ⟨j,q⟩ | ⟨j,q⟩
 ·obtain⟨d,i,p,hz⟩:=f.list (SqL.of j);have e:((d.toArray.size):Int) - 1=(xs.length) - 1 - ((0):Int):=by have:=i.length;simp;omega
  refine call_reversed_list p.isList ?_;rw[e];have st:(g.heap.push (revObj l ((xs.length) - 1 - ((0):Int)))).IsRevIter _ l _:=⟨_,af _ rfl,rfl,rfl⟩;refine wpAny_pyIter_revIter st ?_;exact⟨g.heap.objs.size,[g.heap.objs.size],_,_,c,rfl,f.kept (λb o e=>ab _ e),VF l _ _,⟨bf _,st⟩,ok,q⟩
 ·obtain⟨d,i,p,hz⟩:=f.tuple (SqT.of j);have v:=i.length;have e:((d.toArray.size):Int) - 1=(xs.length) - 1 - ((0):Int):=by simp;omega
  refine RV.call_rvT p (by rw[bY]at hz;omega) λtk=> ?_
  rw[e];refine RV.iter_rv (af _ rfl) ?_;exact⟨g.heap.objs.size,[g.heap.objs.size],_,_,c,rfl,f.kept (λb o e=>ab _ e),VE l _ _,⟨bf _,af _ rfl⟩,ok,q⟩
theorem Hb (g:Gl X "reversed")(k:X.mg "reversed"=none)(i:Snd X Y a fa)(e:mY X a:=by exact mQ rfl):uP X Y tg (.Call (.Name "reversed" p) [a] [] pos) (BI fa):= .mk λρ=>
 PI.imp (Mh g k (zm (i ρ) zH e) e) λo H R ⟨B,I,q⟩=>step I q λt v f _ u j c d=>by
  cases j with
  | @tup l xs ts h r=>exact⟨l,xs,rfl,.inr ⟨c.sB _ _ h,ZN c (show Po Y rI _ f _ R from d) (FX h r)⟩⟩
  | @lst l xs ts h r=>exact⟨l,xs,rfl,.inl ⟨c.sB _ _ h,ZN c (show Po Y rI _ f _ R from d) (IH h r)⟩⟩
  | _=>exact d.elim
theorem UA:∀{xs c:List V} {d e:List Value},Vals xs d->Vals c e->Vals (xs++c) (d++e)
 | _,_,_,_,.nil,q=>q
 | _,_,_,_,.cons r t,q=> .cons r (UA t q)
theorem UB:∀{xs:List V} {c:List Value},Vals xs c->Vals xs.reverse c.reverse
 | _,_,.nil=> .nil
 | _,_,.cons r t=>by rw[cR,cR];exact UA (UB t) (.cons r .nil)
theorem Kn {c:List Value}{acc:Array Value}(h:ItemsOf (λi v=>c.toArray[c.toArray.size - 1 - i]? =some v) acc c.toArray.size):acc.toList=c.reverse:=by
 have g:=by
  have:=h.1;simpa using this
 have f:=h.2;refine dL λi=> ?_
 by_cases hi:i < c.length
 ·have d:i < acc.toList.length:=by simp;omega
  have e:=ah d;have:=f i _ (by rw[← dH];exact e)
  rw[iR hi,e,← this];simp
 ·rw[aP (by simp;omega),aP (by simp;omega)]
theorem IX (hh:X.A.handled=none)(gl:Gl X "tuple")(mg:X.mg "tuple"=none)(O :Gl X "reversed")(N :X.mg "reversed"=none)(ha:Snd X Y a fa)(hs:mY X a:=by exact mQ rfl)(F :mY X (.Call (.Name "reversed" p') [a] [] pos'):=by exact mQ rfl):
  Snd X Y (.Call (.Name "tuple" p) [.Call (.Name "reversed" p') [a] [] pos'] [] pos) (mw VG fa):= .mk λρ=>by
 intro C s σ H Q I ⟨B,J,q⟩;have hq:tS Y rC fa ρ σ H (λv d=>∃l xs,v= .ref l/\d l=some (.lst xs)/\xs.length<=sizeLine/\∀t,d t=none->Q (.ref t) (mz d t (.tup xs.reverse))):=by
  refine step J q λt v d _ k D w g=> ?_;cases D with
  | @lst l xs ts h r=>
   have g:Po Y rC _ d (if ts.length<=mF then .ok (.tup ts.reverse) else .bad) Q:=g
   split at g
   ·rename_i y;exact⟨l,xs,rfl,w.sB _ _ h,by rw[r.length];exact ZF y,λt ht=>GU w.sB g rfl r.rev ht⟩
   ·exact g.elim
  | _=>exact g.elim
 refine cB (j5 I gl mg PyProof.Rows.Boot.«tuple» (a_ (rest:=[]) ?_ F rfl));rw[F];refine lm (cB (j5 I O N boot_reversed (a_ (e:=a) (rest:=[]) ?_ hs rfl)));refine mH ((zm (ha ρ) zH hs) pos' C s σ H (λvs d=>∃l xs,vs=[.ref l]/\d l=some (.lst xs)/\xs.length<=sizeLine/\∀t,d t=none->Q (.ref t) (mz d t (.tup xs.reverse))) I ?_) λus k ⟨vs,d,w,D,l,xs,e,Z,hz,g⟩=> ?_
 ·obtain⟨B',J',j⟩:=hq;refine⟨B',J', ?_⟩;revert j;cases fa ρ with
  | bad=>exact λj =>j
  | ex c=>exact λj =>j
  | ok t=>
   intro j v d k D;obtain⟨l,xs,rfl,h⟩:=j v d k D;exact⟨l,xs,rfl,h⟩
 subst e;obtain⟨u,rfl,ru⟩:=Zn D;obtain rfl:u=Value.ref l:=ru;obtain⟨f,U,pl,_⟩:=w.list (SqL.of Z);have G:=w.hok.lt Z;refine call_reversed_list pl.isList (lI ?_);have e0:((f.toArray.size):Int) - 1 - ((0:Nat))=((f.toArray.size):Int) - 1:=by omega
 refine RV.tuple_lr (Walks.listRev (A:=X.A.in1.in1.in1) hh _ l (aF G) _).toS (λi s st=>st.2.1.typeIs) ⟨bf _,⟨_,af _ rfl,rfl,by rw[e0];rfl⟩,pl.isList.push _⟩ (λb y=> ?_) (by simp) (λs' acc M x=> ?_) (by rw[aD,← U.length];exact hz)
 ·have y:=by simpa using y
  rcases y with rfl | rfl
  ·rw[ci];exact fA _
  ·rw[ci];exact cQ G
 obtain⟨h',g',d',P,os'⟩:=s';have e1:g' =k.gens:=M.gens;have e2:d' =k.drawn:=M.drawn;have e3:=M.os;subst e1 e2 e3;have kp:∀b o,k.heap.get? b=some o->h'.get? b=some o:=λb o e=>M.heap b o (λz=>by
  have z:b=k.heap.objs.size:=by simpa using z
  have:=au e;rw[z]at this;exact bE _ this) (ab _ e)
 have S:=w.kept (t' :=P) kp;have ea:acc=f.reverse.toArray:=by rw[← Kn x]
 rw[ea];refine⟨.ref h'.objs.size,mz d _ (.tup xs.reverse),S.laid (λb u e=>ab _ e) (am _) ⟨by rw[cu];exact hz,f.reverse,UB U,⟨_,af _ rfl,rfl,_,rfl⟩,.inr ⟨_,af _ rfl,rfl⟩⟩,rfl,g _ (S.hok.fresh (am _))⟩
end
noncomputable def wI:List T->Option Bool
 | []=>some false
 | .bl k :: r=>match wI r with | some j=>some (k || j) | none=>none
 | _ :: _=>none
def BK:T->R T
 | .lst ts=>match wI ts with | some k=> .ok (.bl k) | none=> .bad
 | _=> .bad
theorem qp:∀{H:Hp} {xs:List V} {ts:List T} {a:List Value} {k:Bool},zy H xs ts->Vals xs a->wI ts=some k->∃tr:Nat->Bool,(∀i v,a[i]? =some v->v=Value.bool (tr i))/\(aN a.length).any tr=k
 | _,_,_,_,k,.nil,.nil,h=>by
  have h' :=h;cases h';exact⟨λ_=>true,λi v e=>by simp at e,rfl⟩
 | H,_,_,_,k,.cons r rs,.cons (b:=u) rv vs,h=>by
  cases r with
  | bl b=>
   unfold wI at h;split at h
   ·rename_i j e;cases h;obtain⟨tr,d,c⟩:=qp rs vs e;obtain rfl:u=Value.bool b:=rv;refine⟨λi=>match i with | 0=>b | i+1=>tr i,λi v e=> ?_, ?_⟩
    ·cases i with
     | zero=>simp at e;exact e.symm
     | succ i=>exact d i v (by simpa using e)
    ·rw[aw,dq,ib,List.any_map,← c];rfl
   ·cases h
  | _=>cases h
section
variable {X:Cx}{Y:Fx}{a b:Expr}{fa fb:En->R T}{pos p p' pos' pt:Pos}{elts:List Expr}{kk:Nat}
theorem qr (D:X.A.handled=none):Z7 X (.builtin "any") (λvs H Q=>∃l xs ts k,vs=[.ref l]/\H l=some (.lst xs)/\zy H xs ts/\wI ts=some k/\Q (.bl k) H):=by
 intro w s N H vs M Q I c h;obtain⟨l,xs,ts,k,rfl,j,r,y,q⟩:=h;obtain⟨u,rfl,C⟩:=Zn c;obtain rfl:u=Value.ref l:=C;obtain⟨d,c,p,_⟩:=zL I (.inl j) r;obtain⟨tr,x,B⟩:=qp r c y;refine call_any_walk (ck p ?_);have g:=I.hok.lt j;have old:∀b o,s.heap.get? b=some o->(s.heap.push { cls:= .type "list_iterator",data:= .fields #[.ref l,.int 0 0] }).get? b=some o:=λb o e=>ab _ e;refine⟨s.heap.objs.size,_,_,_,_,_,tr,rfl,hW (A:=X.A.in1) D _ l (aF g) d.toArray, ?_, ?_,λh' tk f => ?_⟩
 ·refine⟨?_,p.at λo e=>old _ o e⟩;exact⟨_,af _ rfl,rfl,rfl⟩
 ·intro i v O G J hi F;rw[x i v (by simpa using hi)]
  exact bh F
 ·rw[aD,B];refine⟨.bl k,H,I.kept (λb o e=>f b o ?_ (old b o e)),rfl,q⟩;simp;exact aF (au e)
theorem Ia (j:X.A.handled=none)(d:Gl X "any")(g:X.mg "any"=none)(f:jz X Y a fa)(i:mY X a:=by exact mQ rfl):Snd X Y (.Call (.Name "any" p) [a] [] pos) (mw BK fa):=
 JT (qr j) (λv t B H Q r c q=>by
  cases r with
  | @lst l xs ts h r=>
   have q:Po Y rC B H (match wI ts with | some k=> .ok _ | none=> .bad) Q:=q
   split at q
   ·rename_i k e;exact⟨l,xs,ts,k,rfl,h,r,e,mV c q rfl (.bl k)⟩
   ·exact q.elim
  | _=>exact q.elim) d g PyProof.Rows.Boot.«any» f i
end
noncomputable def UC (x:Int):List Int->List Int
 | []=>[x]
 | y :: a=>if x<=y then x :: y :: a else y :: UC x a
def qt:List Int->List Int
 | []=>[]
 | x :: xs=>UC x (qt xs)
def VH:T->R T
 | .lst ts=>match Z2 ts with | some l=>if ts.length < 64 then .ok (.lst ((qt l).map T.int)) else .bad | none=> .bad
 | _=> .bad
theorem JY (x:Int):∀a:List Int,(UC x a).Perm (x :: a)
 | []=> .refl _
 | y :: a=>by
  unfold UC;split
  ·exact .refl _
  ·exact((JY x a).cons y).trans (.swap x y a)
theorem ug:∀xs:List Int,(qt xs).Perm xs
 | []=> .refl _
 | x :: xs=>(JY x _).trans ((ug xs).cons x)
theorem JZ (x:Int):∀a:List Int,a.Pairwise (·<=·)->(UC x a).Pairwise (·<=·)
 | [],_=>by unfold UC;simp
 | y :: a,h=>by
  unfold UC;rw[dy]at h;split
  ·rename_i c;refine dy.mpr ⟨λz hz=> ?_,dy.mpr h⟩;rcases ak.mp hz with rfl | hz
   ·exact c
   ·exact eU c (h.1 z hz)
  ·refine dy.mpr ⟨λz hz=> ?_,JZ x a h.2⟩;rcases ak.mp ((JY x a).mem_iff.mp hz) with rfl | hz
   ·omega
   ·exact h.1 z hz
theorem w8:∀xs:List Int,(qt xs).Pairwise (·<=·)
 | []=> .nil
 | x :: xs=>JZ x _ (w8 xs)
theorem uh:∀(xs a:List Int),xs.Perm a->xs.Pairwise (·<=·)->a.Pairwise (·<=·)->xs=a
 | [],a,p,_,_=>(List.nil_perm.mp p).symm
 | x :: xs,[],p,_,_=>by cases List.perm_nil.mp p
 | x :: xs,y :: a,p,d,c=>by
  rw[dy]at d c;have e:x=y:=by
   have f:x<=y:=by
    rcases ak.mp (p.mem_iff.mpr (aa)) with z | z
    ·omega
    ·exact d.1 y z
   have g:y<=x:=by
    rcases ak.mp (p.mem_iff.mp (aa)) with z | z
    ·omega
    ·exact c.1 x z
   omega
  subst e;rw[uh xs a (List.Perm.cons_inv p) d.2 c.2]
theorem jT:∀{a:List Value} {c:List Int},IntsAre a c->Vals (c.map V.int) a:=by
 intro a c h
 induction h with
 | nil=>exact .nil
 | cons n t _ d=>exact .cons ⟨_,rfl⟩ d
theorem UD:∀(a:List (Int×Tok)),IntsAre (a.map λp=>Value.int p.1 p.2) (a.map (·.1))
 | []=> .nil
 | p :: a=> .cons _ _ (UD a)
theorem ui:∀a:List Int,zy H (a.map V.int) (a.map T.int)
 | []=> .nil
 | n :: a=> .cons (.int n) (ui a)
section
theorem yJ:Z7 X (.builtin "sorted") (λvs H Q=>∃l xs ts c,vs=[.ref l]/\H l=some (.lst xs)/\zy H xs ts/\Z2 ts=some c/\ts.length < 64/\∀r,H r=none->Q (.ref r) (mz H r (.lst ((qt c).map V.int)))):=by
 intro o s O H vs N Q I f h;obtain⟨l,xs,ts,c,rfl,y,r,B,C,q⟩:=h;obtain⟨u,rfl,J⟩:=Zn f;obtain rfl:u=Value.ref l:=J;obtain⟨a,f,p,v,_⟩:=zL I (.inl y) r;obtain⟨k,j,F⟩:=JX r f B;refine sorted_ints p (j ▸ UD k) (by omega) λout g M i D=> ?_
 have e:=uh _ _ (i.trans (by rw[F];exact(ug c).symm)) D (w8 c)
 obtain⟨n,x⟩:=sortedAll_at _ a out;have d:s.heap.objs.size<=s.heap.objs.size+1:=cP _;refine⟨.ref _,mz H _ _,I.laid (λb u e=>sortedAll_old e) d ?_,rfl,by have:=q _ (I.hok.fresh d);rw[← e]at this;exact this⟩
 have G:g.length=ts.length:=by
  have w:=i.length_eq;rw[ae]at w;have P:a.length=k.length:=by rw[j,ae]
  omega
 exact⟨by rw[ae,bY];omega,out.toList,n,jT M,x⟩
theorem E6 (j:Gl X "sorted")(g:X.mg "sorted"=none)(d:jz X Y a fa)(i:mY X a:=by exact mQ rfl):Snd X Y (.Call (.Name "sorted" p) [a] [] pos) (mw VH fa):=
 JT yJ (λv t B H Q r k q=>by
  cases r with
  | @lst l xs ts h r=>
   have q:Po Y rC B H (match Z2 ts with | some l=>if ts.length < 64 then .ok _ else .bad | none=> .bad) Q:=q
   split at q
   ·rename_i f e;split at q
    ·rename_i c;refine⟨l,xs,ts,f,rfl,h,r,e,c,λz hz=> ?_⟩;exact q _ _ (zo.new hz _) (.lst (jd hz _) (ui _))
    ·exact q.elim
   ·exact q.elim
  | _=>exact q.elim) j g PyProof.Rows.Boot.«sorted» d i
end
end PV
namespace PySem.RV
open PySem PySem.Spec PyProof.Rows PySem.Builtin.SmallTypes
theorem draws_tup (f:A.handled=none)(it l:Addr)(d:l ≠ it)(c:Array Value):Draws prog w A it [it,l] c.size (λi v=>c[i]? =some v) (λi h=>h.IsTupleIter it l i/\h.IsTuple l c) where
 live:=λi h st=>(ZG.nx_tup d c).there st it (.head _)
 frame:=λi h h' st g=>(ZG.nx_tup d c).keep st g
 item:=λi s Q E hi st e=>ZG.tup_item st.1 st.2 (x:=c[i]) (by simp[hi]) λh' a b=>e _ h' s.toks (by simp[hi]) ⟨a,st.2.extBut b.extBut d⟩ b
 done:=λs Q E st hE=>ZG.tup_stop f st.1 st.2 (by simp) hE
noncomputable abbrev D8 (i:Addr):Obj:={ cls:= .type "enumerate",data:= .fields #[.none,.bool false,.ref i,rawInt 0,.none,.none] }
theorem qu (l:Addr)(a:Array Value)(n:Nat)(f:Option Addr)(k:Array (Option Value)):
  Meets (Builtin.«enumerate.__new__» ⟨[.type "enumerate",.ref l],[]⟩) (λ_ R s=>s.heap.get? l=some { cls:= .type "tuple",dict:=f,data:= .seq a n,slots:=k }/\
   R (.ok (.ret (.ref (s.heap.push (ZG.oT l)).objs.size))) { s with heap:=(s.heap.push (ZG.oT l)).push (D8 s.heap.objs.size) }):=
 .of_wp λprog w A R s h=>by
  obtain⟨hp,g,d,tk,os⟩:=s;obtain⟨e,h⟩:=h;have j:=sub_enumerate;have i:lN (mh ⟨hp,g,d,tk,os⟩) l a:=⟨_,e,rfl,n,rfl⟩
  wp_walk using df e
  refine wpAny_stack_any λst=>ac ?_;split
  ·rename_i c _ _ _ _ _;cases (c == Value.type "enumerate") <;> (wp_walk using df e,cC i;exact⟨_,rfl,h⟩)
  ·wp_walk using df e,cC i
   exact⟨_,rfl,h⟩
theorem enum_callT (e:s.heap.IsTuple l items)
  (h:∀h',IsEnum h' (s.heap.objs.size+1) s.heap.objs.size 0 .none->h'.IsTupleIter s.heap.objs.size l 0->(∀b o,s.heap.get? b=some o->h'.get? b=some o)->Q (.ref (s.heap.objs.size+1)) { s with heap:=h' }):
  wpAny (model prog w) A (call (.type "enumerate") [.ref l]) Q E s:=by
 obtain⟨⟨c,a,g,i⟩,j,f,n,hd⟩:=e;obtain rfl:c= .type _:=f;obtain rfl:g= .seq _ n:=hd;refine callType_new F.called_enumerate (by decide) (F.typeCall_enumerate_1 _) (F.newCall_enumerate_1 _) (λobj=>iY obj _) F.entry_enumerate_new (qu l _ n a i) ⟨j, ?_⟩
 have hz:(s.heap.push (ZG.oT l)).objs.size=s.heap.objs.size+1:=ci ..;have d:((s.heap.push (ZG.oT l)).push (D8 s.heap.objs.size)).get? _=some _:=af _ rfl;rw[hz]at d;rw[hz];exact⟨⟨_,d,rfl⟩,h _ d ⟨_,ab _ (af _ rfl),rfl,rfl⟩ λb o x=>ab _ (ab _ x)⟩
end PySem.RV
namespace PV
open PySem PySem.Spec PyProof.Rows L2
def Cr (K:ai)(l:Addr)(n:Nat):It:=
 ⟨λi H=>∃xs x,SqT K H l xs/\xs.length=n/\xs[i]? =some x,λi H v a =>∃p x,H p=none/\v= .ref p/\(∀xs,SqT K H l xs->xs[i]? =some x)/\a =mz H p (.tup [.int i,x]),λi H=>∃xs,SqT K H l xs/\xs.length=n/\n<=i⟩
theorem yK {P:Program}{w:World}{K:ai}{q:List Expr}{kk:Nat}{pt:Pos}(e it l:Addr)(n:Nat)(N:e ≠ it)(hle:l ≠ e)(G:l ≠ it):
  yt P w K (.Tuple q kk pt) (Cr K l n) [e,it] e (λi h=>i<=n/\(∃old,IsEnum h e it i old)/\h.IsTupleIter it l i) where
 mem:=by simp
 obj:=λi h st b a=>by
  obtain⟨_,⟨old,j⟩,o,e1,c,d⟩:=st;rcases ak.mp a with rfl | a
  ·exact⟨_,j,λv z=>nomatch z⟩
  ·have z:b=it:=by simpa using a
   subst z;exact⟨o,e1,λv z=>by rw[d]at z;cases z⟩
 keep:=λi h h' st k=>by
  obtain⟨hn,⟨old,j⟩,o,e1,r⟩:=st;exact⟨hn,⟨old,k e (by simp) _ j⟩,o,k it (by simp) o e1,r⟩
 item:=by
  intro X M hw hK hc i J s σ H E I S st hg;subst M hw hK;obtain⟨xs,x,U,hxn,Q⟩:=hg;obtain⟨f,rv,p,hz⟩:=I.tuple U;obtain⟨u,hu,ru⟩:=rv.get Q;obtain⟨Z,⟨old,j⟩,C⟩:=st;have hi:i < f.toArray.size:=by
   have:=(ay.mp hu).1;simpa using this
  have D:=RV.draws_tup (prog:=X.prog) (w:=X.w) (A:=X.A.in1) (I.ok.hd hc) it l G f.toArray;have hef:e ∉ [it,l]:=λz=>by
   rcases ak.mp z with z | z
   ·exact N z
   ·exact hle (aq.mp z).symm
  have WE:=WalksT.enumerateD D e N hef (.head _);refine WE.item i s _ _ hi ⟨⟨old,j⟩,C,p⟩ λT vals h' tk M hT F hM hk=> ?_;obtain⟨t,y,hy,rfl⟩:=M;have hyu:y=u:=by
   have:f[i]? =some y:=by simpa using hy
   rw[hu]at this;exact(aH this).symm
  subst hyu;refine⟨.ref T,rfl, ?_⟩;refine WE.go q kk pt i T _ _ _ hM λh2 g O=> ?_;have hTn:H T=none:=I.hok.fresh hT;have B:∀b∈[e,it],b ≠ T:=λb a z=>by
   obtain⟨_,_,h3,h4⟩:=hM;rcases ak.mp a with rfl | a
   ·exact h3 z.symm
   ·have:b=it:=by simpa using a
    subst this;exact h4 z.symm
  have UO:IsTup h2 T #[.int i t,y]:=by
   obtain⟨o,eo,r⟩:=F;exact⟨o,O T o (λa=>B T a rfl) eo,r⟩
  refine⟨.ref T,mz H T (.tup [.int i,x]),Inv.laidT (s:=s) (h' :=h2) (ch:=[e,it]) (tk:=tk) I S (λb o a e=>O b o a (hk b o a e)) (λb o a _=> ?_) hT ⟨by rw[bY];show 2<=16777216;decide,[.int i t,y],.cons ⟨t,rfl⟩ (.cons ru .nil),UO,.inl ⟨_,_,rfl⟩⟩,rfl,⟨T,x,hTn,rfl,λys hy=>by rw[I.tuple_inj hy U];exact Q,rfl⟩,⟨by have:=(ay.mp Q).1;omega,g.1,g.2.1⟩,λb a=> ?_⟩
  ·obtain⟨⟨old2,he2⟩,⟨o2,eo2,_⟩,_⟩:=g;rcases ak.mp a with rfl | a
   ·exact⟨_,he2⟩
   ·have:b=it:=by simpa using a
    subst this;exact⟨o2,eo2⟩
  ·rw[zi (B b a)];exact(S b a).1
 done:=by
  intro X M hw hK hc i J s σ H E I S st hg;subst M hw hK;obtain⟨xs,U,hxn,Q⟩:=hg;obtain⟨f,rv,p,hz⟩:=I.tuple U;obtain⟨Z,⟨old,j⟩,C⟩:=st;have hl:=rv.length;have D:=RV.draws_tup (prog:=X.prog) (w:=X.w) (A:=X.A.in1) (I.ok.hd hc) it l G f.toArray;have hn:f.toArray.size=i:=by simp;omega
  refine wpAny_pyNext_enum_endD D j (by rw[hn];exact⟨C,p⟩) λh' hk=>⟨rfl, ?_⟩
  obtain⟨f0,f1,f2,f3,f4,f5⟩:=S it (by simp)
  exact I.turned (t' :=s.toks) (λb o a e=>hk b o a e) f0 f1 f3 f4 f5
 self:=λ_ _ _ _ _ st h=>let ⟨_,⟨_,j⟩,_⟩:=st;wpAny_pyIter_enum j h
theorem VI {K:ai}{d l:Hp}{a:Addr}{xs:List V}{ts:List T}(h:d a=some (.tup xs))(r:zy d xs ts):rI d l (Cr K a xs.length) (jM ts):=λu w g f=>by
 have c:=f _ _ (g _ _ h);rw[Jr];refine⟨λi hi=> ?_,λi t x H3 e y=> ?_,λi hi=>⟨xs,SqT.of c,rfl,by rw[r.length];exact hi⟩⟩
 ·obtain⟨v,e,_⟩:=r.get (ah hi);exact⟨xs,v,SqT.of c,rfl,e⟩
 ·obtain⟨p,v,hp,rfl,y,rfl⟩:=y;obtain⟨t',o,rfl⟩:=ud e;obtain⟨q,j,k⟩:=r.get o;have:=y xs (SqT.of c);rw[j]at this;cases this;refine⟨zo.new hp _,.tup (jd hp _) (.cons (.int _) (.cons ?_ .nil))⟩;exact(k.mono g).mono (zF.ge f (zo.new hp _))
def wa (a:En->R T):En->R (List T):=λρ=>(a ρ).bind λt=>match t with
 | .tup xs=> .ok (jM xs)
 | _=> .bad
section
theorem VJ {x:TA}(F:Gl X "enumerate")(M:X.mg "enumerate"=none)(G:PA X [a] x)(J:mY X a:=by exact mQ rfl):
  PI X (.Tuple elts kk pt) (.Call (.Name "enumerate" p) [a] [] pos) (λo H R=>x o H λvs g=>∃l xs,vs=[.ref l]/\g l=some (.tup xs)/\R (Cr X.K l xs.length) g):=by
 intro w s o H R I h;refine Call_ (j5 I F M PyProof.Rows.Boot.«enumerate» (a_ (mH (G pos _ s o H _ I h) λP d ⟨vs,g,c,y,C⟩=> ?_) J rfl));obtain⟨l,xs,e,v,q⟩:=C;subst e;obtain⟨u,rfl,N⟩:=Zn y;obtain rfl:u=Value.ref l:=N;obtain⟨B,O,pl,hz⟩:=c.tuple (SqT.of v);have i:=c.hok.lt v;refine RV.enum_callT (show d.heap.IsTuple l _ from pl) λh' r j D=>wpAny_pyIter_enum r ?_;have f:∀b∈[d.heap.objs.size+1,d.heap.objs.size],wC X _ g b:=λb k=>by
  rcases ak.mp k with rfl | k
  ·exact c.fpOk (cP _) (c.hok.fresh (cP _))
  ·have z:=by simpa using k
   subst z;exact c.fpOk (am _) (c.hok.fresh (am _))
 exact⟨d.heap.objs.size+1,[d.heap.objs.size+1,d.heap.objs.size],_,_,g,rfl,c.kept D,yK _ _ l _ (m9 _) (aF (cQ i)) (aF i),⟨bf _,⟨_,r⟩,j⟩,f,q⟩
theorem Ko (f:Gl X "enumerate")(j:X.mg "enumerate"=none)(g:Snd X Y a fa)(d:mY X a:=by exact mQ rfl):uP X Y (.Tuple elts kk pt) (.Call (.Name "enumerate" p) [a] [] pos) (wa fa):= .mk λρ=>
 PI.imp (VJ f j (zm (g ρ) zH d) d) λo H R ⟨B,I,q⟩=>step I q λt v k _ u i c e=>by
  cases i with
  | @tup l xs ts h r=>exact⟨l,xs,rfl,c.sB _ _ h,ZN c (show Po Y rI _ k _ R from e) (VI h r)⟩
  | _=>exact e.elim
end
end PV
namespace PySem.RW37
open PySem PySem.Spec PyProof.Rows L2
section
end
end PySem.RW37
namespace PV
open PySem PySem.Spec PyProof.Rows L2 PySem.RW37
section
theorem yL {D:L2.St}(I:Inv X pins D H s)(g:RelV v u)(r:Rep H v t)(hp:H tp=some (.tup xs))(G:Vals xs its)
  (B:∀d,Vals xs d ->d =its) (e:eV X.K (.type (nH t)) its=some b) (h:∀tk,Q (.bool b) { s with toks:=tk }):
  wpAny (model X.prog X.w) A (call (.builtin "isinstance") [u,.ref tp]) Q E s:=by
 obtain⟨_,d,l,⟨o,f,x,n,hd⟩,_⟩:=(show zQ _ X.w H _ tp _ from I.hok tp _ hp);obtain rfl:=B _ l;obtain⟨c,dd,J,F⟩:=o;subst x hd;cases r with
 | non=>cases (g);exact cL lF I.kIn True.intro f e (λz=>nomatch z) h
 | bl y=>cases (g);exact cL lG I.kIn True.intro f e (λz=>nomatch z) h
 | int i=>obtain⟨t,q⟩:=(g);cases q;exact cL lZ I.kIn True.intro f e (λz=>nomatch z) h
 | str y=>obtain⟨t,q⟩:=(g);cases q;exact cL l_ I.kIn True.intro f e (λz=>nomatch z) h
 | @tup a xs _ j=>
  cases (g);obtain⟨_,_,_,p,_⟩:=(show zQ _ X.w H _ a _ from I.hok a _ j);obtain⟨o,k,C,_⟩:=p;exact cL ll I.kIn ⟨o,k,C⟩ f e (λz=>nomatch z) h
 | @lst a xs _ j=>
  cases (g);obtain⟨_,_,n,_,k⟩:=(show zQ _ X.w H _ a _ from I.hok a _ j);exact cL eM I.kIn ⟨_,k,rfl⟩ f e (λz=>nomatch z) h
 | @fz a ob xs _ j=>
  cases (g);obtain⟨_,_,_,n,_,k⟩:=(show zQ _ X.w H _ a _ from I.hok a _ j);exact cL eM I.kIn ⟨_,k,rfl⟩ f e (λz=>nomatch z) h
theorem VL:∀a,Vals [.ty n,.ty m] a ->a =[.type n,.type m]:=λa h=>by
 cases h with
 | cons p q=>
  cases q with
  | cons d c =>
   cases c;rw[p,d]
theorem qw:Z7 X (.builtin "isinstance") (λxs H Q=>∃v a n m t b,xs=[v,.ref a]/\H a=some (.tup [.ty n,.ty m])/\Rep H v t/\eV X.K (.type (nH t)) [.type n,.type m]=some b/\Q (.bl b) H):=by
 intro d s j H xs i Q I e h;obtain⟨v,a,n,m,t,b,rfl,hp,r,g,q⟩:=h;obtain⟨u,w,rfl,f,c⟩:=uR e;obtain rfl:w=Value.ref a:=c;exact yL I f r hp (.cons rfl (.cons rfl .nil)) VL g λtk=>⟨.bl _,H,I.tok tk,rfl,q⟩
def D7 (n m:String)(t:T):R T:= .ok (.bl (nD n t || nD m t))
theorem Kp {K:ai}{t:T}{n m:String}(c:bL K (.type (nH t)) (.type n)=some (nD n t))(a:bL K (.type (nH t)) (.type m)=some (nD m t)):
  eV K (.type (nH t)) [.type n,.type m]=some (nD n t || nD m t):=by
 unfold eV;rw[c];cases nD n t with
 | true=>rfl
 | false=>
  unfold eV;rw[a];cases nD m t <;> rfl
theorem L7 (M:∀t,bL X.K (.type (nH t)) (.type n)=some (nD n t))(j :∀t,bL X.K (.type (nH t)) (.type m)=some (nD m t))
  (G:Gl X "isinstance") (O:X.mg "isinstance"=none) (f:Gl X (aC n)) (e:X.mg (aC n)=none) (o:bootBuiltins (aC n)=some (.type n)) (g:Gl X (aC m)) (k:X.mg (aC m)=none) (u:bootBuiltins (aC m)=some (.type m)) (N:Snd X Y a fa)
  (C:starEach [a,.Tuple [.Name (aC n) p1,.Name (aC m) p2] kt pt] X.env=[(false,eval a X.env),(false,eval (.Tuple [.Name (aC n) p1,.Name (aC m) p2] kt pt) X.env)]:=by exact nO rfl rfl)
  (c:starEach [.Tuple [.Name (aC n) p1,.Name (aC m) p2] kt pt] X.env=[(false,eval (.Tuple [.Name (aC n) p1,.Name (aC m) p2] kt pt) X.env)]:=by exact mQ rfl)
  (i:starEach [.Name (aC n) p1,.Name (aC m) p2] X.env=[(false,eval (.Name (aC n) p1) X.env),(false,eval (.Name (aC m) p2) X.env)]:=by exact nO rfl rfl)
  (d:starEach [.Name (aC m) p2] X.env=[(false,eval (.Name (aC m) p2) X.env)]:=by exact mQ rfl)
  (r:aC n ≠ "__name__":=by decide) (y:(aC n == ("__debug__":Str))=false:=by decide) (l:aC m ≠ "__name__":=by decide) (w:(aC m == ("__debug__":Str))=false:=by decide)
  (hz:((backTo pos (starEach [.Tuple [.Name (aC n) p1,.Name (aC m) p2] kt pt] X.env)).any λx=>x.fst)=false:=by exact zT rfl):
  Snd X Y (.Call (.Name "isinstance" p) [a,.Tuple [.Name (aC n) p1,.Name (aC m) p2] kt pt] [] pos) (mw (D7 n m) fa):= .mk λρ=>
 PE.imp (ZM qw G O PyProof.Rows.Boot.«isinstance» (zm (N ρ) (zm (xR (zm (uQ (v:= .ty n) f e o rfl r y) (zm (uQ (v:= .ty m) g k u rfl l w) zH d) (by rw[i,d]))) zH c) (by rw[C,c])) (by decide) (by decide) (by rw[C,c]) hz) λS H Q ⟨B,I,q⟩=>
  step I q λt v P _ U F D J=>⟨ZF (by show 2<=mF;decide),λp hp=>⟨v,p,n,m,t,_,rfl,zl,(F.mono D.sB).mono (zo.new hp _),Kp (M t) (j t),J _ _ (zo.new hp _) (.bl _)⟩⟩
def rX (a:En->R T)(g:T->En->R En):En->RS:=λρ=>(a ρ).s λt=>match g t ρ with
 | .ok ρ' => .nx ρ'
 | _=> .bad
theorem Xg {g:T->En->R En}(f:Snd X Y a fa)(p:rV X Y tg g)(j:swapsWithSole [tg] a pos.line X.env=pure false:=by rfl)(o:swappedStores [tg] a X.env=pure none:=by rfl)
  (l:(assignEach [tg] X.env).map (·.2)=[assign tg X.env]:=by rfl):Wd X Y (.Assign [tg] a pos) (rX fa g):= .mk λρ=>by
 obtain⟨tt,hp,hr⟩:=p;refine PS.imp (Gw (f ρ) hp j o l) λD r H ⟨B,I,q⟩=>Je I q λt v w _ u k i d=>hr _ _ _ _ _ _ _ i k ?_;cases h:g t ρ with
 | ok ρ' =>
  rw[h]at d;exact λσ' e =>d _ _ _ (zo.refl _) e
 | ex c=>rw[h]at d;exact d.elim
 | bad=>rw[h]at d;exact d.elim
end
end PV
namespace PV
open PySem PySem.Spec PyProof.Rows L2
noncomputable def DX (t t' :T):R T:=match t,t' with
 | .int i,.int j=> .ok (.int (if j > i then j else i))
 | _,_=> .bad
noncomputable def G9:T->R T
 | .int i=> .ok (.int (if i < 0 then -i else i))
 | _=> .bad
noncomputable def jg (f:Int->Int->Bool):Int->List Int->Int
 | i,[]=>i
 | i,j :: r=>jg f (if f j i then j else i) r
def maxLT:T->R T
 | .lst ts=>match Z2 ts with | some (i :: l)=> .ok (.int (jg (λa b=>decide (b < a)) i l)) | _=> .bad
 | _=> .bad
def Kq:T->R T
 | .lst ts=>match Z2 ts with | some (i :: l)=> .ok (.int (jg (λa b=>decide (a < b)) i l)) | _=> .bad
 | _=> .bad
theorem Wk:∀(l:List Int) (i:Int),jg (λa b=>decide (b < a)) i l∈i :: l/\∀x∈i :: l,x<=jg (λa b=>decide (b < a)) i l
 | [],i=>⟨aa,λx h=>by simp at h;subst h;exact i8 _⟩
 | j :: r,i=>by
  unfold jg
  by_cases e:i < j
  ·simp only[e,decide_true,if_true];obtain⟨f,d⟩:=Wk r j;refine⟨a9 _ f,λx c=> ?_⟩;rcases ak.mp c with rfl | c
   ·exact eU (Int.le_of_lt e) (d j aa)
   ·exact d x c
  ·simp only[e,decide_false,aI,if_false];obtain⟨f,d⟩:=Wk r i;refine⟨?_,λx c=> ?_⟩
   ·rcases ak.mp f with h | h
    ·rw[h];exact aa
    ·exact a9 _ (a9 _ h)
   ·rcases ak.mp c with rfl | c
    ·exact d x aa
    ·rcases ak.mp c with rfl | c
     ·exact eU (Int.not_lt.mp e) (d i aa)
     ·exact d x (a9 _ c)
theorem Wl:∀(l:List Int) (i:Int),jg (λa b=>decide (a < b)) i l∈i :: l/\∀x∈i :: l,jg (λa b=>decide (a < b)) i l<=x
 | [],i=>⟨aa,λx h=>by simp at h;subst h;exact i8 _⟩
 | j :: r,i=>by
  unfold jg
  by_cases e:j < i
  ·simp only[e,decide_true,if_true];obtain⟨f,d⟩:=Wl r j;refine⟨a9 _ f,λx c=> ?_⟩;rcases ak.mp c with rfl | c
   ·exact eU (d j aa) (Int.le_of_lt e)
   ·exact d x c
  ·simp only[e,decide_false,aI,if_false];obtain⟨f,d⟩:=Wl r i;refine⟨?_,λx c=> ?_⟩
   ·rcases ak.mp f with h | h
    ·rw[h];exact aa
    ·exact a9 _ (a9 _ h)
   ·rcases ak.mp c with rfl | c
    ·exact d x aa
    ·rcases ak.mp c with rfl | c
     ·exact eU (d i aa) (Int.not_lt.mp e)
     ·exact d x (a9 _ c)
theorem jZ (a:List (Int×Tok))(i:Nat)(h:i < a.length):numAt a.toArray i=(a.map (·.1))[i]'(by simpa using h):=by
 unfold numAt;simp[h]
section
theorem HP (o:X.calm=true)(w:Gl X "max")(r:X.mg "max"=none)(k:Snd X Y a fa)(y:Snd X Y b fb)
  (e:starEach [a,b] X.env=[(false,eval a X.env),(false,eval b X.env)]:=by exact nO rfl rfl) (c:starEach [b] X.env=[(false,eval b X.env)]:=by exact mQ rfl):
  Snd X Y (.Call (.Name "max" p) [a,b] [] pos) (zd DX fa fb):= .mk λρ=>
 PE.imp (ZM (Yp o) w r PyProof.Rows.Boot.«max» (zm (k ρ) (zm (y ρ) zH c) (by rw[e,c])) (by decide) (by decide) (by rw[e,c]) (by rw[c];rfl)) λD H Q ⟨B,I,q⟩=>
  step I q λt v M _ G u l x=>step l x λt' F J _ C f g d=>by
   cases u with
   | int i=>
    cases f with
    | int j=>exact⟨i,j,rfl,mV g.sB d rfl (.int _)⟩
    | _=>exact d.elim
   | _=>cases f <;> exact d.elim
theorem Fo (f:Gl X "abs")(e:X.mg "abs"=none)(d:jz X Y a fa)(g:mY X a:=by exact mQ rfl):Snd X Y (.Call (.Name "abs" p) [a] [] pos) (mw G9 fa):=
 JT Va (λv t B H Q r c q=>by
  cases r with
  | int i=>exact⟨i,rfl,mV c q rfl (.int _)⟩
  | _=>exact q.elim) f e PyProof.Rows.Boot.«abs» d g
theorem z0S (P:X.A.handled=none):Z7 X (.builtin "max") (λvs H Q=>∃l xs ts i d,vs=[.ref l]/\H l=some (.lst xs)/\zy H xs ts/\Z2 ts=some (i :: d)/\Q (.int (jg (λa b=>decide (b < a)) i d)) H):=by
 intro y s Z H vs U Q I g h;obtain⟨l,xs,ts,i,d,rfl,C,r,G,q⟩:=h;obtain⟨u,rfl,O⟩:=Zn g;obtain rfl:u=Value.ref l:=O;obtain⟨k,g,p,_⟩:=zL I (.inl C) r;obtain⟨c,D,o⟩:=JX r g G;have e:k.toArray=intItems c.toArray:=by rw[D];simp[intItems]
 rw[e]at p;have f:=by have:=congrArg i6 o;simpa using this
 refine max_intList P p (by simp[f]) λv h' tk F kp=> ?_
 obtain⟨t,rfl⟩:=intItems_at F;obtain⟨M,b2⟩:=argBest_gt (numAt c.toArray) (c.toArray.size - 1);have hsz:c.toArray.size=c.length:=by simp
 rw[hsz]at M b2 ⊢;obtain⟨x,N⟩:=Wk d i;have S:numAt c.toArray (argBest (λi j=>decide (numAt c.toArray i > numAt c.toArray j)) (c.length - 1))=jg (λa b=>decide (b < a)) i d:=by
  refine mm (N _ ?_) ?_
  ·rw[jZ c _ (by omega),← o]
   exact iD _
  ·rw[← o]at x;obtain⟨j,J,B⟩:=cS.mp x;rw[← B];have w :=by simpa using J
   rw[← jZ c j w];exact b2 j (by omega)
 rw[S];exact⟨.int _,H,I.kept kp,⟨t,rfl⟩,q⟩
theorem qx (P:X.A.handled=none):Z7 X (.builtin "min") (λvs H Q=>∃l xs ts i d,vs=[.ref l]/\H l=some (.lst xs)/\zy H xs ts/\Z2 ts=some (i :: d)/\Q (.int (jg (λa b=>decide (a < b)) i d)) H):=by
 intro y s Z H vs U Q I g h;obtain⟨l,xs,ts,i,d,rfl,C,r,G,q⟩:=h;obtain⟨u,rfl,O⟩:=Zn g;obtain rfl:u=Value.ref l:=O;obtain⟨k,g,p,_⟩:=zL I (.inl C) r;obtain⟨c,D,o⟩:=JX r g G;have e:k.toArray=intItems c.toArray:=by rw[D];simp[intItems]
 rw[e]at p;have f:=by have:=congrArg i6 o;simpa using this
 refine min_intList P p (by simp[f]) λv h' tk F kp=> ?_
 obtain⟨t,rfl⟩:=intItems_at F;obtain⟨M,b2⟩:=argBest_lt _ (c.toArray.size - 1);have hsz:c.toArray.size=c.length:=by simp
 rw[hsz]at M b2 ⊢;obtain⟨x,N⟩:=Wl d i;have S:numAt c.toArray (argBest (λi j=>decide (numAt c.toArray i < numAt c.toArray j)) (c.length - 1))=jg (λa b=>decide (a < b)) i d:=by
  refine mm ?_ (N _ ?_)
  ·rw[← o]at x;obtain⟨j,J,B⟩:=cS.mp x;rw[← B];have w :=by simpa using J
   rw[← jZ c j w];exact b2 j (by omega)
  ·rw[jZ c _ (by omega),← o]
   exact iD _
 rw[S];exact⟨.int _,H,I.kept kp,⟨t,rfl⟩,q⟩
theorem Fh (j:X.A.handled=none)(o:Gl X "min")(d:X.mg "min"=none)(c:jz X Y a fa)(f:mY X a:=by exact mQ rfl):Snd X Y (.Call (.Name "min" p) [a] [] pos) (mw Kq fa):=
 JT (qx j) (λv t B H Q r g q=>by
  cases r with
  | @lst l xs ts h r=>
   have q:Po Y rC B H (match Z2 ts with | some (i :: l)=> .ok (.int (jg (λa b=>decide _) i l)) | _=> .bad) Q:=q
   split at q
   ·rename_i i k e;exact⟨l,xs,ts,i,k,rfl,h,r,e,mV g q rfl (.int _)⟩
   ·exact q.elim
  | _=>exact q.elim) o d PyProof.Rows.Boot.«min» c f
end
section
end
noncomputable def Jf:List T->Option (List (Str×Int))
 | []=>some []
 | .tup [.str x,.int i] :: r=>match Jf r with | some l=>some ((x,i) :: l) | none=>none
 | _ :: _=>none
def qy (t k:T):R T:=match t,k with
 | .tup ts,.str x=>match Jf ts with
  | some l=>if (l.map (·.1)).Nodup then (match l.lookup x with | some i=> .ok (.int i) | none=> .bad) else .bad
  | none=> .bad
 | _,_=> .bad
def uj:T->R T
 | .tup ts=>match Jf ts with
  | some l=>if (l.map (·.1)).Nodup then .ok (.int (l.map (·.2)).sum) else .bad
  | none=> .bad
 | _=> .bad
def VM (j:Nat)(a:En->R T)(g:List T->R T):En->RS:=λρ=>((a ρ).bind λt=>(vE j ρ).bind λk=>(qy t k).bind λx=>(uj t).bind λy=>g [x,y]).s λt=> .rt t
section
end
noncomputable def Ga:T->T->R T
 | .int i,.int j=>if 0 < j/\j.natAbs.log2 < 9000 then .ok (.int (i / j)) else .bad
 | _,_=> .bad
section
theorem IY:mO X (binaryOp .FloorDiv) (L2.rI (λ_ j=>0 < j/\j.natAbs.log2 < 9000) λi j=> .int (i / j)):=rM λi j _ _ _ _ _ a q=>by
 exact floordiv_int (by omega) (by rw[g_ i (by omega)];exact q) (.inl (PyProof.noPylong_of_log2 a.2))
theorem Kr:mO X (binaryOp .FloorDiv) (rG Y Ga):=by
 intro c s e H x y v u Q I k f h;obtain⟨B,t,t',g,r,d,q⟩:=h;cases r with
 | int i=>
  cases d with
  | int j=>
   by_cases a:0 < j/\j.natAbs.log2 < 9000
   ·exact IY _ s e H _ _ v u Q I k f ⟨i,j,rfl,rfl,a,mV g q (if_pos a) (.int _)⟩
   ·rw[show Ga (.int i) (.int j)= .bad from if_neg a]at q;exact q.elim
  | _=>exact q.elim
 | _=>cases d <;> exact q.elim
theorem EI (d:Snd X Y a fa)(c:Snd X Y b fb):Snd X Y (.BinOp a .FloorDiv b pos) (zd Ga fa fb):=uT Kr d c
end
noncomputable def big:Nat:=2 ^ 8000
def oq:T->T->R T
 | .int i,.int j=>if i.natAbs < big/\j.natAbs < big then .ok (.int (i*j)) else .bad
 | _,_=> .bad
theorem UE (h:i.natAbs < big):l9 i<=2 ^ 20:=by
 unfold l9;split
 ·exact bf _
 ·rename_i a;have a:i.natAbs ≠ 0:=λz=>a (by rw[Int.natAbs_eq_zero.mp z];rfl)
  have c:=(Nat.log2_lt a).mpr h;omega
section
theorem Hm:mO X (binaryOp .Mult) (L2.rI (λi j=>i.natAbs < big/\j.natAbs < big) λi j=> .int (i*j)):=rM λi j _ _ _ _ _ a q=>mul_int q (IntMulOk.of_bits (UE a.1) (UE a.2))
theorem EK:mO X (binaryOp .Mult) (rG Y oq):=by
 intro c s e H x y v u Q I k f h;obtain⟨B,t,t',g,r,d,q⟩:=h;cases r with
 | int i=>
  cases d with
  | int j=>
   by_cases a:i.natAbs < big/\j.natAbs < big
   ·exact Hm _ s e H _ _ v u Q I k f ⟨i,j,rfl,rfl,a,mV g q (if_pos a) (.int _)⟩
   ·rw[show oq (.int i) (.int j)= .bad from if_neg a]at q;exact q.elim
  | _=>exact q.elim
 | _=>cases d <;> exact q.elim
theorem Dg (d:Snd X Y a fa)(c:Snd X Y b fb):Snd X Y (.BinOp a .Mult b pos) (zd oq fa fb):=uT EK d c
end
theorem Ks:typeLookup (.type "tuple") "keys"=pure none:=by rw[typeLookup_type,builtinLookup_eq_fast];kernel_rfl
theorem Kt:typeLookup (.type "tuple") "__getattr__"=pure none:=by rw[typeLookup_type,builtinLookup_eq_fast];kernel_rfl
section
theorem VN {f:Array (Option Value)}{u:Tok}{Q:PySem.Fin->Shared->Prop}(a:A.handled=none)(c:s.heap.get? l=some { cls:= .type "tuple",dict:=none,data:= .seq its n,slots:=f })
  (h:∀h' tk e,Heap.NewAttrErr s.heap h' e (.ref l) "keys"->E (.ref e) { s with heap:=h',toks:=tk }):
  wpAny (model prog w) A (Builtin.«object.__getattribute__» ⟨[.ref l,.str "keys" u],[]⟩) Q E s:=by
 obtain⟨hp,g,d,tk,os⟩:=s;have hT:(⟨hp,g,d,tk,os⟩:Shared).TypeIs (.ref l) "tuple":=⟨_,c,rfl⟩;have i:=Ks;unfold Builtin.«object.__getattribute__»
 repeat (any_goals (first | assumption | wp_step))
 exact wpAny_raiseAttrError a h (attrMsg_fits (by decide+kernel) (by decide+kernel))
end
section
theorem Ku {l:Addr}{a:Array Value}{n:Nat}{f:Array (Option Value)}{u:Tok}{R:Result->Shared->Prop}(d:A.handled=none)(c:s.heap.get? l=some { cls:= .type "tuple",dict:=none,data:= .seq a n,slots:=f })
  (h:∀h' tk e,Heap.NewAttrErr s.heap h' e (.ref l) "keys"->R (.error (.ref e)) { s with heap:=h',toks:=tk }):
  codeAny (model prog w) A (.call (.builtin "tuple.__getattribute__") ⟨[.ref l,.str "keys" u],[]⟩) R s:=
 codeAny_call_builtin cH.plain F.entry_tuple_ga (cH.check _ _ _ _ _ _ _ _ (show s.TypeIs _ _ from ⟨_,c,rfl⟩) (F.args_tuple_getattribute_2 _ _) (VN d c h))
theorem Kv {l:Addr}{c:Array Value}{n:Nat}{j:Array (Option Value)}{Q:Option Value->Shared->Prop}(k:A.handled=none)(i:s.heap.get? l=some { cls:= .type "tuple",dict:=none,data:= .seq c n,slots:=j })
  (h:∀h' tk,(∀b o,s.heap.get? b=some o->h'.get? b=some o)->Q none { s with heap:=h',toks:=tk }):
  wpAny (model prog w) A (getAttr? (.ref l) "keys") Q E s:=by
 obtain⟨hp,g,d,tk,os⟩:=s;have hT:∀t,(⟨hp,g,d,t,os⟩:Shared).TypeIs (.ref l) "tuple":=λ_=>⟨_,i,rfl⟩;have q:=sub_AttributeError;have r:=cH.lookup;have u:=cH.bind (.ref l);have x:=Kt;unfold getAttr? getAttrBy? getAttrBy
 repeat (any_goals (first | assumption | exact hT _ | wp_step))
 refine Ku (s:=⟨hp,g,d,tk+1,os⟩) k i λh' a e f=> ?_;obtain⟨t',v,p⟩:=f.there;have hE:(⟨h',g,d,a,os⟩:Shared).TypeIs (.ref e) "AttributeError":=⟨_,p,rfl⟩;show wpAny _ _ (getattributeRaised _ _ _ _ _ _ _) _ _ _;unfold getattributeRaised
 repeat (any_goals (first | assumption | wp_step))
 exact h _ _ f.keeps
end
noncomputable def Zk (h:Heap)(c:List Value)(d:List (Str×Int)):Prop:=Paired (λv (p:Str×Int)=>∃a t u n ob,v=Value.ref a/\h.get? a=some ob/\ob.cls= .type "tuple"/\ob.data= .seq #[.str p.1 t,.int p.2 u] n) c d
theorem Zk.keep {c:List (Str×Int)}(x:Zk h its c)(k:∀b o,h.get? b=some o->h'.get? b=some o):Zk h' its c:=
 Paired.mapP x λv p ⟨a,t,u,n,ob,f,e,d⟩=>⟨a,t,u,n,ob,f,k _ _ e,d⟩
theorem Zk.off {h h' :Heap}{D I:Addr}(k:∀b o,b ≠ D->b ≠ I->h.get? b=some o->h'.get? b=some o):∀{c:List Value} {f:List (Str×Int)},Zk h c f->(∀v a,v∈c->v=Value.ref a->a ≠ D/\a ≠ I)->Zk h' c f
 | _,_,.nil,_=> .nil
 | _,_,.cons r q,d=>by
  obtain⟨a,t,u,n,ob,e,l,g⟩:=r;obtain⟨p,i⟩:=d _ a aa e;exact .cons ⟨a,t,u,n,ob,e,k _ _ p i l,g⟩ (Zk.off k q λv b j=>d v b (a9 _ j))
def KVs (kvs:List (mM×Value))(a:List (Str×Int)):Prop:=Paired (λ(q:mM×Value) (p:Str×Int)=>q.1=Sum.inr p.1/\∃t,q.2=Value.int p.2 t) kvs a
theorem KVs.snoc:∀{kvs:List (mM×Value)} {a:List (Str×Int)} {x:Str} {i:Int} {t:Tok},KVs kvs a->KVs (kvs++[(Sum.inr x,.int i t)]) (a++[(x,i)])
 | _,_,x,i,t,.nil=> .cons ⟨rfl,t,rfl⟩ .nil
 | _,_,x,i,t,.cons r q=> .cons r (KVs.snoc q)
theorem KVs.keys:∀{kvs:List (mM×Value)} {a:List (Str×Int)},KVs kvs a->kvs.map (·.1)=a.map λp=>(Sum.inr p.1:mM)
 | _,_,.nil=>rfl
 | _,_,.cons r q=>by rw[ar,ar,r.1,KVs.keys q]
theorem KVs.len {kvs:List (mM×Value)}{a:List (Str×Int)}(h:KVs kvs a):kvs.length=a.length:=by
 have:=congrArg i6 h.keys;simpa using this
theorem yM {kvs:List (mM×Value)}{k:mM}(h:k ∉ kvs.map (·.1)):stored kvs k v=kvs++[(k,v)]:=by
 unfold stored;rw[if_neg];intro z;rw[fB]at z;obtain⟨q,a,e⟩:=z;exact h (aA.mpr ⟨q,a,of_decide_eq_true e⟩)
section
variable {prog:Program}{w:World}{A:Around}{R:Result->Shared->Prop}{I:Addr}{fp wr:List Addr}{n:Nat}{P:Nat->Value->Prop}{St:Nat->Heap->Prop}
theorem UF:entryFor table "dict.update.loop"=some Builtin.«dict.update.loop»:=entryFor_of_tree (by kernel_rfl)
theorem UG:plainId "dict.update.loop"=true:=by decide+kernel
theorem Jg {d a:Type}{F:d->a->Prop}:∀{xs:List d} {c:List a} {i:Nat} {y:a},Paired F xs c->c[i]? =some y->∃x,xs[i]? =some x/\F x y
 | _,_,_,_,.nil,h=>by simp at h
 | _,_,0,y,.cons r _,h=>by simp at h;subst h;exact⟨_,rfl,r⟩
 | _,_,i+1,y,.cons _ q,h=>by
  obtain⟨x,e,r⟩:=Jg q (by simpa using h)
  exact⟨x,by simpa using e,r⟩
theorem wS {d c:Type}{F:d->c->Prop}:∀{xs:List d} {a:List c},Paired F xs a->xs.length=a.length
 | _,_,.nil=>rfl
 | _,_,.cons _ q=>by simp[wS q]
theorem qz {l:Addr}{k:List Value}{c:List (Str×Int)}(hh:A.handled=none)(I D:Addr)(U:l ≠ I)(hD:D ≠ I)(hDl:D ≠ l)(nd:(c.map (·.1)).Nodup)(S:c.length<=sizeLine)(kw:Value):
  ∀(m i:Nat) (s:Shared) (kvs:List (mM×Value)) (g:Tok),c.length - i=m->i<=c.length->s.heap.IsTupleIter I l i->s.heap.IsTuple l k.toArray->Zk s.heap k c->(∀v a,v∈k->v=Value.ref a->a ≠ D/\a ≠ I)->
   s.heap.DictOf (Z0 prog w) D kvs->KVs kvs (c.take i)->
   (∀h' tk d,(∀b o,b ≠ D->b ≠ I->s.heap.get? b=some o->h'.get? b=some o)->h'.DictOf (Z0 prog w) D d ->KVs d c->R (.ok (.ret kw)) { s with heap:=h',toks:=tk })->
   codeAny (model prog w) A (.builtin "dict.update.loop" ⟨[.ref D,.ref I,.int (i:Int) g,kw],[]⟩) R s:=by
 intro m
 induction m with
 | zero=>
  intro i s kvs g hm hi q M hp Q hd r X;obtain rfl:i=c.length:=by omega
  refine bQ UF ?_;unfold Builtin.«dict.update.loop»;dsimp only;have hl:=wS hp;refine a8 (wpAny_pyNext_tuple_end hh q M (by simp[hl]) λh' he=> ?_)
  rw[List.take_length]at r;refine a8 (c9 (a:=()) rfl (ac ?_));exact X h' s.toks kvs (λb o _ hb e=>he b o hb e) (hd.extBut he hD) r
 | succ m ih=>
  intro i s kvs g hm hi q M hp Q hd r X;refine bQ UF ?_;unfold Builtin.«dict.update.loop»;dsimp only;have y :i < c.length:=by omega
  have ei:=ah y;obtain⟨v,ev,a,t,u,n,ob,rfl,ga,ca,da⟩:=Jg hp ei;refine a8 (wpAny_pyNext_tuple_item q M (x:= .ref a) (by simpa using ev) λh1 G sb=> ?_)
  obtain⟨naD,naI⟩:=Q _ a (bg ev) rfl;have C:=(sb.2 a naI).trans ga;have hd1:=hd.sameBut sb hD;have hTa:fL { s with heap:=h1 } (.ref a) "tuple":=⟨_,C,ca⟩;refine a8 (bp (a8 (cD ?_)));refine a8 (dS hTa ?_);refine a8 (bM C da (ac ?_));have B:(Sum.inr c[i].1) ∉ kvs.map (·.1):=by
   rw[r.keys];intro z;obtain⟨p,Z,e⟩:=aA.mp z;have e:p.1=c[i].1:=by injection e
   obtain⟨j,hj,ej⟩:=cS.mp Z;rw[db]at hj;rw[List.getElem_take]at ej;have hji:j < i:=by omega
   have:=(dY.mp nd) j i (by rw[ae];omega) (by rw[ae];exact y) hji
   rw[iA,iA]at this;exact this (by rw[ej,e])
  have hz:kvs.length<=sizeLine:=by rw[r.len,db];exact av (Nat.min_le_right _ _) S
  refine bp (wpAny_dictSet_pairs (jH _ _ _ _) hd1 λh2 J F=> ?_);rw[yM B]at J;refine ac ⟨cf UG _, ?_⟩;have hk2:KVs (kvs++[(Sum.inr c[i].1,.int c[i].2 u)]) (c.take (i+1)):=by
   rw[List.take_succ,ei];exact r.snoc
  have f:∀b o,b ≠ D->b ≠ I->s.heap.get? b=some o->h2.get? b=some o:=λb o O N e=>(F.2 b O).trans ((sb.2 b N).trans e);have:=ih _ { s with heap:=h2,toks:=s.toks+1 } _ 0 (by omega) (by omega) (G.extBut F.extBut (bj hD)) (lN.at M λo e=>f l o (bj hDl) U e) ?_ Q J hk2 (λh' tk d k' d' q' =>X h' tk _ (λb o O N e=>k' b o O N (f b o O N e)) d' q')
  ·exact this
  ·exact hp.off f Q
end
theorem Zk.mem {h:Heap}:∀{d:List Value} {g:List (Str×Int)},Zk h d g->∀{v:Value} {a:Addr},v∈d->v=Value.ref a->∃o,h.get? a=some o
 | _,_,.nil,_,_,c,_=>by simp at c
 | _,_,.cons r q,v,a,c,e=>by
  rcases ak.mp c with z | c
  ·obtain⟨b,t,u,n,ob,f,i,_⟩:=r;subst z;rw[e]at f;cases f;exact⟨_,i⟩
  ·exact Zk.mem q c e
section
theorem qA {l:Addr}{g:List Value}{u:List (Str×Int)}{n:Nat}{P:Array (Option Value)}{Q:Value->Shared->Prop}(N:A.handled=none)(M:s.heap.get? l=some { cls:= .type "tuple",dict:=none,data:= .seq g.toArray n,slots:=P })
  (hp:Zk s.heap g u) (nd:(u.map (·.1)).Nodup) (y:u.length<=sizeLine)
  (h:∀h' tk kvs,(∀b o,s.heap.get? b=some o->h'.get? b=some o)->h'.DictOf (Z0 prog w) s.heap.objs.size kvs->KVs kvs u->Q (.ref s.heap.objs.size) { s with heap:=h',toks:=tk }):
  wpAny (model prog w) A (call (.type "dict") [.ref l]) Q E s:=by
 refine callType_codes (Q₁:=λobj d=>obj= .ref _/\d={ s with heap:=s.heap.push _ }) F.kt_called_dict (F.kt_typeCall_dict_1 _) F.entry_dict_init (kt_code_dict_new _ ⟨rfl,rfl⟩) ?_
 rintro obj d ⟨rfl,rfl⟩
 generalize J:s.heap.push _=G;have c:G.DictOf (Z0 prog w) s.heap.objs.size []:=by rw[← J];exact Heap.DictOf.new _
 have C:∀b o,s.heap.get? b=some o->G.get? b=some o:=λb o e=>by rw[← J];exact ab _ e
 have B:=C _ _ M;have k:=au M;have hT:fL { s with heap:=G } (.ref l) _:=⟨_,B,rfl⟩;refine⟨c.typeIs,F.args_dict_init_2 _ _, ?_⟩;refine a8 ?_;refine a8 (wpAny_notOrdered_dict c.typeIs ?_);refine ac ?_;refine a8 (dS hT ?_);refine a8 (Kv N B λi tk1 p=> ?_);refine a8 (du ?_);have f:=p _ _ B;have D:i.IsTuple l _:=⟨_,f,rfl,n,rfl⟩;refine a8 (cC D ?_);generalize j:i.push _=G2;have x:s.heap.objs.size < i.objs.size:=by
  obtain⟨o,_,_,e,_⟩:=id c;exact au (p _ _ e)
 have q:∀b o,i.get? b=some o->G2.get? b=some o:=λb o e=>by rw[← j];exact ab _ e
 have O:G2.get? i.objs.size=some { cls:= .type "tuple_iterator",data:= .fields #[.ref l,.int 0 0] }:=by rw[← j];exact af _ rfl
 have I:G2.DictOf (Z0 prog w) s.heap.objs.size []:=by
  obtain⟨o,Z,ep,e,r⟩:=c;exact⟨o,Z,ep,q _ _ (p _ _ e),r⟩
 refine ac ⟨cf UG _, ?_⟩;refine qz (A:=A.in1) N _ _ (aF (fY k x)) (aF x) (cO k) nd y _ _ 0 _ [] 0 rfl (bf _) ⟨_,O,rfl,rfl⟩ ⟨_,q _ _ f,rfl,n,rfl⟩ (hp.keep λb o e=>q b o (p b o (C b o e))) (λv a U e=> ?_) I .nil λh' tk kvs kk dd S=> ?_
 ·obtain⟨o,X⟩:=hp.mem U e;have:=au X;exact⟨aF this,aF (fY this x)⟩
 ·refine⟨rfl,h h' tk kvs (λb o e=>kk b o (aF (au e)) (aF (fY (au e) x)) (q b o (p b o (C b o e)))) dd S⟩
end
abbrev pG (ps:List (Str×Int)):List (mM×V):=ps.map λp=>(Sum.inr p.1,V.int p.2)
theorem DU:∀{kvs:List (mM×Value)} {a:List (Str×Int)},KVs kvs a->KV (pG a) kvs
 | _,_,.nil=> .nil
 | _,_,.cons r q=>by
  obtain⟨e,t,c⟩:=r;exact .cons ⟨e.symm,⟨t,c⟩⟩ (DU q)
theorem qB:∀{a:List (Str×Int)} {kvs:List (mM×Value)},KV (pG a) kvs->KVs kvs a
 | [],_,.nil=> .nil
 | p :: a,_,.cons r q=>by
  obtain⟨e,t,c⟩:=r;exact .cons ⟨e.symm,t,c⟩ (qB q)
theorem Xh:∀{kvs:List (mM×Value)} {c:List (Str×Int)} {x:Str} {i:Int},KVs kvs c->c.lookup x=some i->∃t,valueAt kvs (Sum.inr x)=some (.int i t)
 | _,_,x,i,.nil,h=>by simp at h
 | _,_,x,i,.cons (b:=p) r rs,h=>by
  obtain⟨e,t,d⟩:=r;rw[aQ]at h
  by_cases a:x=p.1
  ·have:(x == p.1)=true:=by simp[a]
   rw[this]at h;cases h;unfold valueAt;rw[dC,show decide _=true from decide_eq_true (by rw[e,a])]
   simp[d]
  ·have:=beq_eq_false_iff_ne.mpr a;rw[this]at h;obtain⟨t',h'⟩:=Xh rs h;refine⟨t', ?_⟩;unfold valueAt at h' ⊢;rw[dC,show decide _=false from decide_eq_false (by rw[e];intro z;injection z with z;exact a z.symm)]
   exact h'
theorem qC {a:List (Str×Int)}(h:Jf (t :: ts)=some a):∃x i l,t= .tup [.str x,.int i]/\Jf ts=some l/\a=(x,i) :: l:=by
 unfold Jf at h;split at h
 ·rename_i e;cases e
 ·rename_i x i r e;injection e with e1 e2;subst e1 e2;split at h
  ·rename_i l c;cases h;exact⟨x,i,l,rfl,c,rfl⟩
  ·cases h
 ·cases h
theorem qD:∀{ts:List T} {a:List (Str×Int)},Jf ts=some a->a.length=ts.length
 | [],_,h=>by cases h;rfl
 | t :: ts,a,h=>by
  obtain⟨x,i,l,rfl,c,rfl⟩:=qC h;simp[qD c]
theorem L5 (h:zy H ys [.str x,.int i]):ys=[.str x,.int i]:=by
 cases h with
 | cons a h=>
  cases a;cases h with
  | cons c h=>
   cases c;cases h;rfl
theorem Kw (h:Vals [V.str x,V.int i] its):∃t u,its=[.str x t,.int i u]:=by
 obtain⟨d,e,rfl,⟨c,rfl⟩,⟨a,rfl⟩⟩:=uR h;exact⟨c,a,rfl⟩
theorem VO {g:L2.St}(I:Inv X pins g H s)(r:Rep H v (.tup [.str x,.int i]))(k:RelV v u):
  ∃a t o n ob,u=Value.ref a/\s.heap.get? a=some ob/\ob.cls= .type "tuple"/\ob.data= .seq #[.str x t,.int i o] n:=by
 cases r with
 | @tup a B _ e l=>
  obtain rfl:u=Value.ref a:=k;have hy:=L5 l;subst hy;obtain⟨_,d,c,⟨ob,j,p,n,f⟩,_⟩:=(show zQ _ X.w H _ a _ from I.hok a _ e);obtain⟨y,q,rfl⟩:=Kw c;exact⟨a,y,q,n,ob,rfl,j,p,f⟩
theorem UH {X:Cx}{d:List (Addr×Obj)}{j:L2.St}{H:Hp}{s:Shared}(I:Inv X d j H s):∀{xs:List V} {ts:List T} {c:List Value} {f:List (Str×Int)},zy H xs ts->Vals xs c->Jf ts=some f->Zk s.heap c f/\∀(i:Int) t,c[0]? ≠ some (Value.int i t)
 | _,_,_,f,.nil,q,h=>by cases q;cases h;exact⟨.nil,λ_ _ z=>by simp at z⟩
 | _,_,_,f,.cons r rs,q,h=>by
  cases q with
  | cons o vs=>
  obtain⟨x,i,l,rfl,k,rfl⟩:=qC h;obtain⟨g,_⟩:=UH I rs vs k;obtain⟨a,u,p,n,ob,rfl,e⟩:=VO I r o;exact⟨.cons ⟨a,u,p,n,ob,rfl,e⟩ g,λ_ _ z=>by simp at z⟩
section
theorem big_of {a:L2.St}(I:Inv X pins a H s):sysModules < s.heap.objs.size:=fY (by decide) (I.mod.glob.keeps I.bk).lt
theorem yN (M:X.A.handled=none):Z7 X (.type "dict") (λvs H Q=>∃l xs ts a,vs=[.ref l]/\H l=some (.tup xs)/\zy H xs ts/\Jf ts=some a/\(a.map (·.1)).Nodup/\
  ∀q,H q=none->Q (.ref q) (mz H q (.dK (pG a)))):=by
 intro y s U H vs S Q I d h;obtain⟨l,xs,ts,a,rfl,F,r,j,nd,q⟩:=h;obtain⟨u,rfl,J⟩:=Zn d;obtain rfl:u=Value.ref l:=J;obtain⟨hz,G,d,⟨⟨c,dd,Z,P⟩,x,C,n,hd⟩,f⟩:=(show zQ _ X.w H _ l _ from I.hok l _ F);subst C hd;obtain⟨O,B⟩:=UH I r d j;have p:a.length<=sizeLine:=by rw[qD j,← r.length];exact hz
 have g:dd=none:=by
  rcases f with ⟨i,t,e⟩ | ⟨o,v,N⟩
  ·exact absurd (by simpa using e) (B i t)
  ·rw[x]at v;cases v;exact N
 subst g;refine qA M x O nd p λh' tk kvs k dd D=> ?_;refine⟨.ref _,_,I.laid k (am _) ?_,rfl,q _ (I.hok.fresh (am _))⟩;exact⟨by rw[ae];exact p,beq_eq_false_iff_ne.mpr (bj (aF (big_of I))),kvs,DU D,dd⟩
theorem LJ:IxR X (λx y H Q=>∃a f k i,x= .ref a/\y= .str k/\H a=some (.dK (pG f))/\f.lookup k=some i/\Q (.int i) H):=by
 intro d c g s D H x y v u Q I B o h l;obtain⟨p,f,k,i,rfl,rfl,hp,j,q⟩:=h;cases B;obtain⟨t,rfl⟩:=o;obtain⟨hz,C,vs,r,m⟩:=(show zQ _ X.w H _ p _ from I.hok p _ hp);obtain⟨t',e⟩:=Xh (qB r) j;exact tail_any m.typeIs slot_dict_getitem.lookup (wpAny_getItem_of (jH _ _ _ _) m.mapOf e ⟨.int i,H,I.tok _,⟨_,rfl⟩,q⟩) l
theorem qE:oW X "dict.values" (λx xs H Q=>∃a d,x= .ref a/\xs=[]/\H a=some (.dK (pG d))/\∀r,H r=none->Q (.ref r) (mz H r (.ext λh=>h.IsValuesView r a))):=by
 intro f s y H x xs v0 u Q I l k h;obtain⟨a,d,rfl,rfl,i,q⟩:=h;obtain rfl:v0=Value.ref a:=l;cases k;obtain⟨hz,g,vs,r,m⟩:=(show zQ _ X.w H _ a _ from I.hok a _ i);refine call_meetsIn eG m.typeIs PySem.F.entry_dict_values (PySem.F.args_dict_values_1 _) (meets_dict_values _ a g) ⟨⟨vs,m⟩, ?_⟩;have c:s.heap.objs.size<=s.heap.objs.size:=am _;refine⟨.ref _,_,I.laid (λb o e=>ab _ e) c ?_,rfl,q _ (I.hok.fresh c)⟩;exact⟨⟨_,af _ rfl,rfl,rfl⟩,⟨_,af _ rfl⟩,λB v ⟨o,j,p⟩ e=>⟨o,e _ j,p⟩⟩
theorem qF (val:Nat->Int):∀n:Nat,preSum val n=((aN n).map val).sum
 | 0=>rfl
 | n+1=>by
  rw[iN,cM,List.sum_append,← qF val n];simp[preSum]
theorem qG (S:X.A.handled=none):Z7 X (.builtin "sum") (λvs H Q=>∃r g a c,vs=[.ref r]/\H r=some (.ext g)/\(∀h:Heap,g h->h.IsValuesView r a)/\H a=some (.dK (pG c))/\Q (.int (c.map (·.2)).sum) H):=by
 intro F s σ H vs Z Q I J h;obtain⟨r,g,a,c,rfl,hr,j,B,q⟩:=h;obtain⟨u,rfl,P⟩:=Zn J;obtain rfl:u=Value.ref r:=P;obtain⟨M,_,_⟩:=(show zQ _ X.w H _ r _ from I.hok r _ hr);obtain⟨hz,hS,vs,N,m⟩:=(show zQ _ X.w H _ a _ from I.hok a _ B);obtain⟨ep,l⟩:=m.dictAt;have x:=qB N;have K:=PySem.W.kdl_values (prog:=X.prog) (knd:=Z0 _ X.w) (r:=r) (d:=a) (kvs:=vs) (ep:=ep);refine call_sum_walkAnyS ?_;obtain⟨oI,St,p,W,st⟩:=K.iter X.A.in1 s S ⟨j _ M,l⟩;refine p _ _ ⟨s.heap.objs.size,_,_,_,_,_,_,λi=>((c[i]?).map (·.2)).getD 0,rfl,W.toS,st,λb y=> ?_,λi v f=> ?_,λs' t' D=> ?_⟩
 ·rw[size_push'];rcases ak.mp y with e | y
  ·rw[e];exact fA _
  ·rw[aq.mp y];exact cQ (I.hok.lt B)
 ·obtain⟨k,f⟩:=f;have hi:i < c.length:=by rw[← x.len];exact(ay.mp f).1
  obtain⟨U,C,e2,t,G⟩:=Jg x (ah hi);rw[f]at C;cases C;exact⟨t,by dsimp only;rw[ah hi];exact G⟩
 ·have kp:=λb o e=>
   D.heap b o (λz=>absurd (au e) (by rw[aq.mp z];exact bE _)) (ab _ e)
  rw[Moved.eq_with D];have O:preSum (λi=>((c[i]?).map (·.2)).getD 0) vs.length=(c.map (·.2)).sum:=by
   rw[qF,x.len];congr 1
   refine dL λi=> ?_;rw[ao,ao]
   by_cases hi:i < c.length
   ·simp[hi]
   ·rw[aP (by simp;omega),aP (by omega)];rfl
  rw[O];exact⟨.int _,H,I.kept kp,⟨_,rfl⟩,q⟩
end
theorem Kx (h:qy t k= .ok v):∃ts a x i,t= .tup ts/\k= .str x/\Jf ts=some a/\(a.map (·.1)).Nodup/\a.lookup x=some i/\v= .int i:=by
 unfold qy at h;split at h
 ·rename_i ts x;split at h
  ·rename_i l e;split at h
   ·rename_i nd;split at h
    ·rename_i i c;cases h;exact⟨ts,l,x,i,rfl,rfl,e,nd,c,rfl⟩
    ·cases h
   ·cases h
  ·cases h
 ·cases h
theorem qH (t k:T):(∃v,qy t k= .ok v)\/qy t k= .bad:=by
 unfold qy;split
 ·split
  ·split
   ·split
    ·exact .inl ⟨_,rfl⟩
    ·exact .inr rfl
   ·exact .inr rfl
  ·exact .inr rfl
 ·exact .inr rfl
section
theorem VP {a:List (Str×Int)}(c:t= .tup ts)(e:Jf ts=some a)(nd:(a.map (·.1)).Nodup):uj t= .ok (.int (a.map (·.2)).sum):=by
 subst c;unfold uj;dsimp only;rw[e];dsimp only;rw[if_pos nd]
theorem Ky (hij:i ≠ j)(hy:Y.cl=cl)(F:wD X.prog X.w X.K X.mg X.base mT jf fo fd ps (spP cl 2 g))(hr:ja k X.A)(hjf:jf<=k)(gf:Gl X f)
  (mf:X.mg f=some (.ref fo)) (kp:d0 X.K (.ref fo)=true) (bd:L2.Binds X.K fd ps []) (hN:X.N.Nodup) (hi:X.N[i]? =some x) (hx:L2.Loc X.env.scope x) (gl:Gl X "dict") (mg:X.mg "dict"=none) (gs:Gl X "sum") (ms:X.mg "sum"=none)
  (pi:PE X (.Name x p3) (W6 i)) (pj:PE X (.Name y p4) (W6 j)) (ha:Snd X Y a fa) (pi' :PE X (.Name x p5) (W6 i):=by exact Jn (by rfl) (by rfl)) (hs:mY X a:=by exact mQ rfl)
  (hsw:swapsWith (.Call (.Name "dict" p2) [a] [] pa) (some (.Name x p1)) pb.line X.env=pure false:=by rfl) (hf:X.fn x=true\/X.env.scope.names.lookup x=some .local:=by first | exact .inl rfl | exact .inr rfl | assumption) (hd:(f == ("__debug__":Str))=false:=by decide)
  (J:attributeBase (.Name x p5) "values" X.env (eval (.Name x p5) X.env)=eval (.Name x p5) X.env:=by rfl) (hli:(p6.endLine == p7.line)=true:=by rfl):
  We X Y [.Assign [.Name x p1] (.Call (.Name "dict" p2) [a] [] pa) pb,.Return (some (.Call (.Name f p8) [.Subscript (.Name x p3) (.Name y p4) p9,.Call (.Name "sum" pc) [.Call (.Attribute (.Name x p5) "values" p6) [] [] p7] [] pd] [] pos)) pos'] (VM j fa g):= .mk λρ=>by
 subst hy;have hh:=hr.hd;have G :starEach [.Subscript (.Name x p3) (.Name y p4) p9,.Call (.Name "sum" pc) [.Call (.Attribute (.Name x p5) "values" p6) [] [] p7] [] pd] X.env=(false,eval _ X.env) :: starEach _ X.env:=zD rfl;have W:=(jr (wM hN hi hx (ZZ (yN hh) gl mg PyProof.Rows.Boot.«dict» (zm (ha ρ) zH hs) (by decide) (by decide) hs rfl) hsw hf)
  (Jb (wL (pos:=pos') (jb (E:=Y.E) (p:=p8) (pos:=pos) F (hr.mono hjf) gf mf kp bd .nil uW
   (zm (GJ LJ pi pj (λ_ _=>rfl)) (zm (ZM (qG hh) gs ms PyProof.Rows.Boot.«sum» (zm (xU eL eG io qE pi' J hli) zH (mQ rfl)) (by decide) (by decide) (mQ rfl) rfl) zH (mQ rfl)) G) hd G (zT rfl)))))
 intro P s σ H D Iv ⟨B,I,q⟩;have U:i < σ.length:=by rw[Iv.len];exact(ay.mp hi).1
 refine W P s σ H D Iv ?_;have q' :PoS Y B ((fa ρ).s λt=>(((vE j ρ).bind λk=>(qy t k).bind λx=>(uj t).bind λy=>g [x,y]).s λt=> .rt t)) D:=by
  have e:VM j fa g ρ=((fa ρ).s λt=>(((vE j ρ).bind λk=>(qy t k).bind λx=>(uj t).bind λy=>g [x,y]).s λt=> .rt t)):=by
   unfold VM;cases fa ρ <;> rfl
  rw[← e];exact q
 refine Je I q' λt v H1 _ s1 r1 O C=> ?_;unfold vE at C;split at C
 ·rename_i kk e;obtain⟨u,eu,ru⟩:=O.vl j kk e;have C:PoS Y _ (((qy t kk).bind λx=>(uj t).bind λy=>g [x,y]).s λt=> .rt t) D:=C;rcases qH t kk with ⟨v',Z⟩ | Z
  ·obtain⟨ts,qs,z,m,rfl,rfl,e1,nd,ei,rfl⟩:=Kx Z;rw[Z]at C;rw[VP rfl e1 nd]at C;have C:PoS Y _ ((g _).s λt=> .rt t) D:=C;cases r1 with
   | @tup l xs _ h r=>
    cases ru;refine⟨l,xs,ts,qs,rfl,O.sB _ _ h,r.mono O.sB,e1,nd,λw hw=> ?_⟩;have gi:(σ.set i (some (V.ref w)))[i]? =some (some (V.ref w)):=by rw[be U]
    have gj:(σ.set i (some (V.ref w)))[j]? =some (some (V.str z)):=by rw[aB hij];exact eu
    refine⟨_,gi,_,gj,w,qs,z,m,rfl,rfl,zl,ei, ?_⟩;refine⟨_,gi,.inr (.inr (.inl ⟨rfl,.inl ⟨_,zl⟩⟩)),w,qs,rfl,rfl,zl,λy hy=> ?_⟩;have Q:y ≠ w:=λe=>by rw[e,zl]at hy;cases hy
    have hy1:=by rw[zi Q]at hy;exact hy
    refine⟨y,_,w,qs,rfl,zl,λh z=>z,by rw[zi (bj Q)];exact zl, ?_⟩
    have S:zo H1 (mz (mz H1 w (.dK (pG qs))) y (.ext λh=>h.IsValuesView y w)):=λb o J=>by
     have n1:b ≠ w:=λe=>by rw[e,hw]at J;cases J
     have n2:b ≠ y:=λe=>by rw[e,hy1]at J;cases J
     rw[zi n2,zi n1];exact J
    have M:=O.grow S;refine⟨_,[.int m,.int _],rfl,M.sB,.cons (.int _) (.cons (.int _) .nil), ?_⟩;revert C;cases g _ with
    | bad=>exact λC=>C
    | ex c=>exact λC d H' s sB=>C d H' (M.sH.trans s) ((zF.ge O.sB S).trans sB)
    | ok t=>exact λC b H' s r=>C b H' (M.sH.trans s) (r.mono (Ur M.sH M.old s M.sB))
  ·rw[Z]at C;exact C.elim
 ·exact C.elim
end
section
end
section
end
end PV
namespace PySem.RV
open PySem PySem.Spec PyProof.Rows PySem.Builtin.SmallTypes
section
end
end PySem.RV
namespace PV
open PySem PySem.Spec PyProof.Rows L2
section
end
section
section
end
end
section
end
section
end
end PV
namespace PV
open PySem PySem.W PyProof.Rows
section
variable {α β:Type}
noncomputable def Gd (lt:Nat->Nat->Bool)(n:Nat):KasT α->(α->Prop)->Prop
 | .ret a,P=>P a
 | .ask i j k,P=>(i < n/\j < n/\i ≠ j)/\Gd lt n (k (lt i j)) P
theorem Gd.mono {lt:Nat->Nat->Bool}{P c :α->Prop}(h:∀a,P a->c a):∀(t:KasT α),Gd lt n t P->Gd lt n t c
 | .ret a,g=>h a g
 | .ask i j k,⟨d,g⟩=>⟨d,Gd.mono h _ g⟩
theorem Gd.bind {lt:Nat->Nat->Bool}{P:β->Prop}{f:α->KasT β}:∀(t:KasT α),Gd lt n t (λa=>Gd lt n (f a) P)->Gd lt n (t.bind f) P
 | .ret a,g=>g
 | .ask i j k,⟨c,g⟩=>⟨c,Gd.bind _ g⟩
theorem Gd.wp {lt:Nat->Nat->Bool}{c:Nat->Nat->(Bool->Shared->Prop)->Shared->Prop}{J:Shared->Prop}(f:∀i j C s,i < n->j < n->i ≠ j->J s->(∀d,J d ->C (lt i j) d)->c i j C s){P:α->Prop}{Q:α->Shared->Prop}(l:∀a s,P a->J s->Q a s):∀(t:KasT α) (s:Shared),Gd lt n t P->J s->t.kasWp c Q s
 | .ret a,s,g,j=>l a s g j
 | .ask i j k,s,⟨⟨q,o,p⟩,g⟩,js=>f i j _ s q o p js λd e =>Gd.wp f l _ d g e
end
section
variable {O:KeyOrd}{key:Nat->O.α}
noncomputable abbrev kp (key:Nat->O.α)(p:Array Nat)(i:Nat):O.α:=key (p.getD i 0)
structure Pm (n:Nat) (p:Array Nat):Prop where
 sz:p.size=n
 pm:p.toList.Perm (aN n)
theorem Pm.lt {p:Array Nat}(h:Pm n p)(hi:i < n):p.getD i 0 < n:=by
 have a:i < p.size:=by rw[h.sz];exact hi
 have e:p.getD i 0=p[i]:=by simp[lw,a]
 rw[e];exact aT.mp (h.pm.mem_iff.mp (Array.getElem_mem_toList a))
theorem Pm.inj {p:Array Nat}(h:Pm n p)(hi:i < n)(g:j < n)(e:p.getD i 0=p.getD j 0):i=j:=by
 have c:i < p.size:=by rw[h.sz];exact hi
 have a :j < p.size:=by rw[h.sz];exact g
 have f:p.getD i 0=p[i]:=by simp[lw,c]
 have d:p.getD j 0=p[j]:=by simp[lw,a]
 rw[f,d]at e;have nd:=h.pm.nodup_iff.mpr List.nodup_range;have:=(dQ (h₀:=by simpa using c) (h₁:=by simpa using a) nd).mp (by simpa using e)
 exact this
def So (key:Nat->O.α)(p:Array Nat)(m:Nat):Prop:=∀i j,i < j->j < m->O.klt (kp key p i) (kp key p j)
theorem Wm {p q:Array Nat}(h:p[i]? =q[j]?):p.getD i 0=q.getD j 0:=by
 have e:∀(a:Array Nat) (k:Nat),a.getD k 0=(a[k]?).getD 0:=λa k=>by simp
 rw[e,e,h]
variable (hk:∀i j,i < n->j < n->key i=key j->i=j)
include hk
theorem Kz {p:Array Nat}(h:Pm n p)(hi:i < n)(c:j < n)(a:i ≠ j)(d:O.blt (kp key p i) (kp key p j)=false):O.klt (kp key p j) (kp key p i):=by
 cases q:O.blt _ _ with
 | true=>exact q
 | false=>exact absurd (h.inj hi c (hk _ _ (h.lt hi) (h.lt c) (O.total _ _ d q))) a
omit hk in
theorem So.snoc {p:Array Nat}(h:So key p m)(f:1<=m)(e:O.klt (kp key p (m - 1)) (kp key p m)):So key p (m+1):=λi j a g=>by
 by_cases c:j=m
 ·subst c
  by_cases d:i=j - 1
  ·rw[d];exact e
  ·exact cY (h i _ (by omega) (by omega)) (eW e)
 ·exact h i j a (by omega)
theorem qI {p:Array Nat}(hp:Pm n p):∀(f m:Nat),1<=m->m+f=n->So key p m->Gd (λi j=>O.blt (key i) (key j)) n (kas_asc p f m) λr=>m<=r/\r<=n/\So key p r/\(r < n->O.klt (kp key p r) (kp key p (r - 1)))
 | 0,m,_,d,h=>⟨am _,by omega,h,λz=>by omega⟩
 | f+1,m,e,d,h=>by
  refine⟨⟨hp.lt (by omega),hp.lt (by omega),λz=>absurd (hp.inj (by omega) (by omega) z) (by omega)⟩, ?_⟩
  show Gd _ n (if O.blt _ _=true then .ret m else kas_asc p f _) _
  cases q:O.blt _ _ with
  | true=>exact⟨am _,by omega,h,λ_=>q⟩
  | false=>
   exact Gd.mono (λr ⟨a,b,c⟩=>⟨by omega,b,c⟩) _ (qI hp f _ (by omega) (by omega) (h.snoc e (Kz hk hp (by omega) (by omega) (by omega) q)))
def De (key:Nat->O.α)(p:Array Nat)(m:Nat):Prop:=∀i j,i < j->j < m->O.klt (kp key p j) (kp key p i)
theorem qJ {p:Array Nat}(hp:Pm n p):∀(f m:Nat),2<=m->m+f=n->De key p m->Gd (λi j=>O.blt (key i) (key j)) n (kas_desc f p m 0) λr=>r.1=p/\r.2.2=0/\m<=r.2.1/\r.2.1<=n/\De key p r.2.1
 | 0,m,_,l,h=>⟨rfl,rfl,am _,by show m<=n;omega,h⟩
 | f+1,m,u,l,h=>by
  refine⟨⟨hp.lt (by omega),hp.lt (by omega),λz=>absurd (hp.inj (by omega) (by omega) z) (by omega)⟩, ?_⟩
  show Gd _ n (if O.blt _ _=true then (if 0 > 0 then kas_desc f _ _ 0 else kas_desc f p _ 0) else .ask _ _ λd=>if d=true then .ret _ else kas_desc f p _ _) _
  cases q:O.blt _ _ with
  | true=>
   refine Gd.mono (λr ⟨a,b,c,d⟩=>⟨a,b,by omega,d⟩) _ (qJ hp f _ (by omega) (by omega) λi j e v=> ?_)
   by_cases g:j=m
   ·subst g
    by_cases k:i=j - 1
    ·rw[k];exact q
    ·exact cY (show O.klt _ _ from q) (eW (h i _ (by omega) (by omega)))
   ·exact h i j e (by omega)
  | false=>
   refine⟨⟨hp.lt (by omega),hp.lt (by omega),λz=>absurd (hp.inj (by omega) (by omega) z) (by omega)⟩, ?_⟩
   have o:O.blt _ _=true:=Kz hk hp (by omega) (by omega) (by omega) q
   show Gd _ n (if O.blt _ _=true then .ret _ else _) _
   rw[if_pos o];exact⟨rfl,rfl,am _,by show m<=n;omega,h⟩
omit hk in
theorem Xi {p:Array Nat}(hp:Pm n p)(i j:Nat):Pm n (kas_rev p i j):=⟨(mirror_size _ _ _ _).trans hp.sz,(hZ.mp (mirror_perm p i j _)).trans hp.pm⟩
omit hk in
theorem qK {p:Array Nat}(hp:Pm n p)(c:m<=n)(a :k < m):(kas_rev p 0 m).getD k 0=p.getD (m - 1 - k) 0:=by
 refine Wm ?_;unfold kas_rev;rw[getElem?_mirror_all (by rw[hp.sz];exact c),if_pos ⟨bf _,a⟩]
 congr 1
 omega
theorem jw {p:Array Nat}(hp:Pm n p)(C:2<=n):Gd (λi j=>O.blt (key i) (key j)) n (kas_count n p) λr=>1<=r.1/\r.1<=n/\Pm n r.2/\So key r.2 r.1:=by
 refine Gd.bind _ (Gd.mono (λm ⟨a,b,c,d⟩=> ?_) _ (qI hk hp _ 1 (am _) (by omega) λi j f l=>by omega))
 by_cases g:m=n
 ·rw[if_pos (by simpa using g)]
  exact⟨a,b,hp,c⟩
 ·rw[if_neg (by simpa using g)]
  by_cases k:m > 1
  ·rw[if_pos k];refine⟨⟨hp.lt (by omega),hp.lt (by omega),λz=>absurd (hp.inj (by omega) (by omega) z) (by omega)⟩, ?_⟩
   have q:O.blt _ (kp key p (m - 1))=true:=c 0 _ (by omega) (by omega)
   show Gd _ n (if O.blt _ _=true then .ret _ else _) _
   rw[if_pos q];exact⟨a,b,hp,c⟩
  ·have e:m=1:=by omega
   subst e;have u:=d (by omega)
   refine Gd.bind _ (Gd.mono (λr ⟨w,y,D,o,v⟩=> ?_) _ (qJ hk hp _ _ (by omega) (by omega) λi j f l=>by
    have:i=0/\j=1:=by omega
    rw[this.1,this.2];exact u))
   rw[y,w];refine Gd.bind _ (Gd.mono (λF ⟨G,B,x,_⟩=>⟨by omega,B,Xi hp 0 _,x⟩) _ (qI hk (Xi hp 0 _) _ _ (by omega) (by omega) λi j f l=> ?_))
   unfold kp;rw[qK hp o (by omega),qK hp o l]
   exact v _ _ (by omega) (by omega)
theorem Wn {p:Array Nat}(hp:Pm n p)(c:k < n)(o:So key p k):∀(f l r:Nat),r<=k->l<=r->r - l<=f->(∀i,i < l->O.klt (kp key p i) (kp key p k))->(∀i,r<=i->i < k->O.klt (kp key p k) (kp key p i))->
  Gd (λi j=>O.blt (key i) (key j)) n (kas_place p k f l r) λm=>m<=k/\(∀i,i < m->O.klt (kp key p i) (kp key p k))/\∀i,m<=i->i < k->O.klt (kp key p k) (kp key p i)
 | 0,l,r,w,x,y,g,u=>⟨by omega,g,λi hi a=>u i (by omega) a⟩
 | f+1,l,r,w,x,y,g,u=>by
  unfold kas_place
  by_cases d:l ≥ r
  ·rw[if_pos d];exact⟨by omega,g,λi hi a=>u i (by omega) a⟩
  ·rw[if_neg d];refine⟨⟨hp.lt c,hp.lt (by omega),λz=>absurd (hp.inj c (by omega) z) (by omega)⟩, ?_⟩
   show Gd _ n (if O.blt _ _=true then kas_place p k f l _ else kas_place p k f _ r) _
   cases q:O.blt _ _ with
   | true=>
    refine Wn hp c o f l _ (by omega) (by omega) (by omega) g λi hi a=> ?_
    by_cases e:i=(l+r) / 2
    ·rw[e];exact q
    ·exact cY (q) (eW (o _ _ (by omega) a))
   | false=>
    refine Wn hp c o f _ r w (by omega) (by omega) (λi hi=> ?_) u
    have v:=Kz hk hp c (by omega) (by omega) q
    by_cases e:i=(l+r) / 2
    ·rw[e];exact v
    ·exact cY (o _ _ (by omega) (by omega)) (eW v)
omit hk in
theorem qL {p:Array Nat}(hp:Pm n p)(a:k < n)(c:l<=k):(bubble p k (k - l)).getD i 0=if i=l then p.getD k 0 else if l < i/\i<=k then p.getD (i - 1) 0 else p.getD i 0:=by
 have h:=getElem?_bubble (by rw[hp.sz];exact a) (k - l) (by omega) i
 rw[show k - (k - l)=l by omega]at h
 repeat' split at h
 all_goals first | (rw[if_pos (by assumption)];exact Wm h) | (rw[if_neg (by assumption),if_pos (by assumption)];exact Wm h) | (rw[if_neg (by assumption),if_neg (by assumption)];exact Wm h)
theorem Xj:∀(f:Nat) (p:Array Nat) (k:Nat),Pm n p->k+f=n->So key p k->Gd (λi j=>O.blt (key i) (key j)) n (kas_bin f p k) λq=>Pm n q/\So key q n
 | 0,p,k,hp,d,h=>⟨hp,by rw[← d];exact h⟩
 | f+1,p,k,hp,d,h=>by
  unfold kas_bin;refine Gd.bind _ (Gd.mono (λl ⟨a,b,c⟩=> ?_) _ (Wn hk hp (by omega) h k 0 k (am _) (bf _) (by omega) (λi hi=>by omega) λi hi o=>by omega))
  refine Xj f _ _ ⟨(bubble_size _ _ _).trans hp.sz,(hZ.mp (bubble_perm p k _)).trans hp.pm⟩ (by omega) λi j g r=> ?_
  unfold kp;rw[qL hp (by omega) a,qL hp (by omega) a]
  by_cases hi:i=l
  ·rw[if_pos hi,if_neg (by omega),if_pos ⟨by omega,by omega⟩]
   exact c _ (by omega) (by omega)
  ·rw[if_neg hi]
   by_cases e :j=l
   ·rw[if_pos e,if_neg (by omega)]
    exact b i (by omega)
   ·rw[if_neg e]
    by_cases x:l < i/\i<=k
    ·rw[if_pos x,if_pos ⟨by omega,by omega⟩]
     exact h _ _ (by omega) (by omega)
    ·rw[if_neg x]
     by_cases y:l < j/\j<=k
     ·rw[if_pos y];exact h _ _ (by omega) (by omega)
     ·rw[if_neg y];exact h _ _ g (by omega)
theorem U0 (e:2<=n):Gd (λi j=>O.blt (key i) (key j)) n (kas_sort n) λq=>Pm n q/\So key q n:=by
 refine Gd.bind _ (Gd.mono (λr ⟨a,b,c,d⟩=> ?_) _ (jw hk ⟨by simp,by simp⟩ e))
 by_cases h:r.1 < n
 ·rw[if_pos h,show max r.1 1=r.1 by omega]
  exact Xj hk _ _ _ c (by omega) d
 ·rw[if_neg h];exact⟨c,by rw[show n=r.1 by omega];exact d⟩
end
end PV
namespace PV
open PySem PySem.Spec PyProof.Rows L2
section
end
section
end
section
open PySem.W PySem.Calls
variable {O:KeyOrd}{key:Nat->O.α}
end
section
open PySem.W PySem.Calls
end
section
variable {X:Cx}{Y:Fx}{a:Expr}{fa:En->R T}{p pos:Pos}
theorem uk (r:zy H xs ts):∀(c:List Nat),(∀i∈c,i < ts.length)->zy H (c.map λi=>xs.getD i V.non) (c.map λi=>ts.getD i T.non)
 | [],_=> .nil
 | i :: c,h=>by
  have hi:=h i aa;obtain⟨v,f,e⟩:=r.get (ah hi);have d:xs.getD i V.non=v:=by rw[cF,f];rfl
  have g:ts.getD i T.non=ts[i]:=by rw[cF,ah hi];rfl
  rw[ar,ar,d,g];exact .cons e (uk r c λj k=>h j (a9 _ k))
theorem ul (r:L2.Vals xs us):∀(c:List Nat),(∀i∈c,i < xs.length)->L2.Vals (c.map λi=>xs.getD i V.non) (c.map λi=>us.getD i Value.none)
 | [],_=> .nil
 | i :: c,h=>by
  have hi:=h i aa;obtain⟨u,f,e⟩:=r.get (ah hi);have d:us.getD i Value.none=u:=by rw[cF,f];rfl
  have g:xs.getD i V.non=xs[i]:=by rw[cF,ah hi];rfl
  rw[ar,ar,d,g];exact .cons e (ul r c λj k=>h j (a9 _ k))
end
end PV
namespace PV
open PySem PySem.Spec PyProof.Rows L2
theorem KA (i:zo B H)(s:zo H H1)(q:Po Y rC B H r Q):Po Y rC (zF B H H1) H1 r Q:=by
 cases r with
 | bad=>exact q
 | ex c=>exact λd e a b=>q d e a ((zF.ge i s).trans b)
 | ok t=>exact λb e g f =>q b e (s.trans g) (by rw[zF.trans s g]at f;exact f)
section
end
section
open HT in
open HT in
end
section
end
end PV
namespace PV
open PySem PySem.Spec PyProof.Rows L2
end PV
namespace L2
open PySem PySem.Spec PyProof.Rows PySem.W
structure Lm (X:Cx) (c P:Addr) (q:Str):Prop where
 code:X.env.code= .ref c
 hd:codeHdIn X.K c P=true
 bt:X.base.BuiltinsAt X.mg P
 ql:X.env.qual++"<lambda>"=q
def Wo (H:Hp)(q:Str)(c:Addr):Prop:=∃a vs t,H c=some (.frz a (.own c))/\a.data= .fields vs/\vs[1]? =some (.str q t)
theorem Wo.mono (s:zo H H')(h:Wo H q c):Wo H' q c:=let ⟨oc,vs,t,e,r⟩:=h;⟨oc,vs,t,s _ _ e,r⟩
theorem Wo.rec (x:Wo H q c)(ok:HOk P w H h):h.CodeRec (.ref c) q:=by
 obtain⟨a,vs,t,e,d,v⟩:=x;exact⟨c,a,vs,t,rfl,(ok c _ e).1,d,v⟩
theorem wT {p e :Pos}{c d:Value}:∀(l:List Value),TriplesOk l->codeAmong p (l++[rawInt e.line,rawInt e.col,c])=some d->codeAmong p l=some d\/d=c
 | [],_,h=>by
  right
  simp only[bP,rawInt,codeAmong]at h;split at h
  ·exact(aH h).symm
  ·cases h
 | .int a t :: .int b u :: x :: r,ok,h=>by
  simp only[fE,codeAmong]at h ⊢;split at h
  ·rename_i z;rw[if_pos z];exact .inl h
  ·rename_i z;rw[if_neg z];exact wT r (by simpa only[TriplesOk] using ok) h
noncomputable abbrev pY (q:Str)(params:Arguments)(body:Expr)(scope:Scope)(clos:List (Str×Addr))(pm ctv:Value)(c:Addr):Obj:=kla_obj "<lambda>" q params body scope clos pm c ctv
theorem Ic (L:Lm X c P q)(F:defaultsOf params X.env=([],[]))(M:closureFor scope X.env=pure clos):
  PE X (.Lambda params body scope pos) (λσ H Q=>H P=some (.tbl #[] q)/\∀f d pm g H',zo H H' ->H' f=some (.frz (pY q params body scope clos pm g d) (.own f))->Wo H' q d ->Q (.ref f) H'):=by
 intro J s σ H Q I ⟨Z,h⟩;obtain⟨j,eP,tr,al⟩:=I.hok P _ Z;have C:=codeHd_of_K I.kIn L.hd;have hg:=I.ok.mod.glob.keeps I.bk;have hB:s.heap.BuiltinsAt X.mg P:=by
  obtain⟨bm,o,b1,b2,b3,b4,b5,b6⟩:=L.bt;exact⟨bm,o,b1,b2,b3,b4,I.bk _ _ b5,b6⟩
 have hgP:mainGlobals ≠ P:=λz=>by
  obtain⟨o,es,ep,e,hd,_⟩:=hg;rw[z,eP]at e;cases e;cases hd
 have i:∀{H2:Hp} {f:Addr} {o:Obj} {h2:Heap},h2.get? f=some o->zQ X.prog X.w H2 h2 f (.frz o (.own f)):=λe=>⟨e,_,e⟩;refine kla_eval F ?_;rw[L.ql];cases hf:codeAmong pos _ with
 | some cv=>
  obtain⟨d,y,vs,t,rfl,e2,e3,e4⟩:=al pos cv hf;refine kla_makeFunctionHit M I.ok.glob hg L.code C eP tr hf hB λg h' tk hk hsz=> ?_;have k:=I.hok.fresh hsz;have e5:(h'.push (pY q params body scope clos ((X.mg "__name__").getD .none) g d)).get? _=some _:=af _ rfl;refine⟨.ref _,_,I.laid (λb u e=>ab _ (hk b u e)) hsz (i e5),rfl, ?_⟩;exact h _ d _ g _ (PV.zo.new k _) zl (Wo.mono (PV.zo.new k _) ⟨y,vs,t,e2,e3,e4⟩)
 | none=>
  refine kla_makeFunction M I.ok.glob hg L.code C eP tr hf hgP hB λd g h' tk B O S D U=> ?_;obtain⟨c₂,y,vs,t,e2,hoc,hd,hv⟩:=D;cases e2;have hc0:=I.hok.fresh O;have x:∀b,H b=none->b ≠ P:=λb n z=>by rw[z,Z]at n;cases n
  have mW:∀b o,s.heap.get? b=some o->b ≠ d :=λb o e=>aF (aL (au e) O);have l:zo H (mz H d (.frz y (.own d))):=PV.zo.new hc0 _;have hl:(#[]++j++ #[rawInt pos.line,rawInt pos.col,Value.ref d]).toList=(#[]++j).toList++[rawInt pos.line,rawInt pos.col,Value.ref d]:=by simp
  have hok:HOk _ X.w (mz H d _) h' :=λb u e=>by
   by_cases G:b=d
   ·subst G;rw[zl]at e;cases e;exact i hoc
   ·rw[zi G]at e
    by_cases N:b=P
    ·subst N;rw[Z]at e;cases e;refine⟨j++ #[rawInt _,rawInt _,Value.ref d],by rw[← h_];exact U,by rw[← h_,hl];exact TriplesOk_snoc _ _ _ _ tr,λp cv z=> ?_⟩
     rw[← h_,hl]at z;rcases wT _ tr z with z | rfl
     ·obtain⟨c2,oc2,vs2,t2,a1,a2,a3⟩:=al p cv z;exact⟨c2,oc2,vs2,t2,a1,l _ _ a2,a3⟩
     ·exact⟨d,y,vs,t,rfl,zl,hd,hv⟩
    ·refine(I.hok b u e).stay (λa v ha r =>B a v (λz=> ?_) r) (λ_ r =>l _ _ r) (λ_ _ r =>l _ _ r) λ_ _ _ r =>l _ _ r;subst z;rcases ha with z | z
     ·exact N z.symm
     ·rw[Z]at z;cases z
  have I1:Inv X J σ (mz H d (.frz y (.own d))) { s with heap:=h',toks:=s.toks }:=by
   refine I.step (ch:=[]) (λ_ z=>nomatch z) (λb o _ _ _ e n=>B b o (x b n) e) (λb o _ _ _ e n=>⟨o.slots,B b o (x b n) e⟩) (λb o _ e n=>by rw[zi (mW b o e)];exact n) (λb o _ e=> ?_) (λ_ _ e=>l _ _ e) (λ_ _ _ e=>l _ _ e) (λ_ _ _ e=>l _ _ e) (λm hm=>hm.extBut B (x _ I.free)) hok I.bare
   by_cases G:b=P
   ·exact⟨_,G ▸ U⟩
   ·exact⟨o,B b o G e⟩
  have k:mz H d (.frz y (.own d)) h'.objs.size=none:=by rw[zi (cO S)];exact I1.hok.fresh (am _) |> λz=>by rw[zi (cO S)]at z;exact z
  have e5:(h'.push (pY q params body scope clos ((X.mg "__name__").getD .none) g d)).get? _=some _:=af _ rfl;refine⟨.ref _,_,I1.laid (λb u e=>ab _ e) (am _) (i e5),rfl, ?_⟩;have s2:zo _ (mz _ _ (.frz (pY q params body scope clos ((X.mg "__name__").getD .none) g d) (.own h'.objs.size))):=PV.zo.new k _;exact h _ d _ g _ (l.trans s2) zl (Wo.mono s2 ⟨y,vs,t,zl,hd,hv⟩)
end L2
namespace L2
open PySem PySem.Spec PyProof.Rows PySem.W
def Xk (s:Shared)(H:Hp)(a:List Addr):Heap:=hideAll s.heap (tH s.heap H++a)
theorem UI (e:s.heap.get? b=some o)(n:H b=none)(a:b ∉ fr):(Xk s H fr).get? b=some o:=
 hideAll_get _ e λc=>by
  rcases aW.mp c with z | z
  ·have q:=(bA.mp z).2;rw[n]at q;cases q
  ·exact a z
theorem KC (e:(Xk s H fr).get? b=some o):s.heap.get? b=some o/\H b=none:=by
 have a :=of_hideAll _ e;refine⟨a, ?_⟩;cases q:H b with
 | none=>rfl
 | some x=>
  have c:b∈tH _ H++fr:=dM _ (bA.mpr ⟨aT.mpr (au a),by simp[q]⟩)
  have z:(Xk s H fr).get? b=none:=hideAll_none _ c;rw[z]at e;cases e
theorem Mod.keeps {K:Frag}{c:Str->Option Value}{b d :Heap}(m:Mod K c b)(k:∀a o,b.get? a=some o->d.get? a=some o):Mod K c d :=
 ⟨m.kin.keeps k,m.glob.keeps k,let ⟨mb,h1,h2⟩:=m.blt;⟨mb,h1.keeps k,h2⟩,m.nolimit.keeps k⟩
section
theorem Inv.big_of (I:Inv X pins σ H s):∀b o,X.base.get? b=some o->(Xk s H (ng X.stack)).get? b=some o:=λb o e=>by
 refine UI (I.bs b o e).1 (I.bs b o e).2 λa=> ?_;have:=(I.stack.mem a).1;rw[e]at this;cases this
theorem Inv.big (I:Inv X pins σ H s):xS X.prog X.w X.K X.mg (Xk s H (ng X.stack)) X.A X.stack s H:=
 ⟨I.ok.frames,I.ok.mod.keeps I.big_of,λb o e=>KC e,Nat.le_of_eq (hideAll_size _ _),funFrames_hide I.stack λenv d a c=>aG _ (g7.mpr ⟨env,d,c⟩),I.stkFree,I.hok,I.bare⟩
end
def sJ (P:Program)(w:World)(K:Frag)(mg:Str->Option Value)(base:Heap)(N:List Str)(q:Str)(scope:Scope)(f:Addr)(cd:Value)(a:List (Str×Addr))(A:Around)(outer:List Env)(s:Shared)(H:Hp)(E:XK):Cx where
 prog:=P
 w:=w
 K:=K
 mg:=mg
 base:=base
 A:=A.deeper (envX q scope s.heap.objs.size f cd a)
 N:=N
 s₀:=s
 H₀:=H
 env:=envX q scope s.heap.objs.size f cd a
 outer:=outer
 stack:=envX q scope s.heap.objs.size f cd a :: outer
 ex:=[]
 calm:=true
 fn:=λ_=>false
 pn:=[]
 xe:=λe g =>wpAny (model P w) (A.deeper (envX q scope s.heap.objs.size f cd a)) (leaving (envX q scope s.heap.objs.size f cd a) e) (λ_ c =>nc P w outer H s E e c) (λd c =>nc P w outer H s E d c) g
section
variable {P:Program}{w:World}{K:Frag}{mg:Str->Option Value}{base:Heap}{N:List Str}{q:Str}{scope:Scope}{f:Addr}{cd:Value}{clos:List (Str×Addr)}{A:Around}{outer:List Env}{s:Shared}{H:Hp}{E:XK}
structure CT (scope:Scope):Prop where
 kind:scope.kind= .function
 co:scope.isCoroutine=false
 gen:scope.isGenerator=false
 nocell:∀x∈scope.names,x.2 ≠ .cell
structure qM (base:Heap) (H:Hp) (scope:Scope) (clos:List (Str×Addr)) (N:List Str) (σ:St):Prop where
 inj:∀x y c,clos.lookup x=some c->clos.lookup y=some c->x=y
 has:∀x∈scope.names,x.2= .free->∃c,clos.lookup x.1=some c
 cell:∀x c,clos.lookup x=some c->(∃v,base.IsCell c v)/\H c=none
 loc:∀(i:Nat) (x:Str) (v:V),N[i]? =some x->σ[i]? =some (some v)->∃u c,RelV v u/\clos.lookup x=some c/\base.IsCell c (some u)/\scope.names.lookup x=some .free
 len:σ.length=N.length
theorem wU {h h' :Heap}{c:Addr}{v:Option Value}(k:∀a o,h.get? a=some o->h'.get? a=some o)(x:h.IsCell c v):h'.IsCell c v:=let ⟨o,e,d⟩:=x;⟨o,k _ _ e,d⟩
end
end L2
namespace L2
open PySem PySem.Spec PyProof.Rows PySem.W
end L2
namespace PV
open PySem PySem.Spec PyProof.Rows L2 PySem.W
section
end
section
variable {P:Program}{w:World}{K:ai}{mg:Str->Option Value}{base:Heap}
def qN (cl:Nat->Value)(n:Nat)(g:List T->R T)(a:Addr)(q:Str):Sp:=λvs H Q E=>H a=some (.tbl #[] q)/\spP cl n g vs H Q E
theorem LM {cl:Nat->Value}{x d q:Str}{st:Stmt}{f c y:Addr}{o:FuncData}{N u:List Str}{k n:Nat}{p:En->RS}{g:List T->R T}(F:Fun K x d st f o)(G:o.code= .ref c)(S:jJ N u (zf st))(hn:n=u.length)
  (U:∀(A:Around) (outer:List Env) (s:Shared) (H:Hp) (E:XK) (Y:Fx),Y.cl=cl->Y.E=E->Y.H0 y=some (.tbl #[] q)->ja k (A.deeper (envOfC d (zf st) s.heap.objs.size f (.ref c)))->
   We (jC (nc P w) P w K mg base N d (zf st) f (.ref c) A outer s H E) Y (Z1 st) p)
  (X:∀ts,ts.length=n->g ts=zk (p (mB N.length ts))):wD P w K mg base (nc P w) (k+1) f o u (qN cl n g y q):=by
 subst hn;obtain⟨oc,od,kV,J,pm,an,cdv,ct,Z,rfl,lk,j⟩:=F.ex;obtain rfl:cdv= .ref c:=G;refine kl lk j S (λvs H Q E z=>spP.len vs H Q E z.2) λA outer s H vs Q E hr ⟨hT,B,ts,O,M,r,q⟩=> ?_;refine⟨_,U A _ s H E ⟨B,H,E,cl,[]⟩ rfl rfl hT hr _,B,SI.start M r, ?_⟩;rw[X ts O]at q;revert q;cases p _ with
 | rt t=>exact λq v i s r=>q v i s r
 | rf t=>exact λq a xs i C D n e r _ l=>q _ i D (.lst (by rw[zM n];exact e) (r.mono l))
 | nx ρ=>exact λq σ' i C _ I=>q _ i I.sH .non
 | ex c=>exact λq=>q
 | bk ρ=>exact λq=>q.elim
 | ct ρ=>exact λq=>q.elim
 | bad=>exact λq=>q
end
end PV
namespace L2
open PySem PySem.Spec PyProof.Rows PySem.W
theorem qO {P:Program}{w:World}{K:Frag}{y mb:Str->Option Value}{CX:nX}{k:Nat}{fa a c g:Addr}{fd:FuncData}{x q:Str}{sp:Sp}{f:Shared}{vs:List Value}{N:List Int}
  (KX:K.In f.heap) (Z:f.heap.Ns mainGlobals y) (hb:f.heap.Ns builtinsNs mb) (hbb:∀x:Str,x ≠ "__name__"->mb x=bootBuiltins x) (I:f.heap.NoLimit) (hg:f.gens= #[])
  (G:f.heap.get? a=some { cls:= .type "list",data:= .seq vs.toArray }) (hi:IntsAre vs N) (hl:N.length<=sizeLine) (hr:ja k callerA)
  (hbt:f.heap.BuiltinsAt y g) (i:f.heap.get? g=some (tabObj #[])) (hKP:K.lookup g=none) (hC:codeHdIn K c g=true) (hKa:K.lookup a=none)
  (F:∀base:Heap,K.In base->base.BuiltinsAt y g->wD P w K y base CX k fa fd [x] sp) (B:∀(s:Shared) (u:Value),BindsTo s fd ⟨[u],[]⟩ [(x,u)])
  (hsp:∀(H:Hp) (o:Obj),H a=some (.frz o (.lst (N.map V.int)))->H g=some (.tbl #[] q)->sp [.ref a] H (λv _=>v= .bl true) λ_ _ _=>False)
  (hCX:∀H e D,CX [] H f (λ_ _ _=>False) e D ->False):
  codeAny (model P w) callerA (.call (.ref fa) ⟨[.ref a],[]⟩) (λr D =>r= .ok (.ret (.bool true))/\OldK f.heap D.heap/\D.os=f.os/\AllBare D.gens) f:=by
 have rv:=jT hi;have hne:g ≠ a:=λz=>by rw[z,G]at i;cases i
 obtain⟨H,hH⟩:∃H:Hp,H=mz (mz (λ_=>none) g (.tbl #[] q)) a (.frz { cls:= .type "list",data:= .seq vs.toArray } (.lst (N.map V.int))):=⟨_,rfl⟩;have Q:H a=some (.frz { cls:= .type "list",data:= .seq vs.toArray } (.lst (N.map V.int))):=by rw[hH,zl]
 have U:H g=some (.tbl #[] q):=by rw[hH,zi hne,zl]
 have M:∀b,b ≠ a->b ≠ g->H b=none:=λb n1 n2=>by rw[hH,zi n1,zi n2]
 have hok:HOk P w H _:=λb o e=>by
  by_cases C:b=a
  ·subst C;rw[Q]at e;cases e;exact⟨G,by rw[ae];exact hl,vs,_,rv,G⟩
  ·by_cases b2:b=g
   ·subst b2;rw[U]at e;cases e;exact⟨#[],i,trivial,λp cv z=>by cases z⟩
   ·rw[M b C b2]at e;cases e
 have noD:∀{b:Addr} {o:Obj} {X:Array _} {ep:Nat},f.heap.get? b=some o->o.data= .dict X ep->H b=none:=λ{b o X ep} e d=>M b (λz=>by rw[z,G]at e;cases e;cases d) λz=>by rw[z,i]at e;cases e;cases d
 have l:∀{b:Addr} {m:Str->Option _},f.heap.Ns b m->(G5 _ H).Ns b m:=λ{b m} ⟨o,X,ep,e,d,r⟩=>⟨o,X,ep,W5 e (noD e d),d,r⟩;have S:=λb o e=>W5 (KX b o e) (M b (λz=>by rw[z,hKa]at e;cases e) λz=>by rw[z,hKP]at e;cases e)
 have hM:Mod K y _:=⟨S,l Z,⟨mb,l hb,hbb⟩,let ⟨mc,Q,U⟩:=I;⟨mc,l Q,U⟩⟩;have hBT:(G5 f.heap H).BuiltinsAt y g:=by
  obtain⟨bm,o,C,b2,b3,b4,b5,b6,b7,b8⟩:=hbt;exact⟨bm,o,C,b2,b3,b4,W5 b5 (M bm (λz=>by rw[z,G]at b5;cases b5;cases b8) b4),b6,b7,b8⟩
 have e0:xS P w K y _ callerA [] _ H:=⟨rfl,hM,λb o e=>k3 e,Nat.le_of_eq (Yh _ _),trivial,λb hb=>absurd (show b∈([]:List _) from hb) (by simp),hok,.of_eq hg⟩
 refine eN ((F _ S hBT).run _ [] _ H _ _ [.ref a] _ _ hr e0 (B _ _) (.cons rfl .nil) (hsp H _ Q U)) λr D h=> ?_;cases r with
 | error e=>exact(hCX H e D h).elim
 | ok fl=>
  cases fl with
  | next=>exact cq h
  | brk=>exact cq h
  | cont=>exact cq h
  | ret u=>
   obtain⟨v,H',os,O,un,j,r',qv⟩:=h;have q' :=qv;subst q';obtain rfl:u=Value.bool _:=r';refine⟨rfl,⟨λb o e=> ?_,λb o e=>un.there b o e (by simp)⟩,os,O⟩
   by_cases C:b=a
   ·subst C;have z2:=un.frzs b _ _ Q;obtain⟨e2,_⟩:=j b _ z2;rw[G]at e;cases e;exact .inl e2
   ·by_cases b2:b=g
    ·subst b2;obtain⟨J,e2,_⟩:=j b _ (un.tbls b _ _ U);rw[i]at e;cases e;exact .inr (.inl ⟨((codeHd_of_K KX hC).tab i).isCodeTable,rfl, #[],J,rfl,e2⟩)
    ·exact .inl (un.keep b o e (M b C b2) (by intro z;exact absurd (show b∈([]:List _) from z) (by simp)) (by simp))
theorem walk_ofT {l:OpenLaw}{n k:Nat}{q:Program}{y:List Str}{XP:(Str->Option Value)->Heap->Prop}{YP:World->Heap->Prop}{d:DefRec}{K:Params->Frag}{ts:List Addr}{CX:World->nX}{sp:World->Addr->Sp}{x nm:Str}
  (hn:l.most=some n) (N:n<=sizeLine) (hdf:d.params.defaults=[]) (hr:ja k callerA)
  (hY:∀(w:World) (h:Heap),YP w h->(K w.params).In h/\∀P∈ts,h.get? P=some (tabObj #[])) (hKa:∀(w:World) (a:Addr) (o:Obj),(K w.params).lookup a=some o->o.cls ≠ .type "list")
  (F:∀(w:World) (B:Str->Option Value) (I:Addr) (h:Heap),(K w.params).In h->h.Ns mainGlobals B->B d.name=some (.ref I)->(∀P∈ts,h.get? P=some (tabObj #[]))->
   ∃(O:FuncData) (c i:Addr),(∀(s:Shared) (u:Value),BindsTo s O ⟨[u],[]⟩ [(x,u)])/\h.get? i=some (tabObj #[])/\(K w.params).lookup i=none/\codeHdIn (K w.params) c i=true/\
    ∀base:Heap,(K w.params).In base->base.BuiltinsAt B i->wD l.prog w (K w.params) B base (CX w) k I O [x] (sp w i))
  (hsp:∀(w:World) (H:Hp) (a i:Addr) (o:Obj) (J:List Int),J.length<=n->H a=some (.frz o (.lst (J.map V.int)))->H i=some (.tbl #[] nm)->sp w i [.ref a] H (λv _=>v= .bl true) λ_ _ _=>False)
  (hCX:∀(w:World) (H:Hp) (s:Shared) (e:Value) (s' :Shared),CX w [] H s (λ_ _ _=>False) e s' ->False):
  WalkO q y XP YP l.row.toRowW d [] (λf vs=>mr f vs):=by
 refine Att.attach_call hn hdf λw s₀ s₁ B mb I o pm cd doc a vs J G Y ho hd hcd S p r j hg=> ?_;obtain⟨U,hT⟩:=hY w _ Y;obtain⟨O,c,i,hb,D,hKP,hC,hF⟩:=F w B I _ U G.T.g S hT;obtain⟨M,ob,b1,b2,C,b4,b5,Q⟩:=G.T.bmain;have Z:M ≠ i:=λz=>by rw[z,D]at C;cases C;cases b4
 have X:M ≠ mainGlobals:=λz=>by
  obtain⟨o,es,ep,e,hd,_⟩:=G.T.g;rw[z,e]at C;cases C;rw[hd]at Q;cases Q
 refine qO U G.T.g G.T.b G.T.builtins G.T.nolimit hg p r (av j N) hr ⟨M,ob,b1,b2,X,Z,C,b4,b5,Q⟩ D hKP hC ?_ hF hb (λH o h1 h2=>hsp w H a i o J j h1 h2) λH e s' =>hCX w H _ e s';cases hk:(K _).lookup a with
 | none=>rfl
 | some o2=>
  have e:=U a o2 hk;rw[p]at e;cases e;exact(hKa w a _ hk rfl).elim
end L2
namespace PV
open PySem PySem.Spec PyProof.Rows L2
end PV
namespace PV
open PySem PySem.Spec PyProof.Rows L2 PySem.W
section
theorem SI.forget (I:SI Y B ρ σ H)(i:Nat)(v:Option V):SI Y B (ρ.set i .un) (σ.set i v) H where
 s0:=I.s0
 sH:=I.sH
 sB:=I.sB
 old:=I.old
 len:=by rw[bx,bx];exact I.len
 vl:=λj t h=>by
  rcases zz h with ⟨_,z⟩ | ⟨n,z⟩
  ·cases z
  ·obtain⟨l,e,r⟩:=I.vl j t z;exact⟨l,by rw[aB (bj n)];exact e,r⟩
 ow:=λj ts h=>by
  rcases zz h with ⟨_,z⟩ | ⟨n,z⟩
  ·cases z
  ·obtain⟨a,xs,e,p,o,q,r,d⟩:=I.ow j ts z;refine⟨a,xs,by rw[aB (bj n)];exact e,p,o,q,r,λw g k h' => ?_⟩
   rcases zz h' with ⟨_,f⟩ | ⟨u,f⟩
   ·cases f
   ·rw[aB (bj u)];exact d w g k f
 xc:=λj c h=>by
  rcases zz h with ⟨_,z⟩ | ⟨n,z⟩
  ·cases z
  ·obtain⟨a,e,r⟩:=I.xc j c z;exact⟨a,by rw[aB (bj n)];exact e,r⟩
 st:=let ⟨as,O,x⟩:=I.st;⟨as,O,x.set i _ _ rfl (λ_=>Sl.noConfusion)⟩
end
end PV
namespace PV
open PySem PySem.Spec PyProof.Rows L2
section
end
end PV
namespace PV
open PySem PySem.Spec PyProof.Rows L2 PySem.W
section
end
section
end
section
end
section
end
section
end
section
end
section
end
section
end
section
end
section
end
section
end
section
end
section
end
section
end
section
end
end PV
namespace PV
open PySem PySem.Spec PyProof.Rows L2
structure Fn (K:ai) (mg:Str->Option Value) (x:Str) (st:Stmt) (ps:List Str) (f:Addr) (fd:FuncData):Prop where
 F:Fun K x x st f fd
 b:L2.Binds K fd ps []
 m:mg x=some (.ref f)
noncomputable abbrev FE (K:ai)(mg:Str->Option Value)(x:Str)(st:Stmt)(ps:List Str):Prop:=∃f fd,Fn K mg x st ps f fd
structure Zz where
 P:Program
 w:World
 K:ai
 mg:Str->Option Value
 base:Heap
 cl:Nat->Value
structure QQ (x:Str) (CX:nX) (k:Nat) (sp:Sp) (Z:Zz):Prop where
 ex:∃st ps f fd,Fn Z.K Z.mg x st ps f fd/\wD Z.P Z.w Z.K Z.mg Z.base CX k f fd ps sp
abbrev qP (Z:Zz)(x:Str)(n k:Nat)(c:List T->R T):Prop:=QQ x mT k (spP Z.cl n c) Z
def oP (m:Nat)(b:En->RS):List T->R T:=λts=>zk (b (mB m ts))
section
variable {P:Program}{w:World}{K:ai}{mg:Str->Option Value}{base:Heap}{cl:Nat->Value}{x:Str}{CX:nX}{k c:Nat}{sp:Sp}{G:Prop}{as:List Str}
theorem QQ.go (O:QQ x CX k sp ⟨P,w,K,mg,base,cl⟩)(h:∀st d f a,Fn K mg x st d f a->wD P w K mg base CX k f a d sp->G):G:=by
 obtain⟨⟨st,d,f,a,C,F⟩⟩:=O;exact h st d f a C F
end
section
variable {Z:Zz}{x y:Str}{st:Stmt}{ps:List Str}{c k n m j:Nat}{fb:En->RS}{fm:En->R (T×En)}
abbrev Sc (N ps:List Str)(st:Stmt):Prop:=jJ N ps (zf st)
theorem mJ (C:FE Z.K Z.mg x st ps)(N:List Str) (e:∀(f:Addr) (cdv:Value) (A:Around) (outer:List Env) (s:Shared) (H:Hp) (E:XK) (Y:Fx),Y.cl=Z.cl->True->ja k (A.deeper (envOfC x (zf st) s.heap.objs.size f cdv))->N.Nodup->True->
   We (jC mT Z.P Z.w Z.K Z.mg Z.base N x (zf st) f cdv A outer s H E).nox Y (Z1 st) fb)
  (S:Sc N ps st:=by refine⟨rfl,rfl,rfl, ?_,rfl, ?_, ?_⟩ <;> decide+kernel) (hn:n=ps.length:=by rfl) (d:m=N.length:=by rfl):qP Z x n (k+1) (oP m fb):=by
 obtain⟨f,a,C⟩:=C;subst d;exact⟨_,_,f,a,C,Hx C.F S hn (λcdv A outer s H E Y hy hr=>e f cdv A outer s H E Y hy trivial hr S.nd trivial) λ_ _=>rfl⟩
theorem nh (C:FE Z.K Z.mg x st ps)(hn:n=ps.length:=by rfl):qP Z x n k (λ_=> .bad):=by
 obtain⟨f,a,C⟩:=C;exact⟨_,_,f,a,C,λvs H Q E h=>by rw[← hn];exact spP.len vs H Q E h,λA outer s H args d vs Q E _ _ _ _ ⟨B,ts,_,_,_,q⟩=>q.elim⟩
end
section
theorem cZ (hy:Y.cl=cl)(O:QQ x mT j (spP cl n g) ⟨X.prog,X.w,X.K,X.mg,X.base,cl⟩)(hr:ja k X.A)(c:Up X Y (a :: es) ga)(f:j<=k:=by omega)(d:Gl X x:=by rfl)(hd:(x == ("__debug__":Str))=false:=by decide)
  (e:starEach (a :: es) X.env=(false,eval a X.env) :: starEach es X.env:=by exact zD rfl) (hz:((backTo pos (starEach es X.env)).any λx=>x.fst)=false:=by exact zT rfl):Snd X Y (.Call (.Name x p) (a :: es) [] pos) (zb n g ga):=
 O.go λ_ _ _ _ C F=>K7 hy F hr f d C.m C.F.kp C.b c hd e hz
end
noncomputable def ou (N:List Str)(js:List Nat):List Str:=js.map λj=>N.getD j ""
noncomputable def AG:List Str->Bool
 | []=>true
 | x :: r=> !(r.contains x) && AG r
theorem um:∀{l:List Str},AG l=true->l.Nodup
 | [],_=> .nil
 | x :: r,h=>by
  rw[AG,aj]at h;exact cK.mpr ⟨by simpa using h.1,um h.2⟩
def Gb (N N' :List Str)(a scope:Scope)(k:Nat)(js:List Nat):Bool:=(sT scope a && rD N N' scope a k js) && AG N'
section
variable {cl:Nat->Value}{X:Cx}{Y:Fx}{x y:Str}{p p' p2:Pos}{kk:Nat}{iter elt:Expr}{ifs:List Expr}{scope:Scope}{js:List Nat}{fi:En->R (List T)}{ft:En->R Bool}{fe:En->R T}
theorem Dy (hy:Y.cl=cl)(h:Gb X.N (x :: ou X.N js) X.env.scope scope 1 js=true)(c:((relabel scope X.env).names.lookup x == some .local)=true)(e:X.calm=true)(it:uP X Y (.Name x p) iter fi)(tt:∀a,a.cl=cl->X8 X scope (x :: ou X.N js) λd=>Wg d a ifs ft)
  (f:∀a,a.cl=cl->rk X scope (x :: ou X.N js) a.E λd=>Snd d a elt fe) (g:∀x,foldedSetIterable iter X.env x=pure x:=by intro _;rfl):Jq X Y (.Name x p) iter elt ifs scope (x :: ou X.N js) 1 js fi (W7 0) (zw 0) ft fe:=by
 subst hy;rw[Gb,aj]at h;have c:(relabel scope X.env).names.lookup x=some .local:=eq_of_beq c;exact Xb _ _ _ rfl rfl h.1 e it (λ_ _ _ _ _ _=>jI (um h.2) rfl (.inl c) (.inr c)) (Vp 0) (Vs 0) tt f g
theorem EA (hy:Y.cl=cl)(h:Gb X.N (x :: y :: ou X.N js) X.env.scope scope 2 js=true)(d:((relabel scope X.env).names.lookup x == some .local && (relabel scope X.env).names.lookup y == some .local)=true)(f:X.calm=true)(it:uP X Y (.Tuple [.Name x p,.Name y p'] kk p2) iter fi)(tt:∀a,a.cl=cl->X8 X scope (x :: y :: ou X.N js) λc=>Wg c a ifs ft)
  (i:∀a,a.cl=cl->rk X scope (x :: y :: ou X.N js) a.E λc=>Snd c a elt fe) (j:∀x,foldedSetIterable iter X.env x=pure x:=by intro _;rfl):Jq X Y (.Tuple [.Name x p,.Name y p'] kk p2) iter elt ifs scope (x :: y :: ou X.N js) 2 js fi (Bb X.K 2 (Yj (W7 0) (Yj (W7 1) Dz))) (zN 0 1) ft fe:=by
 subst hy;rw[Gb,aj]at h;rw[aj]at d;have g:(relabel scope X.env).names.lookup x=some .local:=eq_of_beq d.1;have e:(relabel scope X.env).names.lookup y=some .local:=eq_of_beq d.2;exact Xb _ _ _ rfl rfl h.1 f it (λ_ _ _ _ _ _=>xO f (JA (jI (um h.2) rfl (.inl g) (.inr g)) (JA (jI (um h.2) rfl (.inl e) (.inr e)) Yk))) (Vq _ 0 1) (Vt 0 1) tt i j
end
end PV
namespace L2
open PySem PySem.Spec PyProof.Rows
section
end
end L2
namespace PV
open PySem PySem.Spec PyProof.Rows L2 PySem.W
section
end
end PV
namespace PV
open PySem PySem.Spec PyProof.Rows L2
end PV
namespace PV
open PySem PySem.Spec PyProof.Rows L2 PySem.W
section
variable {X:Cx}{pins:List (Addr×Obj)}{σ:L2.St}{H0:Hp}{l q I D:Addr}{xs:List V}{R:Result->Shared->Prop}
theorem qQ {xs:List V}{a:List Value}{i:Nat}{u:Value}(r:Vals xs a)(e:a[i]? =some u):∃x,xs[i]? =some x/\RelV x u:=by
 have hi:=(ay.mp e).1;rw[← r.length]at hi;obtain⟨f,c,d⟩:=r.get (ah hi);rw[e]at c;cases c;exact⟨_,ah hi,d⟩
theorem KD (kf:Nat->Int)(hh:X.A.handled=none)(kw:List (Str×Value))(hl:∀H s,Inv X pins σ H s->zo H0 H->∃a:List Value,Vals xs a/\s.heap.IsList l a.toArray)(hlI:l ≠ I)(Z:D ≠ I)(C:wC X pins H0 I)(B:wC X pins H0 D)
  (turn:∀(i:Nat) (x:V) (v:Value),xs[i]? =some x->RelV x v->∀(pn:List (Addr×Obj)) (s:Shared) (H:Hp),Inv X (pins++pn) σ H s->zo H0 H->
   wpAny (model X.prog X.w) X.A.in1 (call (.ref q) [v]) (λu s' =>∃t H',u= .int (kf i) t/\Inv X (pins++pn) σ H' s' /\zo H H') (λ_ _=>False) s)
  (hR:∀(i:Nat) (x:V) (v:Value) H s,xs[i]? =some x->RelV x v->(∀j,j < xs.length->kf i<=kf j/\(j < i->kf i < kf j))->Inv X pins σ H s->zo H0 H->R (.ok (.ret v)) s):
  ∀(r j i:Nat) (s:Shared) (H:Hp) (xb:V) (G:Value) (tb:Tok) (c:Nat),xs.length - (j+1)=r->j+1<=xs.length->Inv X pins σ H s->zo H0 H->H I=none->H D=none->
   s.heap.get? D=some (seqObj "list" #[G,.int (kf i) tb] c)->s.heap.IsListIter I l (j+1)->xs[i]? =some xb->RelV xb G->i<=j->(∀f,f <=j->kf i<=kf f /\(f < i->kf i < kf f))->
   codeAny (model X.prog X.w) X.A (.builtin "min.loop" ⟨[.ref I,.ref q,.ref D],kw⟩) R s:=by
 have g:(toString "min"++toString ".loop":String)="min.loop":=by decide
 intro r
 induction r with
 | zero=>
  intro j i s H xb G tb c hr hj J sm hI hD gD S O rb hij d;obtain⟨a,rv,hls⟩:=hl _ _ J sm;have W:=hW (prog:=X.prog) (w:=X.w) (A:=X.A.in1) hh I l hlI a.toArray;have hsz:a.toArray.size=xs.length:=by rw[aD,rv.length]
  have hin:j+1=xs.length:=by omega
  refine bQ eX ?_;rw[dP bS _];show wpAny _ X.A.in1 (seqItems? (.ref D) >>= _) _ _ _;refine a8 (bM gD rfl ?_);show wpAny _ X.A.in1 (tryCatch (pyNext (.ref I)) _ >>= _) _ _ _;refine a8 (cD (W.done _ _ _ ⟨by rw[hsz,← hin];exact S,hls⟩ λh' tk' k => ?_))
  have J1:=J.turned (t' :=tk') (λb o n e=>k b o (by simpa using n) e) hI C.2.1 C.2.2.2.1 C.2.2.2.2.1 C.2.2.2.2.2
  have M :=k D _ (by simpa using Z) gD
  show wpAny _ X.A.in1 (updateSeq D (λ_=> #[]) >>= _) _ _ _;refine a8 (wpAny_updateSeq M rfl (a8 (dO (ac ?_))));exact hR i xb G H _ O rb (λf hj' =>d f (by omega)) (J1.turned (it:=D) (λb o n e=>(bZ _ _ (bj n)).trans e) hD B.2.1 B.2.2.2.1 B.2.2.2.2.1 B.2.2.2.2.2) sm
 | succ r ih=>
  intro j i s H xb G tb c hr hj J sm hI hD gD S O rb hij d;obtain⟨a,rv,hls⟩:=hl _ _ J sm;have W:=hW (prog:=X.prog) (w:=X.w) (A:=X.A.in1) hh I l hlI a.toArray;have hsz:a.toArray.size=xs.length:=by rw[aD,rv.length]
  have U:j+1 < xs.length:=by omega
  refine bQ eX ?_;rw[dP bS _];show wpAny _ X.A.in1 (seqItems? (.ref D) >>= _) _ _ _;refine a8 (bM gD rfl ?_);show wpAny _ X.A.in1 (tryCatch (pyNext (.ref I)) _ >>= _) _ _ _;refine a8 (cD (W.item (j+1) _ _ _ (by rw[hsz];exact U) ⟨S,hls⟩ λv h' tk' hP hst' k => ?_))
  obtain⟨x,hv,rx⟩:=qQ rv (show a[j+1]? =some v by simpa using hP)
  obtain⟨F,hoI',hoc,Q⟩:=id hst'.1;have J1:=J.turned (t' :=tk') (λb o n e=>k b o (by simpa using n) e) hI C.2.1 C.2.2.2.1 C.2.2.2.2.1 C.2.2.2.2.2
  have M :=k D _ (by simpa using Z) gD
  have J2:Inv X (pins++[(D,seqObj "list" #[G,.int (kf i) tb] c),(I,F)]) σ H _:=J1.pins_of λp hp=>by
   rcases aW.mp hp with hp | hp
   ·exact J1.pin p (aG _ hp)
   ·rcases ak.mp hp with rfl | hp
    ·exact⟨M,hD,B.2.1,B.2.2.1,λv z=>by cases z⟩
    ·rw[aq.mp hp];exact⟨hoI',hI,C.2.1,C.2.2.1,λv z=>by rw[Q]at z;cases z⟩
  show wpAny _ X.A.in1 (tryCatch (holding [v] (call (.ref q) [v])) _ >>= _) _ _ _;refine a8 (cD (bp (cV (turn (j+1) x v hv rx _ _ _ J2 sm) (λy s2 he=> ?_) λ_ _ hF=>hF.elim)));obtain⟨N,H2,rfl,J3,sm2⟩:=he;have pD:=J3.pin (D,seqObj "list" #[G,.int (kf i) tb] c) (aG _ (aG _ (.head _)));have pI:=J3.pin (I,F) (aG _ (aG _ (.tail _ (.head _))));have J4:=J3.unpinned;show wpAny _ X.A.in1 (tryCatch (holding [v,.int (kf (j+1)) N] (richCompare .Lt (.int (kf (j+1)) N) (.int (kf i) tb) >>= _)) _ >>= _) _ _ _;refine a8 (cD (bp (a8 (CmpOf.ints_lt (prog:=X.prog) (w:=X.w) (A:=X.A.in1) (P:=λi v=>∃t,v= .int (kf i) t) kf (λi v h=>h) (j+1) i _ _ _ _ _ ⟨N,rfl⟩ ⟨tb,rfl⟩ ?_))));refine a8 (bp (bh ?_));refine a8 (dO (ac ?_))
  by_cases hb' :kf (j+1) < kf i
  ·obtain⟨c2,hc2⟩:∃c2,(s2.heap.update D (cW λ_=> #[v,.int (kf (j+1)) N])).get? D=some (seqObj "list" #[v,.int (kf (j+1)) N] c2):=⟨_,get?_update_seq pD.1 λ_=> #[v,.int (kf (j+1)) N]⟩;simp only[hb',decide_true,if_true];refine a8 ?_;refine wpAny_updateSeq pD.1 rfl (a8 (dO ?_));rw[g];refine ac ⟨cf bS _,ih (j+1) (j+1) _ H2 x v N c2 (by omega) U (J4.turned (it:=D) (λb o n e=>(bZ _ _ (bj n)).trans e) pD.2.1 B.2.1 B.2.2.2.1 B.2.2.2.2.1 B.2.2.2.2.2) (sm.trans sm2) pI.2.1 pD.2.1 hc2 ⟨F,(bZ _ _ Z).trans pI.1,hoc,Q⟩ hv rx (am _) λf hj' => ?_⟩
   by_cases e:f =j+1
   ·subst e;exact⟨by omega,λ_=>by omega⟩
   ·have hb1:=d f (by omega)
    have hb2:=hb1.1;exact⟨by omega,λ_=>by omega⟩
  ·simp only[hb',decide_false,aI,if_false];refine a8 (dO ?_);rw[g];refine ac ⟨cf bS _,ih (j+1) i _ H2 xb G tb c (by omega) U J4 (sm.trans sm2) pI.2.1 pD.2.1 pD.1 ⟨F,pI.1,hoc,Q⟩ O rb (by omega) λf hj' => ?_⟩
   by_cases e:f =j+1
   ·subst e;exact⟨by omega,λ_=>by omega⟩
   ·exact d f (by omega)
theorem KF (a v d:Value):argsOk "min" ⟨[a],[(aC "key",v),(aC "default",d)]⟩:=by kernel_rfl
theorem KG {H:Hp}{s:Shared}{dv:Value}{Q E:Value->Shared->Prop}(kf:Nat->Int)(hh:X.A.handled=none)(J:Inv X pins σ H s)(hl:∀B k,Inv X pins σ B k ->zo H B ->∃c:List Value,Vals xs c/\k.heap.IsList l c.toArray)
  (G:∀(i:Nat) (x:V) (v:Value),xs[i]? =some x->RelV x v->∀(pn:List (Addr×Obj)) (s:Shared) (B :Hp),Inv X (pins++pn) σ B s->zo H B ->
   wpAny (model X.prog X.w) X.A.in1 (call (.ref q) [v]) (λu k =>∃t H2,u= .int (kf i) t/\Inv X (pins++pn) σ H2 k /\zo B H2) (λ_ _=>False) s)
  (h0:xs=[]->∀k,Inv X pins σ H k ->Q dv k)
  (hQ:∀(i:Nat) (x:V) (v:Value) B k,xs[i]? =some x->RelV x v->(∀j,j < xs.length->kf i<=kf j/\(j < i->kf i < kf j))->Inv X pins σ B k ->zo H B ->Q v k):
  wpAny (model X.prog X.w) X.A (call (.builtin "min") [.ref l] [(aC "key",.ref q),(aC "default",dv)]) Q E s:=by
 have d:(toString "min"++toString ".loop":String)="min.loop":=by decide
 obtain⟨its0,_,f⟩:=hl _ _ J (zo.refl _);obtain⟨ol,hol,_⟩:=id f;have hll:=au hol;refine kmb_tree PySem.F.kind_min PySem.F.plain_min PySem.F.entry_min (KF _ _ _) ?_;refine a8 (c9 (show Builtin.Builtins.bindParams _ _ 0 _=pure [some (.ref q),some dv] from rfl) (a8 (ac ?_)));refine a8 (ck f ?_);refine a8 (wpAny_newList ?_ (bf _));rw[d];obtain⟨g,e1⟩:∃g,g=s.heap.push { cls:= .type "list_iterator",data:= .fields #[.ref l,.int 0 0] }:=⟨_,rfl⟩;have hS:g.objs.size=s.heap.objs.size+1:=by rw[e1];exact size_push' ..
 rw[← e1];have J0:Inv X pins σ H { s with heap:=g.push (seqObj "list" #[] 0) }:=J.kept λb o e=>ab _ (by rw[e1];exact ab _ e)
 have gI:(g.push (seqObj "list" #[] 0)).get? s.heap.objs.size=some { cls:= .type "list_iterator",data:= .fields #[.ref l,.int 0 0] }:=ab _ (by rw[e1];exact af _ rfl)
 have gD:(g.push (seqObj "list" #[] 0)).get? g.objs.size=some (seqObj "list" #[] 0):=af _ rfl;have a:wC X pins H s.heap.objs.size:=J.fpOk (am _) J.fresh;have C:wC X pins H g.objs.size:=J.fpOk (by omega) (J.hok.fresh (by omega))
 have P:l ≠ s.heap.objs.size:=aF hll;have N:g.objs.size ≠ s.heap.objs.size:=by omega
 obtain⟨c,rv,f⟩:=hl _ _ J0 (zo.refl _);have W:=hW (prog:=X.prog) (w:=X.w) (A:=X.A.in1) hh s.heap.objs.size l P c.toArray;have hsz:c.toArray.size=xs.length:=by rw[aD,rv.length]
 generalize g.objs.size=D at*;generalize s.heap.objs.size=I at*;refine ac ⟨cf bS _, ?_⟩;refine bQ eX ?_;rw[dP bS _];show wpAny _ X.A.in1 (seqItems? (.ref _) >>= _) _ _ _;refine a8 (bM gD rfl ?_);show wpAny _ X.A.in1 (tryCatch (pyNext (.ref I)) _ >>= _) _ _ _;rcases Nat.eq_zero_or_pos xs.length with hz | hp
 ·refine a8 (cD (W.done _ _ _ ⟨by rw[hsz,hz];exact⟨_,gI,rfl,rfl⟩,f⟩ λh' O r => ?_))
  exact a8 (du (ac (h0 (cj hz) _ (J0.turned (t' :=O) (λb o n e=>r b o (by simpa using n) e) a.1 a.2.1 a.2.2.2.1 a.2.2.2.2.1 a.2.2.2.2.2))))
 ·refine a8 (cD (W.item 0 _ _ _ (by rw[hsz];exact hp) ⟨⟨_,gI,rfl,rfl⟩,f⟩ λv h' O hP hst' r => ?_))
  obtain⟨x,hv,rx⟩:=qQ rv (show c[0]? =some v by simpa using hP)
  obtain⟨M,Z,hoc,U⟩:=id hst'.1;have J1:=J0.turned (t' :=O) (λb o n e=>r b o (by simpa using n) e) a.1 a.2.1 a.2.2.2.1 a.2.2.2.2.1 a.2.2.2.2.2
  have gD' :=r D _ (by simpa using N) gD
  have J2:Inv X (pins++[(D,seqObj "list" #[] 0),(I,M)]) σ H _:=J1.pins_of λp hp=>by
   rcases aW.mp hp with hp | hp
   ·exact J1.pin p (aG _ hp)
   ·rcases ak.mp hp with rfl | hp
    ·exact⟨gD',C.1,C.2.1,C.2.2.1,λv z=>by cases z⟩
    ·rw[aq.mp hp];exact⟨Z,a.1,a.2.1,a.2.2.1,λv z=>by rw[U]at z;cases z⟩
  show wpAny _ X.A.in1 (tryCatch (holding [v] (call (.ref q) [v])) _ >>= _) _ _ _;refine a8 (cD (bp (cV (G 0 x v hv rx _ _ _ J2 (zo.refl _)) (λy s2 he=> ?_) λ_ _ hF=>hF.elim)));obtain⟨S,H2,rfl,J3,sm2⟩:=he;have pD:=J3.pin (D,seqObj "list" #[] 0) (aG _ (aG _ (.head _)));have pI:=J3.pin (I,M) (aG _ (aG _ (.tail _ (.head _))));obtain⟨c2,hc2⟩:∃c2,(s2.heap.update D (cW λ_=> #[v,.int (kf 0) S])).get? D=some (seqObj "list" #[v,.int (kf 0) S] c2):=⟨_,get?_update_seq pD.1 λ_=> #[v,.int (kf 0) S]⟩;show wpAny _ X.A.in1 (updateSeq D (λ_=> #[v,.int (kf 0) S]) >>= _) _ _ _;refine a8 (wpAny_updateSeq pD.1 rfl ?_);rw[d];refine ac ⟨cf bS _,KD kf hh _ hl P N a C G hQ _ 0 0 _ H2 x v S c2 rfl hp (J3.unpinned.turned (it:=D) (λb o n e=>(bZ _ _ (bj n)).trans e) pD.2.1 C.2.1 C.2.2.2.1 C.2.2.2.2.1 C.2.2.2.2.2) sm2 pI.2.1 pD.2.1 hc2 ⟨M,(bZ _ _ N).trans pI.1,hoc,U⟩ hv rx (am _) λj' hj' => ?_⟩;have e:j' =0:=by omega
  subst e;exact⟨by omega,λh=>absurd h (bE _)⟩
end
section
variable {P:Program}{w:World}{K:Frag}{mg:Str->Option Value}{base:Heap}{N:List Str}{q x0:Str}{scope:Scope}{f:Addr}{cd:Value}{clos:List (Str×Addr)}{A:Around}{outer:List Env}{s:Shared}{H:Hp}{E:XK}
theorem VQ {D:L2.St}{d:Heap}{tk:Nat}{v0:V}{x:Value}{m:Str->Option Value}(S:CT scope)(hd:A.handled=none)(a:xS P w K mg base A outer s H)(C:qM base H scope clos N D)(O:N.Nodup)(J:N[0]? =some x0)(G:scope.names.lookup x0=some .local)(F:RelV v0 x)(M:m x0=some x)(I:d.Ns s.heap.objs.size m)(B:∀b o,s.heap.get? b=some o->d.get? b=some o):
  Inv (sJ P w K mg base N q scope f cd clos A outer s H E) [] (D.set 0 (some v0)) H { s with heap:=d,toks:=tk }:=by
 have bk:=λb o e=>B b o (a.bs b o e).1;have j:∀b,b ∉ (sJ P w K mg base N q scope f cd clos A outer s H E).ex:=λb z=>absurd (show b∈([]:List _) from z) (by simp)
 refine⟨⟨a.mod,S.kind,rfl,rfl,am _,C.inj,λy hy=> ?_,λy c h _=>(ax h).elim,λ_=>hd,iU a.frames,.inr ⟨rfl,rfl⟩,λb z=>absurd z (j b),a.bs,a.bsz,λb _ _=>j b,λb z=>absurd z (j b),a.funs,a.frf⟩,
  rfl,a.bare,Un.kept B,⟨_,I,λi y v d g Q=> ?_⟩,λy c h=> ?_,a.hok.fresh (am _),λy c h=>(C.cell y c h).2,λp hp=>absurd (show p∈([]:List _) from hp) (by simp),a.hok.kept B,by rw[bx];exact C.len⟩
 ·rcases hy with hy | hy
  ·exact absurd rfl (S.nocell _ (bH hy))
  ·exact C.has _ (bH hy) rfl
 ·cases i with
  | zero=>
   have d:N[0]? =some y:=d;rw[J]at d;cases d;rw[List.getElem?_set_self' ]at g;have g:v0=v:=by
    cases z:D[0]? with
    | none=>rw[z]at g;cases g
    | some _=>rw[z]at g;exact aH (aH g)
   subst g;exact⟨x,F,.inl ⟨G,M⟩⟩
  | succ i=>
   rw[aB (by omega)]at g
   obtain⟨u,c,r,e,l,k⟩:=C.loc (i+1) y v d g;exact⟨u,r,.inr ⟨.inr k,c,e,wU bk l⟩⟩
 ·obtain⟨v,l⟩:=(C.cell y c h).1;exact⟨v,wU bk l⟩
theorem VR {k:Nat}{a:Arguments}{body:Expr}{D i:Value}{g :Addr}{F:L2.St}{Q:VK}{te:TE}{v0:V}{c:Value}(S:CT scope)(hr:ja (k+1) A)(d:xS P w K mg base A outer s H)(C:qM base H scope clos N F)(O:N.Nodup)(Z:N[0]? =some x0)(u:scope.names.lookup x0=some .local)(G:RelV v0 c)
  (U:H f=some (.frz (pY q a body scope clos D i g) (.own f))) (M:Wo H q g) (hp:bindArgs (kla_fn "<lambda>" q a body scope clos D (.ref g) i) ⟨[c],[]⟩=pure [(x0,c)])
  (X:PE (sJ P w K mg base N q scope f (.ref g) clos A outer s H E) body te) (ht:te (F.set 0 (some v0)) H Q):
  codeAny (model P w) A (.call (.ref f) ⟨[c],[]⟩) (CR (nc P w) outer P w H s Q E) s:=by
 have p:=d.mod.nolimit.keeps λb o e=>(d.bs b o e).1;refine kla_callFunE hr.depth (d.hok f _ U).1 rfl S.co S.gen rfl (M.rec d.hok) ?_;rw[hp];refine ac (wpAny_newFunctionEnv S.nocell (λy hy=>by rw[aq.mp hy];exact u) (λh1 l j=> ?_) S.kind)
 have B:=λb o e=>j.extBut b o (aF (au e)) (ab _ e);refine⟨p.keeps B, ?_⟩;have I:=VQ (q:=q) (f:=f) (cd:= .ref g) (E:=E) (tk:=s.toks+[(x0,c)].length) S hr.hd d C O Z u G (by simp) l B
 exact kla_codeExpr (cV (X [] _ _ H Q I ht) (λv s' ⟨x,H',J,r,q⟩=>⟨x,H',J.os,J.bare,J.base,J.hok,r,q⟩) λ_ _ z=>z)
end
section
variable {X:Cx}{Y:Fx}
theorem KH {js:List Nat}(I:L2.Inv X pins σ H s)(p:∀x,X.fn x=true)(a:∀x c,clos.lookup x=some c->X.env.cells.lookup x=some c)
  (g:∀x∈scope.names,x.2=NameKind.free->∃c,clos.lookup x.1=some c) (J:tm X scope N' 1 js):qM (Xk s H (ng X.stack)) H scope clos N' (Uw 1 js σ):=by
 have up:∀x c,X.env.cells.lookup x=some c->∀v,s.heap.IsCell c v->(Xk s H _).IsCell c v:=λx c e v ⟨o,Q,hd⟩=>⟨o,UI Q (I.freeC x c e) λP=>by
  rcases ak.mp (I.stkSub c P) with z | z
  ·exact I.cne x c e z
  ·obtain⟨_,Z,B,_⟩:=I.ok.funs.mem z;exact absurd (au B) (Nat.not_lt.mpr (I.ok.cab x c (p x) e)),hd⟩
 refine⟨λx y c r d=>I.ok.inj x y c (a _ _ r) (a _ _ d),g,λx c e=>⟨?_,I.freeC x c (a x c e)⟩,λi x v r d=> ?_,by unfold Uw;simp[J.len,dU]⟩
 ·obtain⟨v,l⟩:=I.cell x c (a x c e);exact⟨v,up x c (a x c e) v l⟩
 ·cases i with
  | zero=>cases d
  | succ i=>
  have d:(js.map λj=>(σ[j]?).getD none)[i]? =some (some v):=d;rw[ao]at d;cases q:js[i]? with
  | none=>rw[q]at d;cases d
  | some j=>
   rw[q]at d;have f :(σ[j]?).getD _=some v:=aH d;have w:σ[j]? =some (some v):=by
    cases N:σ[j]? with
    | none=>rw[N]at f;cases f
    | some z=>rw[N]at f;exact congrArg _ f
   obtain⟨y,G,B,O,F,e5⟩:=J.cap i j q;rw[dU,r]at G;cases G;obtain⟨m,hn,C⟩:=I.loc;obtain⟨u,S,lk⟩:=C j x v B w O;obtain⟨c,M⟩:=g _ (bH F) rfl;rcases lk with ⟨k,_⟩ | ⟨_,U,D,l⟩
   ·rcases e5 with z | z <;> (rw[k]at z;cases z)
   ·have:=a x c M;rw[D]at this;cases this;exact⟨u,c,S,M,up x c D _ l,F⟩
noncomputable def ZS (k:Int)(t:T):List Int->List T->T
 | a :: c,t' :: ts=>if a < k then ZS a t' c ts else ZS k t c ts
 | _,_=>t
noncomputable def Wp (f:T->R T):List T->Option (List Int)
 | []=>some []
 | t :: ts=>match f t,Wp f ts with
  | .ok (.int k),some a=>some (k :: a)
  | _,_=>none
def VS (js:List Nat)(c a d:En->R T):En->R T:=λρ=>(a ρ).bind λt=>(d ρ).bind λu=>match t with
 | .lst []=> .ok u
 | .lst (t :: ts)=>(match Wp (λt=>c ((Jp 1 js ρ).set 0 (.vl t))) (t :: ts) with | some (k :: e)=> .ok (ZS k t e ts) | _=> .bad)
 | _=> .bad
theorem UJ {f:T->R T}:∀{ts:List T} {a:List Int},Wp f ts=some a->a.length=ts.length/\∀(i:Nat) (t:T),ts[i]? =some t->∃k,a[i]? =some k/\f t= .ok (.int k)
 | [],a,h=>by cases h;exact⟨rfl,λi t e=>by simp at e⟩
 | t :: ts,a,h=>by
  unfold Wp at h;split at h
  ·rename_i k l g d;cases h;obtain⟨j,c⟩:=UJ d;refine⟨by simp[j],λi u e=> ?_⟩
   cases i with
   | zero=>cases e;exact⟨k,rfl,g⟩
   | succ i=>exact c i u e
  ·cases h
noncomputable abbrev B7 (kf:Nat->Int)(n i:Nat):Prop:=∀j,j < n->kf i<=kf j/\(j < i->kf i < kf j)
theorem Wq:∀(a:List Int) (ts:List T) (k:Int) (t:T) (n m:Nat) (kf:Nat->Int),a.length=ts.length->m < n->kf m=k->(∀j,j < n->kf m<=kf j/\(j < m->kf m < kf j))->(∀j q,a[j]? =some q->kf (n+j)=q)->
  ∃i,(i=m/\ZS k t a ts=t\/∃j,i=n+j/\ts[j]? =some (ZS k t a ts))/\∀j,j < n+a.length->kf i<=kf j/\(j < i->kf i < kf j)
 | [],ts,k,t,n,m,kf,r,C,B,o,w=>⟨m,.inl ⟨rfl,by unfold ZS;rfl⟩,λj d=>o j (by simpa using d)⟩
 | p :: a,[],k,t,n,m,kf,r,_,_,_,_=>by simp at r
 | p :: a,t' :: ts,k,t,n,m,kf,r,C,B,o,w=>by
  have y:=w 0 p rfl;rw[Nat.add_zero]at y;have l :∀j q,a[j]? =some q->kf (n+1+j)=q:=λj q e=>by have:=w (j+1) q e;rw[← this];congr 1;omega
  have f :a.length=ts.length:=by simpa using r
  unfold ZS
  by_cases c:p < k
  ·rw[if_pos c];obtain⟨i,x,u⟩:=Wq a ts p t' (n+1) n kf f (by omega) y (λj d=>by
    by_cases z:j=n
    ·subst z;exact⟨i8 _,λz=>by omega⟩
    ·have:=o j (by omega);exact⟨by omega,λ_=>by omega⟩) l
   refine⟨i, ?_,λj d=>u j (by rw[aw]at d;omega)⟩
   rcases x with ⟨v,g⟩ | ⟨j,v,g⟩
   ·exact .inr ⟨0,v,by rw[g];rfl⟩
   ·exact .inr ⟨j+1,by omega,g⟩
  ·rw[if_neg c];obtain⟨i,x,u⟩:=Wq a ts k t (n+1) m kf f (by omega) B (λj d=>by
    by_cases z:j=n
    ·subst z;exact⟨by omega,λz=>by omega⟩
    ·exact o j (by omega)) l
   refine⟨i, ?_,λj d=>u j (by rw[aw]at d;omega)⟩
   rcases x with z | ⟨j,v,g⟩
   ·exact .inl z
   ·exact .inr ⟨j+1,by omega,g⟩
def MK (X:Cx)(d:Sg)(l f:V)(u:V)(Q:VK)(H3:Hp):Prop:=∃(a g:Addr) (xs:List V) (kf:Nat->Int),(l= .ref a/\f= .ref g)/\H3 a=some (.lst xs)/\
 (∀(i:Nat) (x:V) (u:Value),xs[i]? =some x->RelV x u->∀(pn:List (Addr×Obj)) (s:Shared) (c :Hp),Inv X pn d c s->zo H3 c ->
  wpAny (model X.prog X.w) X.A.in1 (call (.ref g) [u]) (λu j =>∃t e,u= .int (kf i) t/\Inv X pn d e j /\zo c e) (λ_ _=>False) s)/\
 (xs=[]->Q u H3)/\∀(i:Nat) (x:V) (c :Hp),xs[i]? =some x->B7 kf xs.length i->zo H3 c ->Q x c
theorem KI {a b:Expr}{c:Arguments}{body:Expr}{scope:Scope}{P p pos kp N:Pos}{U tb tl:TE}(hh:X.A.handled=none)(gl:Gl X "min")(mg:X.mg "min"=none)(ha:PE X a U)(hl:PE X (.Lambda c body scope P) tl)(hb:PE X b tb)(C:mY X a):
  PE X (.Call (.Name "min" p) [a] [⟨some "key",.Lambda c body scope P,kp⟩,⟨some "default",b,N⟩] pos) (λd H Q=>U d H λv k=>tl d k λg M=>tb d M λu H3=>([v].length=1/\[g,u].length=2)/\MK X d v g u Q H3):=by
 intro O s d H Q I h;refine cB (j5 I gl mg PyProof.Rows.Boot.«min» ?_ (by decide) (by decide))
 refine callWith_kw (mH (zm ha zH C pos _ s d H (λvs k=>tl d k λg M=>tb d M λu H3=>(vs.length=1/\[g,u].length=2)/\MK X d (vs.headD .non) g u Q H3) I h) λus s1 hz=> ?_) (by rw[C];rfl) (by rw[C];rfl) rfl rfl
 obtain⟨vs,k,I1,F,q1⟩:=hz;refine mH (Yv hl (Yv hb GH) pos _ s1 d k (λf H3=>(vs.length=1/\f.length=2)/\MK X d (vs.headD .non) (f.headD .non) (f.tail.headD .non) Q H3) I1 q1) λws s2 hz=> ?_;obtain⟨f,H3,I3,rz,⟨l1,S⟩,a,g,xs,kf,⟨e1,e2⟩,Z,j,q0,qn⟩:=hz;obtain⟨v,rfl⟩:=eY.mp l1;cases f with
 | nil=>cases S
 | cons y f=>
 obtain⟨z,rfl⟩:=eY.mp (Nat.succ.inj S);obtain rfl:v= .ref a:=e1;obtain rfl:y= .ref g:=e2;obtain⟨u,rfl,ru⟩:=Zn F;obtain rfl:u=Value.ref a:=ru;obtain⟨wy,r,rfl,ry,B⟩:∃wy r,ws=[wy,r]/\RelV (.ref g) wy/\RelV z r:=by
  cases rz with
  | cons F G=>
   cases G with
   | cons G r3=>cases r3;exact⟨_,_,rfl,F,G⟩
 obtain rfl:wy=Value.ref g:=ry;exact KG (xs:=xs) kf hh I3 (λl q J o=>let ⟨_,its,n,rv,_,ho⟩:=J.lstM (o _ _ Z);⟨its,rv,_,ho,rfl,n,rfl⟩) (λi x v w D pn q l J o=>j i x v w D _ q l J o) (λhn q J=>⟨z,H3,J,B,q0 hn⟩)
  λi x v l q w D e J o=>⟨x,l,J,D,qn i x l w e o⟩
theorem Ib {cl:Nat->Value}{kE k:Nat}{q x0:Str}{c P:Addr}{a b:Expr}{d:Arguments}{body:Expr}{scope:Scope}{lp p pos kp kp2:Pos}{js:List Nat}{fe fa fb:En->R T}(hy:Y.cl=cl)(L:Lm X c P q)(hT:Y.H0 P=some (.tbl #[] q))(hfn:∀x,X.fn x=true)
  (hr:ja k X.A) (hj:kE+2<=k) (gl:Gl X "min") (mg:X.mg "min"=none) (ha:Snd X Y a fa) (hfb:Snd X Y b fb)
  (N' N:List Str) (o:Scope) (hN:X.N=N) (h0:X.env.scope=o) (F:(sT scope o && rD N N' scope o 1 js)=true) (hco:scope.isCoroutine=false) (hge:scope.isGenerator=false) (hnd:N'.Nodup) (hx0:N'[0]? =some x0) (hlx:scope.names.lookup x0=some .local)
  (hb:∀(base:Heap) (A:Around) (outer:List Env) (s:Shared) (H:Hp) (E:XK) (f c' :Addr) (g:List (Str×Addr)) (Y' :Fx),X.K.In base->Y'.cl=cl->Y'.E=E->ja kE (A.deeper (envX q scope s.heap.objs.size f (.ref c') g))->Snd (sJ X.prog X.w X.K X.mg base N' q scope f (.ref c') g A outer s H E) Y' body fe)
  (hp:∀(g:List (Str×Addr)) (pm cd O u:Value),bindArgs (kla_fn "<lambda>" q d body scope g pm cd O) ⟨[u],[]⟩=pure [(x0,u)]:=by intros;rfl) (hdef:defaultsOf d X.env=([],[]):=by rfl) (hs:mY X a:=by exact mQ rfl):
  Snd X Y (.Call (.Name "min" p) [a] [⟨some "key",.Lambda d body scope lp,kp⟩,⟨some "default",b,kp2⟩] pos) (VS js fe fa fb):= .mk λρ=>by
 intro pins s σ H Q I ⟨B,J,po⟩;subst hy;rw[aj]at F;have CS:=Xa o h0 F.1;have CP:=qc N o hN h0 F.2;have S:CT _:=⟨CS.kind,hco,hge,CS.nocell⟩;obtain⟨g,ecl,hcl,hcf⟩:=YU λx hx hf=>I.ok.has x.1 (CS.fre x hx hf);refine KI hr.hd gl mg (ha ρ) (Ic (body:=body) (pos:=lp) L hdef ecl) (hfb ρ) hs pins s σ H Q I ?_;refine step J po λt v H1 _ s1 r1 I1 q1=>⟨I1.sH _ _ hT,λf c' pm O H2 s2 hf hc=> ?_⟩;have I2:=I1.grow s2;refine step I2 (KA I1.sB s2 q1) λt' v' H3 _ s3 r3 I3 G=>⟨⟨rfl,rfl⟩, ?_⟩;have r1:=(r1.mono (zF.ge I1.sB s2)).mono (zF.ge I2.sB s3);cases r1 with
 | @lst l xs ts h r=>
  have hx:=I3.sB _ _ h;cases ts with
  | nil=>
   refine⟨l,f,xs,λ_=>0,⟨rfl,rfl⟩,hx,λi x u e _=> ?_,λ_=>mV I3.sB G rfl r3,λi x C e=> ?_⟩
   ·cases r;simp at e
   ·cases r;simp at e
  | cons t0 ts=>
   have G:Po Y rC _ H3 (match Wp (λt=>fe ((Jp 1 js ρ).set 0 (.vl t))) (t0 :: ts) with | some (k :: D)=> .ok (ZS k t0 D ts) | _=> .bad) Q:=G
   split at G
   ·rename_i k0 D ek;obtain⟨hl,hk⟩:=UJ ek;refine⟨l,f,xs,λi=>((k0 :: D)[i]?).getD 0,⟨rfl,rfl⟩,hx,λi x u e ru pn s' C I' M=> ?_,λhn=>(by subst hn;cases r),λi x C e U M=> ?_⟩
    ·obtain⟨t,Z,rt⟩:=r.getV e;obtain⟨kk,ekk,fk⟩:=hk i t Z;have hrm:ja (kE+1) X.A.in1:=⟨hr.hd,by have:=hr.dp;show X.A.depth+3*(kE+1)+5 < _;omega,by have:=hr.un;show X.A.units+1+16*(kE+1)+200 < _;omega,hr.gd⟩
     have y:=I'.big;have e0' :xS X.prog X.w X.K X.mg (Xk s' C (ng X.stack)) X.A.in1 X.stack s' C :=⟨y.frames,y.mod,y.bs,y.bsz,y.funs,y.frf,y.hok,y.bare⟩;refine wpAny_call (eN (VR (te:=tS ⟨_,C,λ_ _ _=>False,Y.cl,[]⟩ rC fe ((Jp 1 js ρ).set 0 (.vl t))) (Q:=λv H2=>v= .int kk/\zo C H2) (E:=λ_ _ _=>False) S hrm e0' (KH I' hfn hcl hcf CP) hnd hx0 hlx ru (M _ _ (s3 _ _ hf)) (hc.mono (s3.trans M)) (hp _ pm _ O _)
      ((hb _ X.A.in1 _ s' C _ f c' _ ⟨_,C,λ_ _ _=>False,Y.cl,[]⟩ y.mod.kin rfl rfl (hrm.deeper _)) _) ⟨_,((I3.grow M).blockS 1 js _ (zo.refl _)).setV 0 (rt.mono (zF.ge I3.sB M)), ?_⟩) λr s2 hq=> ?_)
     ·rw[fk];exact λv H2 s4 r4=>⟨by cases r4;rfl,s4⟩
     ·cases r with
      | error e=>
       obtain⟨_,_,_,_,_,_,_,z⟩:=hq;exact z.elim
      | ok fl=>
       cases fl with
       | ret u=>
        obtain⟨v,H2,I2,rv,rfl,sm2⟩:=I'.after hq;obtain⟨t,rfl⟩:=rv;exact⟨t,H2,by dsimp only;rw[ekk];rfl,I2,sm2⟩
       | next=>exact cq hq
       | brk=>exact cq hq
       | cont=>exact cq hq
    ·have hlt:D.length=ts.length:=by simpa using hl
     have hxl:xs.length=1+D.length:=by rw[r.length,aw,hlt];omega
     obtain⟨i',w1,w2⟩:=Wq D ts k0 t0 1 0 (λi=>((k0 :: D)[i]?).getD 0) hlt (by omega) rfl (λj hj=>by
      obtain rfl:j=0:=by omega
      exact⟨i8 _,λz=>by omega⟩) (λj q e=>by
      show ((k0 :: D)[1+j]?).getD 0=q;rw[dU,iE,e];rfl)
     have hi:=(ay.mp e).1;have hi' :i' < xs.length:=by
      rcases w1 with ⟨z,_⟩ | ⟨j,z,ej⟩
      ·omega
      ·have:=(ay.mp ej).1;omega
     obtain rfl:i=i' :=by
      have a1:=U i' hi';have a2:=w2 i (by omega)
      dsimp only at a1 a2;rcases Nat.lt_trichotomy i i' with z | z | z
      ·have:=a2.2 z;have:=a1.1;omega
      ·exact z
      ·have:=a1.2 z;have:=a2.1;omega
     obtain⟨t,Z,rt⟩:=r.getV e;have htt:t=ZS k0 t0 D ts:=by
      rcases w1 with ⟨z,z2⟩ | ⟨j,z,ej⟩
      ·rw[z]at Z;cases Z;exact z2.symm
      ·rw[z,dU,iE,ej]at Z;exact(aH Z).symm
     rw[htt]at rt;exact G x C M (rt.mono (zF.ge I3.sB M))
   ·exact G.elim
 | _=>exact G.elim
end
section
variable {P:Program}{w:World}{K:ai}{mg:Str->Option Value}{base:Heap}
theorem Fa {cl:Nat->Value}{x d q:Str}{st:Stmt}{f u:Addr}{y:FuncData}{N p:List Str}{k n:Nat}{o:En->RS}{g:List T->R T}(F:Fun K x d st f y)(S:jJ N p (zf st))(hn:n=p.length)
  (O:∀(cdv:Value) (A:Around) (outer:List Env) (s:Shared) (H:Hp) (E:XK) (Y:Fx),Y.cl=cl->Y.E=E->Y.H0 u=some (.tbl #[] q)->ja k (A.deeper (envOfC d (zf st) s.heap.objs.size f cdv))->
   We (jC (nc P w) P w K mg base N d (zf st) f cdv A outer s H E) Y (Z1 st) o)
  (U:∀ts,ts.length=n->g ts=zk (o (mB N.length ts))):wD P w K mg base (nc P w) (k+1) f y p (qN cl n g u q):=by
 subst hn;obtain⟨oc,od,kV,G,pm,Z,cdv,ct,X,rfl,lk,j⟩:=F.ex;refine kl lk j S (λvs H Q E z=>spP.len vs H Q E z.2) λA outer s H vs Q E hr ⟨hT,B,ts,M,J,r,q⟩=> ?_;refine⟨_,O cdv A _ s H E ⟨B,H,E,cl,[]⟩ rfl rfl hT hr _,B,SI.start J r, ?_⟩;rw[U ts M]at q;revert q;cases o _ with
 | rt t=>exact λq v i s r=>q v i s r
 | rf t=>exact λq a xs i C D n e r _ l=>q _ i D (.lst (by rw[zM n];exact e) (r.mono l))
 | nx ρ=>exact λq σ' i C _ I=>q _ i I.sH .non
 | ex c=>exact λq=>q
 | bk ρ=>exact λq=>q.elim
 | ct ρ=>exact λq=>q.elim
 | bad=>exact λq=>q
end
noncomputable abbrev n8 (x:Str):Str:=x++".<locals>."++"<lambda>"
noncomputable abbrev FT (K:ai)(mg:Str->Option Value)(x:Str)(st:Stmt)(ps:List Str)(Pt:Addr):Prop:=∃f fd c,Fn K mg x st ps f fd/\fd.code= .ref c/\fF K c Pt=true
abbrev qT (Z:Zz)(x:Str)(n k:Nat)(c:List T->R T)(Pt:Addr)(q:Str):Prop:=QQ x (nc Z.P Z.w) k (qN Z.cl n c Pt q) Z
section
variable {Z:Zz}{x:Str}{st:Stmt}{ps:List Str}{k n m:Nat}{fb:En->RS}{f:Addr}{fd:FuncData}{Pt:Addr}{q:Str}
theorem L9 (C:FT Z.K Z.mg x st ps Pt)(a:Z.base.BuiltinsAt Z.mg Pt)(N:List Str) (g:∀(f c:Addr) (A:Around) (outer:List Env) (s:Shared) (H:Hp) (E:XK) (Y:Fx),Lm (jC (nc Z.P Z.w) Z.P Z.w Z.K Z.mg Z.base N x (zf st) f (.ref c) A outer s H E) c Pt (n8 x)->Y.H0 Pt=some (.tbl #[] (n8 x))->Y.cl=Z.cl->Y.E=E->ja k (A.deeper (envOfC x (zf st) s.heap.objs.size f (.ref c)))->N.Nodup->jB (nc Z.P Z.w) (jC (nc Z.P Z.w) Z.P Z.w Z.K Z.mg Z.base N x (zf st) f (.ref c) A outer s H E) Y.E->
   We (jC (nc Z.P Z.w) Z.P Z.w Z.K Z.mg Z.base N x (zf st) f (.ref c) A outer s H E) Y (Z1 st) fb)
  (S:Sc N ps st:=by refine⟨rfl,rfl,rfl, ?_,rfl, ?_, ?_⟩ <;> decide+kernel) (hn:n=ps.length:=by rfl) (d:m=N.length:=by rfl):qT Z x n (k+1) (oP m fb) Pt (n8 x):=by
 obtain⟨f,fd,c,C,e,hd⟩:=C;subst d;exact⟨_,_,f,fd,C,LM C.F e S hn (λA outer s H E Y hy hE hT hr=>g f c A outer s H E Y ⟨rfl,hd,a,rfl⟩ hT hy hE hr S.nd (hE ▸ GQ)) λ_ _=>rfl⟩
theorem BE (C:Fn Z.K Z.mg x st ps f fd)(N:List Str) (c:∀(cdv:Value) (A:Around) (outer:List Env) (s:Shared) (H:Hp) (E:XK) (Y:Fx),Y.H0 Pt=some (.tbl #[] q)->Y.cl=Z.cl->Y.E=E->ja k (A.deeper (envOfC x (zf st) s.heap.objs.size f cdv))->N.Nodup->jB (nc Z.P Z.w) (jC (nc Z.P Z.w) Z.P Z.w Z.K Z.mg Z.base N x (zf st) f cdv A outer s H E) Y.E->
   We (jC (nc Z.P Z.w) Z.P Z.w Z.K Z.mg Z.base N x (zf st) f cdv A outer s H E) Y (Z1 st) fb)
  (S:Sc N ps st:=by refine⟨rfl,rfl,rfl, ?_,rfl, ?_, ?_⟩ <;> decide+kernel) (hn:n=ps.length:=by rfl) (a:m=N.length:=by rfl):wD Z.P Z.w Z.K Z.mg Z.base (nc Z.P Z.w) (k+1) f fd ps (qN Z.cl n (oP m fb) Pt q):=by
 subst a;exact Fa C.F S hn (λcdv A outer s H E Y hy hE hT hr=>c cdv A outer s H E Y hT hy hE hr S.nd (hE ▸ GQ)) λ_ _=>rfl
end
section
theorem cT (hT:Y.H0 Pt=some (.tbl #[] q))(hy:Y.cl=cl)(hp:jB (nc X.prog X.w) X Y.E)(O:QQ x (nc X.prog X.w) j (qN cl n g Pt q) ⟨X.prog,X.w,X.K,X.mg,X.base,cl⟩)(hr:ja k X.A)(r:Up X Y (a :: es) ga)(o:j<=k:=by omega)(l:Gl X x:=by rfl)(hd:(x == ("__debug__":Str))=false:=by decide)
  (u:starEach (a :: es) X.env=(false,eval a X.env) :: starEach es X.env:=by exact zD rfl) (hz:((backTo pos (starEach es X.env)).any λx=>x.fst)=false:=by exact zT rfl):Snd X Y (.Call (.Name x p) (a :: es) [] pos) (zb n g ga):=by
 subst hy;refine O.go λ_ _ _ _ C F=> .mk λρ=>PE.imp (jb F (hr.mono o) l C.m C.F.kp C.b .nil hp (r ρ) hd u hz) λG H Q ⟨B,I,q⟩=>step I q λts vs D _ J i e f=> ?_;split at f
 ·rename_i hn;rw[bw];refine⟨e.sH _ _ hT,_,ts,hn,e.sB,i, ?_⟩;revert f;cases g ts with
  | ok t=>exact λq=>q
  | bad=>exact λq=>q
  | ex c=>exact λq d v s y =>q d v (e.sH.trans s) y
 ·exact f.elim
theorem mK {c:Addr}{kE:Nat}{j:Str}{d:Arguments}{body:Expr}{scope:Scope}{S kp v:Pos}{js:List Nat}{F B D:En->R T}(L:Lm X c Pt q)(hT:Y.H0 Pt=some (.tbl #[] q))(hy:Y.cl=cl)(hr:ja k X.A)(P:X.mg "min"=none)
  (h:Gb X.N (j :: ou X.N js) X.env.scope scope 1 js=true) (i:((scope.names.lookup j == some .local) && !scope.isCoroutine && !scope.isGenerator)=true) (M:Snd X Y a B) (r:Snd X Y b D)
  (J:∀(base:Heap) (A:Around) (outer:List Env) (s:Shared) (H:Hp) (E:XK) (f C :Addr) (e:List (Str×Addr)) (l :Fx),X.K.In base->l.cl=cl->l.E=E->ja kE (A.deeper (envX q scope s.heap.objs.size f (.ref C) e))->Snd (sJ X.prog X.w X.K X.mg base (j :: ou X.N js) q scope f (.ref C) e A outer s H E) l body F)
  (I:kE+2<=k:=by omega) (G:Gl X "min":=by rfl) (o:∀x,X.fn x=true:=by exact λ_=>rfl)
  (hp:∀(e:List (Str×Addr)) (O cd y u:Value),bindArgs (kla_fn "<lambda>" q d body scope e O cd y) ⟨[u],[]⟩=pure [(j,u)]:=by intros;rfl) (g:defaultsOf d X.env=([],[]):=by rfl) (Q:mY X a:=by exact mQ rfl):
  Snd X Y (.Call (.Name "min" p) [a] [⟨some "key",.Lambda d body scope S,kp⟩,⟨some "default",b,v⟩] pos) (VS js F B D):=by
 rw[Gb,aj]at h;rw[aj,aj]at i;exact Ib hy L hT o hr I G P M r _ _ _ rfl rfl h.1 (by simpa using i.1.2) (by simpa using i.2) (um h.2) rfl (eq_of_beq i.1.1) J hp g Q
end
section
end
section
end
section
end
section
end
end PV
namespace PV
open PySem PySem.Spec PyProof.Rows L2
section
end
section
end
end PV
namespace PV
open PySem PySem.Spec PyProof.Rows L2 PySem.W
section
end
section
noncomputable def Ac (k:Bool):Value->Bool
 | .bool b=>b == k
 | _=>false
theorem Zp (h:Ac k v=true):v= .bool k:=by
 cases v <;> simp_all [Ac]
noncomputable def iB (b:Bool):Int:=if b then 1 else 0
theorem JN {Q:Int->Shared->Prop}(h:Q (hashInt (iB b)) { s with toks:=s.toks+1 }):wpAny (model prog w) A (pyHash (.bool b)) Q E s:=by
 have hT:s.TypeIs (.bool b) "bool":=rfl;unfold pyHash;have a:[Value.bool b].any Value.onHeap=false:=rfl;refine a8 ?_;rw[cRoomFor,if_neg (by rw[a];exact ax)];refine ac ?_
 refine a8 (c7 hT cb.lookup ?_);show wpAny _ _ (if (some (Value.builtin "int.__hash__") == some Value.none)=true then _ else _) Q E s
 rw[if_neg (by rw[beq_builtin_none];exact ax)]
 refine a8 (c7 hT cb.lookup ?_);show wpAny _ _ (callSpecialIfBoundUnlessNone? (.bool b) "__hash__" _ >>= _) Q E s;refine a8 (wpAny_callSpecialIfBoundUnlessNone?_slot hT cb
  (aM cb hT lX
   (show wpAny _ _ (do ret (← mkInt (rawHash (iB b)))) _ _ s from by cases b <;> refine wpAny_ret_mkInt ?_ <;> exact ac h) (lD _)))
theorem KJ {Q:Bool->Shared->Prop}(h:Q (decide (a=b)) s):wpAny (model prog w) A (eqBool (.bool a) (.bool b)) Q E s:=by
 exact PySem.SeqAt.EqAt.bool_bool a b _ _ _ _ (by rw[show (a == b)=decide (a=b) from by cases a <;> cases b <;> rfl];exact h)
end
def ZA (prog:Program)(w:World):KeyKind prog w Bool where
 is:=Ac
 hash:=λb=>hashInt (iB b)
 inj:=λv a b d f=>by have:=(Zp d).symm.trans (Zp f);injection this
 byValue:=λk v h=>by rw[Zp h];rfl
 pyHash:=λc h=>by rw[Zp c];exact JN h
 eqBool:=λe c h=>by rw[Zp e,Zp c];exact KJ h
 «strs»:=λk x t v h=>by simp[Ac]at h
section
variable {K:Type}[DecidableEq K]{knd:HeapKind prog w K}
theorem wb {d a:Addr}{xs:List (K×Addr×Value)}{k:K}{dflt:Value}{Q:Value->Shared->Prop}(C:knd.room A)(c:knd.is s.heap k a)(F:s.heap.DictOfH knd d xs)
  (f:∀p,atKey xs k=some p->Q p.2 { s with toks:=s.toks+knd.draws k })
  (q:atKey xs k=none->∀h',h'.DictOfH knd d (xs++[(k,a,dflt)])->bc d s.heap h' ->Q dflt { s with heap:=h',toks:=s.toks+knd.draws k })
  (hsz:xs.length<=sizeLine):wpAny (model prog w) A (dictSetDefault d (.ref a) dflt) Q E s:=by
 obtain⟨o,G,ep,i,D,hd,v,r,hn⟩:=F;unfold dictSetDefault
 try with_reducible refine bp ?_
 refine a8 (knd.pyHash C c ?_);refine a8 (wpAny_dictFind_heap (s:={ s with toks:=s.toks+knd.draws k }) C c i hd v r hn ?_ ?_)
 ·intro l;have u:k ∉ xs.map (·.1):=not_mem_keys_of_get l;refine a8 (du (a8 (wpAny_updateDictKeys (hz:=by have e:=size_of_entries v;omega) (s:={ s with toks:=s.toks+knd.draws k }) i hd (ac (q (atKey_none_of_get l) _ ⟨_,_,ep+1,fg _ i (Obj.isFreed_of_dict (iZ hd _)),
   D.mapDictKeys _,iZ hd _, ?_, ?_, ?_⟩ (bV ..))))))
  ·simp[v,entryOfKey]
  ·intro x g;rcases aW.mp g with g | g
   ·exact knd.keeps (r x g) i hd (bV ..)
   ·simp only[aq]at g;subst g;exact knd.keeps c i hd (bV ..)
  ·rw[cM,i9];refine⟨hn,by simp, ?_⟩
   intro x g y hy;simp only[ar,bI,aq]at hy;subst hy;exact λe=>u (e ▸ g)
 ·intro j p B;refine a8 (cn (s:={ s with toks:=s.toks+knd.draws k }) i hd ?_);rw[entry_at v j,B];exact a8 (du (ac (f p (atKey_of_get hn B))))
end
section
end
section
end
section
end
section
end
end PV
namespace L2
open PySem PySem.Spec PyProof.Rows
theorem Ln {k:mM}(r:RelV (kV k) u):(Z0 P w).is k u=true:=by
 cases k with
 | inl i=>cases (show u= .bool i from r);exact beq_self_eq_true i
 | inr x=>obtain⟨t,e⟩:=r;rw[e];exact jH P w x t
section
variable {κ:Type}[DecidableEq κ]
noncomputable def Yc (kvs:List (κ×Addr×V))(k:κ):Option V:=(kvs.find? λa=>decide (a.1=k)).map (·.2.2)
end
section
variable {κ:Type}[DecidableEq κ]
theorem Wr {p:κ×Addr×V}{r:List (κ×Addr×V)}{k:κ}(e:p.1=k):Yc (p :: r) k=some p.2.2:=by simp[Yc,dC,e]
end
section
variable {κ:Type}[DecidableEq κ]
theorem Ws {p:κ×Addr×V}{r:List (κ×Addr×V)}{k:κ}(e:¬ p.1=k):Yc (p :: r) k=Yc r k:=by simp[Yc,dC,e]
end
theorem uo {P:Program}{w:World}:∀{a:List mM} {c:List Value},Vals (a.map kV) c->ItemsAre (Z0 P w) a c
 | [],_,r=>by rw[bI]at r;cases r;exact .nil
 | k :: a,_,r=>by
  rw[ar]at r;cases r with
  | cons h t=>exact .cons (Ln h) (uo t)
abbrev KT (H:Hp):List (List mM×Addr×V)->List (List mM×Addr×Value)->Prop:=Paired λp q=>p.1=q.1/\H q.2.1=some (.tup (p.1.map kV))/\RelV p.2.2 q.2.2/\p.2.1=q.2.1
theorem KT.val {kvs:List (List mM×Addr×V)}{xs:List (List mM×Addr×Value)}(r:KT H kvs xs)(k:List mM):tX (Yc kvs k) ((atKey xs k).map (·.2)):=by
 induction r with
 | nil=>exact True.intro
 | @cons p q g qs h t f=>
  obtain⟨c,_,d,_⟩:=h
  by_cases e:p.1=k
  ·have a :q.1=k:=c.symm.trans e;have b:atKey (q :: qs) k=some q.2:=by simp[atKey,dC,a]
   rw[Wr e,b];exact d
  ·have a :¬ q.1=k:=λz=>e (c.trans z);have b:atKey (q :: qs) k=atKey qs k:=by simp[atKey,dC,a]
   rw[Ws e,b];exact f
theorem KT.keeps {kvs:List (List mM×Addr×V)}{xs:List (List mM×Addr×Value)}(r:KT H kvs xs)(c:∀b a,H b=some (.tup a)->H' b=some (.tup a)):KT H' kvs xs:=
 Paired.mapP r λ_ _ z=>⟨z.1,c _ _ z.2.1,z.2.2⟩
section
theorem Iu (ok:HOk P w H h)(e:Rd H a u):zQ P w H h a u:=e.ok ok
end
section
theorem Xl {d:List mM}(ok:HOk P w H h)(e:H a=some (.tup (d.map kV))):(tupleKind (Z0 P w)).is h d a:=by
 obtain⟨_,c,r,⟨o,g,f,n,i⟩,_⟩:=(show zQ P w H h a (.tup (d.map kV)) from ok a _ e);exact⟨o,c.toArray,n,g,f,i,by simpa using uo r⟩
end
section
theorem E5 {kvs:List (List mM×Addr×V)}(ok:HOk P w H h)(e:Rd H a (.dT kvs)):kvs.length<=sizeLine/\(a == sysModules)=false/\
  ∃xs,KT H kvs xs/\h.DictOfH (tupleKind (Z0 P w)) a xs:=by
 obtain⟨z,y,xs,r,o,g,ep,u,f,j,i,k⟩:=(show zQ P w H h a (.dT kvs) from Iu ok e);refine⟨z,y,xs,r,o,g,ep,u,f,j,i,λx c=> ?_,k⟩;have all:∀{l:List (List mM×Addr×V)} {m:List (List mM×Addr×Value)},KT H l m->∀x∈m,(tupleKind (Z0 P w)).is h x.1 x.2.1:=by
  intro l m q
  induction q with
  | nil=>intro x c;exact nomatch c
  | @cons p q B qs d t v=>
   intro x c;rcases ak.mp c with e | c
   ·subst e;exact Xl ok (by rw[← d.1];exact d.2.1)
   ·exact v x c
 exact all r x c
end
section
theorem VT {kvs:List (List mM×Addr×V)}(ok:HOk P w H h)(e:H a=some (.dT kvs)):kvs.length<=sizeLine/\(a == sysModules)=false/\
  ∃xs,KT H kvs xs/\h.DictOfH (tupleKind (Z0 P w)) a xs:=E5 ok (.inl e)
end
section
variable {o:Option V}
theorem Inv.bigM (I:Inv X pins σ H s):sysModules < s.heap.objs.size:=by
 have h:mainGlobals < s.heap.objs.size:=(I.mod.glob.keeps I.bk).lt;exact fY (by decide) h
end
section
variable {o:Option V}
theorem KK (I:Inv X pins σ H s)(c:sO (H a))(f:bc a s.heap h')(d:∃q,h'.get? a=some q)(new:zQ X.prog X.w (mz H a ob) h' a ob):
  Inv X pins σ (mz H a ob) { s with heap:=h',toks:=t' }:=
 I.write (x:=a) (e:=a) c (.inl rfl) (λb q g z=>(f.2 b g).trans z) d new
end
theorem VU (h:Heap)(a:sysModules < h.objs.size):zQ P w H (h.push { cls:= .type "dict",data:= .dict #[] }) h.objs.size (.dT []):=
 ⟨bf _,beq_eq_false_iff_ne.mpr (bj (aF a)),[],.nil,_, #[],0,af _ rfl,⟨rfl,rfl,rfl⟩,rfl,rfl,List.nodup_nil⟩
def FG:TE:=λ_ H Q=>∀p,H p=none->Q (.ref p) (mz H p (.dT []))
section
theorem VV:PE X (.Dict [] [] pos) FG:=λc s d H Q I h=>
 wpAny_Dict_empty ⟨.ref s.heap.objs.size,_,I.laid (a:=s.heap.objs.size) (o:= .dT []) (t' :=s.toks) (λ_ _ q=>ab _ q) (am _) (VU s.heap I.bigM),rfl,h _ (I.hok.fresh (am _))⟩
end
end L2
namespace PV
open PySem PySem.Spec PyProof.Rows L2 PySem.W
def Iy:V->List V->Hp->VK->Prop:=λx vs H Q=>∃d kvs k b v0,x= .ref d/\vs=[.ref b,v0]/\H d=some (.dT kvs)/\H b=some (.tup (k.map kV))/\kvs.length < sizeLine/\(match Yc kvs k with
 | some v=>Q v H
 | none=>Q v0 (mz H d (.dT (kvs++[(k,b,v0)]))))
theorem KL (hu:X.A.units+64 < cLine):oW X "dict.setdefault" Iy:=by
 intro y s σ H x vs v Z Q I U rs h;obtain⟨d,kvs,k,b,v0,rfl,rfl,hd,r,hz,h⟩:=h;cases U;cases rs with
 | @cons _ u1 _ J G rs=>
  cases rs with
  | @cons _ f _ N o rs=>
   cases rs;cases G;obtain⟨z,u,xs,e,dd⟩:=VT I.hok hd;refine aM F.slot_dict_setdefault dd.typeIs F.entry_dict_setdefault ?_ (F.args_dict_setdefault_3 _ _ _);unfold Builtin.«dict.setdefault»;refine a8 ?_;unfold Builtin.Dict.keyAndDefault;refine a8 (wpAny_notOrdered_dict dd.typeIs ?_);show wpAny _ _ (pure (d,Value.ref b,some f)) _ _ s;refine ac ?_;show wpAny _ _ (if (d == sysModules)=true then _ else (dictSetDefault d (.ref b) f >>= _)) _ _ s
   rw[if_neg (by rw[u];exact ax)]
   have l:xs.length<=sizeLine:=by rw[← e9 e];exact z
   have a:=e.val k;refine a8 (wb (tupleKind_room_in1 (by omega)) (Xl I.hok r) dd (λp hp=> ?_) (λhn h' j i => ?_) l)
   ·rw[hp]at a;revert h;cases g:Yc kvs k with
    | none=>rw[g]at a;exact(show False from a).elim
    | some w=>
     rw[g]at a;exact λh=>ac ⟨p.2,rfl,w,H,I.tok _,a,h⟩
   ·rw[hn]at a;revert h;cases g:Yc kvs k with
    | some w=>rw[g]at a;exact(show False from a).elim
    | none=>
     intro h;obtain⟨q,P,ep,C,O,D,S,_,M⟩:=j;refine ac ⟨f,rfl,v0,_,KK (ob:= .dT (kvs++[(k,b,v0)])) I (by rw[hd];exact True.intro) i ⟨q,C⟩ ⟨?_,u,_,KT.keeps (show KT H (kvs++[(k,b,v0)]) (xs++[(k,b,f)]) from Paired.snoc e ⟨rfl,r,o,rfl⟩) λc ys B=> ?_,q,P,ep,C,O,D,S,M⟩,o,h⟩
     ·rw[az,aK];omega
     ·rw[zi (Yg B hd (λz=>nomatch z))];exact B
noncomputable abbrev WE:=List Bool×List T
def wV (k:List Bool)(w:T):List WE->List WE
 | []=>[(k,[w])]
 | (a,c) :: r=>if a =k then (a,c++[w]) :: r else (a,c) :: wV k w r
noncomputable def ZO:List T->Option (List Bool)
 | []=>some []
 | .bl b :: ts=>(ZO ts).map λl=>b :: l
 | _=>none
def wc (g:T->R T):List T->List WE->R (List WE)
 | [],a=> .ok a
 | w :: c,a=>(g w).bind λt=>match t with
  | .tup ts=>(match ZO ts with
   | some k=>wc g c (wV k w a)
   | none=> .bad)
  | _=> .bad
def D1 (c f:List T->R T):List T->R (List WE):=λts=>match ts with
 | [e,d]=>(c [e]).bind λt=>match t with
  | .lst a=>if a.length<=mF then wc (λw=>f [d,w]) a [] else .bad
  | _=> .bad
 | _=> .bad
abbrev kI (k:List Bool):List mM:=k.map Sum.inl
theorem Xm {a b:List Bool}(h:kI a=kI b):a=b:=(lx λx y e=>by injection e).mp h
theorem IM (k:List Bool):(kI k).map kV=k.map V.bl:=by rw[aZ];rfl
def Kb (a B H:Hp)(k:List Bool)(b:Addr):Prop:=H b=some (.tup (k.map V.bl))/\(a b=none\/B b=some (.tup (k.map V.bl)))
inductive Js (H0 B H:Hp) (n:Nat):List (List mM×Addr×V)->List WE->List Addr->Prop
 | nil:Js H0 B H n [] [] []
 | cons {k:List Bool} {b l:Addr} {xs:List V} {ws:List T} {kvs:List (List mM×Addr×V)} {es:List WE} {ls:List Addr} (kb:Kb H0 B H k b) (e:H l=some (.lst xs)) (b0:B l=none) (r:zy B xs ws) (hn:ws.length<=n) (no:l ∉ ls) (t:Js H0 B H n kvs es ls):Js H0 B H n ((kI k,b,.ref l) :: kvs) ((k,ws) :: es) (l :: ls)
section
variable {kvs:List (List mM×Addr×V)}{es:List WE}
theorem Kb.mono {k:List Bool}(h:Kb H0 B H k b)(a:∀b xs,H b=some (.tup xs)->H' b=some (.tup xs)):Kb H0 B H' k b:=⟨a _ _ h.1,h.2⟩
theorem Js.mono (hn:n<=n')(h:Js H0 B H n kvs es ls)(s:∀l∈ls,H' l=H l)(c:∀b xs,H b=some (.tup xs)->H' b=some (.tup xs)):Js H0 B H' n' kvs es ls:=by
 induction h with
 | nil=>exact .nil
 | cons d e b r a no t f=>exact .cons (d.mono c) (by rw[s _ aa];exact e) b r (av a hn) no (f λl a=>s l (a9 _ a))
theorem Js.bnone (h:Js H0 B H n kvs es ls)(a:l∈ls):B l=none:=by
 induction h with
 | nil=>cases a
 | cons d e b r hn no t c=>
  rcases ak.mp a with rfl | z
  ·exact b
  ·exact c z
theorem Js.islst (h:Js H0 B H n kvs es ls)(a:l∈ls):∃xs,H l=some (.lst xs):=by
 induction h with
 | nil=>cases a
 | cons d e b r hn no t c=>
  rcases ak.mp a with rfl | z
  ·exact⟨_,e⟩
  ·exact c z
theorem Js.old {k:List Bool}(q :Rep B u w)(h:Js H0 B H n kvs es f)(c:Yc kvs (kI k)=some v):
  ∃l xs,v= .ref l/\l∈f/\H l=some (.lst xs)/\xs.length<=n/\∀a,a l=some (.lst (xs++[u]))->(∀m∈f,m ≠ l->a m=H m)->(∀b xs,H b=some (.tup xs)->a b=some (.tup xs))->Js H0 B a (n+1) kvs (wV k w es) f:=by
 induction h with
 | nil=>cases c
 | @cons J O l xs P kvs es f y e b r G no t N=>
  by_cases p:J =k
  ·subst p;rw[Wr rfl]at c;cases c;refine⟨l,xs,rfl,aa,e,by rw[r.length];exact G,λa o g d=> ?_⟩
   rw[wV,if_pos rfl];exact .cons (y.mono d) o b (r.append (.cons q .nil)) (by rw[az,aK];omega) no (t.mono (cP _) (λm i=>g m (a9 _ i) λz=>no (z ▸ i)) d)
  ·rw[Ws λz=>p (Xm z)]at c;obtain⟨D,j,M,x,I,F,C⟩:=N c;refine⟨D,j,M,a9 _ x,I,F,λa o g d=> ?_⟩;rw[wV,if_neg p];exact .cons (y.mono d) (by rw[g l aa λz=>no (z ▸ x)];exact e) b r (by omega) no (C a o (λm i=>g m (a9 _ i)) d)
theorem Js.new {k:List Bool}(j :Rep B u w)(C:B l0=none)(h:Js H0 B H n kvs es c)(v:l0 ∉ c)(d:Yc kvs (kI k)=none):
  ∀a,Kb H0 B a k b0->a l0=some (.lst [u])->(∀m∈c,a m=H m)->(∀b xs,H b=some (.tup xs)->a b=some (.tup xs))->Js H0 B a (n+1) (kvs++[(kI k,b0,.ref l0)]) (wV k w es) (c++[l0]):=by
 induction h with
 | nil=>exact λa o f _ _=> .cons o f C (.cons j .nil) (by show 1<=n+1;omega) (by simp) .nil
 | @cons y G l xs I kvs es c o e b r F no t D=>
  intro a i f p q
  by_cases g:y =k
  ·subst g;rw[Wr rfl]at d;cases d
  ·rw[Ws λz=>g (Xm z)]at d;rw[wV,if_neg g];refine .cons (o.mono q) (by rw[p l aa];exact e) b r (by omega) ?_ (D (λz=>v (a9 _ z)) d a i f (λm x=>p m (a9 _ x)) q)
   intro z;rcases aW.mp z with z | z
   ·exact no z
   ·exact v (by rw[← aq.mp z];exact aa)
end
theorem U1:∀{B:Hp} {vs:List V} {ts:List T} {k:List Bool},zy B vs ts->ZO ts=some k->vs=k.map V.bl
 | _,_,_,_,.nil,h=>by cases h;rfl
 | _,_,_,_,.cons r d,h=>by
  cases r with
  | bl b=>
   unfold ZO at h;obtain⟨l,c,a⟩:=Option.map_eq_some_iff.mp h;subst a;rw[ar,U1 d c]
  | _=>cases h
def Bo (B H:Hp)(r:R (List WE))(Q:VK):Prop:=match r with
 | .ok f=>∀d kvs e a c n,zo H a ->zo B c ->zo c (zF B H a)->H d=none->c d=none->a d=some (.dT kvs)->Js H c a n kvs f e->d ∉ e->(∀l∈e,H l=none)->Q (.ref d) a
 | _=>False
def rm (g:List T->R (List WE)):Sp:=λvs H Q _=>∃B ts,ts.length=2/\zo B H/\zy B vs ts/\Bo B H (g ts) Q
structure WJ (H Bc:Hp) (d:Addr) (g:T->R T) (ws:List T) (esF:List WE) (H' :Hp) (i:Nat) (es:List WE) (kvs:List (List mM×Addr×V)) (ls:List Addr):Prop where
 sB:zo Bc H'
 sH:zo H H'
 hd:H' d=some (.dT kvs)
 en:Js H Bc H' i kvs es ls
 dn:d ∉ ls
 hn:∀l∈ls,H l=none
 hk:kvs.length<=i
 hF:wc g (ws.drop i) es= .ok esF
theorem Ci {Z:Zz}{x:Str}{st:Stmt}{k ka kw:Nat}{C g wy f an wn:Str}{ga gw:List T->R T}{q1 q2 q3 q4 q5 q6 q7 q8 q9 O q11 U X q14 q15 q16 q17 q18 q19 q20 q21 q22:Pos}(F:FE Z.K Z.mg x st [C,g])(A0:QQ an mT ka (spP Z.cl 1 ga) Z)(W0:QQ wn mT kw (spP Z.cl 2 gw) Z)(S:Sc [C,g,wy,f] [C,g] st)
  (hst:Z1 st=[.Assign [.Name wy q1] (.Dict [] [] q2) q3,
   .For (.Name f q4) (.Call (.Name an q5) [.Name C q6] [] q7) [.Expr (.Call (.Attribute (.Call (.Attribute (.Name wy q8) "setdefault" q9) [.Call (.Name wn O) [.Name g q11,.Name f U] [] X,.List [] q14] [] q15) "append" q16) [.Name f q17] [] q18) q19] [] q20,
   .Return (some (.Name wy q21)) q22])
  (hkd:(zf st).names.lookup C=some .local) (hru:(zf st).names.lookup g=some .local) (hwy:(zf st).names.lookup wy=some .local) (hwo:(zf st).names.lookup f=some .local) (han:(zf st).names.lookup an=some .globalImplicit) (hwn:(zf st).names.lookup wn=some .globalImplicit) (z1:(q9.endLine == q15.line)=true) (z2:(q16.endLine == q18.line)=true) (ha:ka<=k:=by omega) (hw:kw<=k:=by omega)
  (d1:(C == ("__debug__":Str))=false:=by decide) (d2:(C == ("__classdict__":Str))=false:=by decide) (d3:(g == ("__debug__":Str))=false:=by decide) (d4:(g == ("__classdict__":Str))=false:=by decide) (d5:(wy == ("__debug__":Str))=false:=by decide) (d6:(wy == ("__classdict__":Str))=false:=by decide) (d7:(f == ("__debug__":Str))=false:=by decide) (d8:(f == ("__classdict__":Str))=false:=by decide) (d9:(an == ("__debug__":Str))=false:=by decide) (d10:(wn == ("__debug__":Str))=false:=by decide):QQ x mT (k+1) (rm (D1 ga gw)) Z:=by
 obtain⟨ft,fdt,F⟩:=F;obtain⟨⟨_,pa,fa,fda,CA,FA⟩⟩:=A0;obtain⟨⟨_,pw,fw,fdw,CW,FW⟩⟩:=W0;refine⟨_,_,ft,fdt,F,F.F.ok S (λvs H Q E ⟨B,ts,hl,_,r,_⟩=>by rw[r.length,hl];rfl) λcdv A outer s H vs Q E hr ⟨B,ts,hl,sB,r,q⟩=> ?_⟩
 rw[hst];have gA:Gl (jC mT Z.P Z.w Z.K Z.mg Z.base [C,g,wy,f] x (zf st) ft cdv A outer s H E).nox an:=han;have gW:Gl (jC mT Z.P Z.w Z.K Z.mg Z.base [C,g,wy,f] x (zf st) ft cdv A outer s H E).nox wn:=hwn;have v0:∀{p},PE (jC mT Z.P Z.w Z.K Z.mg Z.base [C,g,wy,f] x (zf st) ft cdv A outer s H E).nox (.Name C p) (W6 0):=Jn rfl (.inl hkd) d1 d2;have v1:∀{p},PE (jC mT Z.P Z.w Z.K Z.mg Z.base [C,g,wy,f] x (zf st) ft cdv A outer s H E).nox (.Name g p) (W6 1):=Jn rfl (.inl hru) d3 d4;have v2:∀{p},PE (jC mT Z.P Z.w Z.K Z.mg Z.base [C,g,wy,f] x (zf st) ft cdv A outer s H E).nox (.Name wy p) (W6 2):=Jn rfl (.inl hwy) d5 d6;have v3:∀{p},PE (jC mT Z.P Z.w Z.K Z.mg Z.base [C,g,wy,f] x (zf st) ft cdv A outer s H E).nox (.Name f p) (W6 3):=Jn rfl (.inl hwo) d7 d8;have e1:(((((backTo q18 (starEach [.Name f q17] (jC mT Z.P Z.w Z.K Z.mg Z.base [C,g,wy,f] x (zf st) ft cdv A outer s H E).nox.env)).all λx=> !x.fst) && (backToKw q18 (keywordEach [] (jC mT Z.P Z.w Z.K Z.mg Z.base [C,g,wy,f] x (zf st) ft cdv A outer s H E).nox.env)).all λx=>x.fst.isSome) && decide (([Expr.Name f q17].length+([]:List Keyword).length+if ([]:List Keyword).isEmpty=true then 0 else 1) < 30))=true):=by rw[mQ rfl];rfl
 have s2:starEach [.Call (.Name wn O) [.Name g q11,.Name f U] [] X,.List [] q14] (jC mT Z.P Z.w Z.K Z.mg Z.base [C,g,wy,f] x (zf st) ft cdv A outer s H E).nox.env=[(false,eval (.Call (.Name wn O) [.Name g q11,.Name f U] [] X) _),(false,eval (.List [] q14) _)]:=nO rfl rfl;have e2:(((((backTo q15 (starEach [.Call (.Name wn O) [.Name g q11,.Name f U] [] X,.List [] q14] (jC mT Z.P Z.w Z.K Z.mg Z.base [C,g,wy,f] x (zf st) ft cdv A outer s H E).nox.env)).all λx=> !x.fst) && (backToKw q15 (keywordEach [] (jC mT Z.P Z.w Z.K Z.mg Z.base [C,g,wy,f] x (zf st) ft cdv A outer s H E).nox.env)).all λx=>x.fst.isSome) && decide (([Expr.Call (.Name wn O) [.Name g q11,.Name f U] [] X,.List [] q14].length+([]:List Keyword).length+if ([]:List Keyword).isEmpty=true then 0 else 1) < 30))=true):=by rw[s2];rfl
 have body:=Jb (JO (pos:=q19) (yB (cpos:=q18) (apos:=q16) de ie ig JQ
   (yB (cpos:=q15) (apos:=q9) eL PySem.F.slot_dict_setdefault PySem.F.type_dict_setdefault (KL hr.units) (v2 (p:=q8))
    (zm (jb (pos:=X) (p:=O) FW (hr.mono hw) gW CW.m CW.F.kp CW.b .nil (uW (E:=λ_ _ _=>False)) (zm (v1 (p:=q11)) (zm (v3 (p:=U)) zH (mQ rfl)) (zD rfl)) d10 (zD rfl) (zT rfl)) (zm (Yu zH) zH (mQ rfl)) (zD rfl)) rfl e2 z1 (zD rfl) (zT rfl))
   (zm (v3 (p:=q17)) zH (mQ rfl)) rfl e1 z2 (mQ rfl) rfl) rfl)
 refine⟨_,jr (wM S.nd (i:=2) rfl (.inl hwy) VV rfl (.inr hwy))
  (jr (xP fT rfl (F6 (jb (pos:=q7) (p:=q5) FA (hr.mono ha) gA CA.m CA.F.kp CA.b .nil (uW (E:=λ_ _ _=>False)) (zm (v0 (p:=q6)) zH (mQ rfl)) d9 (zD rfl) (zT rfl))) (jI S.nd (i:=3) rfl (.inl hwo) (.inr hwo)) body)
  (Jb (wL v2))), ?_⟩
 cases r with
 | nil=>cases hl
 | @cons va tk vs1 ts1 r1 rr=>
  cases rr with
  | nil=>cases hl
  | @cons vb tr vs2 ts2 r2 rr=>
   cases rr with
   | cons _ _=>exact absurd hl (by simp)
   | nil=>
    have q:Bo B H ((ga [tk]).bind λt=>match t with | .lst j=>(if j.length<=mF then wc (λw=>gw [tr,w]) j [] else .bad) | _=> .bad) Q:=q
    cases ega:ga [tk] with
    | bad=>rw[ega]at q;exact q.elim
    | ex c=>rw[ega]at q;exact q.elim
    | ok t=>
     rw[ega]at q;intro d hd;have sd:=zo.new hd (HO.dT []);refine⟨va,rfl,B,[tk],rfl,sB.trans sd,.cons r1 .nil, ?_⟩;rw[ega];intro v Hc sc rv;cases rv with
     | @lst l xs j hxl rxs=>
      have q:Bo B H (if j.length<=mF then wc (λw=>gw [tr,w]) j [] else .bad) Q:=q
      split at q
      case isFalse=>exact q.elim
      rename_i hbn;have sBc:zo (zF B (mz H d (HO.dT [])) Hc) Hc:=zF.le (sB.trans sd) sc;have bB:zo B (zF B (mz H d (HO.dT [])) Hc):=zF.ge (sB.trans sd) sc;have bd:zF B (mz H d (HO.dT [])) Hc d=none:=by
       rw[zR zl];exact sB.free hd
      have bG:∀M,zo (zF B (mz H d (HO.dT [])) Hc) M ->zo (zF B (mz H d (HO.dT [])) Hc) (zF B H M):=λM s' b o h=>by
       cases hb:H b with
       | none=>rw[zM hb];exact s' _ _ h
       | some u=>
        rw[zR hb];rw[zR (sd _ _ hb)]at h;exact h
      generalize zF B (mz H d (HO.dT [])) Hc=Bc at hxl rxs sBc bB bd bG;cases eF:wc (λw=>gw [tr,w]) j [] with
      | bad=>rw[eF]at q;exact q.elim
      | ex c=>rw[eF]at q;exact q.elim
      | ok esF=>
       rw[eF]at q;refine⟨l,rfl,.inl ⟨⟨xs,SqL.of (sBc _ _ hxl)⟩, ?_⟩⟩;refine⟨λi m σ' M =>m=j.length - i/\i<=j.length/\σ'[1]? =some (some vb)/\σ'[2]? =some (some (V.ref d))/\σ'.length=4/\∃es kvs ls,WJ H Bc d (λw=>gw [tr,w]) j esF M i es kvs ls,
        ⟨j.length,by simp,bf _,rfl,rfl,rfl,[],[],[],⟨sBc,sd.trans sc,sc _ _ zl,.nil,by simp,by simp,am _,eF⟩⟩, ?_⟩
       rintro i m σ' M ⟨rfl,hi,c1,c2,c4,es,kvs,ls,J,sH',I,en,dn,hn,hkl,G⟩
       have hl' :M l=some (.lst xs):=J _ _ hxl
       by_cases hlt:i < j.length
       ·have hgw:j[i]? =some j[i]:=ah hlt;obtain⟨N,hx0,rx0⟩:=rxs.get hgw;refine .inr ⟨⟨xs,N,SqL.of hl',hx0⟩,λσ2 H2=>σ2=σ'.set 3 (some N)/\∃es kvs ls,WJ H Bc d (λw=>gw [tr,w]) j esF H2 (i+1) es kvs ls,
         λσ2 H2 z=>⟨j.length - (i+1),by omega,rfl,hlt,by rw[z.1,aB (by decide)];exact c1,by rw[z.1,aB (by decide)];exact c2,by rw[z.1,bx];exact c4,z.2⟩,λy M hy=> ?_⟩
        obtain⟨rfl,hy⟩:=hy;have hy:=hy _ (SqL.of hl');rw[hx0]at hy;cases hy;rw[dX hlt]at G;unfold wc at G;have g1:(σ'.set 3 (some N))[1]? =some (some vb):=by rw[aB (by decide)];exact c1
        have g2:(σ'.set 3 (some N))[2]? =some (some (V.ref d)):=by rw[aB (by decide)];exact c2
        have g3:(σ'.set 3 (some N))[3]? =some (some N):=be (by omega)
        refine⟨.ref d,g2,.inr (.inr (.inl ⟨rfl,.inr ⟨kvs,I⟩⟩)),vb,g1,N,g3,Bc,[tr,j[i]],rfl,J,.cons (r2.mono bB) (.cons rx0 .nil), ?_⟩;cases egw:gw [tr,j[i]] with
        | bad=>rw[egw]at G;cases G
        | ex c=>rw[egw]at G;cases G
        | ok tw=>
         rw[egw]at G;intro v2 H2 s2 rv2;cases rv2 with
         | @tup b vs' ts' hb rb=>
          have G:(match ZO ts' with | some k=>wc (λw=>gw [tr,w]) (j.drop (i+1)) (wV k j[i] es) | none=> .bad)= .ok esF:=G
          cases ek:ZO ts' with
          | none=>rw[ek]at G;cases G
          | some kk=>
           rw[ek]at G;have hvs:=U1 rb ek;have hb2:H2 b=some (.tup vs'):=zF.le J s2 _ _ hb;refine⟨bf _,λp hp=> ?_⟩;have kp:∀c o,H2 c=some o->mz H2 p (HO.lst []) c=some o:=λc o a=>by rw[zi (λz=>by rw[z,hp]at a;cases a)];exact a
           refine⟨d,kvs,kI kk,b,.ref p,rfl,rfl,kp _ _ (s2 _ _ I),by rw[IM,← hvs];exact kp _ _ hb2,Ut (by omega), ?_⟩
           have rx:Rep Bc N j[i]:=rx0;have kb2:H b=none\/Bc b=some (.tup (kk.map V.bl)):=by
            rw[← hvs];cases q:M b with
            | none=>exact .inl (sH'.free q)
            | some u=>rw[zR q]at hb;exact .inr hb
           cases hv:Yc kvs (kI kk) with
           | some v=>
            obtain⟨l1,xs1,rfl,m1,h1,n1,fin⟩:=en.old rx hv;have h2:=kp _ _ (s2 _ _ h1);have keep:∀c o,M c=some o->c ≠ l1->mz (mz H2 p (HO.lst [])) l1 (HO.lst (xs1++[N])) c=some o:=λc o a hne=>by rw[zi hne];exact kp _ _ (s2 _ _ a)
            have bl1:Bc l1=none:=en.bnone m1;refine⟨.inl ⟨rfl,xs1,SqL.of h2⟩,N,g3,l1,xs1,N,rfl,rfl,h2,Ut (by omega),rfl,_,kvs,ls,⟨(λc o a=>keep c o (J _ _ a) λz=>by rw[z,bl1]at a;cases a),(λc o a=>keep c o (sH' _ _ a) λz=>by rw[z,hn l1 m1]at a;cases a),keep _ _ I λz=>dn (z ▸ m1),fin _ zl (λc a hne=> ?_) (λc ys a=>keep c _ a λz=>by rw[z,h1]at a;cases a),dn,hn,by omega,G⟩⟩
            obtain⟨xc,D⟩:=en.islst a;rw[D];exact keep _ _ D hne
           | none=>
            have pd:p ≠ d:=λz=>by rw[z,s2 _ _ I]at hp;cases hp
            have pH' :M p=none:=s2.free hp;have pl:p ∉ ls:=λz=>by obtain⟨xc,D⟩:=en.islst z;rw[pH']at D;cases D
            have h2:mz (mz H2 p (HO.lst [])) d (HO.dT (kvs++[(kI kk,b,V.ref p)])) p=some (.lst []):=by rw[zi pd,zl]
            have keep:∀c o,M c=some o->c ≠ d->mz (mz (mz H2 p (HO.lst [])) d (HO.dT (kvs++[(kI kk,b,V.ref p)]))) p (HO.lst ([]++[N])) c=some o:=λc o a hne=>by
             rw[zi (λz=>by rw[z,pH']at a;cases a),zi hne];exact kp _ _ (s2 _ _ a)
            refine⟨.inl ⟨rfl,[],SqL.of h2⟩,N,g3,p,[],N,rfl,rfl,h2,by show 0 < sizeLine;exact bq (bf _) (Ut (show 0 < mF by decide)),rfl,_,_,_,⟨(λc o a=>keep c o (J _ _ a) λz=>by rw[z,bd]at a;cases a),(λc o a=>keep c o (sH' _ _ a) λz=>by rw[z,hd]at a;cases a),by rw[zi (bj pd),zl],en.new rx (J.free pH') pl hv _ ⟨?_,kb2⟩ zl (λc a=> ?_) (λc ys a=>keep c _ a λz=>by rw[z,I]at a;cases a),λz=> ?_,λc a=> ?_,by rw[az,aK];omega,G⟩⟩
            ·have bt:H2 b=some (.tup (kk.map V.bl)):=by rw[← hvs];exact hb2
             rw[zi (λz=>by rw[z,hp]at bt;cases bt),zi (λz=>by rw[z,s2 _ _ I]at bt;cases bt)];exact kp _ _ bt
            ·obtain⟨xc,D⟩:=en.islst a;rw[D];exact keep _ _ D λz=>dn (z ▸ a)
            ·rcases aW.mp z with z | z
             ·exact dn z
             ·exact pd (aq.mp z).symm
            ·rcases aW.mp a with z | z
             ·exact hn c z
             ·rw[aq.mp z];exact sH'.free pH'
         | _=>cases G
       ·have e:i=j.length:=by omega
        subst e;rw[ix]at G;cases G;exact .inl ⟨⟨xs,SqL.of hl',by rw[rxs.length];exact am _⟩,.ref d,c2,q d kvs ls M Bc _ sH' bB (bG M J) hd bd I en dn hn⟩
     | _=>exact q.elim
section
variable {es:Array DictEntry}{Q:Option Value->Shared->Prop}
theorem VW (c:IsItemIter s.heap it d i es.size ep ok ov)(U:s.heap.get? d=some od)(hd:od.data= .dict es ep)(X:i < es.size)
  (hQ:∀h',IsItemIterOut h' it d (i+1) es.size ep es[i].key es[i].val s.heap.objs.size->h'.get? s.heap.objs.size=some { cls:= .type "tuple",data:= .seq #[es[i].key,es[i].val] }->
   (∀b o,b ≠ it->s.heap.get? b=some o->h'.get? b=some o)->Q (some (.ref s.heap.objs.size)) { s with heap:=h' }):wpAny (model prog w) A (pyNext (.ref it)) Q E s:=by
 obtain⟨hp,g,k,tk,os⟩:=s;have hT:fL ⟨hp,g,k,tk,os⟩ (.ref it) "dict_itemiterator":=⟨_,c,rfl⟩;unfold pyNext;refine a8 (cy (aX (name:=aC "__next__") hT bz (aM bz hT fG ?_ (f9 _))));refine a8 (ac (a8 (a8 ?_)))
 first | refine a8 (wpAny_typeNameOfWhole_itemiter hT (ac ?_)) | refine a8 (wpAny_typeNameOf_itemiter hT (ac ?_))
 refine a8 (wpAny_fieldsOf c rfl ?_);have C:bC "dict_itemiterator"=true:=by decide
 simp only[C,if_true];show wpAny _ _ (if (Value.ref d == Value.none)=true then _ else _) _ _ _
 rw[if_neg (show ¬ ((Value.ref d == Value.none)=true) from ax)];refine a8 (ac (a8 (cn U hd ?_)));rw[if_neg (by simp)]
 refine a8 (ac (a8 (dD U hd ?_)));rw[if_neg (by simp)]
 refine ac ?_;simp only[show ¬ ((i:Int) < 0) from by omega,if_false,b9,cI X]
 refine a8 ?_
 first | refine a8 (wpAny_typeNameOfWhole_itemiter hT (ac ?_)) | refine a8 (wpAny_typeNameOf_itemiter hT (ac ?_))
 refine a8 (wpAny_isOneOf_itemiter hT ?_);show wpAny _ _ (setField (.ref it) 3 (rawInt ((i:Int)+1)) >>= _) _ _ ⟨hp,g,k,tk,os⟩;refine a8 (bb c (by simp) λl u p=> ?_)
 have p:bc it hp l:=p;have u:IsItemIter l it d (i+1) es.size ep ok ov:=by
  unfold IsItemIter;rw[show ((i+1:Nat):Int)=(i:Int)+1 by omega];simpa[rawInt] using u
 have q:fL ⟨l,g,k,tk,os⟩ (.ref it) "dict_itemiterator":=⟨_,u,rfl⟩;refine a8 (bp (a8 (wpAny_isOneOf_itemiter q (a8 (wpAny_isOneOf_itemiter q ?_)))));show wpAny _ _ (eZ (.ref it) 6 es[i].key es[i].val) _ _ ⟨l,g,k,tk,os⟩;unfold eZ;refine a8 (wpAny_newTuple ?_);obtain⟨j,a⟩:∃j,j=l.push { cls:= .type "tuple",data:= .seq #[es[i].key,es[i].val] }:=⟨_,rfl⟩;have r:IsItemIter j it d (i+1) es.size ep ok ov:=by rw[a];exact ab _ u
 have J:hp.objs.size ≠ it:=cO (au c);have t2:j.get? hp.objs.size=some { cls:= .type "tuple",data:= .seq #[es[i].key,es[i].val] }:=by rw[a,← p.1];exact af _ rfl
 have Z:∀b o,b ≠ it->hp.get? b=some o->j.get? b=some o:=λb o f e=>by rw[a];exact ab _ (p.extBut b o f e)
 show wpAny _ _ (eH (.ref it) >>= _) _ _ ⟨_,g,k,tk,os⟩;rw[← a,p.1]
 clear a
 refine a8 ?_;unfold eH;refine a8 (ba r rfl (x:= .none) rfl (ac ?_));simp only[if_true];refine a8 (ba r rfl (x:=ok) rfl (a8 (ba r rfl (x:=ov) rfl ?_)));refine a8 (bb r (by simp) λD F G=> ?_)
 have G:bc it j D:=G;have F:IsItemIter D it d (i+1) es.size ep es[i].key ov:=F;refine a8 (bb F (by simp) λO B M=> ?_)
 have M:bc it D O:=M;have B:IsItemIter O it d (i+1) es.size ep es[i].key es[i].val:=B;refine a8 (bb B (by simp) λI N v=> ?_)
 have v:bc it O I:=v;have N:IsItemIterOut I it d (i+1) es.size ep es[i].key es[i].val hp.objs.size:=N;refine a8 (bb N (by simp) λP x6 y=> ?_)
 have y:bc it I P:=y;have S:∀b o,b ≠ it->j.get? b=some o->P.get? b=some o:=λb o f e=>y.extBut b o f (v.extBut b o f (M.extBut b o f (G.extBut b o f e)));exact a8 (dO (ac (ac ⟨_,rfl,ac (hQ P x6 (S _ _ J t2) λb o f e=>S b o f (Z b o f e))⟩)))
theorem qR (k:A.handled=none)(c:IsItemIter s.heap it d i es.size ep ok ov)(f:s.heap.get? d=some od)(hd:od.data= .dict es ep)(g:es.size<=i)(j:∀h',fM it s.heap h' ->Q none { s with heap:=h' }):wpAny (model prog w) A (pyNext (.ref it)) Q E s:=by
 have hT:s.TypeIs (.ref it) "dict_itemiterator":=⟨_,c,rfl⟩;unfold pyNext;refine a8 (cy (aX (name:=aC "__next__") hT bz (aM bz hT fG ?_ (f9 _))));refine a8 (ac (a8 (a8 ?_)))
 first | refine a8 (wpAny_typeNameOfWhole_itemiter hT (ac ?_)) | refine a8 (wpAny_typeNameOf_itemiter hT (ac ?_))
 refine a8 (wpAny_fieldsOf c rfl ?_);have e:bC "dict_itemiterator"=true:=by decide
 simp only[e,if_true];show wpAny _ _ (if (Value.ref d == Value.none)=true then _ else _) _ _ _
 rw[if_neg (show ¬ ((Value.ref d == Value.none)=true) from ax)];refine a8 (ac (a8 (cn f hd ?_)));rw[if_neg (by simp)]
 refine a8 (ac (a8 (dD f hd ?_)));rw[if_neg (by simp)]
 refine ac ?_;simp only[show ¬ ((i:Int) < 0) from by omega,if_false,b9,b_ g]
 refine a8 ?_
 first | refine a8 (wpAny_typeNameOfWhole_itemiter hT (ac ?_)) | refine a8 (wpAny_typeNameOf_itemiter hT (ac ?_))
 show wpAny _ _ (setField (.ref it) 2 .none >>= _) _ _ s;refine a8 (wpAny_setField c rfl (by simp) ?_)
 show wpAny _ _ (newExc (.type "StopIteration") [] >>= _) _ _ _;refine a8 ?_;simp only[newExc,newTuple];refine a8 (aO ?_ (by size_fits))
 refine a8 (m:=firstArgMember _ _) (c9 (a:=Value.none) (by first | rfl | (simp only[firstArgMember];rfl)) ?_)
 refine aO ?_ (by size_fits)
 simp only[raiseNew];refine a8 (wpAny_handled ?_);rw[show A.in1.handled=none from k];refine a8 (ac (wpAny_throw ?_));refine a8 (cA (T:="StopIteration") (b:=true) ⟨_,af _ rfl,rfl⟩ isSubtype_stop ?_);exact ac (j _ (((bV ..).extBut.push _).push _))
end
end PV
namespace L2
open PySem PySem.Spec PyProof.Rows PySem.W
section
theorem Inv.freeze (I:Inv X pins σ H s){kvs:List (List mM×Addr×V)}(hd:H d=some (.dT kvs))(p:s.heap.get? d=some o):Inv X pins σ (mz H d (.frz o (.dT kvs))) s:=by
 have i:∀b xs,H b=some (.tup xs)->mz H d (.frz o (.dT kvs)) b=some (.tup xs):=λb xs e=>by rw[zi (Yg e hd (λz=>nomatch z))];exact e
 have j:∀b f u,H b=some (.frz f u)->mz H d (.frz o (.dT kvs)) b=some (.frz f u):=λb f u e=>by rw[zi (Yg e hd (λz=>nomatch z))];exact e
 have k:∀a b,H b=some (.own a)->mz H d (.frz o (.dT kvs)) b=some (.own a):=λa b e=>by rw[zi (Yg e hd (λz=>nomatch z))];exact e
 have g:HOk X.prog X.w (mz H d (.frz o (.dT kvs))) s.heap:=λb u e=>by
  by_cases l:b=d
  ·subst l;rw[zl]at e;cases e;exact⟨p,(I.hok _ _ hd).stay (λ_ _ _ q=>q) (λc q=>k _ c q) i j⟩
  ·rw[zi l]at e;exact(I.hok b u e).stay (λ_ _ _ q=>q) (λc q=>k _ c q) i j
 exact I.step (ch:=[]) (λ_ z=>nomatch z) (λb o _ _ _ e _=>e) (λb o _ _ _ e _=>⟨o.slots,e⟩) (λb f _ e n=>by rw[zi (λz=>by rw[z,hd]at n;cases n)];exact n) (λb o _ e=>⟨o,e⟩) i j (λb r q e=>by rw[zi (Yg e hd (λz=>nomatch z))];exact e) (λm h=>h) g I.bare
end
end L2
namespace PV
open PySem PySem.Spec PyProof.Rows L2 PySem.W
def tN (d:Addr)(o:Obj):It:=⟨λi H=>∃kvs,H d=some (.frz o (.dT kvs))/\i < kvs.length,λi H x a =>∃kvs k v b T,H d=some (.frz o (.dT kvs))/\kvs[i]? =some (k,b,v)/\H b=some (.tup (k.map kV))/\x= .ref T/\H T=none/\a =mz H T (.tup [.ref b,v]),λi H=>∃kvs,H d=some (.frz o (.dT kvs))/\kvs.length<=i⟩
theorem wd:∀{kvs:List (List mM×Addr×V)} {xs:List (List mM×Addr×Value)},KT H kvs xs->∀(i:Nat) (p:List mM×Addr×V),kvs[i]? =some p->∃u,xs[i]? =some (p.1,p.2.1,u)/\H p.2.1=some (.tup (p.1.map kV))/\RelV p.2.2 u
 | _,_,.nil,i,p,h=>by simp at h
 | _,_,.cons (b:=q) c t,0,p,h=>by
  cases h;obtain⟨f,e,d,a⟩:=c;refine⟨q.2.2, ?_,by rw[a];exact e,d⟩
  rw[f,a];rfl
 | _,_,.cons c t,i+1,p,h=>wd t i p h
theorem Ew {kvs:List (List mM×Addr×V)}{c:Array DictEntry}(ok:HOk P w H h)(hd:H d=some (.frz o (.dT kvs)))(C:o.data= .dict c ep):
  h.get? d=some o/\c.size=kvs.length/\∀(i:Nat) (hi:i < c.size),∃k v b u,kvs[i]? =some (k,b,v)/\H b=some (.tup (k.map kV))/\RelV v u/\c[i].key= .ref b/\c[i].val=u:=by
 obtain⟨j,z,y,xs,a,G,B,D,p,I,g,f,J⟩:=ok d _ hd;rw[j]at p;cases p;rw[C]at g;cases g;have l:c.size=xs.length:=by rw[← bU,f,ae]
 refine⟨j,by rw[l,e9 a],λi hi=> ?_⟩
 have e :i < kvs.length:=by rw[e9 a,← l];exact hi
 obtain⟨u,x,F,r⟩:=wd a i kvs[i] (ah e);refine⟨kvs[i].1,kvs[i].2.2,kvs[i].2.1,u,by rw[ah e],F,r, ?_⟩
 have q:c.toList[i]? =some (entryOfKey (tupleKind (Z0 P w)) (kvs[i].1,kvs[i].2.1,u)):=by rw[f,ao,x];rfl
 rw[dH,cI hi]at q;rw[aH q];exact⟨rfl,rfl⟩
theorem VX:entryFor table "dict_itemiterator.__iter__"=some Builtin.«dict_keyiterator.__iter__»:=entryFor_alias (id' :="dict_keyiterator.__iter__") (by kernel_rfl) rfl (by decide+kernel) (by kernel_rfl)
theorem yO {P:Program}{w:World}{K:Frag}{j:List Expr}{kk:Nat}{pt:Pos}(it d:Addr)(o:Obj)(D:Array DictEntry)(ep:Nat)(q:o.data= .dict D ep)(hne:d ≠ it):
  yt P w K (.Tuple j kk pt) (tN d o) [it] it (λi h=>∃ok f,IsItemIter h it d i D.size ep ok f) where
 mem:=by simp
 obj:=λi h ⟨ok,f,st⟩ b x=>by
  rw[aq.mp x];exact⟨_,st,λv z=>nomatch z⟩
 keep:=λi h h' ⟨ok,f,st⟩ k=>⟨ok,f,k it (by simp) _ st⟩
 item:=by
  intro X C M J a i l s σ H E I p ⟨ok,f,st⟩ ⟨kvs,hd,hi⟩;subst C M J;obtain⟨B,hsz,r⟩:=Ew I.hok hd q;have g :i < D.size:=by rw[hsz];exact hi
  obtain⟨k,v,b,u,a1,a2,a3,a4,a5⟩:=r i g;have y:H s.heap.objs.size=none:=I.hok.fresh (am _);have hT:s.heap.objs.size ≠ it:=cO (au st);refine VW st B q g λh' x6 Z k6=>⟨_,rfl,wpAny_letOwnedTupleGo_items x6 λh2 S O=>⟨.ref s.heap.objs.size,mz H s.heap.objs.size (.tup [.ref b,v]), ?_,rfl,⟨kvs,k,v,b,_,hd,a1,a2,rfl,y,rfl⟩,⟨_,_,S⟩,λc a=> ?_⟩⟩
  ·have N:=O.extBut _ _ hT Z;refine Inv.laidT (s:=s) (h' :=h2) (ch:=[it]) (tk:=s.toks) I p (λc G a e=>O.extBut c G (λz=>a (by simp[z])) (k6 c G (λz=>a (by simp[z])) e)) (λc G a _=> ?_) (am _) ⟨by rw[bY];show 2<=16777216;decide,[.ref b,u],.cons rfl (.cons a3 .nil),⟨_,N,rfl,0,by rw[a4,a5]⟩,.inr ⟨_,N,rfl⟩⟩
   rw[aq.mp a];exact⟨_,S⟩
  ·rw[aq.mp a,zi hT.symm];exact(p it (by simp)).1
 done:=by
  intro X C M J a i l s σ H E I p ⟨ok,f,st⟩ ⟨kvs,hd,hi⟩;subst C M J;obtain⟨B,hsz,_⟩:=Ew I.hok hd q;refine qR (I.ok.hd a) st B q (by rw[hsz];exact hi) λh' hk=>⟨rfl, ?_⟩
  obtain⟨f0,f1,f2,U,f4,f5⟩:=p it (by simp)
  exact I.turned (t' :=s.toks) (λb o x e=>hk b o x e) f0 f1 U f4 f5
 self:=λA i s Q E ⟨ok,f,st⟩ h=>by
  have hT:s.TypeIs (.ref it) "dict_itemiterator":=⟨_,st,rfl⟩;refine wpAny_pyIter_slot hT fN (aM fN hT VX ?_ (F.args_dict_itemiterator_iter_1 _));show wpAny _ _ (ret (.ref it)) _ _ s;exact ac ⟨_,rfl,"dict_itemiterator",_,hT,bz.lookup,h⟩
theorem yP {e:Array DictEntry}(a:s.heap.IsItemsView v d)(f:s.heap.get? d=some od)(hd:od.data= .dict e ep)
  (g:Q (.ref s.heap.objs.size) { s with heap:=s.heap.push { cls:= .type "dict_itemiterator",data:= .fields #[.none,.bool false,.ref d,.int 0 0,.int e.size 0,.int ep 0,.none,.none] } }):wpAny (model prog w) A (pyIter (.ref v)) Q E s:=by
 obtain⟨k,i,l,j⟩:=id a;refine wpAny_pyIter_slot a.typeIs iK (aM iK a.typeIs F.entry_dict_items_iter ?_ (F.args_dict_items_iter_1 _));unfold Builtin.«dict_items.__iter__»;refine a8 (ac (a8 ?_));unfold i5;refine a8 (ba i j (x:= .ref d) rfl (ac (a8 ?_)));unfold fH;refine a8 (cn f hd (a8 (dD f hd ?_)));have c:bC "dict_itemiterator"=true:=by decide
 simp only[c,if_true];refine aO (ac ⟨_,rfl,"dict_itemiterator",_,⟨_,af _ rfl,rfl⟩,bz.lookup, ?_⟩)
  (by simp only[sizeOk,eI,aD,az,aw,cN,bY];omega)
 simpa[rawInt,eI] using g
theorem VY {X:Cx}{i:Nat}{x:Str}{f w pos pt:Pos}{g:List Expr}{Z:Nat}(P:PE X (.Name x f) (W6 i))(p:attributeBase (.Name x f) "items" X.env (eval (.Name x f) X.env)=eval (.Name x f) X.env:=by rfl)(Q:(w.endLine == pos.line)=true:=by rfl):
  PI X (.Tuple g Z pt) (.Call (.Attribute (.Name x f) "items" w) [] [] pos) (λk H R=>∃d kvs,k[i]? =some (some (V.ref d))/\H d=some (.dT kvs)/\∀o,R (tN d o) (mz H d (.frz o (.dT kvs)))):=by
 intro J s k H R I ⟨d,kvs,u,hd,S⟩;refine wpAny_Call_method0_late p Q (mH (P _ s k H (λv H' =>v= .ref d/\H' =H) I ⟨_,u,rfl,rfl⟩) λv c ⟨x1,O,y,N,e1,e2⟩=> ?_);subst e1 e2;cases N;obtain⟨z,hs,xs,U,o,D,ep,j,C,B,h4⟩:=VT y.hok hd;have hT:c.TypeIs (.ref d) "dict":=⟨o,j,C.1⟩;have l:=y.freeze hd j;refine⟨"dict","dict.items",F.plainAttrs_dict,lP,F.type_dict_items,hT,λa M=>by cases M;exact⟨o,j,C.2.1⟩,eQ rfl (l8 ?_)⟩
 refine aM lP hT F.entry_dict_items ?_ (F.args_dict_items_1 _);unfold Builtin.«dict.items»;refine a8 ?_;unfold la;refine a8 (wpAny_notOrdered_dict hT ?_);show wpAny _ _ (pure d) _ _ c;refine ac ?_;show wpAny _ _ (dI d >>= _) _ _ c;unfold dI;rw[if_neg (by rw[hs];exact ax)]
 refine a8 (ac (a8 (aO (ac ⟨_,rfl, ?_⟩))));have G:∀b ob,c.heap.get? b=some ob->(c.heap.push { cls:= .type "dict_items",data:= .fields #[.ref d] }).get? b=some ob:=λb ob e=>ab _ e;have r:(c.heap.push { cls:= .type "dict_items",data:= .fields #[.ref d] }).IsItemsView c.heap.objs.size d:=⟨_,af _ rfl,rfl,rfl⟩;refine yP (s:={ c with heap:=c.heap.push { cls:= .type "dict_items",data:= .fields #[.ref d] } }) r (G _ _ j) B ?_;have hz:(c.heap.push { cls:= .type "dict_items",data:= .fields #[.ref d] }).objs.size=c.heap.objs.size+1:=ci ..;have I3:Inv X _ k (mz O d (.frz o (.dT kvs))) { c with heap:=(c.heap.push { cls:= .type "dict_items",data:= .fields #[.ref d] }).push { cls:= .type "dict_itemiterator",data:= .fields #[.none,.bool false,.ref d,.int 0 0,.int D.size 0,.int ep 0,.none,.none] } }:=l.kept λb ob e=>ab _ (G b ob e);have q:=au j;refine⟨_,[_],_,_,_,rfl,I3,yO _ d o D ep B (aF (aL q (by show c.heap.objs.size<=(c.heap.push _).objs.size;rw[hz];exact cP _))),⟨.none,.none,af _ rfl⟩,λb p=> ?_,S o⟩
 rw[aq.mp p,hz];exact l.fpOk (cP _) (l.hok.fresh (cP _))
end PV
namespace PV
open PySem PySem.Spec PyProof.Rows L2 PySem.W PySem.Calls
section
noncomputable abbrev nB (k:List Bool):List Nat:=k.map Bool.toNat
theorem Xn {a b:List Bool}(h:nB a=nB b):a=b:=(lx λx y e=>by cases x <;> cases y <;> first | rfl | cases e).mp h
theorem IT {x y:List Bool}{P:Fin->Shared->Prop}(hx:IsTupleKey (ZA prog w) s.heap x a)(hy:IsTupleKey (ZA prog w) s.heap y b)(h:P (.done (.ret (.bool (decide (nB x < nB y))))) s):
  wpAny (model prog w) A (Builtin.«tuple.__lt__» ⟨[.ref a,.ref b],[]⟩) P E s:=by
 have D:=hy.typeIs;obtain⟨oa,xs,na,N,_,C,U⟩:=hx;obtain⟨ob,o,nb,I,_,S,J⟩:=hy;show wpAny _ _ (isInstance (.ref b) (.type "tuple") >>= _) _ _ s;refine a8 (cA D isSubtype_tuple_tuple ?_);simp only[eD,aI,if_false];refine a8 (wpAny_tupleItemsOf N C (a8 (wpAny_tupleItemsOf I S (a8 ?_))));refine wpAny_forIn_list _ (λrest r q =>r.1=none/\q =s/\∃k B e f,rest=List.zip e f /\ItemsAre (ZA prog w) k e /\ItemsAre (ZA prog w) B f /\decide (nB k < nB B)=decide (nB x < nB y)/\e.length+o.size=f.length+xs.size) _ ?_ ?_ _ _ ⟨rfl,rfl,x,y,xs.toList,o.toList,rfl,U,J,rfl,by simp;omega⟩
 ·rintro⟨u,v⟩ rest r q ⟨hr,rfl,k,B,e,f,hz,i,g,d,c⟩
  cases i with
  | nil=>simp at hz
  | @cons p u' x2 F X M=>
   cases g with
   | nil=>simp at hz
   | @cons l v' y2 O Z Q=>
    simp only[dz,iO,Prod.mk.injEq]at hz;obtain⟨⟨rfl,rfl⟩,rfl⟩:=hz;refine a8 ((ZA prog w).eqBool (a:=p) (b:=l) X Z ?_);obtain rfl:=Zp X;obtain rfl:=Zp Z
    by_cases G:p=l
    ·subst G;rw[decide_eq_true rfl];simp only[eD,aI,if_false];refine ac ⟨rfl,rfl,x2,y2,F,O,rfl,M,Q, ?_,by simp at c;omega⟩
     rw[← d];simp[nB]
    ·rw[decide_eq_false G];simp only[Bool.not_false,if_true];refine a8 (du (a8 (PyProof.Rows.lt_bool ?_)));have hf:decide (b2i p < b2i l)=decide (nB x < nB y):=by
      rw[← d];cases p <;> cases l <;> first | exact absurd rfl G | (rw[decide_eq_decide];show _↔_ :: _ < _ :: _;rw[List.cons_lt_cons_iff];simp[b2i])
     rw[hf];exact a8 (ac (ac (ac h)))
 ·rintro⟨r1,r2⟩ q ⟨hr,rfl,k,B,e,f,hz,i,g,d,c⟩
  simp only at hr;subst hr;refine ac ?_;have j:decide (xs.size < o.size)=decide (nB x < nB y):=by
   rw[← d];cases i with
   | nil=>
    cases g with
    | nil=>simp at c;simp[nB];omega
    | cons _ _=>simp at c;simp[nB];omega
   | cons _ _=>
    cases g with
    | nil=>simp at c;simp[nB];omega
    | cons _ _=>simp at hz
  show P (.done (.ret (.bool (decide (xs.size < o.size))))) q;rw[j];exact h
theorem Ix {x y:List Bool}{Q:Bool->Shared->Prop}(d:A.units < cLine)(c:IsTupleKey (ZA prog w) s.heap x a)(hy:IsTupleKey (ZA prog w) s.heap y b)(h:Q (decide (nB x < nB y)) s):wpAny (model prog w) A (oneLt' false (.ref a) (.ref b)) Q E s:=
 kat_one _ _ (wpAny_richCompare_same_room (op:= .Lt) c.typeIs hy.typeIs iS (aM iS c.typeIs PySem.F.entry_tuple_lt (IT c hy ⟨_,rfl,(λe=>nomatch e),h⟩) (PySem.F.args_tuple_lt_2 _ _)) d)
def Xo (prog:Program)(w:World)(h:Heap)(v:Value)(x:List Bool):Prop:=∃a o b r n,v= .ref a/\h.get? a=some o/\o.cls= .type "tuple"/\o.data= .seq (#[Value.ref b]++r) n/\IsTupleKey (ZA prog w) h x b
theorem Xo.keep {x:List Bool}(k:∀b o,h.get? b=some o->(o.cls= .type "tuple")->h'.get? b=some o):Xo prog w h v x->Xo prog w h' v x:=λh=>by
 obtain⟨a,o,b,r,n,g,i,c,j,l,it,m,e,d,f⟩:=h;exact⟨a,o,b,r,n,g,k _ _ i c,c,j,l,it,m,k _ _ e d,d,f⟩
theorem qS:∀(vs:List Value) (xs:List (List Bool)),vs.length=xs.length->(∀(i:Nat) (v:Value) (x:List Bool),vs[i]? =some v->xs[i]? =some x->Xo prog w h v x)->∃fs:List Value,KatTups h vs fs/\fs.length=vs.length/\∀f∈fs,∃b o,f=Value.ref b/\h.get? b=some o/\o.cls= .type "tuple"
 | [],_,_,_=>⟨[],trivial,rfl,λf c=>by cases c⟩
 | v :: vs,[],d,_=>by cases d
 | v :: vs,x :: xs,d,H=>by
  obtain⟨fs,k,l,q⟩:=qS vs xs (by simpa using d) λi v x u y=>H (i+1) v x (by simpa using u) (by simpa using y)
  obtain⟨a,o,b,r,n,rfl,B,g,p,C,it,m,e,j,D⟩:=H 0 v x rfl rfl;refine⟨.ref b :: fs,⟨⟨a,o,_,n,rfl,B,g,p,by rw[Array.getElem?_append_left (by simp)];rfl⟩,k⟩,by simp[l],λf c=> ?_⟩
  rcases ak.mp c with rfl | c
  ·exact⟨b,C,rfl,e,j⟩
  ·exact q f c
theorem Hd {xs:List (List Bool)}(y:A.units < cLine)(X:vs.length=xs.length)(H:∀(i:Nat) (v:Value) (x:List Bool),vs[i]? =some v->xs[i]? =some x->Xo prog w s.heap v x)(hn:xs.Nodup)(hi:i < vs.length)(p:j < vs.length)(c:i ≠ j){C:Bool->Shared->Prop}(F:C (decide (nB (xs.getD i []) < nB (xs.getD j []))) s):
  kas_ask prog w A (tuples' false) vs i j C s:=by
 unfold kas_ask;have l:∀k,k < vs.length->vs[k]? =some (vs.getD k Value.none):=λk h=>by simp[h]
 have g:∀k,k < vs.length->xs[k]? =some (xs.getD k []):=λk h=>by
  have:k < xs.length:=by omega
  simp[this]
 obtain⟨a,o,b,r,n,M,N,S,J,e5⟩:=H i _ _ (l i hi) (g i hi);obtain⟨P,Q,q,B,Z,D,G,U,I,u⟩:=H j _ _ (l j p) (g j p);rw[M,D];refine kat_lt N J G I ?_;have O:((#[Value.ref b]++r).toList.zip (#[Value.ref q]++B).toList)=(Value.ref b,Value.ref q) :: r.toList.zip B.toList:=by simp
 rw[O];refine kat_cons (wpAny_eqBool_tuple y e5 u ?_);have e:xs.getD i [] ≠ xs.getD j []:=λz=>by
  have d :i < xs.length:=by omega
  have f :j < xs.length:=by omega
  exact c ((dQ hn).mp (by simpa[d,f] using z))
 rw[decide_eq_false e];exact kat_no (Ix y e5 u F)
theorem qU {xs:List (List Bool)}{P:PySem.Fin->Shared->Prop}(hu:A.units < cLine)(D:s.heap.get? a=some (seqObj "list" vs.toArray n))(M:vs.length=xs.length)(H:∀(i:Nat) (v:Value) (x:List Bool),vs[i]? =some v->xs[i]? =some x->Xo prog w s.heap v x)(hn:xs.Nodup)(y:vs.length < 64)
  (h:∀p:Array Nat,Pm vs.length p->So (O:=strKind.toKeyOrd) (λi=>nB (xs.getD i [])) p vs.length->P (.done (.ret .none)) { s with heap:=sortedHeap s.heap a vs (p.toList.map λi=>vs.getD i Value.none).toArray }):
  wpAny (model prog w) A (Builtin.«list.sort» ⟨[.ref a],[]⟩) P E s:=by
 rw[list_sort_plain];refine a8 (listItems_at D rfl (a8 (listUpdate_at D rfl ?_)));obtain⟨e1,l⟩:∃e1,(s.heap.update a (cW λ_=> #[])).get? a=some _:=⟨_,get?_update_seq D λ_=> #[]⟩;refine a8 (seqEpoch_at l rfl (a8 (wpAny_newTuple (a8 (wpAny_newList (bp ?_))))));have d:(((s.heap.update a (cW λ_=> #[])).push (seqObj "tuple" vs.toArray 0)).push (seqObj "list" #[] 0)).get? a=some _:=ab _ (ab _ l);have keep:∀b o,s.heap.get? b=some o->o.cls= .type "tuple"->(((s.heap.update a (cW λ_=> #[])).push (seqObj "tuple" vs.toArray 0)).push (seqObj "list" #[] 0)).get? b=some o:=λb o e c=>by
  have hb:b ≠ a:=λz=>by subst z;rw[D]at e;cases e;have c' :=c;injection c' with c2;exact absurd c2 (by decide)
  exact ab _ (ab _ ((lc _ _ _ _ hb).trans e))
 dsimp only;have hsz:vs.toArray.size=vs.length:=by simp
 by_cases B:vs.toArray.size < 2
 ·rw[if_pos B,if_pos B];refine a8 (ac ?_);refine a8 (ac ?_);dsimp only;refine a8 (seqEpoch_at d rfl (a8 (listUpdate_at d rfl ?_ (hsz2:=by rw[Array.size_map];show (pairsOf vs).size<=_;rw[pairsOf_size,bY];omega))))
  simp only[bne_self_eq_false,aI,if_false];have hp:=h (aN vs.length).toArray ⟨by simp,by simp⟩ λi j r S=>by omega
  have e:((arrOf (SortSt.mk' general' (vs.toArray.zip vs.toArray) #[] 7 none)).map (·.2))=(((aN vs.length).toArray).toList.map λi=>vs.getD i Value.none).toArray:=by
   show (vs.toArray.zip vs.toArray).map (·.2)=_;have:vs.length=0\/vs.length=1:=by omega
   clear hp d keep l D h H M hsz B y
   rcases this with z | z
   ·rw[bK.mp z];simp
   ·obtain⟨v,z⟩:=eY.mp z;rw[z];simp
  rw[e];exact ac hp
 ·rw[if_neg B,if_neg B];have u :2<=vs.length:=by omega
  obtain⟨fs,Z,fl,X⟩:=qS vs xs M λi v x f I=>(H i v x f I).keep keep;refine a8 (kat_kind (T:= .type "tuple") Z (by omega) (λv hv=> ?_) (by decide) ?_)
  ·obtain⟨b,o,rfl,g1,g2⟩:=X v hv;have z:Looks (model prog w) _ (typeOf (.ref b)) o.cls:=(Looks.ld g1).andThen .now;rw[g2]at z;exact z
  refine a8 (cV (kat_run rfl (vs:=vs) (Q:=λk g =>g ={ s with heap:=((s.heap.update a (cW λ_=> #[])).push (seqObj "tuple" vs.toArray 0)).push (seqObj "list" #[] 0) }/\failedOf k =none/\∃p:Array Nat,Pm vs.length p/\So (O:=strKind.toKeyOrd) (λi=>nB (xs.getD i [])) p vs.length/\(arrOf k).map (·.2)=(p.toList.map λi=>vs.getD i Value.none).toArray)
   (G:=λp g =>g ={ s with heap:=((s.heap.update a (cW λ_=> #[])).push _).push _ }/\Pm vs.length p/\So (O:=strKind.toKeyOrd) (λi=>nB (xs.getD i [])) p vs.length) u y (λp k g z1 z2 z3 N=>⟨N.1,z3,p,N.2.1,N.2.2,kat_snds rfl z2⟩) ?_) ?_ λ_ _ z=>z)
  ·refine Gd.wp (J:=λg =>g ={ s with heap:=((s.heap.update a (cW λ_=> #[])).push _).push _ }) (n:=vs.length) (λi j C g hi S r js hc=> ?_) (λp g f js=>⟨js,f.1,f.2⟩) _ _ (U0 (λi j hi S e=> ?_) u) rfl
   ·subst js;exact Hd hu M (λi v x f I=>(H i v x f I).keep keep) hn hi S r (hc _ rfl)
   ·have q :i < xs.length:=by omega
    have F :j < xs.length:=by omega
    exact(dQ (i:=i) (j:=j) (h₀:=q) (h₁:=F) hn).mp (by simpa[q,F] using Xn e)
  ·rintro⟨⟨⟩,k⟩ g ⟨rfl,hf,p,f,I,U⟩
   refine a8 (seqEpoch_at d rfl (a8 (listUpdate_at d rfl ?_ (hsz2:=by rw[U,aD,ae,bU,f.sz,bY];omega))))
   rw[hf];simp only[bne_self_eq_false,aI,if_false];rw[U];exact ac (h p f I)
theorem yQ {xs:List (List Bool)}(k:A.units+2 < cLine)(c:s.heap.IsList l vs.toArray)(j:vs.length=xs.length)(H:∀(i:Nat) (v:Value) (x:List Bool),vs[i]? =some v->xs[i]? =some x->Xo prog w s.heap v x)(hn:xs.Nodup)(f:vs.length < 64)
  (h:∀p:Array Nat,Pm vs.length p->So (O:=strKind.toKeyOrd) (λi=>nB (xs.getD i [])) p vs.length->Q (.ref (s.heap.objs.size+1)) { s with heap:=sortedAll s.heap vs (p.toList.map λi=>vs.getD i Value.none).toArray }):
  wpAny (model prog w) A (call (.builtin "sorted") [.ref l]) Q E s:=by
 refine call_function_entry kind_sorted plain_sorted entry_sorted (args_sorted1 _) ?_;refine a8 (ac (a8 (collect_list c (a8 (wpAny_newList ?_)))));have z:((s.heap.push (seqObj "list" #[] 0)).update s.heap.objs.size (cW (·++vs.toArray))).objs.size=s.heap.objs.size+1:=by rw[Heap.size_update,size_push']
 have a:(((s.heap.push _).update _ _).push (seqObj "list" vs.toArray 0)).get? _=some _:=z ▸ af _ rfl;rw[z];have kp:∀b o,s.heap.get? b=some o->o.cls= .type "tuple"->(((s.heap.push (seqObj "list" #[] 0)).update _ (cW (·++vs.toArray))).push (seqObj "list" vs.toArray 0)).get? b=some o:=λb o e _=>
  ab _ ((lc _ _ _ _ (aF (au e))).trans (ab _ e))
 refine a8 (bp (aM slot_list_sort ⟨_,a,rfl⟩ entry_list_sort (qU (by show A.units+1+1 < _;omega) a j (λi v x d g=>(H i v x d g).keep kp) hn f λp d g=>⟨_,rfl,ac ⟨_,rfl,h p d g⟩⟩) (args_list_sort _)))
end
end PV
namespace PV
open PySem PySem.Spec PyProof.Rows L2 PySem.W
def kW:T->List Bool
 | .tup (.tup bs :: _)=>(ZO bs).getD []
 | _=>[]
def rL:T->Bool
 | .tup (.tup bs :: _)=>(ZO bs).isSome
 | _=>false
def rh (a b:T):Bool:= !decide (nB (kW b) < nB (kW a))
def yR (ts:List T):List T:=ts.mergeSort rh
def uq:T->R T
 | .lst ts=>if ts.all rL=true/\(ts.map kW).Nodup/\ts.length < 64 then .ok (.lst (yR ts)) else .bad
 | _=> .bad
theorem wf (a b:T):rh a b=true↔nB (kW a)<=nB (kW b):=by
 unfold rh;rw[lQ,decide_eq_false_iff_not,List.not_lt]
theorem jh (ts:List T):(yR ts).Perm ts:=lf _ _
theorem KM (ts:List T):(yR ts).Pairwise λa b=>rh a b=true:=List.pairwise_mergeSort (λa b c d e=>by
 rw[wf]at*;exact List.le_trans d e) (λa b=>by
 rw[fS,wf,wf];exact List.le_total _ _) ts
theorem qV (hp:l.Perm ts)(hn:(ts.map kW).Nodup)(q:l.Pairwise λa b=>rh a b=true):l=yR ts:=by
 refine List.Perm.eq_of_pairwise (λa b k o g f=> ?_) q (KM ts) (hp.trans (jh ts).symm);rw[wf]at g f;have e:=Xn (List.le_antisymm g f);have d :=hp.mem_iff.mp k;have c :=(jh ts).mem_iff.mp o;obtain⟨i,hi,rfl⟩:=cS.mp d;obtain⟨j,p,rfl⟩:=cS.mp c;have:=(dQ (h₀:=by simpa using hi) (h₁:=by simpa using p) hn).mp (by simpa using e)
 subst this;rfl
theorem Fm (hn:(ts.map kW).Nodup){q:Array Nat}(a:Pm ts.length q)(o:So (O:=strKind.toKeyOrd) (λi=>nB ((ts.map kW).getD i [])) q ts.length):(q.toList.map λi=>ts.getD i T.non)=yR ts:=by
 refine qV ?_ hn ?_
 ·have e:(aN ts.length).map (λi=>ts.getD i T.non)=ts:=by
   refine List.ext_getElem (by simp) λi a o=> ?_
   simp at a ⊢;simp[a]
  exact(a.pm.map _).trans (by rw[e])
 ·rw[List.pairwise_map,dY];intro i j hi f d;rw[bU,a.sz]at hi f;have v:=o i j d f;have w:=a.lt hi;have r:=a.lt f;have l:∀k (c:k < q.toList.length),q.toList[k]=q.getD k 0:=λk c=>by
   have g :=by simpa using c
   simp[lw,g]
  have p:∀k,k < ts.length->(ts.map kW).getD k []=kW (ts.getD k T.non):=λk c=>by simp[c]
  rw[l,l,wf];have u:decide (nB (kW (ts.getD (q.getD i 0) T.non)) < nB (kW (ts.getD (q.getD j 0) T.non)))=true:=by
   rw[← p _ w,← p _ r];exact v
  exact List.le_of_lt (of_decide_eq_true u)
theorem ur {P:Program}{w:World}:∀{k:List Bool} {a:List Value},Vals (k.map V.bl) a->ItemsAre (ZA P w) k a
 | [],_,r=>by rw[bI]at r;cases r;exact .nil
 | b :: k,_,r=>by
  rw[ar]at r;cases r with
  | cons h t=>
   obtain rfl:=(show _=Value.bool b from h);exact .cons (beq_self_eq_true b) (ur t)
section
theorem Fe (I:L2.Inv X pins σ H s)(r:Rep H v t)(N:L2.RelV v u)(h:rL t=true):Xo X.prog X.w s.heap u (kW t):=by
 unfold rL at h;split at h
 ·rename_i bs rest;obtain⟨k,i⟩:=ia.mp h;have G:kW (.tup (.tup bs :: rest))=k:=by show (ZO bs).getD []=k;rw[i];rfl
  rw[G];cases r with
  | @tup l U _ e p=>
   obtain rfl:u=Value.ref l:=N;obtain⟨_,D,j,⟨o,M,Q,n,x⟩,_⟩:=I.hok l _ e;cases p with
   | cons C p=>
    cases C with
    | @tup c O _ f d=>
     obtain⟨_,g,a,⟨S,q,y,P,B⟩,_⟩:=I.hok c _ f;rw[U1 d i]at a;cases j with
     | @cons _ Z _ J F j=>
      obtain rfl:=(show _=Value.ref c from F);exact⟨l,o,c,J.toArray,n,rfl,M,Q,x.trans (by simp),S,g.toArray,P,q,y,B,by simpa using ur a⟩
 ·cases h
theorem yS (hu:X.A.units+64 < cLine):Z7 X (.builtin "sorted") (λvs H Q=>∃l xs ts,vs=[.ref l]/\H l=some (.lst xs)/\zy H xs ts/\ts.all rL=true/\(ts.map kW).Nodup/\ts.length < 64/\∀r D,H r=none->(∀B:Hp,zy B xs ts->zy B D (yR ts))->Q (.ref r) (mz H r (.lst D))):=by
 intro F s σ H vs us Q I k h;obtain⟨l,xs,ts,rfl,J,r,hp,hn,p,q⟩:=h;obtain⟨u,rfl,S⟩:=Zn k;obtain rfl:u=Value.ref l:=S;obtain⟨c,k,pl,a,hz⟩:=zL I (.inl J) r;have w:=r.length;have j:s.heap.objs.size<=s.heap.objs.size+1:=cP _;refine yQ (by omega) pl (by rw[ae,a]) (λi v x O f=> ?_) hn (by rw[← a];exact p) λg o C=> ?_
 ·rw[ao]at f;cases e:ts[i]? with
  | none=>rw[e]at f;cases f
  | some t=>
   rw[e]at f;obtain rfl:kW t=x:=aH f;obtain⟨v',P,U⟩:=r.get e;obtain⟨u',y,M⟩:=k.get P;rw[O]at y;cases y;exact Fe I U M (aJ.mp hp t (bg e))
 ·rw[← a]at o C;obtain⟨n,G⟩:=sortedAll_at _ c (g.toList.map λi=>c.getD i _).toArray;have d:∀i∈g.toList,i < ts.length:=λi hi=>aT.mp (o.pm.mem_iff.mp hi);have N:∀B,zy B xs ts->zy B (g.toList.map λi=>xs.getD i _) _:=λB Z=>by
   have:=uk Z _ d;rw[Fm hn o C]at this;exact this
  refine⟨.ref _,mz H _ (.lst (g.toList.map λi=>xs.getD i _)),I.laid (λb u e=>sortedAll_old e) j ?_,rfl,q _ _ (I.hok.fresh j) N⟩;exact⟨by rw[ae,bU,o.sz];omega,(g.toList.map λi=>c.getD i _),n,ul k _ (λi hi=>by rw[w];exact d i hi),G⟩
end
def BG:En->R (List T):=λ_=> .bad
def rN (e:WE):T:= .tup [.tup (e.1.map T.bl),.lst e.2]
theorem KN {kvs:List (List mM×Addr×V)}{d:List WE}(h:Js H0 B H n kvs d j):∀(i:Nat) k b v,kvs[i]? =some (k,b,v)->∃a c l xs,d[i]? =some (a,c)/\k=kI a/\v= .ref l/\l∈j/\Kb H0 B H a b/\H l=some (.lst xs)/\zy B xs c:=by
 induction h with
 | nil=>intro i k b v e;simp at e
 | @cons y I l xs c kvs d j D e b r G no t F=>
  intro i k b v o;cases i with
  | zero=>cases o;exact⟨y,c,l,xs,rfl,rfl,rfl,aa,D,e,r⟩
  | succ i=>
   obtain⟨a,f,u,g,C,x,q,w,p⟩:=F i k b v o;exact⟨a,f,u,g,C,x,q,a9 _ w,p⟩
theorem VZ {kvs:List (List mM×Addr×V)}{a:List WE}(h:Js H0 B H n kvs a ls):kvs.length=a.length:=by
 induction h with
 | nil=>rfl
 | cons f e b r d no t c=>rw[aw,aw,c]
theorem qW:∀k:List Bool,zy H (k.map V.bl) (k.map T.bl)
 | []=> .nil
 | b :: k=> .cons (.bl b) (qW k)
theorem x8 {kvs:List (List mM×Addr×V)}{N:List WE}(P:zo B' (zF B H H'))(F:H d=none)(bd:B' d=none)(hd:H' d=some (.dT kvs))(G:Js H B' H' n kvs N ls)(hn:∀l∈ls,H l=none):
  rI (zF B H (mz H' d (.frz o (.dT kvs)))) (mz H' d (.frz o (.dT kvs))) (tN d o) (N.map rN):=by
 intro p g a j;have up:∀b u,b ≠ d->zF B H H' b=some u->zF B H (mz H' d (.frz o (.dT kvs))) b=some u:=λb u hb h=>by
  cases q:H b with
  | none=>rw[zM q]at h ⊢;rw[zi hb];exact h
  | some w=>rw[zR q]at h ⊢;exact h
 have e:g d=some (.frz o (.dT kvs)):=j _ _ (a _ _ (by rw[zM F,zl]))
 have I:=VZ G;refine⟨λi hi=>⟨kvs,e,by rw[I];simpa using hi⟩,λi t x H3 J hz=> ?_,λi hi=>⟨kvs,e,by rw[I];simpa using hi⟩⟩
 obtain⟨S,k,v,b,M,Q,e2,e3,e4,e5,Z⟩:=hz;rw[e]at Q;cases Q;subst e4 Z;obtain⟨D,ws,l,xs,a1,X,a3,U,r,C,a7⟩:=KN G i k b v e2;subst X a3;rw[ao,a1]at J;cases J;have O:zo g (mz g M (.tup [.ref b,.ref l])):=zo.new e5 _;have ge:zo p (zF p g (mz g M (.tup [.ref b,.ref l]))):=zF.ge j O;have y :b ≠ d:=λz=>by have:=r.1;rw[z,hd]at this;cases this
 have ld:l ≠ d:=λz=>by rw[z,hd]at C;cases C
 have f:zF B H H' b=some (.tup (D.map V.bl)):=by
  rcases r.2 with z | z
  ·rw[zM z];exact r.1
  ·exact P _ _ z
 have rb:Rep p (.ref b) (.tup (D.map T.bl)):= .tup (a _ _ (up _ _ y f)) (qW D);have rl:Rep p (.ref l) (.lst ws):= .lst (a _ _ (up _ _ ld (by rw[zM (hn l U)];exact C))) ((a7.mono λc u h=>up c u (λz=>by rw[z,bd]at h;cases h) (P _ _ h)).mono a)
 refine⟨O,.tup (by rw[zM e5,zl]) (.cons (rb.mono ge) (.cons (rl.mono ge) .nil))⟩
section
variable {js:List Nat}{g:T->En->R En}
theorem Ld:uP X Y tg iter BG:= .mk λρ a s c H R I ⟨B,J,q⟩=>q.elim
theorem x9 (C:Jq X Y (.Tuple elts kt pt) (.Call (.Attribute (.Name x px) "items" ap) [] [] cp) elt ifs scope N' k js BG tG g ft fe)(hv:PE X (.Name x px) (W6 i))(P:attributeBase (.Name x px) "items" X.env (eval (.Name x px) X.env)=eval (.Name x px) X.env:=by rfl)(N:(ap.endLine == cp.line)=true:=by rfl):
  PE X (.ListComp elt [⟨.Tuple elts kt pt,.Call (.Attribute (.Name x px) "items" ap) [] [] cp,ifs,0⟩] scope pos) (λa H Q=>∃d kvs,a[i]? =some (some (V.ref d))/\H d=some (.dT kvs)/\∀o,∃y ρ ts vs,SI Y y ρ a (mz H d (.frz o (.dT kvs)))/\rI y (mz H d (.frz o (.dT kvs))) (tN d o) ts/\ts.length<=mF/\zx g ft fe ts (Jp k js ρ)= .ok vs/\
   ∀D f xs v,mz H d (.frz o (.dT kvs)) D=none->zo (mz H d (.frz o (.dT kvs))) f ->f D=some (.lst xs)->zy v xs vs->zo v (zF y (mz H d (.frz o (.dT kvs))) f)->v D=none->Q (.ref D) f):=by
 intro j s a H Q I ⟨d,kvs,e1,e2,h⟩;refine JB (ju rfl) (F:=λD f =>Q (.ref D) f) (te:=λa H Q=>∃c ρ',c.cl=Y.cl/\(c.E=λ_ _ _=>False)/\tS c rC fe ρ' a H Q) (tt:=λa H Q=>∃c ρ',c.cl=Y.cl/\tS c rE ft ρ' a H Q) C.sc C.cp C.cm (VY hv P N) C.gt
  (λcl u M H3 fp j p s a H Q I ⟨c,ρ',O,q⟩=>C.tt c O cl u M H3 fp _ ρ' _ s a H Q I q) (λcl u M H3 fp j xe hp p s a H Q I ⟨c,ρ',O,eE,q⟩=>C.el c O cl u M H3 fp _ xe (eE ▸ hp) ρ' _ s a H Q I q) I ?_ ?_ C.hs
 ·refine⟨d,kvs,e1,e2,λo D S=> ?_⟩;obtain⟨y,ρ,ts,vs,J,r,N,ev,q⟩:=h o;exact jY C.gk C.gn J r N ev S λf xs v a1 a2 a3 Z U _=>q D f xs v S a1 a2 a3 Z U
 ·intro D Cc f s' I' q' hC h0 hL l w B;obtain⟨m,hm⟩:=B;refine⟨m,hm,λh' G=>⟨.ref D,f, ?_,rfl,q'⟩⟩;exact I'.turned (λb o P e=>G.extBut b o P e) hC (bj hL).symm (.inr h0) l w
def r9 (c:List T->R (List WE))(a:List T):R (List WE):=if a.length=2 then quiet (c a) else .bad
def pQ (g:T->En->R En)(ft:En->R Bool)(c:En->R T)(k:Nat)(js:List Nat)(ρ:En)(a:List WE):R (List T):=if a.length<=mF then quiet (zx g ft c (a.map rN) (Jp k js ρ)) else .bad
def Xp (i:Nat)(j:List T->R (List WE))(a:En->R (List T))(g:T->En->R En)(ft:En->R Bool)(e:En->R T)(k:Nat)(js:List Nat):En->RS:=λρ=>(a ρ).s λc=>match r9 j c with
 | .ok f=>(match pQ g ft e k js (ρ.set i .un) f with
  | .ok vs=>(match uq (.lst vs) with
   | .ok (.lst d)=> .rf d
   | _=> .bad)
  | _=> .bad)
 | _=> .bad
theorem xa {S:List T->R (List WE)}(O:QQ f mT kF (rm S) ⟨X.prog,X.w,X.K,X.mg,X.base,cl⟩)(hr:ja kr X.A)(hN:X.N.Nodup)(hi:X.N[i]? =some x)(hx:L2.Loc X.env.scope x)
  (ha:Up X Y (a :: v) ga) (C:Jq X Y (.Tuple elts kt pt) (.Call (.Attribute (.Name x px) "items" ap) [] [] cp) elt ifs scope N' k js BG tG g ft fe) (hv:PE X (.Name x px) (W6 i)) (ms:X.mg "sorted"=none) (gs:Gl X "sorted":=by rfl) (hF:kF<=kr:=by omega) (gf:Gl X f:=by rfl) (hd:(f == ("__debug__":Str))=false:=by decide)
  (hsw:swapsWith (.Call (.Name f p2) (a :: v) [] p3) (some (.Name x p1)) p4.line X.env=pure false:=by rfl) (hf:X.fn x=true\/X.env.scope.names.lookup x=some .local:=by first | exact .inl rfl | exact .inr rfl | assumption)
  (hs:starEach (a :: v) X.env=(false,eval a X.env) :: starEach v X.env:=by exact zD rfl) (hz:((backTo p3 (starEach v X.env)).any λx=>x.fst)=false:=by exact zT rfl) (hb:attributeBase (.Name x px) "items" X.env (eval (.Name x px) X.env)=eval (.Name x px) X.env:=by rfl) (hl:(ap.endLine == cp.line)=true:=by rfl):
  We X Y [.Assign [.Name x p1] (.Call (.Name f p2) (a :: v) [] p3) p4,.Return (some (.Call (.Name "sorted" p5) [.ListComp elt [⟨.Tuple elts kt pt,.Call (.Attribute (.Name x px) "items" ap) [] [] cp,ifs,0⟩] scope pc] [] p6)) p7] (Xp i S ga g ft fe k js):= .mk λρ=>by
 obtain⟨⟨_,pf,fw,fdw,CW,FW⟩⟩:=O;have W:=(jr (wM hN hi hx (pos:=p4) (jb (pos:=p3) (p:=p2) FW (hr.mono hF) gf CW.m CW.F.kp CW.b .nil (uW (E:=λ_ _ _=>False)) (ha ρ) hd hs hz) hsw hf)
  (Jb (wL (pos:=p7) (ZM (p:=p5) (pos:=p6) (yS hr.units) gs ms PyProof.Rows.Boot.«sorted» (zm (x9 (pos:=pc) C hv hb hl) zH (mQ rfl)) (by decide) (by decide) (mQ rfl) rfl))))
 intro G s σ H D Iv ⟨B,I,q⟩;have P:i < σ.length:=by rw[Iv.len];exact(ay.mp hi).1
 refine W G s σ H D Iv ?_;refine Je I q λus vs H1 _ s1 r1 I1 e=> ?_;have e:PoS Y _ (match r9 S us with
  | .ok v=>(match pQ g ft fe k js (ρ.set i .un) v with
   | .ok vs=>(match uq (.lst vs) with
    | .ok (.lst ws)=> .rf ws
    | _=> .bad)
   | _=> .bad)
  | _=> .bad) D:=e
 unfold r9 at e;split at e
 case h_2=>exact e.elim
 rename_i we l;split at l
 case isFalse=>cases l
 rename_i h2;cases U:S us with
 | bad=>rw[U]at l;cases l
 | ex c=>rw[U]at l;cases l
 | ok we' =>
  rw[U]at l;cases l;unfold pQ at e;split at e
  case h_2=>exact e.elim
  rename_i ts j;split at j
  case isFalse=>cases j
  rename_i h3;cases Z:zx g ft fe (we.map rN) (Jp k js (ρ.set i .un)) with
  | bad=>rw[Z]at j;cases j
  | ex c=>rw[Z]at j;cases j
  | ok ts' =>
   rw[Z]at j;cases j;unfold uq at e;dsimp only at e
   by_cases M:ts.all rL=true/\(ts.map kW).Nodup/\ts.length < 64
   case neg=>rw[if_neg M]at e;exact e.elim
   rw[if_pos M]at e;have e:PoS Y _ (.rf (yR ts)) D:=e;rw[bw];refine⟨_,us,h2,I1.sB,r1, ?_⟩;rw[U];intro d kvs ls H' B' n z1 z2 z3 z4 z5 z6 z7 z8 z9;refine⟨d,kvs,be P,z6,λo=> ?_⟩;have sF:zo H1 (mz H' d (.frz o (.dT kvs))):=λb u h=>by
    rw[zi (λz=>by rw[z,z4]at h;cases h)];exact z1 _ _ h
   have J:=(I1.grow sF).forget i (some (.ref d));refine⟨_,ρ.set i .un,we.map rN,ts,J,x8 z3 z4 z5 z6 z7 z9,by rw[ae];exact h3,Z,λDd H2 xs B2 a1 Q a3 a4 a5 a6=> ?_⟩
   have lB:=a5.trans (zF.le J.sB Q);refine⟨Dd,xs,ts,rfl,a3,a4.mono lB,M.1,M.2.1,M.2.2,λr ys y ry=> ?_⟩;have sN:zo H2 (mz H2 r (.lst ys)):=zo.new y _;refine e r ys _ B2 (J.sH.trans (Q.trans sN)) ((J.sH.trans Q).free y) zl (ry B2 a4) (lB.free y) ((a5.trans λb u h=> ?_).trans (Ur J.sH J.old (Q.trans sN) J.sB));cases q:mz H' d (.frz o (.dT kvs)) b with
   | none=>rw[zM q]at h ⊢;exact sN _ _ h
   | some w=>rw[zR q]at h ⊢;exact h
end
section
variable {es:Array DictEntry}{Q:Option Value->Shared->Prop}
theorem KO (e:s.heap.IsValIter it d i es.size ep)(a:s.heap.get? d=some od)(c:od.data= .dict es ep)(hi:i < es.size)
  (k:∀h',h'.IsValIter it d (i+1) es.size ep->bc it s.heap h' ->Q (some es[i].val) { s with heap:=h' }):wpAny (model prog w) A (pyNext (.ref it)) Q E s:=by
 obtain⟨o,j,l,hd⟩:=id e;have hT:=e.typeIs;unfold pyNext;refine a8 (cy (aX (name:=aC "__next__") hT bT (aM bT hT ff ?_ (e_ _))));refine a8 (ac (a8 (a8 ?_)))
 first | refine a8 (wpAny_typeNameOfWhole_valiter hT (ac ?_)) | refine a8 (wpAny_typeNameOf_valiter hT (ac ?_))
 refine a8 (wpAny_fieldsOf j hd ?_);have g:bC "dict_valueiterator"=false:=by decide
 simp only[g,aI,if_false];show wpAny _ _ (if (Value.ref d == Value.none)=true then _ else _) _ _ s
 rw[if_neg (show ¬ ((Value.ref d == Value.none)=true) from ax)];refine a8 (ac (a8 (cn a c ?_)));rw[if_neg (by simp)]
 refine a8 (ac (a8 (dD a c ?_)));rw[if_neg (by simp)]
 refine ac ?_;simp only[show ¬ ((i:Int) < 0) from by omega,if_false,b9,cI hi]
 refine a8 ?_
 first | refine a8 (wpAny_typeNameOfWhole_valiter hT (ac ?_)) | refine a8 (wpAny_typeNameOf_valiter hT (ac ?_))
 refine a8 (wpAny_isOneOf_valiter hT ?_);show wpAny _ _ (setField (.ref it) 1 (rawInt ((i:Int)+1)) >>= _) _ _ s;refine a8 (wpAny_setField j hd (by simp) ?_)
 have f:(s.heap.update it (ii (·.setIfInBounds 1 (rawInt ((i:Int)+1))))).IsValIter it d (i+1) es.size ep:=
  ⟨_,fg _ j (iQ (eJ hd _)),(lM ..).trans l,by rw[eJ hd];simp[rawInt]⟩
 refine a8 (bp ?_);refine a8 (wpAny_isOneOf_valiter (s:={ s with heap:=s.heap.update it (ii (·.setIfInBounds 1 (rawInt ((i:Int)+1)))) }) f.typeIs ?_);refine a8 (wpAny_isOneOf_valiter (s:={ s with heap:=s.heap.update it (ii (·.setIfInBounds 1 (rawInt ((i:Int)+1)))) }) f.typeIs ?_);show wpAny _ _ (pure es[i].val) _ _ _;exact ac (ac ⟨_,rfl,ac (k _ f (bV ..))⟩)
theorem xf (p:A.handled=none)(f:s.heap.IsValIter it d i es.size ep)(c:s.heap.get? d=some od)(e:od.data= .dict es ep)(k:es.size<=i)(l:∀h',fM it s.heap h' ->Q none { s with heap:=h' }):wpAny (model prog w) A (pyNext (.ref it)) Q E s:=by
 obtain⟨o,j,q,hd⟩:=id f;have hT:=f.typeIs;unfold pyNext;refine a8 (cy (aX (name:=aC "__next__") hT bT (aM bT hT ff ?_ (e_ _))));refine a8 (ac (a8 (a8 ?_)))
 first | refine a8 (wpAny_typeNameOfWhole_valiter hT (ac ?_)) | refine a8 (wpAny_typeNameOf_valiter hT (ac ?_))
 refine a8 (wpAny_fieldsOf j hd ?_);have g:bC "dict_valueiterator"=false:=by decide
 simp only[g,aI,if_false];show wpAny _ _ (if (Value.ref d == Value.none)=true then _ else _) _ _ s
 rw[if_neg (show ¬ ((Value.ref d == Value.none)=true) from ax)];refine a8 (ac (a8 (cn c e ?_)));rw[if_neg (by simp)]
 refine a8 (ac (a8 (dD c e ?_)));rw[if_neg (by simp)]
 refine ac ?_;simp only[show ¬ ((i:Int) < 0) from by omega,if_false,b9,b_ k]
 refine a8 ?_
 first | refine a8 (wpAny_typeNameOfWhole_valiter hT (ac ?_)) | refine a8 (wpAny_typeNameOf_valiter hT (ac ?_))
 show wpAny _ _ (setField (.ref it) 0 .none >>= _) _ _ s;refine a8 (wpAny_setField j hd (by simp) ?_)
 show wpAny _ _ (newExc (.type "StopIteration") [] >>= _) _ _ _;refine a8 ?_;simp only[newExc,newTuple];refine a8 (aO ?_ (by size_fits))
 refine a8 (m:=firstArgMember _ _) (c9 (a:=Value.none) (by first | rfl | (simp only[firstArgMember];rfl)) ?_)
 refine aO ?_ (by size_fits)
 simp only[raiseNew];refine a8 (wpAny_handled ?_);rw[show A.in1.handled=none from p];refine a8 (ac (wpAny_throw ?_));refine a8 (cA (T:="StopIteration") (b:=true) ⟨_,af _ rfl,rfl⟩ isSubtype_stop ?_);exact ac (l _ (((bV ..).extBut.push _).push _))
theorem qX {v:Addr}{Q:Value->Shared->Prop}(a:s.heap.IsValuesView v d)(e:s.heap.get? d=some od)(hd:od.data= .dict es ep)
  (f:Q (.ref s.heap.objs.size) { s with heap:=s.heap.push { cls:= .type "dict_valueiterator",data:= .fields #[.ref d,.int 0 0,.int es.size 0,.int ep 0] } }):wpAny (model prog w) A (pyIter (.ref v)) Q E s:=by
 obtain⟨k,g,j,i⟩:=id a;refine wpAny_pyIter_slot a.typeIs iF (aM iF a.typeIs F.entry_dict_values_iter ?_ (F.args_dict_values_iter_1 _));unfold Builtin.«dict_values.__iter__»;refine a8 (ac (a8 ?_));unfold i5;refine a8 (ba g i (x:= .ref d) rfl (ac (a8 ?_)));unfold fH;refine a8 (cn e hd (a8 (dD e hd ?_)));have c:bC "dict_valueiterator"=false:=by decide
 simp only[c,aI,if_false];refine aO (ac ⟨_,rfl,"dict_valueiterator",_,⟨_,af _ rfl,rfl⟩,bT.lookup, ?_⟩);simpa[rawInt] using f
theorem qY (q:A.handled=none)(I:Addr)(k:d ≠ I)(f:od.data= .dict es ep):Walks prog w A I [I,d] [I] es.size (λi v=>∃h:i < es.size,v=es[i].val) (λi h=>h.IsValIter I d i es.size ep/\h.get? d=some od) where
 sub:=λb a=>by simp at a;simp[a]
 frame:=λ_ _ _ st p=>⟨st.1.at λo e=>p I (by simp) o e,p d (by simp) _ st.2⟩
 item:=λi s Q E hi st j=>KO st.1 st.2 f hi λh' g c =>j _ h' s.toks ⟨hi,rfl⟩ ⟨g,c.extBut _ _ k st.2⟩ λb o a e=>c.extBut b o (λh=>a (by simp[h])) e
 done:=λs Q E st j=>xf q st.1 st.2 f (am _) λh' l =>j h' s.toks λb o a e=>l b o (λh=>a (by simp[h])) e
 self:=λ_ _ _ _ st j=>wpAny_pyIter_valiter st.1 j
theorem xg {r:Addr}(c:od.data= .dict es ep):KdlSrc prog w "dict_values" r d es.size (λi v=>∃h:i < es.size,v=es[i].val) (λh=>h.IsValuesView r d/\h.get? d=some od) where
 type:=λ_ a=>a.1.typeIs
 there:=λ_ a=>⟨let ⟨_,ho,_⟩:=a.1;au ho,au a.2⟩
 keep:=λ_ _ a f=>⟨let ⟨o,ho,x⟩:=a.1;⟨o,f r (.inl rfl) o ho,x⟩,f d (.inr rfl) _ a.2⟩
 notList:=by decide
 notTuple:=by decide
 hint:=λ_ _ _ _ a e=>kdl_hint_values a.1.typeIs e
 iter:=λ_ _ g a=>⟨_,_,(λ_ _ e=>qX a.1 a.2 c e),qY g _ (aF (au a.2)) c,⟨⟨_,af _ rfl,rfl,rfl⟩,ab _ a.2⟩⟩
end
theorem qZ:∀(xs:List V) (a:List Value),xs.length=a.length->(∀(i:Nat) x u,xs[i]? =some x->a[i]? =some u->RelV x u)->Vals xs a
 | [],[],_,_=> .nil
 | [],_ :: _,h,_=>by cases h
 | _ :: _,[],h,_=>by cases h
 | x :: xs,u :: a,d,h=> .cons (h 0 x u rfl rfl) (qZ xs a (by simpa using d) λi x u e c=>h (i+1) x u (by simpa using e) (by simpa using c))
theorem Q0 {kvs:List (List mM×Addr×V)}{a:List WE}(h:Js H0 B H n kvs a ls)(d:zo B Z):(∀l xs,l∈ls->H l=some (.lst xs)->Z l=some (.lst xs))->zy Z (kvs.map (·.2.2)) (a.map λe=>T.lst e.2):=by
 induction h with
 | nil=>exact λ_=> .nil
 | cons i e b r g no t f=>exact λhz=> .cons (.lst (hz _ _ aa e) (r.mono d)) (f λl xs c=>hz l xs (a9 _ c))
section
theorem KP:oW X "dict.values" (λx xs H Q=>∃a kvs,x= .ref a/\xs=[]/\H a=some (.dT kvs)/\∀r,H r=none->Q (.ref r) (mz H r (.ext λh=>h.IsValuesView r a))):=by
 intro g s C H x xs v0 y Q I u i h;obtain⟨a,kvs,rfl,rfl,j,q⟩:=h;obtain rfl:v0=Value.ref a:=u;cases i;obtain⟨z,p,B,k,o,D,ep,d,f,w,G⟩:=VT I.hok j;have hT:s.TypeIs (.ref a) "dict":=⟨o,d,f.1⟩;refine aM F.slot_dict_values hT F.entry_dict_values ?_ (F.args_dict_values_1 _);unfold Builtin.«dict.values»;refine a8 ?_;unfold la;refine a8 (wpAny_notOrdered_dict hT ?_);show wpAny _ _ (pure a) _ _ s;refine ac ?_;show wpAny _ _ (dI a >>= _) _ _ s;unfold dI;rw[if_neg (by rw[p];exact ax)]
 refine a8 (ac (a8 (aO (ac ⟨_,rfl, ?_⟩))));have c:s.heap.objs.size<=s.heap.objs.size:=am _;refine⟨.ref _,_,I.laid (t' :=s.toks) (λb o e=>ab _ e) c ?_,rfl,q _ (I.hok.fresh c)⟩;exact⟨⟨_,af _ rfl,rfl,rfl⟩,⟨_,af _ rfl⟩,λd f ⟨o,l,v⟩ e=>⟨o,e _ l,v⟩⟩
theorem yT (hh:X.A.handled=none):Z7 X (.type "list") (λvs H Q=>∃r k a kvs,vs=[.ref r]/\H r=some (.ext k)/\(∀h:Heap,k h->h.IsValuesView r a)/\H a=some (.dT kvs)/\∀l,H l=none->Q (.ref l) (mz H l (.lst (kvs.map (·.2.2))))):=by
 intro D s σ H vs us Q I M h;obtain⟨r,k,a,kvs,rfl,hr,p,S,q⟩:=h;obtain⟨u,rfl,ru⟩:=Zn M;obtain rfl:u=Value.ref r:=ru;obtain⟨N,_,_⟩:=(show zQ _ X.w H _ r _ from I.hok r _ hr);obtain⟨z,hs,xs,f,o,B,ep,P,g2,U,F,g5⟩:=VT I.hok S;have v:B.size=kvs.length:=by rw[← bU,F,ae,e9 f]
 refine kdl_call (xg U) hh ⟨p _ N,P⟩ (by rw[v];exact z) λh' tk g O kp Z c=> ?_
 have j:s.heap.objs.size<=s.heap.objs.size:=am _;refine⟨.ref _,mz H _ (.lst (kvs.map (·.2.2))),I.laid (t' :=tk) (λb o e=>kp b o e) j ⟨by rw[ae];exact z,g.toList,O,qZ _ _ (by have:=c.1;simp;omega) λi x u C e2=> ?_,by simpa using Z⟩,rfl,q _ (I.hok.fresh j)⟩
 obtain⟨hi,rfl⟩:=c.2 i u (by rw[← dH];exact e2)
 have d :i < kvs.length:=by rw[← v];exact hi
 rw[ao,ah d]at C;cases C;obtain⟨u,G,f2,J⟩:=wd f i kvs[i] (ah d);have y:B.toList[i]? =some (entryOfKey (tupleKind (Z0 X.prog X.w)) (kvs[i].1,kvs[i].2.1,u)):=by rw[F,ao,G];rfl
 rw[dH,cI hi]at y;rw[aH y];exact J
end
theorem Js.base {kvs:List (List mM×Addr×V)}{a:List WE}(h:Js H0 B H n kvs a ls)(s:zo H1 H0):Js H1 B H n kvs a ls:=by
 induction h with
 | nil=>exact .nil
 | cons c e b r d no t f=>exact .cons ⟨c.1,c.2.imp (λz=>s.free z) id⟩ e b r d no f
def Ds (B H:Hp)(r:R (List WE))(Q:VK):Prop:=match r with
 | .ok f=>∀a kvs e c d n,zo H c ->zo B d ->zo d (zF B H c)->H a=none->d a=none->c a=some (.lst (kvs.map (·.2.2)))->Js H d c n kvs f e->a ∉ e->(∀l∈e,H l=none)->Q (.ref a) c
 | _=>False
def ro (g:List T->R (List WE)):Sp:=λvs H Q _=>∃B ts,ts.length=2/\zo B H/\zy B vs ts/\Ds B H (g ts) Q
def DW (c:List T->R T)(e:List T->R (List WE)):List T->R (List WE):=λts=>match ts with
 | [d,a]=>(c [a]).bind λ_=>e [d,a]
 | _=> .bad
theorem BY {Z:Zz}{x:Str}{st:Stmt}{k kn kw:Nat}{e a C M:Str}{gn:List T->R T}{I:List T->R (List WE)}{q1 q2 q3 q4 q5 q6 q7 q8 q9 j u J U:Pos}(F:FE Z.K Z.mg x st [e,a])(N0:QQ C mT kn (spP Z.cl 1 gn) Z)(W0:QQ M mT kw (rm I) Z)(hlm:Z.mg "list"=none)(S:Sc [e,a] [e,a] st)
  (hst:Z1 st=[.Expr (.Call (.Name C q1) [.Name a q2] [] q3) q4,
   .Return (some (.Call (.Name "list" q5) [.Call (.Attribute (.Call (.Name M q6) [.Name e q7,.Name a q8] [] q9) "values" j) [] [] u] [] J)) U])
  (hkd:(zf st).names.lookup e=some .local) (hru:(zf st).names.lookup a=some .local) (hnn:(zf st).names.lookup C=some .globalImplicit) (hwn:(zf st).names.lookup M=some .globalImplicit) (hgl:(zf st).names.lookup ("list":Str)=some .globalImplicit) (z1:(j.endLine == u.line)=true) (hn:kn<=k:=by omega) (hw:kw<=k:=by omega)
  (d1:(e == ("__debug__":Str))=false:=by decide) (d2:(e == ("__classdict__":Str))=false:=by decide) (d3:(a == ("__debug__":Str))=false:=by decide) (d4:(a == ("__classdict__":Str))=false:=by decide) (d5:(C == ("__debug__":Str))=false:=by decide) (d6:(M == ("__debug__":Str))=false:=by decide):QQ x mT (k+1) (ro (DW gn I)) Z:=by
 obtain⟨ft,fdt,F⟩:=F;obtain⟨⟨_,pa,fa,fda,CN,FN⟩⟩:=N0;obtain⟨⟨_,pw,fw,fdw,CW,FW⟩⟩:=W0;refine⟨_,_,ft,fdt,F,F.F.ok S (λvs H Q E ⟨B,ts,D,_,r,_⟩=>by rw[r.length,D];rfl) λcdv A outer s H vs Q E hr ⟨B,ts,D,X,r,q⟩=> ?_⟩
 rw[hst];have gN:Gl (jC mT Z.P Z.w Z.K Z.mg Z.base [e,a] x (zf st) ft cdv A outer s H E).nox C:=hnn;have gW:Gl (jC mT Z.P Z.w Z.K Z.mg Z.base [e,a] x (zf st) ft cdv A outer s H E).nox M:=hwn;have gl:Gl (jC mT Z.P Z.w Z.K Z.mg Z.base [e,a] x (zf st) ft cdv A outer s H E).nox "list":=hgl;have v0:∀{p},PE (jC mT Z.P Z.w Z.K Z.mg Z.base [e,a] x (zf st) ft cdv A outer s H E).nox (.Name e p) (W6 0):=Jn rfl (.inl hkd) d1 d2;have v1:∀{p},PE (jC mT Z.P Z.w Z.K Z.mg Z.base [e,a] x (zf st) ft cdv A outer s H E).nox (.Name a p) (W6 1):=Jn rfl (.inl hru) d3 d4;refine⟨_,jr (JO (pos:=q4) (jb (pos:=q3) (p:=q1) FN (hr.mono hn) gN CN.m CN.F.kp CN.b .nil (uW (E:=λ_ _ _=>False)) (zm (v1 (p:=q2)) zH (mQ rfl)) d5 (zD rfl) (zT rfl)) rfl)
  (Jb (wL (pos:=U) (ZZ (p:=q5) (pos:=J) (yT hr.hd) gl hlm PyProof.Rows.Boot.«list» (zm (xU (cpos:=u) (apos:=j) eL eG io KP
   (jb (pos:=q9) (p:=q6) FW (hr.mono hw) gW CW.m CW.F.kp CW.b .nil (uW (E:=λ_ _ _=>False)) (zm (v0 (p:=q7)) (zm (v1 (p:=q8)) zH (mQ rfl)) (zD rfl)) d6 (zD rfl) (zT rfl)) rfl z1) zH (mQ rfl)) (by decide) (by decide) (mQ rfl) rfl))), ?_⟩
 cases r with
 | nil=>cases D
 | @cons va tk vs1 ts1 r1 rr=>
  cases rr with
  | nil=>cases D
  | @cons vb tr vs2 ts2 r2 rr=>
   cases rr with
   | cons _ _=>exact absurd D (by simp)
   | nil=>
    have q:Ds B H ((gn [tr]).bind λ_=>I [tk,tr]) Q:=q;cases eg:gn [tr] with
    | bad=>rw[eg]at q;exact q.elim
    | ex c=>rw[eg]at q;exact q.elim
    | ok t=>
     rw[eg]at q;have q:Ds B H (I [tk,tr]) Q:=q;refine⟨vb,rfl,B,[tr],rfl,X,.cons r2 .nil, ?_⟩;rw[eg];intro v Hn i rv;have gB:=zF.ge X i;refine⟨va,rfl,vb,rfl,zF B H Hn,[tk,tr],rfl,zF.le X i,.cons (r1.mono gB) (.cons (r2.mono gB) .nil), ?_⟩;cases ew:I [tk,tr] with
     | bad=>rw[ew]at q;exact q.elim
     | ex c=>rw[ew]at q;exact q.elim
     | ok es=>
      rw[ew]at q;intro d kvs ls y B' n y1 y2 y3 y4 y5 N y7 y8 y9;refine⟨.inr (.inr (.inl ⟨rfl,.inr ⟨kvs,N⟩⟩)),d,kvs,rfl,rfl,N,λr O => ?_⟩;have rd:d ≠ r:=λz=>by rw[z,O]at N;cases N
      have sR:zo y (mz y r (.ext λh=>h.IsValuesView r d)):=zo.new O _;refine⟨r,_,d,kvs,rfl,zl,λh z=>z,by rw[zi rd];exact N,λl G => ?_⟩
      have sL:=zo.new G (HO.lst (kvs.map (·.2.2)));have s2:=y1.trans (sR.trans sL);have l0:y l=none:=sR.free G;have bl:∀b o,y b=some o->mz (mz y r (.ext λh=>h.IsValuesView r d)) l (HO.lst (kvs.map (·.2.2))) b=some o:=λb o h=>sL _ _ (sR _ _ h);have hG:zo B' (zF B H (mz (mz y r (.ext λh=>h.IsValuesView r d)) l (HO.lst (kvs.map (·.2.2))))):=λb o h=>by
       have g:=y3 _ _ h;cases p:Hn b with
       | none=>rw[zM p]at g;rw[zM (i.free p)];exact bl _ _ g
       | some w=>
        rw[zR p]at g;cases p2:H b with
        | none=>rw[zM p2]at g ⊢;exact s2 _ _ g
        | some w2=>rw[zR p2]at g ⊢;exact g
      refine q l kvs ls _ B' n (i.trans s2) (gB.trans y2) hG (i.free (y1.free l0)) ((y3.trans (zF.le (zF.le X i) y1)).free l0) zl ((y7.base i).mono (am _) (λm hm=> ?_) λb xs h=>bl _ _ h) (λz=> ?_) λm hm=>i.free (y9 m hm)
      ·obtain⟨xc,f⟩:=y7.islst hm;rw[f];exact bl _ _ f
      ·obtain⟨xc,f⟩:=y7.islst z;rw[l0]at f;cases f
section
end
def BV (r:R (List WE)):R T:=match r with
 | .ok a=> .ok (.lst (a.map λe=>T.lst e.2))
 | _=> .bad
section
end
section
end
theorem Ht {Z:Zz}{g:List T->R (List WE)}(O:QQ x mT k (ro g) Z):QQ x mT k (spP Z.cl 2 (λu=>BV (g u))) Z:=by
 obtain⟨⟨st,F,f,C,d,y⟩⟩:=O;refine⟨st,F,f,C,d,y.imp λvs H Q E ⟨B,ts,o,j,r,q⟩=>⟨B,ts,o,j,r, ?_⟩⟩;dsimp only at q;cases e:g ts with
 | bad=>rw[e]at q;exact q.elim
 | ex c=>rw[e]at q;exact q.elim
 | ok S=>
  rw[e]at q;intro a kvs P I N n v z2 M p X J w U G;exact q (.ref a) I v (.lst (by rw[zM p];exact J) (Q0 w M λl xs D i=>by rw[zM (G l D)];exact i))
end PV
namespace G
open PySem PySem.Spec PyProof.Rows L2 PV
def sI:En->RS:=
  zn (mD (zp om (vB 1) (mw Z6 (vB 0))) (zr (zd kj (vE 0) (vE 1))) (mC))
  (zn (mD (zp my (vB 0) (Zc (ze))) (zr (cE (.int 0))) (mC))
  (zr (zd zv (zd zU (zd kj (vE 0) (zd jL (vE 1) (mw Z6 (vB 0)))) (cE (.int 31))) (vE 1))))
def rH:List T->R T:=λts=>zk (sI  (mB 2 ts))
def El (a:List T->R T):En->RS:=
  zn (zC 3 (zd jL (zd zU (zd zv (zb 2 a (za (vE 0) (za (vE 1) (ze)))) (zd zU (cE (.int 6151)) (zd zv (vE 1) (cE (.int 1))))) (cE (.int 40692))) (cE (.int 2147483399))))
  (zr (zd jL (zd jL (zd zv (zd zU (vE 3) (vE 3)) (zd Wb (vE 3) (cE (.int 31)))) (cE (.int 2147483629))) (vE 2)))
def nk:List T->R T:=λts=>zk (El (rH) (mB 4 ts))
def Ak (a:List T->R T):En->RS:=
  zn (zC 2 (cE (.str "abcdefghijklmnopqrstuvwxyz")))
  (zn (mD (zp nv (zb 3 a (za (vE 0) (za (vE 1) (za (cE (.int 6)) (ze))))) (cE (.int 0))) (zr (zd kj (Zc (za (cE (.str "a")) (za (cE (.str "b")) (za (cE (.str "ab")) (za (cE (.str "cab")) (ze)))))) (zb 3 a (za (vE 0) (za (zd zv (vE 1) (cE (.int 1))) (za (cE (.int 4)) (ze))))))) (mC))
  (zr (mw (D4 "") (zA (Zi (zd zv (cE (.int 1)) (zb 3 a (za (vE 0) (za (zd zv (vE 1) (cE (.int 1))) (za (cE (.int 3)) (ze))))))) (zw 0) (zV) (zd kj (vE 3) (zb 3 a (za (vE 1) (za (zd zv (zd zv (vE 2) (cE (.int 2))) (vE 0)) (za (cE (.int 26)) (ze)))))) 1 [0,1,2]))))
def Gc:List T->R T:=λts=>zk (Ak (nk) (mB 3 ts))
def tI (a:List T->R T)(c:List T->R T):En->RS:=
  zn (mD (zp nv (zb 3 a (za (vE 0) (za (vE 1) (za (cE (.int 3)) (ze))))) (cE (.int 0))) (zn (zC 2 (zd jK (zb 3 a (za (vE 0) (za (zd zv (vE 1) (cE (.int 1))) (za (cE (.int 7)) (ze))))) (cE (.int 3))))
  (zn (mD (zp my (zb 3 a (za (vE 0) (za (zd zv (vE 1) (cE (.int 3))) (za (cE (.int 8)) (ze))))) (cE (.int 0))) (zC 2 (zd kj (Zc (za (YG (cE (.int 20))) (za (cE (.int 17)) (za (cE (.int 20)) (ze))))) (zb 3 a (za (vE 0) (za (zd zv (vE 1) (cE (.int 4))) (za (cE (.int 3)) (ze))))))) (mC))
  (zr (Za (za (cE (.str "whole")) (za (vE 2) (za (zd wH (cE (.int 20)) (zd zv (vE 2) (zb 3 a (za (vE 0) (za (zd zv (vE 1) (cE (.int 2))) (za (cE (.int 4)) (ze))))))) (ze)))))))) (mC))
  (zn (uO 3 (ze))
  (zn (ZD (Zi (zd zv (cE (.int 1)) (zb 3 a (za (vE 0) (za (zd zv (vE 1) (cE (.int 1))) (za (cE (.int 4)) (ze))))))) (zw 4) (zn (zC 5 (zb 2 c (za (vE 0) (za (zd zv (zd zv (vE 1) (cE (.int 5))) (zd zU (cE (.int 5)) (vE 4))) (ze)))))
  (mD (zp Y8 (vB 5) (vB 3)) (Us 3 (vE 5)) (mC))))
  (zr (Za (za (cE (.str "pick")) (za (mw sx (zA (K5 (vE 3)) (zN 0 1) (zV) (Za (za (vE 1) (za (zd zv (cE (.int 1)) (zb 3 a (za (vE 2) (za (zd zv (zd zv (vE 3) (cE (.int 30))) (vE 0)) (za (cE (.int 20)) (ze)))))) (ze)))) 2 [0,1])) (ze)))))))
def rg:List T->R T:=λts=>zk (tI (nk) (Gc) (mB 6 ts))
def AV (a:List T->R T)(c:List T->R T)(d:List T->R T):En->RS:=
  zn (zC 3 (zb 3 a (za (vE 0) (za (vE 1) (za (cE (.int 5)) (ze))))))
  (zn (mD (nz (zp my (vB 2) (cE (.int 1))) (zp om (vB 3) (cE (.int 2)))) (zr (zb 2 c (za (vE 0) (za (zd zv (vE 1) (cE (.int 1))) (ze))))) (mC))
  (zn (mD (zp om (vB 3) (cE (.int 4))) (zn (zC 4 (zA (Zi (zd zv (cE (.int 1)) (zb 3 a (za (vE 0) (za (zd zv (vE 1) (cE (.int 1))) (za (cE (.int 3)) (ze))))))) (zw 0) (zV) (zb 3 d (za (vE 1) (za (zd zv (zd zv (zd zU (cE (.int 3)) (vE 2)) (cE (.int 40))) (zd zU (cE (.int 50)) (vE 0))) (za (zd jK (vE 3) (cE (.int 1))) (ze))))) 1 [0,1,2]))
  (zr (Za (za (cE (.str "row")) (za (mw sx (vE 4)) (ze)))))) (mC))
  (zn (zC 5 (zb 3 a (za (vE 0) (za (zd zv (vE 1) (cE (.int 1))) (za (cE (.int 3)) (ze))))))
  (zr (Za (za (cE (.str "many")) (za (zb 3 d (za (vE 0) (za (zd zv (zd zU (cE (.int 3)) (vE 1)) (cE (.int 40))) (za (zd jK (vE 2) (cE (.int 1))) (ze))))) (za (vE 5) (za (zd wH (cE (.int 3)) (zd zv (vE 5) (zb 3 a (za (vE 0) (za (zd zv (vE 1) (cE (.int 2))) (za (cE (.int 3)) (ze))))))) (ze))))))))))
def oz:Nat->Nat->List T->R T
 | 0,_=>λ_=> .bad
 | n+1,_=>λts=>zk (AV (nk) (rg) (oz n 0) (mB 6 ts))
abbrev oQ (n:Nat):List T->R T:=oz n 0
def Ba:En->RS:=
  zn (zC 1 (Zc (za (Za (ze)) (ze))))
  (zn (ZD (Z5 (vE 0)) (zw 2) (zn (uO 3 (ze))
  (zn (ZD (Z5 (vE 1)) (zw 4) (vY 3 (zA (Z5 (vE 2)) (zw 0) (zV) (zd zv (vE 1) (Za (za (vE 0) (ze)))) 1 [4])))
  (tU 1 3))))
  (zr (vE 1)))
def nq:List T->R T:=λts=>zk (Ba  (mB 5 ts))
def nA (a:List T->R T)(c:List T->R T):En->RS:=
  zn (mD (zp my (zd kj (vE 0) (cE (.int 0))) (cE (.str "whole"))) (zr (sY (Jy (zd kj (vE 0) (cE (.int 1))) (zd zv (zd kj (vE 0) (cE (.int 2))) (cE (.int 1)))))) (mC))
  (zn (mD (zp my (zd kj (vE 0) (cE (.int 0))) (cE (.str "pick"))) (zr (zA (Z5 (zd kj (vE 0) (cE (.int 1)))) (zN 0 1) (zV) (vE 0) 2 [])) (mC))
  (zn (mD (zp my (zd kj (vE 0) (cE (.int 0))) (cE (.str "row"))) (zr (zb 1 c (za (zA (Z5 (zd kj (vE 0) (cE (.int 1)))) (zw 0) (zV) (zb 1 a (za (vE 0) (ze))) 1 []) (ze)))) (mC))
  (zn (uO 1 (ze))
  (zn (ZD (Jy (zd kj (vE 0) (cE (.int 2))) (zd zv (zd kj (vE 0) (cE (.int 3))) (cE (.int 1)))) (zw 2) (vY 1 (zb 1 c (za (zd zU (Zc (za (zb 1 a (za (zd kj (vE 0) (cE (.int 1))) (ze))) (ze))) (vE 2)) (ze)))))
  (zr (vE 1))))))
def pM:Nat->Nat->List T->R T
 | 0,_=>λ_=> .bad
 | n+1,_=>λts=>zk (nA (pM n 0) (nq) (mB 3 ts))
abbrev ot (n:Nat):List T->R T:=pM n 0
def nU (c:List T->R T)(a:List T->R T):En->RS:=
  zn (mD (zp nt (zd kj (vE 0) (cE (.int 0))) (Za (za (cE (.str "whole")) (za (cE (.str "pick")) (ze))))) (zr (mw Z6 (zb 1 c (za (vE 0) (ze))))) (mC))
  (zn (zC 1 (mZ (zp my (zd kj (vE 0) (cE (.int 0))) (cE (.str "row"))) (zA (Z5 (zd kj (vE 0) (cE (.int 1)))) (zw 0) (zV) (zb 1 a (za (vE 0) (ze))) 1 []) (Zc (ze))))
  (zn (zC 2 (cE (.int 1)))
  (zn (ZD (Z5 (vE 1)) (zw 3) (zC 2 (zd zU (vE 2) (vE 3))))
  (zn (mD (zp my (zd kj (vE 0) (cE (.int 0))) (cE (.str "many"))) (zn (zC 4 (zb 1 a (za (zd kj (vE 0) (cE (.int 1))) (ze))))
  (zn (zC 2 (zd zv (mw qe (ZL my (zd kj (vE 0) (cE (.int 2))) (cE (.int 0)))) (zd zU (vE 4) (mw qe (ny mL mL (zd kj (vE 0) (cE (.int 2))) (cE (.int 1)) (zd kj (vE 0) (cE (.int 3))))))))
  (zn (zC 2 (zd zv (vE 2) (zd zU (zd zU (vE 4) (vE 4)) (mw qe (ny mL mL (zd kj (vE 0) (cE (.int 2))) (cE (.int 2)) (zd kj (vE 0) (cE (.int 3))))))))
  (zC 2 (zd zv (vE 2) (zd zU (zd zU (zd zU (vE 4) (vE 4)) (vE 4)) (mw qe (ZL my (zd kj (vE 0) (cE (.int 3))) (cE (.int 3)))))))))) (mC))
  (zr (vE 2))))))
def A8:Nat->Nat->List T->R T
 | 0,_=>λ_=> .bad
 | n+1,_=>λts=>zk (nU (ot 8) (A8 n 0) (mB 5 ts))
abbrev sK (n:Nat):List T->R T:=A8 n 0
def Al (c:List T->R T)(a:List T->R T):En->RS:=
  zn (zC 3 (zb 3 c (za (vE 0) (za (vE 1) (za (cE (.int 3)) (ze))))))
  (zn (ZD (Zi (cE (.int 3))) (zw 4) (zn (mD (zp mL (zb 1 a (za (vE 3) (ze))) (vB 2)) (zr (vE 3)) (mC))
  (zC 3 (zb 3 c (za (vE 0) (za (zd zv (zd zv (vE 1) (cE (.int 500))) (zd zU (cE (.int 700)) (vE 4))) (za (cE (.int 2)) (ze))))))))
  (zr (mZ (zp mL (zb 1 a (za (vE 3) (ze))) (vB 2)) (vE 3) (Za (za (cE (.str "whole")) (za (YG (cE (.int 1))) (za (cE (.int 2)) (ze))))))))
def t7:List T->R T:=λts=>zk (Al (oQ 8) (sK 8) (mB 5 ts))
def AI (a:List T->R T)(c:List T->R T):En->RS:=
  zn (zC 3 (zb 3 a (za (vE 0) (za (vE 1) (za (cE (.int 9)) (ze))))))
  (zn (mD (X0 (zp nv (vB 2) (cE (.int 1))) (zp nv (vB 3) (cE (.int 5)))) (zn (zC 4 (zb 3 c (za (vE 0) (za (zd zv (zd zU (cE (.int 2)) (vE 1)) (cE (.int 11))) (za (zd jK (vE 2) (cE (.int 1))) (ze))))))
  (zn (mD (zp my (vB 3) (cE (.int 6))) (zr (Za (za (cE (.str "no")) (za (vE 4) (ze))))) (mC))
  (zr (Za (za (zd kj (Zc (za (cE (.str "all")) (za (cE (.str "some")) (ze)))) (zd jK (vE 3) (cE (.int 7)))) (za (vE 4) (za (zb 3 c (za (vE 0) (za (zd zv (zd zU (cE (.int 2)) (vE 1)) (cE (.int 24))) (za (zd jK (vE 2) (cE (.int 1))) (ze))))) (ze)))))))) (mC))
  (zn (zC 5 (zd jK (zb 3 a (za (vE 0) (za (zd zv (vE 1) (cE (.int 1))) (za (cE (.int 9)) (ze))))) (cE (.int 4))))
  (zn (mD (zp om (zd jL (vE 3) (cE (.int 6))) (cE (.int 2))) (zr (Za (za (cE (.str "sum")) (za (vE 5) (za (zd jK (zd zv (vE 5) (zb 3 a (za (vE 0) (za (zd zv (vE 1) (cE (.int 2))) (za (cE (.int 5)) (ze)))))) (cE (.int 1))) (ze)))))) (mC))
  (zn (mD (zp my (zd jL (vE 3) (cE (.int 6))) (cE (.int 2))) (zr (Za (za (cE (.str "size")) (za (zb 3 a (za (vE 0) (za (zd zv (vE 1) (cE (.int 1))) (za (cE (.int 3)) (ze))))) (za (zb 3 a (za (vE 0) (za (zd zv (vE 1) (cE (.int 2))) (za (cE (.int 4)) (ze))))) (ze)))))) (mC))
  (zn (mD (zp my (zd jL (vE 3) (cE (.int 6))) (cE (.int 3))) (zr (Za (za (cE (.str "word")) (za (zd kj (Zc (za (cE (.str "a")) (za (cE (.str "b")) (za (cE (.str "ab")) (za (cE (.str "zz")) (ze)))))) (zb 3 a (za (vE 0) (za (zd zv (vE 1) (cE (.int 1))) (za (cE (.int 4)) (ze)))))) (ze))))) (mC))
  (zr (mZ (zp my (zd jL (vE 3) (cE (.int 6))) (cE (.int 4))) (Za (za (cE (.str "rising")) (ze))) (Za (za (cE (.str "unlike")) (ze))))))))))
def oK:Nat->Nat->List T->R T
 | 0,_=>λ_=> .bad
 | n+1,_=>λts=>zk (AI (nk) (oK n 0) (mB 6 ts))
abbrev Ea (n:Nat):List T->R T:=oK n 0
def Eo:En->RS:=
  zr (j8 (mw (WS "int") (vB 0)) (vX (mw (WS "bool") (vB 0))))
def nT:List T->R T:=λts=>zk (Eo  (mB 1 ts))
def C5 (a:List T->R T):En->RS:=
  zr (j8 (zb 1 a (za (vE 0) (ze))) (ny mL mL (YG (cE (.int 50))) (vB 0) (cE (.int 50))))
def At:List T->R T:=λts=>zk (C5 (nT) (mB 1 ts))
def Ej:En->RS:=
  zn (mD (nz (jW (ZX (mw (WS "str") (vB 0)))) (jW (D9 mL mL (cE (.int 1)) (mw Z6 (vB 0)) (cE (.int 3))))) (zr (cE (.bl false))) (mC))
  (zr (mw Vn (zA (Z5 (vE 0)) (zw 0) (zV) (ny mL mL (cE (.str "a")) (vB 0) (cE (.str "z"))) 1 [])))
def pC:List T->R T:=λts=>zk (Ej  (mB 1 ts))
def Ao (d:List T->R T)(c:List T->R T)(a:List T->R T):En->RS:=
  zn (mD (nz (zp my (vB 1) (cE (.int 0))) (nz (jW (ZX (mw (WS "tuple") (vB 0)))) (zp my (mw Z6 (vB 0)) (cE (.int 0))))) (zr (cE (.bl false))) (mC))
  (zn (mD (nz (zp my (zd kj (vE 0) (cE (.int 0))) (cE (.str "sum"))) (zp my (zd kj (vE 0) (cE (.int 0))) (cE (.str "size")))) (zr (j8 (ZL my (mw Z6 (vB 0)) (cE (.int 3))) (j8 (zb 1 a (za (zd kj (vE 0) (cE (.int 1))) (ze))) (zb 1 a (za (zd kj (vE 0) (cE (.int 2))) (ze)))))) (mC))
  (zn (mD (zp my (zd kj (vE 0) (cE (.int 0))) (cE (.str "word"))) (zr (j8 (ZL my (mw Z6 (vB 0)) (cE (.int 2))) (zb 1 d (za (zd kj (vE 0) (cE (.int 1))) (ze))))) (mC))
  (zn (mD (nz (zp my (zd kj (vE 0) (cE (.int 0))) (cE (.str "rising"))) (zp my (zd kj (vE 0) (cE (.int 0))) (cE (.str "unlike")))) (zr (ZL my (mw Z6 (vB 0)) (cE (.int 1)))) (mC))
  (zn (mD (zp my (zd kj (vE 0) (cE (.int 0))) (cE (.str "no"))) (zr (j8 (ZL my (mw Z6 (vB 0)) (cE (.int 2))) (zb 2 c (za (zd kj (vE 0) (cE (.int 1))) (za (zd jK (vE 1) (cE (.int 1))) (ze)))))) (mC))
  (zn (mD (nz (zp my (zd kj (vE 0) (cE (.int 0))) (cE (.str "all"))) (zp my (zd kj (vE 0) (cE (.int 0))) (cE (.str "some")))) (zr (j8 (ZL my (mw Z6 (vB 0)) (cE (.int 3))) (j8 (zb 2 c (za (zd kj (vE 0) (cE (.int 1))) (za (zd jK (vE 1) (cE (.int 1))) (ze)))) (zb 2 c (za (zd kj (vE 0) (cE (.int 2))) (za (zd jK (vE 1) (cE (.int 1))) (ze))))))) (mC))
  (zr (cE (.bl false))))))))
def pX:Nat->Nat->List T->R T
 | 0,_=>λ_=> .bad
 | n+1,_=>λts=>zk (Ao (pC) (pX n 0) (At) (mB 2 ts))
abbrev Eb (n:Nat):List T->R T:=pX n 0
def DN (a:List T->R T):En->RS:=
  zr (zb 2 a (za (vE 0) (za (cE (.int 3)) (ze))))
def BJ:List T->R T:=λts=>zk (DN (Eb 8) (mB 1 ts))
def A7 (a:List T->R T):En->RS:=
  mD (jW (ZX (zb 1 a (za (vE 0) (ze))))) (Kk) (mC)
def oJ:List T->R T:=λts=>zk (A7 (BJ) (mB 1 ts))
def pV (a:List T->R T):En->RS:=
  zr (j8 (zb 1 a (za (vE 0) (ze))) (j8 (zb 1 a (za (vE 1) (ze))) (rj mL mL mL (vB 2) (vB 0) (vB 1) (vB 3))))
def tu:List T->R T:=λts=>zk (pV (nT) (mB 4 ts))
def DS:En->RS:=
  zr (j8 (mw (WS "tuple") (vB 0)) (ny mL mL (vB 1) (mw Z6 (vB 0)) (vB 2)))
def nP:List T->R T:=λts=>zk (DS  (mB 3 ts))
def AM (d:List T->R T)(a:List T->R T)(c:List T->R T):En->RS:=
  zr (j8 (zb 3 a (za (vE 0) (za (cE (.int 2)) (za (cE (.int 2)) (ze))))) (j8 (zb 1 c (za (zd kj (vE 0) (cE (.int 0))) (ze))) (j8 (zb 1 d (za (zd kj (vE 0) (cE (.int 1))) (ze))) (ny mL mL (cE (.int 1)) (zd kj (vE 0) (cE (.int 1))) (cE (.int 20))))))
def sV:List T->R T:=λts=>zk (AM (nT) (nP) (pC) (mB 1 ts))
def sZ (c:List T->R T)(a:List T->R T):En->RS:=
  zn (mD (nz (jW (ZX (zb 3 c (za (vE 0) (za (cE (.int 1)) (za (cE (.int 4)) (ze))))))) (jW (ZX (mw Vn (zA (Z5 (vE 0)) (zw 0) (zV) (zb 1 a (za (vE 0) (ze))) 1 []))))) (zr (cE (.bl false))) (mC))
  (zn (zC 1 (zA (Z5 (vE 0)) (zw 0) (zV) (zd kj (vE 0) (cE (.int 0))) 1 []))
  (zr (ZL my (mw Vw (vB 1)) (mw Z6 (vB 1)))))
def pW:List T->R T:=λts=>zk (sZ (nP) (sV) (mB 2 ts))
def tZ (a:List T->R T)(e:List T->R T)(c:List T->R T)(d:List T->R T):En->RS:=
  zn (mD (nz (zp my (vB 1) (cE (.int 0))) (nz (jW (ZX (mw (WS "tuple") (vB 0)))) (zp my (mw Z6 (vB 0)) (cE (.int 0))))) (zr (cE (.bl false))) (mC))
  (zn (mD (zp my (zd kj (vE 0) (cE (.int 0))) (cE (.str "whole"))) (zr (j8 (ZL my (mw Z6 (vB 0)) (cE (.int 3))) (zb 4 a (za (zd kj (vE 0) (cE (.int 1))) (za (zd kj (vE 0) (cE (.int 2))) (za (YG (cE (.int 20))) (za (cE (.int 20)) (ze)))))))) (mC))
  (zn (mD (zp my (zd kj (vE 0) (cE (.int 0))) (cE (.str "pick"))) (zr (j8 (ZL my (mw Z6 (vB 0)) (cE (.int 2))) (zb 1 c (za (zd kj (vE 0) (cE (.int 1))) (ze))))) (mC))
  (zn (mD (zp my (zd kj (vE 0) (cE (.int 0))) (cE (.str "row"))) (zr (j8 (ZL my (mw Z6 (vB 0)) (cE (.int 2))) (zb 2 d (za (zd kj (vE 0) (cE (.int 1))) (za (zd jK (vE 1) (cE (.int 1))) (ze)))))) (mC))
  (zn (mD (zp my (zd kj (vE 0) (cE (.int 0))) (cE (.str "many"))) (zr (j8 (ZL my (mw Z6 (vB 0)) (cE (.int 4))) (j8 (zb 4 a (za (zd kj (vE 0) (cE (.int 2))) (za (zd kj (vE 0) (cE (.int 3))) (za (cE (.int 0)) (za (cE (.int 3)) (ze)))))) (zb 2 e (za (zd kj (vE 0) (cE (.int 1))) (za (zd jK (vE 1) (cE (.int 1))) (ze))))))) (mC))
  (zr (cE (.bl false)))))))
def A9 (a:List T->R T)(c:List T->R T):En->RS:=
  zr (j8 (zb 3 a (za (vE 0) (za (cE (.int 1)) (za (cE (.int 3)) (ze))))) (mw Vn (zA (Z5 (vE 0)) (zw 0) (zV) (zb 2 c (za (vE 0) (za (vE 1) (ze)))) 1 [1])))
def nF:Nat->Nat->List T->R T
 | 0,_=>λ_=> .bad
 | n+1,0=>λts=>zk (tZ (tu) (nF n 0) (pW) (nF n 1) (mB 2 ts))
 | n+1,_=>λts=>zk (A9 (nP) (nF n 0) (mB 2 ts))
abbrev Bf (n:Nat):List T->R T:=nF n 0
abbrev DG (n:Nat):List T->R T:=nF n 1
def Av (a:List T->R T):En->RS:=
  zr (zb 2 a (za (vE 0) (za (cE (.int 3)) (ze))))
def tE:List T->R T:=λts=>zk (Av (Bf 20) (mB 1 ts))
def Ag (a:List T->R T):En->RS:=
  mD (jW (ZX (zb 1 a (za (vE 0) (ze))))) (Kk) (mC)
def Ai:List T->R T:=λts=>zk (Ag (tE) (mB 1 ts))
def AK (a:List T->R T)(c:List T->R T):En->RS:=
  zn (mD (zp my (zd kj (vE 0) (cE (.int 0))) (cE (.str "whole"))) (zr (zd zv (zd jK (zd kj (vE 0) (cE (.int 2))) (zd kj (vE 0) (cE (.int 1)))) (cE (.int 1)))) (mC))
  (zn (mD (zp my (zd kj (vE 0) (cE (.int 0))) (cE (.str "pick"))) (zr (mw Z6 (zd kj (vE 0) (cE (.int 1))))) (mC))
  (zn (mD (zp my (zd kj (vE 0) (cE (.int 0))) (cE (.str "row"))) (zr (zb 1 a (za (zd kj (vE 0) (cE (.int 1))) (ze)))) (mC))
  (zr (zb 2 c (za (vE 0) (za (zd zv (zd kj (vE 0) (cE (.int 3))) (cE (.int 1))) (ze)))))))
def pZ (a:List T->R T):En->RS:=
  zn (zC 1 (cE (.int 1)))
  (zn (ZD (Z5 (vE 0)) (zw 2) (zC 1 (zd zU (vE 1) (zb 1 a (za (vE 2) (ze))))))
  (zr (vE 1)))
def sD (a:List T->R T):En->RS:=
  zr (mw qh (zA (Jy (zd kj (vE 0) (cE (.int 2))) (vE 1)) (zw 0) (zV) (zb 1 a (za (zd zU (Zc (za (zd kj (vE 1) (cE (.int 1))) (ze))) (vE 0)) (ze))) 1 [0]))
def nS:Nat->Nat->List T->R T
 | 0,_=>λ_=> .bad
 | n+1,0=>λts=>zk (AK (nS n 1) (nS n 2) (mB 1 ts))
 | n+1,1=>λts=>zk (pZ (nS n 0) (mB 3 ts))
 | n+1,_=>λts=>zk (sD (nS n 1) (mB 2 ts))
abbrev o4 (n:Nat):List T->R T:=nS n 0
abbrev DE (n:Nat):List T->R T:=nS n 1
abbrev pJ (n:Nat):List T->R T:=nS n 2
def tF:En->RS:=
  zr (zA (Z5 (zd kj (vE 0) (cE (.int 1)))) (zw 0) (zV) (zd kj (vE 0) (cE (.int 0))) 1 [])
def nK:List T->R T:=λts=>zk (tF  (mB 1 ts))
def A2 (d:List T->R T)(c:List T->R T)(a:List T->R T):En->RS:=
  zn (mD (zp my (zd kj (vE 0) (cE (.int 0))) (cE (.str "whole"))) (zr (zd zv (zd kj (vE 0) (cE (.int 1))) (vE 1))) (mC))
  (zn (mD (zp my (zd kj (vE 0) (cE (.int 0))) (cE (.str "pick"))) (zr (zd kj (zb 1 d (za (vE 0) (ze))) (vE 1))) (mC))
  (zn (mD (zp my (zd kj (vE 0) (cE (.int 0))) (cE (.str "row"))) (zr (zb 2 a (za (zd kj (vE 0) (cE (.int 1))) (za (vE 1) (ze))))) (mC))
  (zr (zb 2 c (za (vE 0) (za (vE 1) (ze)))))))
def rO (c:List T->R T)(a:List T->R T):En->RS:=
  zn (zC 2 (zd kj (vE 0) (cE (.int 2))))
  (zn (Zo (zp mL (zb 2 c (za (vE 0) (za (zd zv (vE 2) (cE (.int 1))) (ze)))) (vB 1)) (zC 2 (zd zv (vE 2) (cE (.int 1)))) (8))
  (zr (zb 2 a (za (zd zU (Zc (za (zd kj (vE 0) (cE (.int 1))) (ze))) (vE 2)) (za (zd jK (vE 1) (zb 2 c (za (vE 0) (za (vE 2) (ze))))) (ze))))))
def rY (c:List T->R T)(a:List T->R T):En->RS:=
  zn (uO 2 (ze))
  (zn (zC 3 (vE 1))
  (zn (ZD (BI (vE 0)) (zw 4) (zn (zC 5 (zb 1 c (za (vE 4) (ze))))
  (zn (Us 2 (zb 2 a (za (vE 4) (za (zd jL (vE 3) (vE 5)) (ze)))))
  (zC 3 (zd Wb (vE 3) (vE 5))))))
  (zr (mw VG (vE 2)))))
def nZ:Nat->Nat->List T->R T
 | 0,_=>λ_=> .bad
 | n+1,0=>λts=>zk (A2 (nK) (nZ n 1) (nZ n 2) (mB 2 ts))
 | n+1,1=>λts=>zk (rO (pJ 20) (nZ n 2) (mB 3 ts))
 | n+1,_=>λts=>zk (rY (o4 20) (nZ n 0) (mB 6 ts))
abbrev su (n:Nat):List T->R T:=nZ n 0
abbrev Bq (n:Nat):List T->R T:=nZ n 1
abbrev Dl (n:Nat):List T->R T:=nZ n 2
def AX (a:List T->R T)(c:List T->R T)(d:List T->R T):En->RS:=
  zn (jA (zb 1 a (za (vE 0) (ze))))
  (zn (zC 1 (zb 1 c (za (vE 0) (ze))))
  (zn (mD (zp nv (vB 1) (cE (.int 500))) (Kk) (mC))
  (Aa (Zi (vE 1)) (zw 0) (zV) (zb 2 d (za (vE 1) (za (vE 0) (ze)))) 1 [0])))
def oZ:List T->R T:=λts=>zk (AX (Ai) (o4 20) (su 20) (mB 2 ts))
def Ah (a:List T->R T):En->RS:=
  zn (mD (jW (ZX (mw (WS "tuple") (vB 0)))) (zr (Zc (za (vE 0) (ze)))) (mC))
  (zn (uO 1 (ze))
  (zn (ZD (Z5 (vE 0)) (zw 2) (vY 1 (zb 1 a (za (vE 2) (ze)))))
  (zr (vE 1))))
def sU:Nat->Nat->List T->R T
 | 0,_=>λ_=> .bad
 | n+1,_=>λts=>zk (Ah (sU n 0) (mB 3 ts))
abbrev pK (n:Nat):List T->R T:=sU n 0
def CU (c:List T->R T)(a:List T->R T):En->RS:=
  zr (zA (Z5 (zb 1 a (za (vE 0) (ze)))) (zw 0) (ZX (zb 1 c (za (vE 0) (ze)))) (vE 0) 1 [])
def tT:List T->R T:=λts=>zk (CU (nT) (pK 8) (mB 1 ts))
def sW:En->RS:=
  zr (mZ (ZX (mw (WS "tuple") (vB 0))) (vE 0) (Za (za (vE 0) (ze))))
def tM:List T->R T:=λts=>zk (sW  (mB 1 ts))
def C4:En->RS:=
  zr (mw Vn (zA (Yb (vE 0) (nj (vE 0) (Zj (cE (.int 1))) (np))) (zN 0 1) (zV) (ZL mL (vB 0) (vB 1)) 2 []))
def B4:List T->R T:=λts=>zk (C4  (mB 1 ts))
def DK:En->RS:=
  zr (vX (mw BK (zA (wa (vE 0)) (zN 0 1) (zV) (ZL nt (vB 1) (nj (vE 2) (np) (Zj (vE 0)))) 2 [0])))
def BD:List T->R T:=λts=>zk (DK  (mB 1 ts))
def tV (a:List T->R T)(f:List T->R T)(c:List T->R T)(e:List T->R T)(d:List T->R T):En->RS:=
  zn (mD (zp my (zd kj (vE 0) (cE (.int 0))) (cE (.str "sum"))) (zr (ny mL mL (zd kj (vE 0) (cE (.int 1))) (mw qh (zb 1 c (za (vE 1) (ze)))) (zd kj (vE 0) (cE (.int 2))))) (mC))
  (zn (mD (zp my (zd kj (vE 0) (cE (.int 0))) (cE (.str "size"))) (zr (ny mL mL (zd kj (vE 0) (cE (.int 1))) (mw Z6 (zb 1 a (za (vE 1) (ze)))) (zd kj (vE 0) (cE (.int 2))))) (mC))
  (zn (mD (zp my (zd kj (vE 0) (cE (.int 0))) (cE (.str "word"))) (zr (ZL nt (zd kj (vE 0) (cE (.int 1))) (zb 1 f (za (vE 1) (ze))))) (mC))
  (zn (mD (zp my (zd kj (vE 0) (cE (.int 0))) (cE (.str "rising"))) (zr (zb 1 e (za (zb 1 c (za (vE 1) (ze))) (ze)))) (mC))
  (zr (zb 1 d (za (zb 1 a (za (vE 1) (ze))) (ze)))))))
def rZ:List T->R T:=λts=>zk (tV (tM) (pK 8) (tT) (B4) (BD) (mB 2 ts))
def An (a:List T->R T)(c:List T->R T):En->RS:=
  zn (mD (zp my (zd kj (vE 0) (cE (.int 0))) (cE (.str "no"))) (zr (vX (zb 2 a (za (zd kj (vE 0) (cE (.int 1))) (za (vE 1) (ze)))))) (mC))
  (zn (mD (zp my (zd kj (vE 0) (cE (.int 0))) (cE (.str "all"))) (zr (j8 (zb 2 a (za (zd kj (vE 0) (cE (.int 1))) (za (vE 1) (ze)))) (zb 2 a (za (zd kj (vE 0) (cE (.int 2))) (za (vE 1) (ze)))))) (mC))
  (zn (mD (zp my (zd kj (vE 0) (cE (.int 0))) (cE (.str "some"))) (zr (pP (zb 2 a (za (zd kj (vE 0) (cE (.int 1))) (za (vE 1) (ze)))) (zb 2 a (za (zd kj (vE 0) (cE (.int 2))) (za (vE 1) (ze)))))) (mC))
  (zr (zb 2 c (za (vE 0) (za (vE 1) (ze)))))))
def oo:Nat->Nat->List T->R T
 | 0,_=>λ_=> .bad
 | n+1,_=>λts=>zk (An (oo n 0) (rZ) (mB 2 ts))
abbrev n5 (n:Nat):List T->R T:=oo n 0
def tY:En->RS:=
  zr (zd wH (zd DX (cE (.int 0)) (zd kj (vE 0) (cE (.int 1)))) (zd kj (vE 0) (cE (.int 2))))
def oG:List T->R T:=λts=>zk (tY  (mB 1 ts))
def pp (d:List T->R T)(c:List T->R T)(a:List T->R T):En->RS:=
  zn (mD (zp my (zd kj (vE 0) (cE (.int 0))) (cE (.str "whole"))) (zr (mw G9 (zd jK (vE 1) (zb 1 c (za (vE 0) (ze)))))) (mC))
  (zn (mD (zp my (zd kj (vE 0) (cE (.int 0))) (cE (.str "pick"))) (zr (G8 Xc (zb 1 d (za (vE 0) (ze))) (vB 1))) (mC))
  (zn (mD (zp my (zd kj (vE 0) (cE (.int 0))) (cE (.str "row"))) (zr (zb 2 a (za (zd kj (vE 0) (cE (.int 1))) (za (vE 1) (ze))))) (mC))
  (zr (zd jK (zd zv (zb 2 a (za (zd zU (Zc (za (zd kj (vE 0) (cE (.int 1))) (ze))) (mw Z6 (vB 1))) (za (vE 1) (ze)))) (mw Z6 (vB 1))) (zd kj (vE 0) (cE (.int 2)))))))
def As (a:List T->R T):En->RS:=
  zr (mw qh (zA (Yb (vE 0) (vE 1)) (zN 0 1) (zV) (zb 2 a (za (vE 0) (za (vE 1) (ze)))) 2 []))
def nV:Nat->Nat->List T->R T
 | 0,_=>λ_=> .bad
 | n+1,0=>λts=>zk (pp (nK) (oG) (nV n 1) (mB 2 ts))
 | n+1,_=>λts=>zk (As (nV n 0) (mB 2 ts))
abbrev oU (n:Nat):List T->R T:=nV n 0
abbrev re (n:Nat):List T->R T:=nV n 1
def Ad (c:List T->R T)(a:List T->R T)(d:List T->R T)(e:List T->R T):En->RS:=
  zn (jA (zb 1 a (za (vE 1) (ze))))
  (zn (zC 2 (zA (Z5 (zb 1 c (za (vE 0) (ze)))) (zw 0) (jW (ZX (zb 2 d (za (vE 1) (za (vE 0) (ze)))))) (vE 0) 1 [1]))
  (zr (VS [0] (zb 2 e (za (vE 1) (za (vE 0) (ze)))) (vE 2) (cE .non))))
def CK:List T->R T:=λts=>zk (Ad (oZ) (oJ) (n5 8) (oU 20) (mB 3 ts))
def AJ (a:List T->R T):En->RS:=
  zn (mD (jW (ZX (mw (D7 "list" "tuple") (vE 0)))) (Kk) (mC))
  (ZD (Z5 (vE 0)) (zw 1) (jA (zb 1 a (za (vE 1) (ze)))))
def pB:List T->R T:=λts=>zk (AJ (oJ) (mB 2 ts))
def BA (a:List T->R T):En->RS:=
  zr (mw sx (zA (Z5 (vE 0)) (zw 0) (zV) (zb 2 a (za (vE 0) (za (vE 1) (ze)))) 1 [1]))
def Az:List T->R T:=λts=>zk (BA (n5 8) (mB 2 ts))
def zP:List T->R (List WE):=D1 (oZ) (Az)
def J6:List T->R T:=λa=>BV (DW (pB) (zP) a)
def AB (a:List T->R T):En->RS:=
  zn (mD (jW (ZX (mw (WS "tuple") (vB 0)))) (zr (Zc (za (vE 0) (ze)))) (mC))
  (zn (zC 1 (Zc (ze)))
  (zn (ZD (Z5 (vE 0)) (zw 2) (zC 1 (zd zv (vE 1) (zb 1 a (za (vE 2) (ze))))))
  (zr (vE 1))))
def rT:Nat->Nat->List T->R T
 | 0,_=>λ_=> .bad
 | n+1,_=>λts=>zk (AB (rT n 0) (mB 3 ts))
abbrev sC (n:Nat):List T->R T:=rT n 0
def Aq (c:List T->R T)(a:List T->R T):En->RS:=
  zn (zC 2 (zA (Z5 (zb 1 c (za (vE 1) (ze)))) (zw 0) (ZX (mw (WS "int") (vB 0))) (vE 0) 1 []))
  (zn (zC 3 (mZ (ZX (mw (WS "tuple") (vB 1))) (vE 1) (Za (za (vE 1) (ze)))))
  (zn (mD (zp my (zd kj (vE 0) (cE (.int 0))) (cE (.str "sum"))) (zn (zC 4 (cE (.int 0)))
  (zn (ZD (Z5 (vE 2)) (zw 5) (zC 4 (zd zv (vE 4) (vE 5))))
  (zr (j8 (ZL mL (zd kj (vE 0) (cE (.int 1))) (vB 4)) (ZL mL (vB 4) (zd kj (vE 0) (cE (.int 2)))))))) (mC))
  (zn (mD (zp my (zd kj (vE 0) (cE (.int 0))) (cE (.str "size"))) (zr (j8 (ZL ox (mw Z6 (vB 3)) (zd kj (vE 0) (cE (.int 1)))) (ZL mL (mw Z6 (vB 3)) (zd kj (vE 0) (cE (.int 2)))))) (mC))
  (zn (mD (zp my (zd kj (vE 0) (cE (.int 0))) (cE (.str "word"))) (zr (ZL mW (zA (Z5 (zb 1 c (za (vE 1) (ze)))) (zw 0) (zp my (vB 0) (zd kj (vE 1) (cE (.int 1)))) (vE 0) 1 [0]) (Zc (ze)))) (mC))
  (zn (mD (zp my (zd kj (vE 0) (cE (.int 0))) (cE (.str "rising"))) (zr (ZL my (vB 2) (mw VH (vB 2)))) (mC))
  (zn (mD (zp my (zd kj (vE 0) (cE (.int 0))) (cE (.str "unlike"))) (zr (ZL my (zA (Zi (mw Z6 (vB 3))) (zw 0) (zp nt (zd kj (vE 1) (vE 0)) (nj (vE 1) (np) (Zj (vE 0)))) (vE 0) 1 [3]) (Zc (ze)))) (mC))
  (zn (mD (zp my (zd kj (vE 0) (cE (.int 0))) (cE (.str "no"))) (zr (vX (zb 2 a (za (zd kj (vE 0) (cE (.int 1))) (za (vE 1) (ze)))))) (mC))
  (zn (zC 6 (zA (Z5 (nj (vE 0) (Zj (cE (.int 1))) (np))) (zw 0) (zV) (zb 2 a (za (vE 0) (za (vE 1) (ze)))) 1 [1]))
  (zr (mZ (zp my (zd kj (vE 0) (cE (.int 0))) (cE (.str "all"))) (j8 (zd kj (vE 6) (cE (.int 0))) (zd kj (vE 6) (cE (.int 1)))) (pP (zd kj (vE 6) (cE (.int 0))) (zd kj (vE 6) (cE (.int 1))))))))))))))
def nC:Nat->Nat->List T->R T
 | 0,_=>λ_=> .bad
 | n+1,_=>λts=>zk (Aq (sC 8) (nC n 0) (mB 7 ts))
abbrev pH (n:Nat):List T->R T:=nC n 0
def Ax:En->RS:=
  zn (Zo (zp mW (vB 1) (cE (.int 0))) (zn (zC 2 (zd jL (vE 0) (vE 1)))
  (zn (zC 0 (vE 1))
  (zC 1 (vE 2)))) (2 ^ 9000))
  (zr (vE 0))
def tR:List T->R T:=λts=>zk (Ax  (mB 3 ts))
def tQ (a:List T->R T):En->RS:=
  zn (zC 2 (zb 2 a (za (mw G9 (vB 0)) (za (vE 1) (ze)))))
  (zr (Za (za (zd Ga (vE 0) (vE 2)) (za (zd Ga (vE 1) (vE 2)) (ze)))))
def rW:List T->R T:=λts=>zk (tQ (tR) (mB 3 ts))
def Au (a:List T->R T):En->RS:=
  zr (zb 2 a (za (zd zv (zd oq (zd kj (vE 0) (cE (.int 0))) (zd kj (vE 1) (cE (.int 1)))) (zd oq (zd kj (vE 1) (cE (.int 0))) (zd kj (vE 0) (cE (.int 1))))) (za (zd oq (zd kj (vE 0) (cE (.int 1))) (zd kj (vE 1) (cE (.int 1)))) (ze))))
def tK:List T->R T:=λts=>zk (Au (rW) (mB 2 ts))
def AU (a:List T->R T):En->RS:=
  zn (zC 1 (Za (za (cE (.int 0)) (za (cE (.int 1)) (ze)))))
  (zn (ZD (Z5 (vE 0)) (zw 2) (zC 1 (zb 2 a (za (vE 1) (za (vE 2) (ze))))))
  (zr (vE 1)))
def Bh:List T->R T:=λts=>zk (AU (tK) (mB 3 ts))
def Cy (a:List T->R T):En->RS:=
  VM 1 (zd kj (vE 0) (cE (.int 1))) a
def AY:List T->R T:=λts=>zk (Cy (rW) (mB 3 ts))
def tP (a:List T->R T):En->RS:=
  zr (zb 2 a (za (zd oq (zd kj (vE 0) (cE (.int 0))) (zd kj (vE 1) (cE (.int 0)))) (za (zd oq (zd kj (vE 0) (cE (.int 1))) (zd kj (vE 1) (cE (.int 1)))) (ze))))
def oX:List T->R T:=λts=>zk (tP (rW) (mB 2 ts))
def ph (e:List T->R T)(d:List T->R T)(c:List T->R T)(a:List T->R T):En->RS:=
  zn (mD (zp my (zd kj (vE 0) (cE (.int 0))) (cE (.str "whole"))) (zr (Za (za (cE (.int 1)) (za (zb 1 e (za (vE 0) (ze))) (ze))))) (mC))
  (zn (mD (zp my (zd kj (vE 0) (cE (.int 0))) (cE (.str "pick"))) (zr (zb 2 c (za (vE 0) (za (vE 1) (ze))))) (mC))
  (zn (mD (zp my (zd kj (vE 0) (cE (.int 0))) (cE (.str "row"))) (zr (zb 2 a (za (zd kj (vE 0) (cE (.int 1))) (za (vE 1) (ze))))) (mC))
  (zn (zC 2 (Za (za (cE (.int 1)) (za (zd zv (zd jK (zd kj (vE 0) (cE (.int 3))) (zd kj (vE 0) (cE (.int 2)))) (cE (.int 1))) (ze)))))
  (zr (zb 2 d (za (vE 2) (za (zb 2 a (za (zd zU (Zc (za (zd kj (vE 0) (cE (.int 1))) (ze))) (mw Z6 (vB 1))) (za (vE 1) (ze)))) (ze))))))))
def Ay (c:List T->R T)(a:List T->R T):En->RS:=
  zn (zC 2 (Za (za (cE (.int 1)) (za (cE (.int 1)) (ze)))))
  (zn (ZD (Yb (vE 0) (vE 1)) (zN 3 4) (zC 2 (zb 2 c (za (vE 2) (za (zb 2 a (za (vE 3) (za (vE 4) (ze)))) (ze))))))
  (zr (vE 2)))
def n6:Nat->Nat->List T->R T
 | 0,_=>λ_=> .bad
 | n+1,0=>λts=>zk (ph (o4 20) (oX) (AY) (n6 n 1) (mB 3 ts))
 | n+1,_=>λts=>zk (Ay (oX) (n6 n 0) (mB 5 ts))
abbrev AZ (n:Nat):List T->R T:=n6 n 0
abbrev BZ (n:Nat):List T->R T:=n6 n 1
def Bx (c:List T->R T)(a:List T->R T):En->RS:=
  zr (zb 1 c (za (zA (Z5 (vE 1)) (zw 0) (zV) (zb 2 a (za (vE 1) (za (vE 0) (ze)))) 1 [0]) (ze)))
def AE:List T->R T:=λts=>zk (Bx (Bh) (AZ 20) (mB 2 ts))
def AR (c:List T->R T)(d:List T->R T)(a:List T->R (List WE)):En->RS:=
  zn (jA (zb 1 d (za (vE 1) (ze))))
  (Xp 2 a (za (vE 0) (za (vE 1) (ze))) (zN 0 1) (zV) (Za (za (vE 0) (za (mw Z6 (vB 1)) (za (zb 2 c (za (vE 2) (za (vE 1) (ze)))) (ze))))) 2 [0])
def sk:List T->R T:=λts=>zk (AR (AE) (pB) (zP) (mB 3 ts))
def oh (d:List T->R T)(c:List T->R T)(e:List T->R T)(a:List T->R T):En->RS:=
  zn (mD (zp my (zd kj (vE 0) (cE (.int 0))) (cE (.str "whole"))) (zr (j8 (zb 1 d (za (vE 1) (ze))) (ny mL mL (zd kj (vE 0) (cE (.int 1))) (vB 1) (zd kj (vE 0) (cE (.int 2)))))) (mC))
  (zn (mD (zp my (zd kj (vE 0) (cE (.int 0))) (cE (.str "pick"))) (zr (ZL nt (vB 1) (zb 1 e (za (vE 0) (ze))))) (mC))
  (zn (mD (zp my (zd kj (vE 0) (cE (.int 0))) (cE (.str "row"))) (zr (j8 (zb 3 c (za (vE 1) (za (mw Z6 (zd kj (vE 0) (cE (.int 1)))) (za (mw Z6 (zd kj (vE 0) (cE (.int 1)))) (ze))))) (zb 2 a (za (zd kj (vE 0) (cE (.int 1))) (za (vE 1) (ze)))))) (mC))
  (zr (j8 (zb 3 c (za (vE 1) (za (zd kj (vE 0) (cE (.int 2))) (za (zd kj (vE 0) (cE (.int 3))) (ze))))) (zb 2 a (za (zd zU (Zc (za (zd kj (vE 0) (cE (.int 1))) (ze))) (mw Z6 (vB 1))) (za (vE 1) (ze))))))))
def tq (a:List T->R T):En->RS:=
  zr (mw Vn (zA (Yb (vE 0) (vE 1)) (zN 0 1) (zV) (zb 2 a (za (vE 0) (za (vE 1) (ze)))) 2 []))
def og:Nat->Nat->List T->R T
 | 0,_=>λ_=> .bad
 | n+1,0=>λts=>zk (oh (nT) (nP) (nK) (og n 1) (mB 2 ts))
 | n+1,_=>λts=>zk (tq (og n 0) (mB 2 ts))
abbrev Ey (n:Nat):List T->R T:=og n 0
abbrev CZ (n:Nat):List T->R T:=og n 1
def A3 (a:List T->R T)(c:List T->R T):En->RS:=
  zn (jA (zb 1 a (za (vE 0) (ze))))
  (zr (zb 2 c (za (vE 0) (za (vE 1) (ze)))))
def CO:List T->R T:=λts=>zk (A3 (Ai) (Ey 20) (mB 2 ts))
def AW (a:List T->R T):En->RS:=
  mD (jW (ZX (zb 2 a (za (vE 0) (za (vE 1) (ze)))))) (Kk) (mC)
def sv:List T->R T:=λts=>zk (AW (CO) (mB 2 ts))
def A4 (c:List T->R T)(a:List T->R T):En->RS:=
  zn (jA (zb 2 c (za (vE 0) (za (vE 1) (ze)))))
  (zr (zb 2 a (za (vE 0) (za (vE 1) (ze)))))
def oF:List T->R T:=λts=>zk (A4 (sv) (oU 20) (mB 2 ts))
def sX (a:List T->R T):En->RS:=
  zn (zC 2 (zb 1 a (za (vE 0) (ze))))
  (zn (mD (zp my (vB 1) (vB 2)) (zr (Zc (ze))) (mC))
  (zr (mZ (zp nv (vB 1) (vB 2)) (Zc (za (zd jK (vE 1) (cE (.int 1))) (ze))) (Zc (za (zd zv (vE 1) (cE (.int 1))) (ze))))))
def rQ:List T->R T:=λts=>zk (sX (oG) (mB 3 ts))
def Aj (a:List T->R T):En->RS:=
  zn (zC 2 (zb 1 a (za (vE 0) (ze))))
  (zn (zC 3 (G8 Xc (vB 2) (vB 1)))
  (zr (mZ (zp nv (vB 3) (cE (.int 0))) (Zc (za (zd kj (vE 2) (zd jK (vE 3) (cE (.int 1)))) (ze))) (Zc (ze)))))
def sA:List T->R T:=λts=>zk (Aj (nK) (mB 4 ts))
def A6:En->RS:=
  zn (mD (zp my (mw Z6 (vB 1)) (zd kj (vE 0) (cE (.int 2)))) (zr (Zc (ze))) (mC))
  (zr (zA (Zi (mw Z6 (vB 1))) (zw 0) (zV) (zd zv (nj (vE 1) (np) (Zj (vE 0))) (nj (vE 1) (Zj (zd zv (vE 0) (cE (.int 1)))) (np))) 1 [1]))
def rK:List T->R T:=λts=>zk (A6  (mB 2 ts))
def o6 (c:List T->R T)(d:List T->R T)(e:List T->R T)(a:List T->R T):En->RS:=
  zn (mD (zp my (zd kj (vE 0) (cE (.int 0))) (cE (.str "whole"))) (zr (zb 2 c (za (vE 0) (za (vE 1) (ze))))) (mC))
  (zn (mD (zp my (zd kj (vE 0) (cE (.int 0))) (cE (.str "pick"))) (zr (zb 2 d (za (vE 0) (za (vE 1) (ze))))) (mC))
  (zn (mD (zp my (zd kj (vE 0) (cE (.int 0))) (cE (.str "row"))) (zr (zb 2 a (za (zd kj (vE 0) (cE (.int 1))) (za (vE 1) (ze))))) (mC))
  (zr (zd zv (zb 2 e (za (vE 0) (za (vE 1) (ze)))) (zb 2 a (za (zd zU (Zc (za (zd kj (vE 0) (cE (.int 1))) (ze))) (mw Z6 (vB 1))) (za (vE 1) (ze))))))))
def Af (a:List T->R T):En->RS:=
  zn (uO 2 (ze))
  (zn (ZD (wa (vE 1)) (zN 3 4) (ZD (Z5 (zb 2 a (za (zd kj (vE 0) (vE 3)) (za (vE 4) (ze))))) (zw 5) (Us 2 (zd zv (zd zv (nj (vE 1) (np) (Zj (vE 3))) (Za (za (vE 5) (ze)))) (nj (vE 1) (Zj (zd zv (vE 3) (cE (.int 1)))) (np))))))
  (zr (vE 2)))
def n9:Nat->Nat->List T->R T
 | 0,_=>λ_=> .bad
 | n+1,0=>λts=>zk (o6 (rQ) (sA) (rK) (n9 n 1) (mB 2 ts))
 | n+1,_=>λts=>zk (Af (n9 n 0) (mB 6 ts))
abbrev AC (n:Nat):List T->R T:=n9 n 0
abbrev Dq (n:Nat):List T->R T:=n9 n 1
def C6 (c:List T->R T)(a:List T->R T):En->RS:=
  zr (zA (Z5 (zb 2 a (za (vE 0) (za (vE 1) (ze))))) (zw 0) (jW (ZX (zb 2 c (za (vE 1) (za (vE 0) (ze)))))) (vE 0) 1 [2])
def Ge:List T->R T:=λts=>zk (C6 (n5 8) (AC 20) (mB 3 ts))
def Ar (d:List T->R T)(c:List T->R T)(e:List T->R T)(a:List T->R T):En->RS:=
  zn (jA (zb 1 c (za (vE 2) (ze))))
  (zn (jA (zb 2 d (za (vE 0) (za (vE 1) (ze)))))
  (zn (mD (ZX (zb 2 e (za (vE 2) (za (vE 1) (ze))))) (Kk) (mC))
  (zn (uO 3 (za (vE 1) (ze)))
  (zn (zC 4 (zb 3 a (za (vE 0) (za (vE 1) (za (vE 2) (ze))))))
  (zn (Zo (zp nv (mw Z6 (vB 4)) (cE (.int 0))) (zn (Us 3 (zd kj (vE 4) (cE (.int 0))))
  (zC 4 (zb 3 a (za (vE 0) (za (zd kj (vE 4) (cE (.int 0))) (za (vE 2) (ze))))))) (1000000))
  (zr (vE 3)))))))
def rP:List T->R T:=λts=>zk (Ar (sv) (oJ) (n5 8) (Ge) (mB 5 ts))
def A1 (c:List T->R T)(a:List T->R T):En->RS:=
  zn (jA (zb 2 c (za (vE 0) (za (vE 1) (ze)))))
  (zr (zb 2 a (za (vE 0) (za (vE 1) (ze)))))
def AO:List T->R T:=λts=>zk (A1 (sv) (AC 20) (mB 2 ts))
def AA (c:List T->R T)(a:List T->R T)(d:List T->R T):En->RS:=
  zn (jA (zb 1 a (za (vE 1) (ze))))
  (zr (zA (Z5 (zb 1 c (za (vE 0) (ze)))) (zw 0) (ZX (zb 2 d (za (vE 1) (za (vE 0) (ze))))) (vE 0) 1 [1]))
def Cd:List T->R T:=λts=>zk (AA (oZ) (oJ) (n5 8) (mB 2 ts))
def AQ (c:List T->R T)(a:List T->R T)(d:List T->R T):En->RS:=
  zn (jA (zb 1 d (za (Za (za (vE 1) (za (vE 2) (ze)))) (ze))))
  (zr (mw Vn (zA (Z5 (zb 2 a (za (vE 0) (za (vE 1) (ze))))) (zw 0) (zV) (zb 2 c (za (vE 1) (za (vE 0) (ze)))) 1 [2])))
def Gf:List T->R T:=λts=>zk (AQ (n5 8) (Cd) (pB) (mB 3 ts))
def AF (o:List T->R T)(k:List T->R T)(l:List T->R T)(g:List T->R T)(e:List T->R T)(i:List T->R T)(a:List T->R T)(d:List T->R T)(j:List T->R T)(f:List T->R T)(c:List T->R T):En->RS:=
  zn (zC 1 (zb 3 k (za (vE 0) (za (cE (.int 0)) (za (cE (.int 40)) (ze))))))
  (zn (rX (Za (za (zb 3 l (za (vE 0) (za (cE (.int 3000)) (za (cE (.int 2)) (ze))))) (za (zb 3 l (za (vE 0) (za (cE (.int 3200)) (za (cE (.int 2)) (ze))))) (ze)))) (zN 2 3))
  (zn (rX (Za (za (zb 2 c (za (vE 1) (za (vE 2) (ze)))) (za (Zc (ze)) (ze)))) (zN 4 5))
  (zn (ZD (Z5 (zb 2 a (za (vE 1) (za (Zc (za (vE 2) (ze))) (ze))))) (zw 6) (mD (jW (ZX (zb 2 g (za (vE 2) (za (zd kj (vE 6) (cE (.int 0))) (ze)))))) (zC 5 (vE 6)) (mC)))
  (zn (mD (zp mW (ZL uU (vB 4) (cE .non)) (ZL my (vB 5) (Zc (ze)))) (zr (cE (.bl false))) (mC))
  (zn (mD (zp mW (mw Z6 (vB 5)) (mw qh (zA (Z5 (zb 2 i (za (vE 1) (za (Zc (za (vE 2) (ze))) (ze))))) (zw 0) (zp my (zd kj (vE 0) (cE (.int 0))) (Za (za (cE (.bl false)) (ze)))) (zd kj (vE 0) (cE (.int 1))) 1 []))) (zr (cE (.bl false))) (mC))
  (zn (mD (zp jV (vB 4) (cE .non)) (zn (zC 7 (mw Kq (zA (Z5 (vE 5)) (zw 0) (zV) (zb 2 d (za (vE 1) (za (vE 0) (ze)))) 1 [1])))
  (mD (zp mW (vB 4) (zd kj (zA (Z5 (vE 5)) (zw 0) (zp my (zb 2 d (za (vE 1) (za (vE 0) (ze)))) (vB 2)) (vE 0) 1 [1,7]) (cE (.int 0)))) (zr (cE (.bl false))) (mC))) (mC))
  (zn (ZD (Zi (zd wH (cE (.int 3)) (mw Z6 (vB 5)))) (zw 8) (zn (zC 9 (zd kj (vE 5) (zb 3 o (za (vE 0) (za (zd zv (cE (.int 100)) (vE 8)) (za (mw Z6 (vB 5)) (ze)))))))
  (zn (zC 10 (zb 3 f (za (vE 1) (za (vE 9) (za (vE 2) (ze))))))
  (zn (mD (nz (zp mW (zd kj (vE 10) (cE (.int 0))) (vB 9)) (zp mW (zA (Z5 (vE 10)) (zw 0) (zp Y8 (vB 0) (vB 1)) (cE (.int 1)) 1 [5]) (Zc (ze)))) (zr (cE (.bl false))) (mC))
  (zn (zC 11 (zA (Z5 (vE 10)) (zw 0) (zV) (zb 2 d (za (vE 1) (za (vE 0) (ze)))) 1 [1]))
  (zn (mD (zp mW (zA (Yb (vE 11) (nj (vE 11) (Zj (cE (.int 1))) (np))) (zN 0 1) (zp ox (vB 1) (vB 0)) (cE (.int 1)) 2 []) (Zc (ze))) (zr (cE (.bl false))) (mC))
  (mD (zp mW (zA (Z5 (zb 2 j (za (vE 1) (za (zd kj (vE 10) (YG (cE (.int 1)))) (ze))))) (zw 0) (jW (ZX (zb 2 g (za (vE 1) (za (vE 0) (ze)))))) (vE 0) 1 [2]) (Zc (ze))) (zr (cE (.bl false))) (mC))))))))
  (zn (zC 12 (zb 2 c (za (vE 1) (za (vE 3) (ze)))))
  (zn (mD (X0 (ZX (zb 3 e (za (vE 1) (za (vE 2) (za (vE 3) (ze)))))) (zp jV (vB 12) (cE .non))) (mD (nz (zp uU (vB 4) (cE .non)) (zp nv (zb 2 d (za (vE 1) (za (vE 4) (ze)))) (zb 2 d (za (vE 1) (za (vE 12) (ze)))))) (zr (cE (.bl false))) (mC)) (mC))
  (zr (ZL my (zb 2 c (za (vE 1) (za (Za (za (cE (.str "all")) (za (vE 2) (za (vE 2) (ze))))) (ze)))) (vB 4))))))))))))
def oV:List T->R T:=λts=>zk (AF (nk) (t7) (Ea 8) (pH 8) (Gf) (sk) (J6) (oF) (AO) (rP) (CK) (mB 13 ts))
end G
namespace G
open PySem L2 PV
noncomputable abbrev mN (ns:List Int):T:= .fz (ns.map T.int)
theorem KQ (d:List Int)(k:Int)(q:0<=k):∃c,rH [mN d,.int k]= .ok (.int c):=by
 have l:rH [mN d,.int k]=zk (if decide (k < ((d.map T.int).length))=true then (mS (d.map T.int) k).s (λt=> .rt t) else
   match (my (mN d) (.lst [])).s (λb=>if b=true then RS.rt (.int 0) else .nx [.vl (mN d),.vl (.int k)]) with
   | .nx ρ' =>zr (zd zv (zd zU (zd kj (vE 0) (zd jL (vE 1) (mw Z6 (vB 0)))) (cE (.int 31))) (vE 1)) ρ'
   | r=>r):=by
  show zk (match (if decide _=true then (mS _ k).s (λt=>RS.rt t) else .nx _) with
   | .nx ρ' =>_
   | r=>r)=_
  cases decide (k < ((d.map _).length:Int)) with
  | true=>
   unfold mS;cases nw _ k <;> rfl
  | false=>rfl
 rw[l,ae]
 by_cases i:k < (d.length)
 ·obtain⟨v,g⟩:∃v,d[k.toNat]? =some v:=⟨d[k.toNat]'(by omega),ah (by omega)⟩
  have f:nw (d.map T.int) k=some (.int v):=by
   have:k=((k.toNat):Int):=by omega
   rw[this];exact Zv (by rw[ao,g];rfl)
  rw[decide_eq_true i];exact⟨v,by unfold mS;rw[f];rfl⟩
 ·rw[decide_eq_false i];cases d with
  | nil=>exact⟨0,rfl⟩
  | cons x xs=>
   have o:=mn k (show (((x :: xs).length):Int) ≠ 0 by simp only[aw];omega)
   have p:=ly k (show (0) < (((x :: xs).length):Int) by simp only[aw];omega)
   obtain⟨v,g⟩:∃v,(x :: xs)[(k % (((x :: xs).length):Int)).toNat]? =some v:=⟨_,ah (by omega)⟩
   have f:nw ((x :: xs).map T.int) (k % (((x :: xs).length):Int))=some (.int v):=by
    have e:k % (((x :: xs).length):Int)=(((k % (((x :: xs).length):Int)).toNat:Nat):Int):=by omega
    rw[e];exact Zv (by rw[ao,g];rfl)
   have j:uN v 31:= .inr ⟨by decide,by decide⟩
   have hp:(0:Int) < (((x :: xs).map T.int).length):=by simp only[ae,aw];omega
   refine⟨v*31+k, ?_⟩;show zk (((((if 0 < (((x :: xs).map _).length:Int) then R.ok _ else .bad).bind λy=>kj _ y).bind λa=>zU a _).bind λa=>zv a _).s λt=> .rt t)=_
   rw[if_pos hp];show zk ((((mS _ _).bind λa=>zU a _).bind λa=>zv a _).s λt=> .rt t)=_;rw[ae];unfold mS;rw[f];show zk ((((if uN v 31 then R.ok _ else .bad)).bind λa=>zv a _).s λt=> .rt t)=_
   rw[if_pos j];rfl
theorem zO (f:List Int)(k m:Int)(l:0<=k)(g:0 < m):∃p,nk [mN f,.int k,.int m]= .ok (.int p)/\0<=p/\p < m:=by
 obtain⟨c,i⟩:=KQ f k l;have a:uN (c+6151*(k+1)) 40692:= .inr ⟨by decide,by decide⟩
 generalize hd:(c+6151*(k+1))*40692 % 2147483399=d;have e:uN d d:= .inl ⟨by omega,by omega⟩
 refine⟨(d*d+d / 31) % 2147483629 % m, ?_,mn _ (by omega),ly _ g⟩
 have j:nk [mN f,.int k,.int m]=zk (match ((((((rH _).bind λx=>(zU (.int 6151) (.int _)).bind λy=>zv x y).bind λx=>zU x _).bind λx=>jL x _)).s λt=>RS.nx _) with
   | .nx ρ' =>zr _ ρ'
   | r=>r):=rfl
 rw[j,i];show zk (match ((((if uN _ _ then R.ok _ else .bad)).bind λx=>jL x _).s λt=>RS.nx _) with
   | .nx ρ' =>_
   | r=>r)=_
 rw[if_pos a];show zk (zr _ _)=_;rw[hd];show zk (((((if uN d d then R.ok _ else .bad).bind λx=>zv x _).bind λx=>jL x _).bind λx=>jL x _).s λt=>RS.rt t)=_
 rw[if_pos e];show zk ((if 0 < m then R.ok _ else .bad).s λt=>RS.rt t)=_
 rw[if_pos g];rfl
theorem Q1:∀(ts:List T) (ρ:En) (x:Sl),zx (zw 0) ft fe ts (ρ.set 0 x)=zx (zw 0) ft fe ts ρ
 | [],_,_=>rfl
 | t :: ts,ρ,x=>by
  unfold zx zw;rw[List.set_set]
theorem Zq {p:T->Bool}{h:T->T}:∀(ts:List T) (ρ:En),(∀t∈ts,ft (ρ.set 0 (.vl t))= .ok (p t)/\(p t=true->fe (ρ.set 0 (.vl t))= .ok (h t)))->zx (zw 0) ft fe ts ρ= .ok ((ts.filter p).map h)
 | [],_,_=>rfl
 | t :: ts,ρ,H=>by
  obtain⟨d,c⟩:=H t aa;have f:=Zq ts ρ λu a=>H u (a9 _ a);have e:zx (zw 0) ft fe (t :: ts) ρ=(ft _).bind λk=>if k=true then (fe _).bind λv=>(zx _ ft fe ts _).bind λvs=> .ok _ else zx _ ft fe ts _:=rfl
  rw[e,d,Q1,f];show (if p t=true then _ else _)=_
  cases hp:p t with
  | true=>rw[c hp,List.filter_cons_of_pos hp];rfl
  | false=>rw[if_neg ax,List.filter_cons_of_neg (by rw[hp];exact ax)]
theorem Q2 {h:T->T}(ts:List T)(ρ:En)(H:∀t∈ts,fe (ρ.set 0 (.vl t))= .ok (h t)):zx (zw 0) zV fe ts ρ= .ok (ts.map h):=by
 have:=Zq (ft:=zV) ts ρ λt a=>⟨rfl,λ_=>H t a⟩;rw[this,List.filter_eq_self.mpr (λ_ _=>rfl)]
theorem zK {h:T->T}{js:List Nat}(ts:List T)(a:ts.length<=mF)(H:∀t∈ts,fe ((Jp k js ρ).set 0 (.vl t))= .ok (h t)):zq (zw 0) zV fe k js ρ ts= .ok (ts.map h):=by
 unfold zq;rw[if_pos a,Q2 ts _ H];rfl
theorem J7 (p:T->Bool):∀ts:List T,WT (ts.map λt=>T.bl (p t))=some (ts.all p)
 | []=>rfl
 | t :: ts=>by
  show (match WT (ts.map λt=>T.bl _) with | some j=>some _ | none=>none)=_
  rw[J7 p ts];rfl
noncomputable def BW:T->Bool
 | .int _=>true
 | _=>false
theorem Wt (t:T):nT [t]= .ok (.bl (BW t)):=by cases t <;> rfl
noncomputable def xh (a b:Nat):T->Bool
 | .tup xs=>decide (a<=xs.length) && decide (xs.length<=b)
 | _=>false
theorem ZH (t:T)(a b:Nat):nP [t,.int a,.int b]= .ok (.bl (xh a b t)):=by
 cases t with
 | tup xs=>
  show zk ((if decide _=true then R.ok _ else .ok _).s λt=> .rt t)=_
  have d:decide ((a:Int)<=(xs.length))=decide (a<=xs.length):=by simp
  have c:decide ((xs.length:Int)<=(b))=decide (xs.length<=b):=by simp
  rw[d,c];show _=R.ok (T.bl (decide _ && decide _));cases decide (a<=xs.length) <;> rfl
 | _=>rfl
noncomputable def Jt (lo hi:Int):T->T->Bool
 | .int i,.int j=>decide (lo<=i) && decide (i<=j) && decide (j<=hi)
 | _,_=>false
theorem Q3 (t u:T)(lo hi:Int):tu [t,u,.int lo,.int hi]= .ok (.bl (Jt lo hi t u)):=by
 cases t with
 | int i=>
  cases u with
  | int j=>
   show zk ((if decide _=true then (if decide _=true then R.ok _ else .ok _) else .ok _).s λt=> .rt t)=_
   show _=R.ok (T.bl (decide _ && decide _ && decide _));cases decide (lo<=i) <;> cases decide (i<=j) <;> rfl
  | _=>rfl
 | _=>cases u <;> rfl
noncomputable def Zy (c:Nat):Bool:=decide (97<=c) && decide (c<=122)
def Zr:T->Bool
 | .str x=>decide (1<=x.length) && decide (x.length<=3) && x.cps.toList.all Zy
 | _=>false
theorem Xq (a b:Nat):decide ([a] < [b])=decide (a < b):=by
 by_cases h:a < b
 ·rw[decide_eq_true h];exact decide_eq_true (List.Lex.rel h)
 ·rw[decide_eq_false h];refine decide_eq_false λz=> ?_;cases z with
  | rel h' =>exact h h'
  | cons h' =>cases h'
theorem KR (c:Nat)(ρ:En):ny mL mL (cE (.str "a")) (vB 0) (cE (.str "z")) ((Sl.vl (.str ⟨#[c]⟩)) :: ρ)= .ok (.bl (Zy c)):=by
 have a:mL (.str "a") (.str ⟨#[c]⟩)= .ok (decide (97<=c)):=by
  show R.ok (!decide ([c] < [97]))=_;rw[Xq]
  by_cases h:c < 97
  ·rw[decide_eq_true h,decide_eq_false (by omega)];rfl
  ·rw[decide_eq_false h,decide_eq_true (by omega)];rfl
 have e:mL (.str ⟨#[c]⟩) (.str "z")= .ok (decide (c<=122)):=by
  show R.ok (!decide ([122] < [c]))=_;rw[Xq]
  by_cases h:122 < c
  ·rw[decide_eq_true h,decide_eq_false (by omega)];rfl
  ·rw[decide_eq_false h,decide_eq_true (by omega)];rfl
 show (mL (.str "a") (.str _)).bind (λk=>if k=true then (mL (.str _) (.str "z")).bind λd =>R.ok (T.bl d) else R.ok _)=_
 rw[a,e];unfold Zy;cases decide (97<=c) <;> rfl
def KS:T->Prop
 | .str x=>x.length<=mF
 | _=>True
theorem Q4 (t:T)(a:KS t):pC [t]= .ok (.bl (Zr t)):=by
 cases t with
 | str x=>
  have d:=a;have i:Z6 (.str x)= .ok _:=if_pos d;have o:zq (zw 0) zV (ny mL mL (cE (.str "a")) (vB 0) (cE (.str "z"))) 1 [] [.vl (.str x)] (JV x)= .ok (x.cps.toList.map λc=>T.bl (Zy c)):=by
   have l:(JV x).length<=mF:=by unfold JV;rw[ae];exact d
   have:=zK (h:=λt=>match t with | .str y=>T.bl (Zy (y.cps.toList.headD 0)) | t=>t) (k:=1) (js:=[]) (ρ:=[.vl (.str x)]) _ l λt a=>by
    obtain⟨c,_,rfl⟩:=aA.mp a;exact KR c []
   rw[this];unfold JV;rw[aZ];rfl
  have f:WT (x.cps.toList.map λc=>T.bl (Zy c))=some (x.cps.toList.all Zy):=by
   have:=J7 (λt=>match t with | .str y=>Zy (y.cps.toList.headD 0) | _=>true) (JV x)
   unfold JV at this;rw[aZ,lK]at this;exact this
  have j:pC [.str x]=zk (match ((((Z6 (.str x)).bind λy=>(mL _ y).bind λk=>if k=true then mL y _ else .ok _).bind λb=> .ok _).s λk=>if k=true then RS.rt _ else .nx _) with
    | .nx ρ' =>zr _ ρ'
    | r=>r):=rfl
  rw[j,i];have g:decide ((1:Int)<=(x.length))=decide (1<=x.length):=by
   by_cases h:1<=x.length
   ·rw[decide_eq_true h];exact decide_eq_true (by omega)
   ·rw[decide_eq_false h];exact decide_eq_false (by omega)
  have e:decide ((x.length:Int)<=(3))=decide (x.length<=3):=by
   by_cases h:x.length<=3
   ·rw[decide_eq_true h];exact decide_eq_true (by omega)
   ·rw[decide_eq_false h];exact decide_eq_false (by omega)
  show zk (match ((((if decide _=true then R.ok _ else .ok _)).bind λb=> .ok _).s λk=>if k=true then RS.rt _ else .nx _) with
    | .nx ρ' =>_
    | r=>r)=_
  rw[g,e];show _=R.ok (T.bl (decide _ && decide _ && x.cps.toList.all _));cases decide (1<=x.length) with
  | false=>rfl
  | true=>
   cases decide (x.length<=3) with
   | false=>rfl
   | true=>
    show zk ((((zq _ _ _ 1 [] [.vl _] _).bind λvs=> .ok _).bind Vn).s λt=> .rt t)=_;rw[o];show zk ((match WT (x.cps.toList.map λc=>T.bl _) with | some k=>R.ok _ | none=> .bad).s λt=> .rt t)=_
    rw[f];rfl
 | _=>rfl
theorem i3 {c d:Type}(a:c)(f:c->R d):(R.ok a).bind f=f a:=rfl
theorem j1 {c:Type}(a:c)(f:c->RS):(R.ok a).s f=f a:=rfl
theorem Ju (r:R T):zk (r.s λt=> .rt t)=r:=by cases r <;> rfl
theorem Zd (f:En->R T)(ρ:En):zr f ρ=(f (frz ρ)).s λt=> .rt t:=rfl
theorem zI:zb 1 g (za f ze) ρ=(f ρ).bind λx=>g [x]:=by
 unfold zb za ze;cases f ρ <;> rfl
theorem zt:zb 2 g (za f (za f' ze)) ρ=(f ρ).bind λx=>(f' ρ).bind λy=>g [x,y]:=by
 unfold zb za ze;cases f ρ with
 | ok a=>cases f' ρ <;> rfl
 | ex c=>rfl
 | bad=>rfl
theorem Zb:zb 3 g (za f (za f' (za f'' ze))) ρ=(f ρ).bind λx=>(f' ρ).bind λy=>(f'' ρ).bind λz=>g [x,y,z]:=by
 unfold zb za ze;cases f ρ with
 | ok a=>
  cases f' ρ with
  | ok b=>cases f'' ρ <;> rfl
  | ex c=>rfl
  | bad=>rfl
 | ex c=>rfl
 | bad=>rfl
theorem HV:zb 4 g (za f (za f' (za f'' (za f3 ze)))) ρ=(f ρ).bind λx=>(f' ρ).bind λy=>(f'' ρ).bind λz=>(f3 ρ).bind λw=>g [x,y,z,w]:=by
 unfold zb za ze;cases f ρ with
 | ok a=>
  cases f' ρ with
  | ok b=>
   cases f'' ρ with
   | ok c=>cases f3 ρ <;> rfl
   | ex c=>rfl
   | bad=>rfl
  | ex c=>rfl
  | bad=>rfl
 | ex c=>rfl
 | bad=>rfl
def Ae (r k:R T):R T:=r.bind λx=>match x with
 | .bl true=>k
 | .bl false=> .ok (.bl false)
 | _=> .bad
theorem J8 (f g:En->R T)(ρ:En):j8 f g ρ=Ae (f ρ) (g ρ):=rfl
theorem Zw (a:Bool)(k:R T):Ae (.ok (.bl a)) k=if a=true then k else .ok (.bl false):=by cases a <;> rfl
theorem v0:vE 0 (.vl t :: ρ)= .ok t:=rfl
theorem v1:vE 1 (a :: .vl t :: ρ)= .ok t:=rfl
theorem w0:vB 0 (.vl t :: ρ)= .ok t:=rfl
theorem w1:vB 1 (a :: .vl t :: ρ)= .ok t:=rfl
theorem zW:cE t ρ= .ok t:=rfl
theorem zh:zd g f f' ρ=(f ρ).bind λx=>(f' ρ).bind λy=>g x y:=rfl
theorem ji:frz (.vl t :: ρ)= .vl t :: frz ρ:=rfl
theorem Wu:frz (.un :: ρ)= .un :: frz ρ:=rfl
theorem jO:frz []=[]:=rfl
theorem Q5:ny g g' fa fb fc ρ=(fa ρ).bind λx=>(fb ρ).bind λy=>(g x y).bind λk=>if k=true then (fc ρ).bind λz=>(g' y z).bind λa => .ok (.bl a) else .ok (.bl false):=rfl
theorem Z8 {g:T->R T}:mw g f ρ=(f ρ).bind g:=rfl
theorem wJ:mL (.int i) (.int j)= .ok (decide (i<=j)):=rfl
theorem Ze:ZL g f f' ρ=(f ρ).bind λx=>(f' ρ).bind λy=>(g x y).bind λb=> .ok (.bl b):=rfl
theorem jP:Z6 (.tup xs)= .ok (.int xs.length):=rfl
theorem DV:Z6 (.lst xs)= .ok (.int xs.length):=rfl
mutual
noncomputable def sOk:T->Prop
 | .str x=>x.length<=mF
 | .tup xs=>UK xs
 | .lst xs=>UK xs
 | .fz xs=>UK xs
 | _=>True
noncomputable def UK:List T->Prop
 | []=>True
 | t :: ts=>sOk t/\UK ts
end
theorem J9:∀{ts:List T} {t:T},UK ts->t∈ts->sOk t
 | u :: ts,t,h,a=>by
  have h' :=by simpa only[UK] using h
  rcases ak.mp a with rfl | a
  ·exact h'.1
  ·exact J9 h'.2 a
theorem sOk.str (h:sOk t):KS t:=by
 cases t with
 | str x=>
  have h' :=by simpa only[sOk] using h
  exact h'
 | _=>trivial
theorem Wv {xs:List T}(h:sOk (.tup xs)):UK xs:=by simpa only[sOk] using h
def zX:T->Bool
 | .tup [w,.int i]=>Zr w && decide (1<=i) && decide (i<=20)
 | _=>false
theorem Q6 (t:T)(a:sOk t):sV [t]= .ok (.bl (zX t)):=by
 have e:sV [t]=zk (AM _ _ _ [.vl t]):=rfl;rw[e,AM];simp only[Zd,Ju,ji,jO,J8,Zb,zI,v0,zW,i3,zh,Q5];rw[show nP [t,.int 2,.int 2]= .ok _ from ZH t 2 2,Zw];cases t with
 | tup xs=>
  match xs,a with
  | [],_=>rfl
  | [_],_=>rfl
  | _ :: _ :: _ :: _,_=>simp[xh,zX]
  | [w,n],a=>
   have c:sOk w:=J9 (Wv a) (by simp)
   show (if true=true then Ae (pC [w]) (Ae (nT [n]) ((mL _ n).bind λk=>if k=true then (mL n _).bind λd =>R.ok _ else .ok _)) else _)=_
   rw[Q4 w c.str,Wt,Zw,Zw];cases n with
   | int i=>
    show (if Zr w=true then (if true=true then (if decide _=true then R.ok _ else .ok _) else _) else _)=R.ok (T.bl (Zr w && decide _ && decide _))
    cases Zr w <;> cases decide (1<=i) <;> rfl
   | _=>
    cases Zr w <;> rfl
 | _=>rfl
theorem zY (f g:En->RS)(ρ:En):zn f g ρ=match f ρ with | .nx ρ' =>g ρ' | r=>r:=rfl
theorem j9 (g:En->R Bool)(a c:En->RS)(ρ:En):mD g a c ρ=(g ρ).s λk=>if k=true then a ρ else c ρ:=rfl
theorem U2 (f g:En->R Bool)(ρ:En):nz f g ρ=(f ρ).bind λx=>if x=true then .ok true else g ρ:=rfl
theorem Jv (f:En->R Bool)(ρ:En):jW f ρ=(f ρ).bind λx=> .ok (!x):=rfl
theorem j6 (f:En->R T)(ρ:En):ZX f ρ=(f ρ).bind C7:=rfl
theorem UL (k:Bool):C7 (.bl k)= .ok k:=rfl
theorem wg (i:Nat)(f:En->R T)(ρ:En):zC i f ρ=(f ρ).s λt=> .nx (ρ.set i (.vl t)):=rfl
theorem zB:zp g f f' ρ=(f ρ).bind λx=>(f' ρ).bind λy=>g x y:=rfl
theorem zJ {g:T->En->R En}{js:List Nat}:zA fi g ft fe k js ρ=(fi ρ).bind λts=>(zq g ft fe k js ρ ts).bind λvs=> .ok (.lst vs):=rfl
theorem Zs:Z5 f ρ=(f ρ).bind JW:=rfl
noncomputable def j7:T->Str
 | .tup (.str w :: _)=>w
 | _=>⟨#[]⟩
def UM:T->Bool
 | .tup a=>decide (1<=a.length) && decide (a.length<=4) && a.all zX && decide ((dd [] (a.map j7)).length=a.length)
 | _=>false
theorem ut (h:zX c=true):∃w n,c= .tup [.str w,n]:=by
 unfold zX at h;split at h
 ·rename_i w i;cases w with
  | str x=>exact⟨x,_,rfl⟩
  | _=>cases h
 ·cases h
theorem wW:∀{a:List T},a.all zX=true->Ya (a.map λc=>T.str (j7 c))=some (a.map j7)
 | [],_=>rfl
 | c :: a,h=>by
  rw[cX,aj]at h;have d:=wW h.2;show (match Ya (a.map λc=>T.str _) with | some e=>some _ | none=>none)=_
  rw[d];rfl
theorem yU (t:T)(u:sOk t):pW [t]= .ok (.bl (UM t)):=by
 have e:pW [t]=zk (sZ _ _ [.vl t,.un]):=rfl;rw[e,sZ];simp only[zY,j9,U2,Jv,j6,Zb,v0,zW,i3];rw[show nP [t,.int 1,.int 4]= .ok _ from ZH t 1 4];cases t with
 | tup a=>
  have p:xh 1 4 (.tup a)=(decide _ && decide _):=rfl;rw[p];show _=R.ok (T.bl (decide _ && decide _ && a.all _ && decide _));cases f:(decide (1<=a.length) && decide (a.length<=4)) with
  | false=>rfl
  | true=>
   rw[aj,decide_eq_true_eq,decide_eq_true_eq]at f;have i:a.length<=mF:=av f.2 (by decide)
   have q:zq _ _ (zb 1 sV (za (vE 0) ze)) 1 [] [.vl (.tup a),.un] a= .ok (a.map λc=>T.bl _):=
    zK a i λc g=>by
     exact Q6 c (J9 (Wv u) g)
   simp only[eD,aI,if_false,Z8,zJ,Zs,v0,i3,JW,q];have o:Vn (.lst (a.map λc=>T.bl (zX c)))= .ok (.bl (a.all zX)):=by
    show (match WT (a.map λc=>T.bl _) with | some k=>R.ok _ | none=> .bad)=_
    rw[J7]
   rw[o];simp only[i3,UL,j1];cases d:a.all _ with
   | false=>rfl
   | true=>
    have l:zq _ _ (zd kj (vE 0) (cE (.int 0))) 1 [] [.vl (.tup a),.un] a= .ok (a.map λc=>T.str (j7 c)):=
     zK a i λc g=>by
      obtain⟨w,n,rfl⟩:=ut (aJ.mp d c g);rfl
    simp only[eD,aI,if_false,mC,wg,zJ,Zs,v0,i3,JW,l,j1,Zd];show zk (((Vw (.lst (a.map λc=>T.str _))).bind λx=>(Z6 (.lst (a.map λc=>T.str _))).bind λy=>(my x y).bind λb=>R.ok _).s λt=> .rt t)=_;have r:Vw (.lst (a.map λc=>T.str (j7 c)))= .ok (.int (dd [] (a.map j7)).length):=by
     show (match Ya (a.map λc=>T.str _) with | some v=>if (a.map λc=>T.str _).length+1 < 4096 then R.ok _ else .bad | none=> .bad)=_
     rw[wW d];exact if_pos (by rw[ae];omega)
    rw[r,DV,ae];show R.ok _=_;congr 2
    by_cases j:(dd [] (a.map j7)).length=a.length
    ·rw[j];simp
    ·rw[decide_eq_false j];simp only[lh,beq_eq_false_iff_ne];omega
 | _=>rfl
noncomputable def isS (w:Str):T->Bool
 | .str s=>s == w
 | _=>false
theorem FS (h:T)(w:Str):my h (.str w)= .ok (isS w h):=by cases h <;> rfl
theorem nL (i j:Int):my (.int i) (.int j)= .ok (i == j):=rfl
theorem pr:kj (.tup (h :: r)) (.int 0)= .ok h:=by
 show mS _ 0=_;unfold mS;rw[show nw _ 0=some h from Zv rfl]
theorem o9:kj (.tup (h :: a :: r)) (.int 1)= .ok a:=by
 show mS _ 1=_;unfold mS;rw[show nw _ 1=some a from Zv rfl]
theorem DH:kj (.tup (h :: a :: b :: r)) (.int 2)= .ok b:=by
 show mS _ 2=_;unfold mS;rw[show nw _ 2=some b from Zv rfl]
theorem Ez:kj (.tup (h :: a :: b :: c :: r)) (.int 3)= .ok c:=by
 show mS _ 3=_;unfold mS;rw[show nw _ 3=some c from Zv rfl]
noncomputable def wj (k:T->Bool):T->Bool
 | .tup a=>decide (1<=a.length) && decide (a.length<=3) && a.all k
 | _=>false
def uu:List T->Bool
 | [a,b]=>Jt (-20) 20 a b
 | _=>false
def Q7:List T->Bool
 | [c]=>UM c
 | _=>false
def se (k:T->Bool):List T->Bool
 | [c]=>wj k c
 | _=>false
def Q8 (k:T->Bool):List T->Bool
 | [c,a,b]=>Jt 0 3 a b && k c
 | _=>false
def yV (k:T->Bool):T->Bool
 | .tup (h :: r)=>if isS "whole" h=true then uu r else if isS "pick" h=true then Q7 r else if isS "row" h=true then se k r else if isS "many" h=true then Q8 k r else false
 | _=>false
def nG:Nat->T->Bool
 | 0,_=>false
 | d+1,t=>yV (nG d) t
theorem Q9 {a:Type}(xs:List a)(n:Nat):((xs.length:Int) == (n:Int))=decide (xs.length=n):=by
 by_cases h:xs.length=n
 ·rw[h];simp
 ·rw[decide_eq_false h,beq_eq_false_iff_ne];omega
theorem Xr:YG f ρ=(f ρ).bind λx=>match x with | .int i=> .ok (.int (-i)) | _=> .bad:=rfl
theorem Zf:jK (.int i) (.int j)= .ok (.int (i - j)):=rfl
set_option maxHeartbeats 1000000 in
theorem KU {n:Nat}{d:Nat}{k:T->Bool}(B:∀t,sOk t->nF n 0 [t,.int d]= .ok (.bl (k t)))(p:∀t,sOk t->nF n 1 [t,.int d]= .ok (.bl (wj k t)))(t:T)(y:sOk t):
  nF (n+1) 0 [t,.int ((d+1:Nat):Int)]= .ok (.bl (yV k t)):=by
 have e:nF (n+1) 0 [t,.int ((d+1:Nat))]=zk (tZ tu _ pW _ [.vl t,.vl (.int _)]):=rfl;have w:(((d+1:Nat):Int) == 0)=false:=by rw[beq_eq_false_iff_ne];omega
 have g:((d+1:Nat)) - 1=(d:Int):=by omega
 rw[e,tZ];simp only[zY,j9,U2,Jv,j6,zB,w0,w1,zW,i3,nL,w,aI,if_false,Z8];cases t with
 | tup xs=>
  cases xs with
  | nil=>rfl
  | cons h r=>
   have x:=Wv y;have f:∀u∈r,sOk u:=λu v=>J9 x (a9 _ v);have q:(((h :: r).length:Int) == 0)=false:=by rw[beq_eq_false_iff_ne];simp only[aw];omega
   have l:WS "tuple" (.tup (h :: r))= .ok (.bl true):=rfl;simp only[l,i3,UL,eD,aI,if_false,jP,nL,q,j1,mC,zh,v0,v1,zW,pr,FS,Zd,ji,jO,J8,Ze,Z8,w0,HV,zI,zt,Xr,Zf,g];show _=R.ok (T.bl (if isS "whole" h=true then uu r else if isS "pick" h=true then Q7 r else if isS "row" h=true then se k r else if isS "many" h=true then Q8 k r else false))
   have o:(((h :: r).length:Int) == 3)=decide _:=Q9 (h :: r) 3;have i:(((h :: r).length:Int) == 2)=decide _:=Q9 (h :: r) 2;have j:(((h :: r).length:Int) == 4)=decide _:=Q9 _ 4;simp only[i,o,j,Zw];cases isS _ h with
   | true=>
    match r,f with
    | [],_=>rfl
    | [_],_=>rfl
    | _ :: _ :: _ :: _,_=>simp[uu,j1,zk]
    | [a,b],_=>
     simp only[o9,DH,i3,Q3];rfl
   | false=>
    simp only[aI,if_false,v0,v1,w0,i3,pr,j1,ji,jO,jP,nL,i,j,Zw,Zf,g];cases isS _ h with
    | true=>
     match r,f with
     | [],_=>rfl
     | _ :: _ :: _,_=>simp[Q7,j1,zk]
     | [c],f=>
      simp only[o9,i3,yU c (f c (by simp))]
      rfl
    | false=>
     simp only[aI,if_false,v0,v1,w0,i3,pr,j1,ji,jO,jP,nL,i,j,Zw,Zf,g];cases isS _ h with
     | true=>
      match r,f with
      | [],_=>rfl
      | _ :: _ :: _,_=>simp[se,j1,zk]
      | [c],f=>
       simp only[o9,i3,p c (f c (by simp))]
       rfl
     | false=>
      simp only[aI,if_false,v0,v1,w0,i3,pr,j1,ji,jO,jP,nL,i,j,Zw,Zf,g];cases isS _ h with
      | true=>
       match r,f with
       | [],_=>rfl
       | [_],_=>rfl
       | [_,_],_=>rfl
       | _ :: _ :: _ :: _ :: _,_=>simp[Q8,j1,zk]
       | [c,a,b],f=>
        simp only[o9,DH,Ez,i3,Q3,B c (f c (by simp)),Zw]
        show zk (match (if Jt 0 3 a b=true then R.ok _ else .ok _).s (λt=>RS.rt t) with | .nx _=>RS.rt _ | r=>r)=R.ok (T.bl (Jt 0 3 a b && k c))
        cases Jt 0 3 a b <;> rfl
      | false=>rfl
 | _=>rfl
theorem F4 {k:T->Bool}(j:∀t,sOk t->nF n 0 [t,.int d]= .ok (.bl (k t)))(t:T)(g:sOk t):nF (n+1) 1 [t,.int d]= .ok (.bl (wj k t)):=by
 have e:nF (n+1) 1 [t,.int d]=zk (A9 nP (nF n 0) [.vl t,.vl (.int d)]):=rfl;rw[e,A9];simp only[Zd,Ju,ji,jO,J8,Zb,v0,zW,i3];rw[show nP [t,.int 1,.int 3]= .ok (.bl (xh 1 3 t)) from ZH t 1 3,Zw];cases t with
 | tup a=>
  show (if (decide (1<=a.length) && decide (a.length<=3))=true then _ else _)=R.ok (T.bl (decide (1<=a.length) && decide (a.length<=3) && a.all k))
  cases f:(decide (1<=a.length) && decide (a.length<=3)) with
  | false=>rfl
  | true=>
   rw[aj,decide_eq_true_eq,decide_eq_true_eq]at f;have o:a.length<=mF:=av f.2 (by decide)
   have l:zq (zw 0) zV (zb 2 (nF n 0) (za (vE 0) (za (vE 1) ze))) 1 [1] [.vl (.tup a),.vl (.int d)] a= .ok (a.map λc=>T.bl (k c)):=
    zK (h:=λc=>T.bl (k c)) a o λc i=>by
     show zb 2 (nF n 0) (za (vE 0) (za (vE 1) ze)) [.vl c,.vl (.int d)]=_;rw[zt,v0,v1,i3,i3];exact j c (J9 (Wv g) i)
   simp only[if_true,Z8,zJ,Zs,v0,i3,JW,l];show (match WT (a.map λc=>T.bl (k c)) with | some k=>R.ok (T.bl k) | none=> .bad)=_
   rw[J7];rfl
 | _=>rfl
theorem U3:∀(d n:Nat),2*d+1<=n->∀t,sOk t->nF n 0 [t,.int d]= .ok (.bl (nG d t))
 | 0,n+1,_,t,_=>rfl
 | d+1,n+2,h,t,c=>KU (n:=n+1) (λu a=>U3 d (n+1) (by omega) u a) (λu a=>F4 (λv e=>U3 d n (by omega) v e) u a) t c
theorem yW (t:T)(a:sOk t):tE [t]= .ok (.bl (nG 3 t)):=by
 have e:tE [t]=zk (Av (Bf 20) [.vl t]):=rfl;rw[e,Av];simp only[Zd,Ju,ji,jO,zt,v0,zW,i3];exact U3 3 20 (by omega) t a
noncomputable def oN (lo hi:Int):T->Bool
 | .int i=>decide (lo<=i) && decide (i<=hi)
 | _=>false
theorem Lq (xs:List T):my (.lst xs) (.lst [])= .ok xs.isEmpty:=by cases xs <;> rfl
theorem uv:∀(a acc:List Str),(dd acc a).length<=acc.length+a.length
 | [],acc=>am _
 | w :: a,acc=>by
  unfold dd;have:=uv a (if w∈acc then acc else acc++[w])
  by_cases h:w∈acc
  ·rw[if_pos h]at this ⊢;simp only[aw];omega
  ·rw[if_neg h]at this ⊢;rw[az,aK]at this;simp only[aw];omega
theorem Ww:∀(a acc:List Str),((dd acc a).length=acc.length+a.length)↔∀(k:Nat) (w:Str),a[k]? =some w->w ∉ acc++a.take k
 | [],acc=>by simp[dd]
 | w :: a,acc=>by
  unfold dd
  by_cases h:w∈acc
  ·rw[if_pos h];have:=uv a acc;constructor
   ·intro e;simp only[aw]at e;omega
   ·intro H;exact absurd (dM _ h) (H 0 w rfl)
  ·rw[if_neg h];have c:=Ww a (acc++[w]);rw[az,aK]at c;rw[show acc.length+(w :: a).length=acc.length+1+a.length by simp only[aw];omega,c]
   constructor
   ·intro H k v e;cases k with
    | zero=>simp at e;subst e;simpa using h
    | succ k=>
     have:=H k v (by simpa using e)
     simpa[bi] using this
   ·intro H k v e;have:=H (k+1) v (by simpa using e)
    simpa[bi] using this
theorem Dt (i j:Int):om (.int i) (.int j)= .ok (decide (i < j)):=rfl
theorem v2 {t:T}{a b:Sl}{ρ:En}:vE 2 (a :: b :: .vl t :: ρ)= .ok t:=rfl
theorem v3 {t:T}{a b c:Sl}{ρ:En}:vE 3 (a :: b :: c :: .vl t :: ρ)= .ok t:=rfl
theorem w2 {t:T}{a b:Sl}{ρ:En}:vB 2 (a :: b :: .vl t :: ρ)= .ok t:=rfl
theorem w3 {t:T}{a b c:Sl}{ρ:En}:vB 3 (a :: b :: c :: .vl t :: ρ)= .ok t:=rfl
theorem w5 {t:T}{a b c d e:Sl}{ρ:En}:vB 5 (a :: b :: c :: d :: e :: .vl t :: ρ)= .ok t:=rfl
theorem v4 {t:T}{a b c d:Sl}{ρ:En}:vE 4 (a :: b :: c :: d :: .vl t :: ρ)= .ok t:=rfl
theorem Qa (f g:En->R Bool)(ρ:En):X0 f g ρ=(f ρ).bind λx=>if x=true then g ρ else .ok false:=rfl
theorem UN (w:Str):∀a:List Str,Jo (λy=>mE 30 y (.str w)) (a.map T.str)=some (decide (w∈a))
 | []=>rfl
 | x :: a=>by
  have d:=UN w a;show (match Jo (λy=>mE 30 y _) _ with | none=>none | some c=>some _)=_
  rw[d]
  by_cases h:x=w
  ·subst h;simp
  ·have h' :¬ w=x:=λz=>h z.symm;simp[h,h']
theorem Xs {xs:List T}{k:Nat}{t:T}(h:xs[k]? =some t):kj (.lst xs) (.int k)= .ok t:=by
 show mS xs k=_;unfold mS;rw[Zv h]
theorem xi {f:En->R T}{l h:En->R (Option Int)}{ρ:En}:nj f l h ρ=(f ρ).bind λt=>(l ρ).bind λlo=>(h ρ).bind λhi=>o8 t lo hi:=rfl
theorem tO {ρ:En}:np ρ= .ok none:=rfl
theorem Eu (i j:Int):nv (.int i) (.int j)= .ok (decide (i > j)):=rfl
theorem zZ (i j:Int):zv (.int i) (.int j)= .ok (.int (i+j)):=rfl
theorem HK (p:Int)(a:0<=p)(c:p < 26):kj (.str "abcdefghijklmnopqrstuvwxyz") (.int p)= .ok (.str ⟨#[97+p.toNat]⟩):=by
 obtain⟨n,rfl⟩:=dg a;have h:n < 26:=by omega
 iterate 26 (refine(Nat.lt_or_eq_of_le (Nat.le_of_lt_succ h)).elim (λh=> ?_) (λe=>e ▸ rfl))
 exact absurd h (iP _)
abbrev rA:En->R T:=zd kj (vE 3) (zb 3 nk (za (vE 1) (za (zd zv (zd zv (vE 2) (cE (.int 2))) (vE 0)) (za (cE (.int 26)) (ze)))))
theorem He (a:List Int)(k:Int)(g:0<=k)(j:Nat):∃c:Nat,(97<=c/\c<=122)/\rA [.vl (.int (j:Int)),.vl (mN a),.vl (.int k),.vl (.str "abcdefghijklmnopqrstuvwxyz")]= .ok (.str ⟨#[c]⟩):=by
 obtain⟨p,e,f,d⟩:=zO a (k+2+j) 26 (by omega) (by omega)
 refine⟨97+p.toNat,⟨by omega,by omega⟩, ?_⟩
 simp only[rA,zh,v3,i3,Zb,v1,v2,v0,zW,zZ,e];exact HK p f d
theorem yX (c:List Int)(k:Int)(o:0<=k):∃w:Str,Gc [mN c,.int k]= .ok (.str w)/\Zr (.str w)=true:=by
 have e:Gc [mN c,.int k]=zk (Ak _ [.vl _,.vl _,.un]):=rfl;obtain⟨p,x,F,D⟩:=zO c k 6 o (by omega)
 have f:∀t,([Sl.vl (mN c),Sl.vl (.int k),.un]).set 2 _=[Sl.vl _,Sl.vl _,.vl t]:=λ_=>rfl;rw[e,Ak];simp only[zY,j9,wg,zW,j1,f,zB,Zb,v0,v1,i3,x,Eu];cases hp:decide (p > 0) with
 | true=>
  obtain⟨q,i,B,y⟩:=zO c (k+1) 4 (by omega) (by omega)
  simp only[if_true,Zd,ji,jO,zh,Zb,v0,v1,zW,i3,zZ,i];have l:q=0\/q=1\/q=2\/q=3:=by omega
  rcases l with rfl | rfl | rfl | rfl
  ·exact⟨"a",rfl,by decide⟩
  ·exact⟨"b",rfl,by decide⟩
  ·exact⟨"ab",rfl,by decide⟩
  ·exact⟨"cab",rfl,by decide⟩
 | false=>
  obtain⟨q,i,B,y⟩:=zO c (k+1) 3 (by omega) (by omega)
  simp only[aI,if_false,mC,Zd,Ju,ji,jO,Z8,zJ];obtain⟨g,r⟩:=ma.mp (He c k o);have u:Zi (zd zv (cE (.int 1)) (zb 3 nk (za (vE 0) (za (zd zv (vE 1) (cE (.int 1))) (za (cE (.int 3)) (ze)))))) [Sl.vl (mN c),Sl.vl (.int k),.vl (.str "abcdefghijklmnopqrstuvwxyz")]= .ok (rng 0 (1+q).toNat):=by
   unfold Zi;simp only[zh,Zb,v0,v1,zW,i3,zZ,i];rw[if_pos ⟨by omega,by omega⟩]
  have C:∀n,n<=3->zq _ _ _ 1 [0,1,2] [Sl.vl _,Sl.vl _,.vl _] _= .ok ((rng 0 n).map λt=>match t with | .int j=> .str ⟨#[g j.toNat]⟩ | t=>t):=λn hn=>
   zK _ (by unfold rng;rw[ae,bJ];exact av hn (by decide)) λt v=>by
    obtain⟨j,_,rfl⟩:=aA.mp v;rw[f6];exact(r j).2
  rw[u,i3,C _ (by omega),i3]
  have d:∀j,Zy _=true:=λj=>by
   obtain⟨a,b⟩:=(r j).1;unfold Zy;rw[decide_eq_true a,decide_eq_true b];rfl
  have l:q=0\/q=1\/q=2:=by omega
  rcases l with rfl | rfl | rfl
  ·refine⟨⟨#[g 0]⟩,rfl, ?_⟩;show (Zy _ && true)=true;rw[d 0];rfl
  ·refine⟨⟨#[g 0,g 1]⟩,rfl, ?_⟩;show (Zy _ && (Zy _ && true))=true;rw[d 0,d 1];rfl
  ·refine⟨⟨#[g 0,g 1,g 2]⟩,rfl, ?_⟩;show (Zy _ && (Zy _ && (Zy _ && true)))=true;rw[d 0,d 1,d 2];rfl
theorem HL (j:Int):zU (.int 5) (.int j)= .ok (.int (5*j)):=by
 show (if uN 5 j then R.ok _ else .bad)=_
 rw[if_pos (.inl ⟨by decide,by decide⟩)]
theorem UO (a:f ρ= .ok x)(c:g ρ= .ok y):Za (za f (za g ze)) ρ= .ok (.tup [x,y]):=by
 unfold Za za ze;rw[a,c];rfl
theorem KW (a:f ρ= .ok x)(c:g ρ= .ok y)(d:h ρ= .ok z):Za (za f (za g (za h ze))) ρ= .ok (.tup [x,y,z]):=by
 unfold Za za ze;rw[a,c,d];rfl
theorem B9 (a:f ρ= .ok x)(c:g ρ= .ok y)(d:h ρ= .ok z)(hi:i ρ= .ok w):Za (za f (za g (za h (za i ze)))) ρ= .ok (.tup [x,y,z,w]):=by
 unfold Za za ze;rw[a,c,d,hi];rfl
noncomputable def Dst (a:List Str):Prop:=∀(k:Nat) (w:Str),a[k]? =some w->w ∉ a.take k
theorem Dst.add (h:Dst ws)(e:w ∉ ws):Dst (ws++[w]):=λk x a=>by
 by_cases d:k < ws.length
 ·rw[aY d]at a;rw[List.take_append_of_le_length (by omega)]
  exact h k x a
 ·rw[aR (by omega)]at a
  have c :k=ws.length:=by
   rcases Nat.lt_or_ge (k - ws.length) 1 with z | z
   ·omega
   ·rw[aP (by simpa using z)]at a;cases a
  subst c;rw[Nat.sub_self]at a;cases a;rw[List.take_left']
  ·exact e
  ·rfl
abbrev uw:En->RS:=zn (zC 5 (zb 2 Gc (za (vE 0) (za (zd zv (zd zv (vE 1) (cE (.int 5))) (zd zU (cE (.int 5)) (vE 4))) (ze)))))
  (mD (zp Y8 (vB 5) (vB 3)) (Us 3 (vE 5)) (mC))
theorem wk (g:List Int)(k:Int)(N:0<=k):∀(js:List Nat) (d:List Str) (o l:Sl),js.length+d.length<=4->Dst d->(∀w∈d,Zr (.str w)=true)->
  ∃f q p,Zu (zw 4) uw (js.map λ(j:Nat)=>T.int (0+(j:Int))) [.vl (mN g),.vl (.int k),.un,.ow (d.map T.str),o,l]= .nx [.vl (mN g),.vl (.int k),.un,.ow (f.map T.str),q,p]/\f.length<=4/\Dst f /\(∀w∈f,Zr (.str w)=true)/\(0 < js.length+d.length->0 < f.length)
 | [],d,o,l,F,hd,v=>⟨d,o,l,rfl,by simpa using F,hd,v,λh=>by simpa using h⟩
 | j :: js,d,o,l,F,hd,v=>by
  obtain⟨w,O,I⟩:=yX g (k+5+5*(0+(j:Int))) (by omega)
  have S :js.length+d.length+1<=4:=by simpa[aw,Nat.add_right_comm] using F
  have e:Zu (zw 4) uw ((j :: js).map λ(j:Nat)=>T.int (0+(j:Int))) [.vl (mN g),.vl (.int k),.un,.ow (d.map T.str),o,l]=match uw [.vl (mN g),.vl (.int k),.un,.ow (d.map T.str),.vl (.int (0+(j:Int))),l] with
   | .nx ρ2=>Zu (zw 4) uw (js.map λ(j:Nat)=>T.int (0+(j:Int))) ρ2
   | .ct ρ2=>Zu (zw 4) uw (js.map λ(j:Nat)=>T.int (0+(j:Int))) ρ2
   | .bk ρ2=> .nx ρ2
   | r=>r:=rfl
  have Q:uw [.vl (mN g),.vl (.int k),.un,.ow (d.map T.str),.vl (.int (0+(j:Int))),l]= .nx [.vl (mN g),.vl (.int k),.un,.ow ((if w∈d then d else d++[w]).map T.str),.vl (.int (0+(j:Int))),.vl (.str w)]:=by
   have M:∀(a b c:Sl) (ts:List T) (ρ:En),vB 3 (a :: b :: c :: .ow ts :: ρ)= .ok _:=λ_ _ _ _ _=>rfl;have u:∀t,([.vl _,.vl (.int k),.un,.ow (d.map T.str),.vl (.int (0+(j:Int))),l]:En).set 5 (.vl t)=[.vl (mN g),.vl (.int k),.un,.ow (d.map T.str),.vl _,.vl t]:=λ_=>rfl;have X:Y8 (.str w) (.lst (d.map T.str))= .ok (!decide (w∈d)):=by
    show ((match Jo (λy=>mE 30 y (.str w)) (d.map _) with | some b=>R.ok b | none=> .bad)).bind (λb=>R.ok _)=_
    rw[UN];rfl
   simp only[uw,zY,wg,zt,v0,v1,v4,zh,zW,i3,zZ,HL,O,j1,u,j9,zB,w5,M,X]
   by_cases i:w∈d
   ·rw[decide_eq_true i,if_pos i];rfl
   ·rw[decide_eq_false i,if_neg i];have U:(d.map T.str).length < mF:=by rw[ae];exact bq (show d.length<=4 by omega) (by decide)
    show (if (d.map _).length < mF then RS.nx _ else .bad)=_
    rw[if_pos U,cM];rfl
  rw[e,Q]
  by_cases i:w∈d
  ·rw[if_pos i];obtain⟨f,q,p,C,G,D,J,B⟩:=wk g k N js d _ _ (by omega) hd v
   exact⟨f,q,p,C,G,D,J,λ_=>B (by have:=List.length_pos_of_mem i;omega)⟩
  ·rw[if_neg i];obtain⟨f,q,p,C,G,D,J,B⟩:=wk g k N js _ _ _ (by simp only[az,aw,cN];omega) (hd.add i) (λx P=>by
    rcases aW.mp P with z | z
    ·exact v x z
    ·rw[aq.mp z];exact I)
   exact⟨f,q,p,C,G,D,J,λ_=>B (by simp only[az,aw,cN];omega)⟩
abbrev Dv:En->R T:=Za (za (vE 1) (za (zd zv (cE (.int 1)) (zb 3 nk (za (vE 2) (za (zd zv (zd zv (vE 3) (cE (.int 30))) (vE 0)) (za (cE (.int 20)) (ze)))))) (ze)))
theorem UP (c:List Int)(k:Int)(q:0<=k):∀(a:List Str) (i:Nat) (f g:Sl),(∀w∈a,Zr (.str w)=true)->∃d:List T,zx (zN 0 1) zV Dv (((a.map T.str).zipIdx i).map λp=>T.tup [.int (p.2:Nat),p.1]) [f,g,.vl (mN c),.vl (.int k)]= .ok d/\d.all zX=true/\d.map j7=a
 | [],i,f,g,_=>⟨[],rfl,rfl,rfl⟩
 | w :: a,i,f,g,j=>by
  obtain⟨p,e,F,D⟩:=zO c (k+30+i) 20 (by omega) (by omega)
  obtain⟨d,r,B,u⟩:=UP c k q a _ _ _ λx l=>j x (a9 _ l);have C:Dv [.vl (.int (i)),.vl (.str w),.vl (mN c),.vl (.int k)]= .ok (.tup [.str w,.int (1+p)]):=by
   have o:zb 3 nk (za (vE 2) (za (zd zv (zd zv (vE 3) (cE (.int 30))) (vE 0)) (za (cE (.int 20)) (ze)))) [.vl (.int (i)),.vl (.str w),.vl (mN c),.vl (.int k)]= .ok (.int p):=by
    simp only[Zb,v2,v3,v0,zh,zW,i3,zZ,e]
   have y:zd zv (cE (.int 1)) (zb 3 nk (za (vE 2) (za (zd zv (zd zv (vE 3) (cE (.int 30))) (vE 0)) (za (cE (.int 20)) (ze))))) [.vl (.int (i)),.vl (.str w),.vl (mN c),.vl (.int k)]= .ok (.int (1+p)):=by
    rw[zh,o];rfl
   exact UO v1 y
  refine⟨.tup [.str w,.int (1+p)] :: d, ?_, ?_, ?_⟩
  ·show ((Dv [.vl _,.vl _,.vl _,.vl _]).bind λv=>(zx _ _ _ (((a.map _).zipIdx _).map λp=>T.tup _) [.vl _,.vl _,.vl _,.vl _]).bind λvs=>R.ok _)=_;rw[C,r];rfl
  ·rw[cX,B,Bool.and_true];show (Zr _ && decide _ && decide _)=true;rw[j w aa,decide_eq_true (by omega),decide_eq_true (by omega)];rfl
  ·rw[ar,u];rfl
theorem Xt (i j:Int):wH (.int i) (.int j)= .ok (.int (if j < i then j else i)):=rfl
theorem KY (a:List Int)(k:Int)(D:0<=k):∃t,rg [mN a,.int k]= .ok t/\∀d,nG (d+1) t=true:=by
 have e:rg [mN a,.int k]=zk (tI nk Gc [.vl (mN a),.vl (.int k),.un,.un,.un,.un]):=rfl;obtain⟨p,U,p0,p1⟩:=zO a k 3 D (by omega)
 rw[e,tI,zY];simp only[j9,zB,Zb,v0,v1,zW,i3,U,Eu,j1];cases hp:decide (p > 0) with
 | true=>
  obtain⟨q,C,q0,q1⟩:=zO a (k+1) 7 (by omega) (by omega)
  obtain⟨q3,N,_,_⟩:=zO a (k+3) 8 (by omega) (by omega)
  obtain⟨B,v,a4,b4⟩:=zO a (k+4) 3 (by omega) (by omega)
  obtain⟨J,e2,a2,b2⟩:=zO a (k+2) 4 (by omega) (by omega)
  have f:∀t x,([.vl (mN a),.vl (.int k),x,.un,.un,.un]:En).set 2 (.vl t)=[.vl (mN a),.vl (.int k),.vl t,.un,.un,.un]:=λ_ _=>rfl;have g:∀c:Int, -20<=c->c<=20->∃t,zk (zr (Za (za (cE (.str "whole")) (za (vE 2) (za (zd wH (cE (.int 20)) (zd zv (vE 2) (zb 3 nk (za (vE 0) (za (zd zv (vE 1) (cE (.int 2))) (za (cE (.int 4)) (ze))))))) (ze))))) [.vl (mN a),.vl (.int k),.vl (.int c),.un,.un,.un])= .ok t/\∀d,nG (d+1) t=true:=by
   intro c G hl2;refine⟨.tup [.str "whole",.int c,.int (if c+J < 20 then c+J else 20)], ?_,λd=> ?_⟩
   ·rw[Zd,Ju];refine KW rfl rfl ?_;simp only[ji,Wu,jO,zh,v2,v0,v1,Zb,zW,i3,zZ,e2,Xt]
   ·show (decide (-20<=c) && decide (c<=_) && decide (_<=(20:Int)))=true;rw[decide_eq_true G,decide_eq_true (by split <;> omega),decide_eq_true (by split <;> omega)];rfl
  simp only[if_true,zY,wg,j9,zh,Zb,v0,v1,zW,i3,zZ,C,Zf,j1,f,zB,N,nL];cases hq:(q3 == 0) with
  | true=>
   have P:B=0\/B=1\/B=2:=by omega
   rcases P with rfl | rfl | rfl
   ·obtain⟨t,r,s⟩:=g (-20) (by omega) (by omega)
    refine⟨t, ?_,s⟩;rw[← r];simp only[if_true,v,i3];have o:∀ρ,(Zc (za (YG (cE (.int 20))) (za (cE (.int 17)) (za (cE (.int 20)) (ze)))) ρ)= .ok (.lst _):=λ_=>rfl;simp only[o,i3];have l:kj (.lst [.int (-20),.int 17,.int 20]) (.int 0)= .ok (.int (-20)):=rfl;simp only[l,j1,f,Zd];generalize Za _ _=z;cases z <;> rfl
   ·obtain⟨t,r,s⟩:=g (17) (by omega) (by omega)
    refine⟨t, ?_,s⟩;rw[← r];simp only[if_true,v,i3];have o:∀ρ,(Zc (za (YG (cE (.int 20))) (za (cE (.int 17)) (za (cE (.int 20)) (ze)))) ρ)= .ok (.lst _):=λ_=>rfl;simp only[o,i3];have l:kj (.lst [.int (-20),.int 17,.int 20]) (.int 1)= .ok (.int (17)):=rfl;simp only[l,j1,f,Zd];generalize Za _ _=z;cases z <;> rfl
   ·obtain⟨t,r,s⟩:=g (20) (by omega) (by omega)
    refine⟨t, ?_,s⟩;rw[← r];simp only[if_true,v,i3];have o:∀ρ,(Zc (za (YG (cE (.int 20))) (za (cE (.int 17)) (za (cE (.int 20)) (ze)))) ρ)= .ok (.lst _):=λ_=>rfl;simp only[o,i3];have l:kj (.lst [.int (-20),.int 17,.int 20]) (.int 2)= .ok (.int (20)):=rfl;simp only[l,j1,f,Zd];generalize Za _ _=z;cases z <;> rfl
  | false=>
   obtain⟨t,r,s⟩:=g (q - 3) (by omega) (by omega)
   refine⟨t, ?_,s⟩;rw[← r];simp only[aI,if_false,mC,Zd];generalize Za _ _=z;cases z <;> rfl
 | false=>
  obtain⟨q,C,q0,q1⟩:=zO a (k+1) 4 (by omega) (by omega)
  simp only[aI,if_false,mC,zY];have S:Zi (zd zv (cE (.int 1)) (zb 3 nk (za (vE 0) (za (zd zv (vE 1) (cE (.int 1))) (za (cE (.int 4)) (ze)))))) [.vl (mN a),.vl (.int k),.un,.ow [],.un,.un]= .ok (rng 0 (1+q).toNat):=by
   unfold Zi;simp only[zh,Zb,v0,v1,zW,i3,zZ,C];rw[if_pos ⟨by omega,by omega⟩]
  have el:uO 3 ze [.vl (mN a),.vl (.int k),.un,.un,.un,.un]= .nx [.vl (mN a),.vl (.int k),.un,.ow [],.un,.un]:=rfl;rw[el];have hn:(aN (1+q).toNat).length=(1+q).toNat:=bJ;obtain⟨j,y,u,Q,X,r3,r4,r5⟩:=wk a k D _ [] .un .un (by rw[hn,cN];omega) (λk w h=>by cases h) (λw h=>by cases h)
  have O:ZD (Zi (zd zv (cE (.int 1)) (zb 3 nk (za (vE 0) (za (zd zv (vE 1) (cE (.int 1))) (za (cE (.int 4)) (ze))))))) (zw 4) uw [.vl (mN a),.vl (.int k),.un,.ow [],.un,.un]= .nx [.vl (mN a),.vl (.int k),.un,.ow (j.map T.str),y,u]:=by
   unfold ZD;rw[S,j1];exact Q
  obtain⟨i,s1,M,I⟩:=UP a k D j 0 .un .un r4;have F:i.length=j.length:=by rw[← I,ae]
  refine⟨.tup [.str "pick",.tup i], ?_,λd=> ?_⟩
  ·dsimp only;rw[O];dsimp only;rw[Zd,Ju];refine UO rfl ?_;rw[Z8,zJ];have ee:K5 (vE 3) (frz [.vl (mN a),.vl (.int k),.un,.ow (j.map T.str),y,u])= .ok _:=rfl;rw[ee,i3];unfold zq;rw[if_pos (by unfold jM;rw[ae,lA,ae];exact av X (by decide))]
   have Z:zx _ _ _ (jM _) (Jp 2 [0,1] (frz [.vl _,.vl _,.un,.ow (j.map T.str),y,u]))= .ok i:=s1;rw[Z];rfl
  ·show (decide _ && decide _ && i.all _ && decide _)=true;have hd:(dd [] (i.map j7)).length=i.length:=by
    rw[I,F];have:=(Ww j []).mpr (λk w h=>by simpa using r3 k w h)
    simpa using this
   rw[decide_eq_true (by omega),decide_eq_true (by omega),M,decide_eq_true hd];rfl
theorem Qb (c:Int)(j:Int)(a:uN c j):zU (.int c) (.int j)= .ok (.int (c*j)):=by
 show (if uN c j then R.ok _ else .bad)=_
 rw[if_pos a]
theorem DQ (j:Int):zU (.int 3) (.int j)= .ok (.int (3*j)):=Qb _ _ (.inl ⟨by decide,by decide⟩)
theorem IB (j:Int):zU (.int 50) (.int j)= .ok (.int (50*j)):=Qb _ _ (.inl ⟨by decide,by decide⟩)
abbrev tf (c:List T->R T):En->R T:=zb 3 c (za (vE 1) (za (zd zv (zd zv (zd zU (cE (.int 3)) (vE 2)) (cE (.int 40))) (zd zU (cE (.int 50)) (vE 0))) (za (zd jK (vE 3) (cE (.int 1))) (ze))))
theorem U4 (f:List Int):∀(d n:Nat),d<=n->1<=d->∀k:Int,0<=k->∃t,oz n 0 [mN f,.int k,.int (d:Int)]= .ok t/\nG d t=true
 | d+1,n+1,hn,_,k,h0=>by
  have e:oz (n+1) 0 [mN f,.int k,.int ((d+1:Nat))]=zk (AV nk rg (oz n 0) [.vl (mN f),.vl (.int k),.vl _,.un,.un,.un]):=rfl;obtain⟨p,S,p0,p1⟩:=zO f k 5 h0 (by omega)
  obtain⟨l,Z,Q⟩:=KY f (k+1) (by omega)
  have x:([.vl (mN f),.vl (.int k),.vl (.int ((d+1:Nat))),.un,.un,.un]:En).set 3 (.vl (.int p))=[.vl (mN f),.vl (.int k),.vl _,.vl (.int p),.un,.un]:=rfl;rw[e,AV];simp only[zY,wg,j9,U2,zB,Zb,zt,v0,v1,v2,zW,i3,S,j1,x,w2,w3,nL,Dt,zZ,Zd,ji,Wu,jO,zh,Z];have G:((((d+1:Nat):Int) == 1))=decide (d=0):=by
   by_cases h:d=0
   ·subst h;rfl
   ·rw[decide_eq_false h,beq_eq_false_iff_ne];omega
  rw[G]
  by_cases i:d=0\/p < 2
  ·refine⟨l, ?_,Q d⟩;rcases i with h | h
   ·rw[decide_eq_true h];rfl
   ·rw[decide_eq_true h];cases decide (d=0) <;> rfl
  ·have F:¬ d=0:=λz=>i (.inl z);have I:¬ p < 2:=λz=>i (.inr z);have o:((d+1:Nat)) - 1=(d:Int):=by omega
   rw[decide_eq_false F,decide_eq_false I];simp only[aI,if_false,j1,mC,w3,v0,v1,v2,i3,Dt,zW];cases hp:decide (p < 4) with
   | true=>
    obtain⟨q,D,q0,U⟩:=zO f (k+1) 3 (by omega) (by omega)
    have X:∀j:Nat,∃t,tf (oz n 0) [.vl (.int (0+(j:Int))),.vl (mN f),.vl (.int k),.vl (.int ((d+1:Nat)))]= .ok t/\nG d t=true:=λj=>by
     obtain⟨t,r,s⟩:=U4 f d n (by omega) (by omega) (3*k+40+50*(0+(j:Int))) (by omega)
     refine⟨t, ?_,s⟩;simp only[tf,Zb,v0,v1,v2,v3,zh,zW,i3,DQ,IB,zZ,Zf,o,r]
    obtain⟨g,J⟩:=ma.mp X;have P:Zi (zd zv (cE (.int 1)) (zb 3 nk (za (vE 0) (za (zd zv (vE 1) (cE (.int 1))) (za (cE (.int 3)) (ze)))))) [.vl (mN f),.vl (.int k),.vl (.int ((d+1:Nat))),.vl (.int p),.un,.un]= .ok (rng 0 (1+q).toNat):=by
     unfold Zi;simp only[zh,Zb,v0,v1,zW,i3,zZ,D];rw[if_pos ⟨by omega,by omega⟩]
    have N:zq (zw 0) zV (tf (oz n 0)) 1 [0,1,2] [.vl (mN f),.vl (.int k),.vl _,.vl (.int p),.un,.un] _= .ok ((rng 0 (1+q).toNat).map λt=>match t with | .int j=>g j.toNat | t=>t):=
     zK _ (by unfold rng;rw[ae,bJ];exact av (show (1+q).toNat<=3 by omega) (by decide)) λt y=>by
      obtain⟨j,_,rfl⟩:=aA.mp y;show tf (oz n 0) [.vl _,.vl (mN f),.vl (.int k),.vl _]= .ok (g _);rw[(J j).1,f6,b9]
    generalize w:((rng 0 (1+q).toNat).map λt=>match t with | .int j=>g j.toNat | t=>t)=cs at N
    have M:cs.length=(1+q).toNat:=by rw[← w];unfold rng;rw[ae,ae,bJ]
    have v:∀t∈cs,nG d t=true:=λt y=>by
     rw[← w]at y;obtain⟨u,hu,rfl⟩:=aA.mp y;obtain⟨j,_,rfl⟩:=aA.mp hu;exact(J _).2
    refine⟨.tup [.str "row",.tup cs], ?_, ?_⟩
    ·have B:([.vl (mN f),.vl (.int k),.vl (.int ((d+1:Nat))),.vl (.int p),.un,.un]:En).set 4 (.vl (.lst cs))=[.vl (mN f),.vl (.int k),.vl _,.vl (.int p),.vl (.lst cs),.un]:=rfl;simp only[if_true,zJ,P,i3,N,j1,B,ji,Wu,jO];rfl
    ·show (decide _ && decide _ && cs.all _)=true;rw[decide_eq_true (by omega),decide_eq_true (by omega),aJ.mpr v];rfl
   | false=>
    obtain⟨q,D,q0,U⟩:=zO f (k+1) 3 (by omega) (by omega)
    obtain⟨O,e2,_,_⟩:=zO f (k+2) 3 (by omega) (by omega)
    obtain⟨t,r,s⟩:=U4 f d n (by omega) (by omega) (3*k+40) (by omega)
    refine⟨.tup [.str "many",t,.int q,.int (if q+O < 3 then q+O else 3)], ?_, ?_⟩
    ·have C:([.vl (mN f),.vl (.int k),.vl (.int ((d+1:Nat))),.vl (.int p),.un,.un]:En).set 5 (.vl (.int q))=[.vl _,.vl _,.vl _,.vl _,.un,.vl _]:=rfl;simp only[aI,if_false,v0,v1,zh,zW,i3,zZ,D,j1,C,ji,Wu,jO,Ju];refine B9 rfl ?_ rfl ?_
     ·simp only[Zb,v0,v1,v2,zh,zW,i3,DQ,zZ,Zf,o,r]
     ·have v5:∀{t:T} {a b c d e:Sl} {ρ:En},vE 5 (a :: b :: c :: d :: e :: .vl t :: ρ)= .ok t:=rfl;simp only[Zb,v0,v1,v5,zh,zW,i3,zZ,e2,Xt]
    ·show (Jt 0 3 _ _ && nG d t)=true;rw[s,Bool.and_true];show (decide _ && decide _ && decide _)=true;rw[decide_eq_true (by omega),decide_eq_true (by split <;> omega),decide_eq_true (by split <;> omega)];rfl
mutual
noncomputable def pq:T->Nat
 | .tup xs=>V0 xs+1
 | .lst xs=>V0 xs+1
 | _=>1
noncomputable def V0:List T->Nat
 | []=>0
 | t :: ts=>max (pq t) (V0 ts)
end
mutual
noncomputable def pA:T->Nat
 | .tup xs=>V1 xs+1
 | .lst xs=>V1 xs+1
 | _=>1
noncomputable def V1:List T->Nat
 | []=>0
 | t :: ts=>pA t+V1 ts
end
theorem Jw (h:isS w t=true):t= .str w:=by
 cases t with
 | str s=>
  have:=h;rw[eq_of_beq this]
 | _=>cases h
theorem Qc (h:oN lo hi t=true):∃i,t= .int i:=by
 cases t with
 | int i=>exact⟨i,rfl⟩
 | _=>cases h
theorem JC (h:Jt lo hi a b=true):∃i j,a= .int i/\b= .int j:=by
 cases a with
 | int i=>
  cases b with
  | int j=>exact⟨i,j,rfl,rfl⟩
  | _=>cases h
 | _=>cases h
structure Bz (D S:Nat) (t:T):Prop where
 so:sOk t
 dp:pq t<=D
 sz:pA t<=S
theorem yY (h:zX c=true):Bz 2 3 c:=by
 unfold zX at h;split at h
 ·rename_i w i;have d:=by
   rw[aj,aj]at h;exact h.1.1
  cases w with
  | str x=>
   have a:(decide _ && decide _ && x.cps.toList.all _)=true:=d;rw[aj,aj,decide_eq_true_eq,decide_eq_true_eq]at a;refine⟨?_, ?_, ?_⟩
   ·simp only[sOk,UK,and_true];exact av a.1.2 (by decide)
   ·simp[pq,V0]
   ·simp[pA,V1]
  | _=>cases d
 ·cases h
theorem Bp {D S:Nat}:∀{e:List T},(∀c∈e,Bz D S c)->UK e/\V0 e<=D/\V1 e<=S*e.length
 | [],_=>⟨by simp only[UK],bf _,bf _⟩
 | c :: e,h=>by
  obtain⟨a,b,d⟩:=Bp λx f=>h x (a9 _ f);obtain⟨x,y,z⟩:=h c aa;refine⟨?_, ?_, ?_⟩
  ·exact⟨x,a⟩
  ·simp only[V0];omega
  ·simp only[V1,aw,Nat.mul_add,Nat.mul_one];omega
theorem Wx:∀(d:Nat) (t:T),nG d t=true->Bz (2*d+2) (15*4 ^ d) t
 | 0,_,h=>by cases h
 | d+1,t,h=>by
  have g:1<=4 ^ d:=Nat.pow_pos (by omega)
  have h:yV _ t=true:=h;unfold yV at h;split at h
  ·rename_i hd r;split at h
   ·rename_i e;rw[Jw e];unfold uu at h;split at h
    ·obtain⟨i,j,rfl,rfl⟩:=JC h;refine⟨by simp only[sOk,UK,and_true];decide,by simp only[pq,V0];omega,by simp only[pA,V1];omega⟩
    ·cases h
   ·split at h
    ·rename_i e;rw[Jw e];unfold Q7 at h;split at h
     ·unfold UM at h;split at h
      ·rw[aj,aj,aj,decide_eq_true_eq,decide_eq_true_eq]at h;obtain⟨a,b,z⟩:=Bp λc f=>yY (aJ.mp h.1.2 c f);refine⟨by simp only[sOk,UK,and_true];exact⟨by decide,a⟩,by simp only[pq,V0];omega,by simp only[pA,V1];omega⟩
      ·cases h
     ·cases h
    ·split at h
     ·rename_i e;rw[Jw e];unfold se at h;split at h
      ·unfold wj at h;split at h
       ·rename_i k;rw[aj,aj,decide_eq_true_eq,decide_eq_true_eq]at h;obtain⟨a,b,z⟩:=Bp λc f=>Wx d c (aJ.mp h.2 c f);have:15*4 ^ d*k.length<=15*4 ^ d*3:=Nat.mul_le_mul_left _ h.1.2;refine⟨by simp only[sOk,UK,and_true];exact⟨by decide,a⟩,by simp only[pq,V0];omega,by simp only[pA,V1];omega⟩
       ·cases h
      ·cases h
     ·split at h
      ·rename_i e;rw[Jw e];unfold Q8 at h;split at h
       ·rename_i c a b;rw[aj]at h;obtain⟨i,j,rfl,rfl⟩:=JC h.1;obtain⟨x,y,z⟩:=Wx d c h.2;refine⟨by simp only[sOk,UK,and_true];exact⟨by decide,x⟩,by simp only[pq,V0];omega,by simp only[pA,V1];omega⟩
       ·cases h
      ·cases h
  ·cases h
theorem Cp (a:f ρ= .ok x):Za (za f ze) ρ= .ok (.tup [x]):=by
 unfold Za za ze;rw[a];rfl
theorem Hw {xs:List T}{j:Nat}{x:T}(h:xs[j]? =some x):kj (.tup xs) (.int (j:Int))= .ok x:=by
 show mS xs j=_;unfold mS;rw[Zv h]
theorem Xu {xs:List T}{i:Nat}(h:i < xs.length):o8 (.tup xs) none (some (i:Int))= .ok (.tup (xs.take i)):=by
 show R.ok _=_;have:nJ xs none (some (i))=xs.take i:=by
  unfold nJ;rw[HT.sIx_none,HT.sIx_nat,fU (by omega),Nat.sub_zero,dN]
 rw[this]
theorem Xv {xs:List T}{i:Nat}(h:i<=xs.length):o8 (.tup xs) (some (i:Int)) none= .ok (.tup (xs.drop i)):=by
 show R.ok _=_;have:nJ xs (some (i)) none=xs.drop i:=by
  unfold nJ;rw[HT.sIx_none,HT.sIx_nat,fU h];exact eT (by rw[dR];omega)
 rw[this]
theorem UQ (h:xs.length+ys.length<=mF):zv (.tup xs) (.tup ys)= .ok (.tup (xs++ys)):=if_pos h
theorem UR (h:f ρ= .ok (.int i)):Zj f ρ= .ok (some i):=by
 unfold Zj;rw[h];rfl
theorem KZ {xs:List T}{j:Nat}{x:T}(h:xs[j]? =some x):kj (.lst xs) (.int (j:Int))= .ok x:=by
 show mS xs j=_;unfold mS;rw[Zv h]
theorem F1 {xs:List T}{i:Int}(d:0<=i)(c:i < (xs.length:Int)):∃x,kj (.lst xs) (.int i)= .ok x/\x∈xs:=by
 have a:i.toNat < xs.length:=by omega
 have e:i=((i.toNat):Int):=by omega
 have q:=KZ (ah a);rw[← e]at q;exact⟨xs[i.toNat],q,iD a⟩
theorem wX (ρ:En):mC ρ= .nx ρ:=rfl
inductive Kd where
 | whole (lo hi:Int)
 | pick (cs:List (Str×Int))
 | row (ks:List Kd)
 | many (k:Kd) (lo hi:Nat)
noncomputable def Jz (c:Str×Int):T:= .tup [.str c.1,.int c.2]
mutual
noncomputable def Kd.t:Kd->T
 | .whole lo hi=> .tup [.str "whole",.int lo,.int hi]
 | .pick a=> .tup [.str "pick",.tup (a.map Jz)]
 | .row c=> .tup [.str "row",.tup (Kd.ts c)]
 | .many k lo hi=> .tup [.str "many",k.t,.int (lo:Int),.int (hi:Int)]
noncomputable def Kd.ts:List Kd->List T
 | []=>[]
 | k :: a=>k.t :: Kd.ts a
end
theorem Kd.ts_map:∀a:List Kd,Kd.ts a=a.map Kd.t
 | []=>by simp only[Kd.ts,bI]
 | k :: a=>by simp only[Kd.ts,ar,Kd.ts_map a]
def Kd.Ok:Nat->Kd->Prop
 | 0,_=>False
 | _+1,.whole lo hi=> -20<=lo/\lo<=hi/\hi<=20
 | _+1,.pick a=>1<=a.length/\a.length<=4/\(∀c∈a,Zr (.str c.1)=true/\1<=c.2/\c.2<=20)/\Dst (a.map (·.1))
 | d+1,.row e=>1<=e.length/\e.length<=3/\∀k∈e,Kd.Ok d k
 | d+1,.many k lo hi=>lo<=hi/\hi<=3/\Kd.Ok d k
theorem Qd (h:zX c=true):∃p:Str×Int,c=Jz p/\Zr (.str p.1)=true/\1<=p.2/\p.2<=20:=by
 unfold zX at h;split at h
 ·rename_i w i;rw[aj,aj,decide_eq_true_eq,decide_eq_true_eq]at h;cases w with
  | str x=>exact⟨(x,i),rfl,h.1.1,h.1.2,h.2⟩
  | _=>cases h.1.1
 ·cases h
theorem U5 {d:Type}{P:T->Prop}{Q:d->Prop}{f:d->T}(H:∀t,P t->∃a,t=f a/\Q a):∀(ts:List T),(∀t∈ts,P t)->∃c:List d,ts=c.map f/\∀a∈c,Q a
 | [],_=>⟨[],rfl,λ_ h=>nomatch h⟩
 | t :: ts,h=>by
  obtain⟨a,rfl,g⟩:=H t (h t aa);obtain⟨c,rfl,has⟩:=U5 H ts λu i=>h u (a9 _ i);exact⟨a :: c,rfl,λb e=>by
   rcases ak.mp e with rfl | e
   ·exact g
   ·exact has b e⟩
theorem U6:∀(d:Nat) (t:T),nG d t=true->∃k:Kd,t=k.t/\k.Ok d
 | 0,_,h=>by cases h
 | d+1,t,h=>by
  have h:yV _ t=true:=h;unfold yV at h;split at h
  ·rename_i hd r;split at h
   ·rename_i e;rw[Jw e];unfold uu at h;split at h
    ·obtain⟨i,j,rfl,rfl⟩:=JC h;have h:(decide _ && decide _ && decide _)=true:=h;rw[aj,aj,decide_eq_true_eq,decide_eq_true_eq,decide_eq_true_eq]at h;exact⟨.whole i j,by simp only[Kd.t],h.1.1,h.1.2,h.2⟩
    ·cases h
   ·split at h
    ·rename_i e;rw[Jw e];unfold Q7 at h;split at h
     ·unfold UM at h;split at h
      ·rename_i l;rw[aj,aj,aj,decide_eq_true_eq,decide_eq_true_eq,decide_eq_true_eq]at h;obtain⟨⟨⟨f,g⟩,y⟩,v⟩:=h;obtain⟨p,rfl,has⟩:=U5 (λt q=>Qd q) l λc o=>aJ.mp y c o;rw[ae]at f g;refine⟨.pick p,by simp only[Kd.t],f,g,has, ?_⟩
       have D:(p.map Jz).map j7=p.map (·.1):=by rw[aZ];rfl
       rw[D]at v;have:=(Ww _ []).mp (by rw[v,ae];simp)
       exact λk w G F=>this k w G (by simpa using F)
      ·cases h
     ·cases h
    ·split at h
     ·rename_i e;rw[Jw e];unfold se at h;split at h
      ·unfold wj at h;split at h
       ·rename_i l;rw[aj,aj,decide_eq_true_eq,decide_eq_true_eq]at h;obtain⟨I,rfl,u⟩:=U5 (λt q=>U6 d t q) l λc o=>aJ.mp h.2 c o;rw[ae]at h;exact⟨.row I,by simp only[Kd.t,Kd.ts_map],h.1.1,h.1.2,u⟩
       ·cases h
      ·cases h
     ·split at h
      ·rename_i e;rw[Jw e];unfold Q8 at h;split at h
       ·rename_i c a b;rw[aj]at h;obtain⟨f,g⟩:=h;obtain⟨i,j,rfl,rfl⟩:=JC f;obtain⟨k,rfl,C⟩:=U6 d c g;have f:(decide _ && decide _ && decide _)=true:=f;rw[aj,aj,decide_eq_true_eq,decide_eq_true_eq,decide_eq_true_eq]at f;obtain⟨⟨x,B⟩,J⟩:=f;obtain⟨m,rfl⟩:=dg x;obtain⟨n,rfl⟩:=dg (eU x B);exact⟨.many k m n,by simp only[Kd.t],by omega,by omega,C⟩
       ·cases h
      ·cases h
  ·cases h
noncomputable def ZB (c:List (List T)):List (List T)->List (List T)
 | []=>c
 | d :: r=>ZB (c.flatMap λa=>d.map λx=>a++[x]) r
abbrev Yd (ls:List (List T)):List T:=(ZB [[]] ls).map T.tup
mutual
noncomputable def Kd.all:Kd->List T
 | .whole lo hi=>(aN (hi+1 - lo).toNat).map λ(i:Nat)=>T.int (lo+(i:Int))
 | .pick a=>a.map λc=>T.str c.1
 | .row d=>Yd (Kd.alls d)
 | .many k lo hi=>(aN (hi+1 - lo)).flatMap λi=>Yd (ag (lo+i) k.all)
noncomputable def Kd.alls:List Kd->List (List T)
 | []=>[]
 | k :: a=>k.all :: Kd.alls a
end
theorem Kd.alls_map:∀a:List Kd,Kd.alls a=a.map Kd.all
 | []=>by simp only[Kd.alls,bI]
 | k :: a=>by simp only[Kd.alls,ar,Kd.alls_map a]
noncomputable def mR:List Nat->Nat
 | []=>1
 | n :: r=>n*mR r
theorem wl:∀{a:List Nat},(∀n∈a,1<=n)->1<=mR a
 | [],_=>am _
 | n :: a,h=>dj (h n aa) (wl λm c=>h m (a9 _ c))
theorem JD {d e:Type}(f:d->List e)(n:Nat):∀c:List d,(∀a∈c,(f a).length=n)->(c.flatMap f).length=c.length*n
 | [],_=>by simp
 | a :: c,h=>by
  rw[bW,az,h a aa,JD f n c λb g=>h b (a9 _ g),aw,fO,cz,dU]
theorem wm:∀(d:List (List T)) (c:List (List T)),(ZB c d).length=c.length*mR (d.map (·.length))
 | [],c=>by simp[ZB,mR]
 | l :: d,c=>by
  rw[ZB,wm d,JD _ _ _ λa _=>ae ..,ar,mR,dF]
abbrev Am:En->RS:=vY 3 (zA (Z5 (vE 2)) (zw 0) (zV) (zd zv (vE 1) (Za (za (vE 0) (ze)))) 1 [4])
theorem US (g:l.length<=mF):∀(c:List (List T)) (acc:List T) (x:Sl),(∀a∈c,a.length<=1000)->acc.length+c.length*l.length<=mF->
  ∃y,Zu (zw 4) Am (c.map T.tup) [.vl L,.vl M,.vl (.lst l),.ow acc,x]= .nx [.vl L,.vl M,.vl (.lst l),.ow (acc++(c.flatMap λa=>l.map λx=>a++[x]).map T.tup),y]
 | [],acc,x,_,_=>⟨x,by simp[Zu]⟩
 | a :: c,acc,x,f,d=>by
  have k:=f a aa;have i:mF=16777216:=rfl;rw[aw,fO]at d;have p:zq _ _ (zd zv (vE 1) (Za (za (vE 0) (ze)))) 1 [4] [.vl L,.vl M,.vl (.lst l),.ow acc,.vl (.tup a)] l= .ok (l.map λx=>T.tup _):=
   zK l g λx q=>by
    exact UQ (by rw[aK];omega)
  have j:Am [.vl L,.vl M,.vl (.lst l),.ow acc,.vl (.tup a)]= .nx [.vl L,.vl M,.vl (.lst l),.ow (acc++l.map λx=>T.tup (a++[x])),.vl (.tup a)]:=by
   show (((zq _ _ _ _ _ _ l).bind _).s _)=_;rw[p,i3];show (if _ then _ else _)=_
   rw[if_pos (by rw[ae];omega)]
   rfl
  obtain⟨y,o⟩:=US g c (acc++l.map λx=>T.tup _) _ (λb d=>f b (a9 _ d)) (by rw[az,ae];omega)
  refine⟨y, ?_⟩;have e:Zu (zw 4) _ ((a :: c).map T.tup) [.vl L,.vl M,.vl (.lst l),.ow acc,x]=match Am [.vl L,.vl M,.vl _,.ow acc,.vl _] with
   | .nx ρ2=>Zu _ _ _ ρ2
   | .ct ρ2=>Zu _ _ _ ρ2
   | .bk ρ2=> .nx ρ2
   | r=>r:=rfl
  rw[e,j];dsimp only;rw[o,bW,cM,aZ,bi];rfl
abbrev xj:En->RS:=(zn (uO 3 (ze))
  (zn (ZD (Z5 (vE 1)) (zw 4) Am)
  (tU 1 3)))
theorem ux (m:Nat):∀(f:List (List T)) (c:List (List T)) (k:Nat) (x y z:Sl),(∀a∈c,a.length<=k)->k+f.length<=1000->(∀l∈f,1<=l.length)->c.length*mR (f.map (·.length))<=mF->1<=c.length->
  ∃o j B,Zu (zw 2) xj (f.map T.lst) [.vl L,.vl (.lst (c.map T.tup)),x,y,z]= .nx [.vl L,.vl (.lst ((ZB c f).map T.tup)),o,j,B]
 | [],c,k,x,y,z,_,_,_,_,_=>⟨x,y,z,by simp[Zu,ZB]⟩
 | l :: f,c,k,x,y,z,G,C,d,i,I=>by
  have D:=wl λn hn=>by
   obtain⟨p,g,rfl⟩:=aA.mp hn;exact d p (a9 _ g)
  rw[ar,mR,← dF]at i;have F:=av (dh _ D) i;have q:=av (Nat.le_mul_of_pos_left _ I) F;rw[aw]at C;obtain⟨w,N⟩:=US q _ [] z (λa v=>av (G a v) (by omega)) (by rw[cN];omega)
  have O:xj [.vl L,.vl (.lst (c.map T.tup)),.vl (.lst l),y,z]= .nx [.vl L,.vl (.lst ((c.flatMap λa=>l.map λx=>a++[x]).map T.tup)),.vl (.lst l),.vl (.lst ((c.flatMap λa=>l.map λx=>a++[x]).map T.tup)),w]:=by
   have M:uO 3 (ze) [.vl L,.vl (.lst (c.map T.tup)),.vl (.lst l),y,z]= .nx [.vl L,.vl _,.vl _,.ow [],z]:=rfl;have P:ZD (Z5 (vE 1)) _ _ [.vl L,.vl (.lst _),.vl _,.ow [],z]= .nx [.vl L,.vl _,.vl _,.ow ((c.flatMap λa=>l.map λx=>a++[x]).map _),w]:=N;unfold xj;rw[zY,M];dsimp only;rw[zY,P];rfl
  obtain⟨o,j,B,Q⟩:=ux m f (c.flatMap λa=>l.map λx=>a++[x]) (k+1) _ (.vl (.lst ((c.flatMap λa=>l.map λx=>a++[x]).map _))) w (λa v=>by
   obtain⟨b,i,J⟩:=di.mp v;obtain⟨u,_,rfl⟩:=aA.mp J;have:=G b i;rw[az,aK];omega) (by omega) (λp g =>d p (a9 _ g)) (by
    rw[JD _ _ _ λa _=>ae ..];exact i) (by
    rw[JD _ _ _ λa _=>ae ..];exact dj I (d l aa))
  refine⟨o,j,B, ?_⟩;have e:Zu (zw 2) _ ((l :: f).map T.lst) [.vl L,.vl (.lst (c.map T.tup)),x,y,z]=match xj [.vl L,.vl _,.vl _,y,z] with
   | .nx ρ2=>Zu _ _ _ ρ2
   | .ct ρ2=>Zu _ _ _ ρ2
   | .bk ρ2=> .nx ρ2
   | r=>r:=rfl
  rw[e,O];exact Q
theorem Qe (c:List (List T))(o:c.length<=1000)(d:∀l∈c,1<=l.length)(k:mR (c.map (·.length))<=mF):nq [.lst (c.map T.lst)]= .ok (.lst (Yd c)):=by
 obtain⟨q,r,p,g⟩:=ux 0 c [[]] 0 .un .un .un (λa f=>by rw[aq.mp f];exact am _) (by omega) d (by rw[aK,cz];exact k) (am _)
 have e:nq [.lst (c.map T.lst)]=zk (Ba [.vl _,.un,.un,.un,.un]):=rfl;have j:zC 1 (Zc (za (Za (ze)) (ze))) [.vl (.lst (c.map T.lst)),.un,.un,.un,.un]= .nx [.vl _,.vl _,.un,.un,.un]:=rfl;have i:ZD (Z5 (vE 0)) _ _ [.vl (.lst _),.vl (.lst [.tup []]),.un,.un,.un]= .nx _:=g;rw[e,Ba,zY,j];dsimp only;rw[zY,i];rfl
theorem jj (n:Nat):∀m:Nat,mR (ag m n)=n ^ m
 | 0=>rfl
 | m+1=>by rw[bv,mR,jj n m,iL,dm]
theorem JE (a:List (List T)):(Yd a).length=mR (a.map (·.length)):=by
 rw[ae,wm,aK,cz]
noncomputable def pw (n lo hi:Nat):Nat:=((aN (hi+1 - lo)).map λi=>n ^ (lo+i)).sum
theorem jx (k:Kd)(lo hi:Nat):(Kd.many k lo hi).all.length=pw k.all.length lo hi:=by
 rw[Kd.all,List.length_flatMap,pw];congr 1
 refine c6 λi _=> ?_;rw[JE,aS,jj]
theorem Jh (a:List Kd):(Kd.row a).all.length=mR (a.map λk=>k.all.length):=by
 rw[Kd.all,JE,Kd.alls_map,aZ];rfl
theorem jk (lo hi:Int):(Kd.whole lo hi).all.length=(hi+1 - lo).toNat:=by
 rw[Kd.all,ae,bJ]
theorem Wy (a:List (Str×Int)):(Kd.pick a).all.length=a.length:=by
 rw[Kd.all,ae]
theorem g6 (h:lo<=hi)(a:hi<=3):(lo=0/\hi=0)\/(lo=0/\hi=1)\/(lo=0/\hi=2)\/(lo=0/\hi=3)\/(lo=1/\hi=1)\/(lo=1/\hi=2)\/(lo=1/\hi=3)\/(lo=2/\hi=2)\/(lo=2/\hi=3)\/(lo=3/\hi=3):=(by decide:∀hi lo:Fin 4,lo.1<=hi.1->(lo.1=0/\hi.1=0)\/(lo.1=0/\hi.1=1)\/(lo.1=0/\hi.1=2)\/(lo.1=0/\hi.1=3)\/(lo.1=1/\hi.1=1)\/(lo.1=1/\hi.1=2)\/(lo.1=1/\hi.1=3)\/(lo.1=2/\hi.1=2)\/(lo.1=2/\hi.1=3)\/(lo.1=3/\hi.1=3)) ⟨hi,lR a⟩ ⟨lo,lR (av h a)⟩ h
noncomputable def iv (b:Bool):Nat:=if b then 1 else 0
theorem g9 (n:Nat)(h:lo<=hi)(a:hi<=3):pw n lo hi=iv (lo == 0)+n*iv (decide (lo<=1) && decide (1<=hi))+n*n*iv (decide (lo<=2) && decide (2<=hi))+n*n*n*iv (hi == 3):=by
 rcases g6 h a with ⟨rfl,rfl⟩ | ⟨rfl,rfl⟩ | ⟨rfl,rfl⟩ | ⟨rfl,rfl⟩ | ⟨rfl,rfl⟩ | ⟨rfl,rfl⟩ | ⟨rfl,rfl⟩ | ⟨rfl,rfl⟩ | ⟨rfl,rfl⟩ | ⟨rfl,rfl⟩ <;>
  simp[pw,iN,iv,iL]
 all_goals omega
theorem Li (hn:1<=n)(h:lo<=hi)(a:hi<=3):1<=pw n lo hi:=by
 have c:=dj hn hn;have d:=dj c hn;rw[g9 n h a];rcases g6 h a with ⟨rfl,rfl⟩ | ⟨rfl,rfl⟩ | ⟨rfl,rfl⟩ | ⟨rfl,rfl⟩ | ⟨rfl,rfl⟩ | ⟨rfl,rfl⟩ | ⟨rfl,rfl⟩ | ⟨rfl,rfl⟩ | ⟨rfl,rfl⟩ | ⟨rfl,rfl⟩ <;>
  simp[iv] <;> omega
theorem Ff (hn:n<=N)(h:lo<=hi)(a:hi<=3):pw n lo hi<=1+N+N*N+N*N*N:=by
 have c:=bo hn hn;have d:=bo c hn;rw[g9 n h a];rcases g6 h a with ⟨rfl,rfl⟩ | ⟨rfl,rfl⟩ | ⟨rfl,rfl⟩ | ⟨rfl,rfl⟩ | ⟨rfl,rfl⟩ | ⟨rfl,rfl⟩ | ⟨rfl,rfl⟩ | ⟨rfl,rfl⟩ | ⟨rfl,rfl⟩ | ⟨rfl,rfl⟩ <;>
  simp[iv] <;> omega
theorem Xw (d:1<=N):∀(a:List Nat),(∀n∈a,n<=N)->mR a<=N ^ a.length
 | [],_=>am _
 | n :: a,h=>by
  rw[mR,dm];exact bo (Xw d a λm c=>h m (a9 _ c)) (h n aa)
theorem ZT:∀(d:Nat) (k:Kd),k.Ok d->1<=k.all.length
 | 0,_,h=>h.elim
 | d+1,.whole lo hi,h=>by
  obtain⟨_,c,_⟩:=h;rw[jk];omega
 | d+1,.pick e,h=>by
  rw[Wy];exact h.1
 | d+1,.row f,h=>by
  rw[Jh];refine wl λn hn=> ?_;obtain⟨k,a,rfl⟩:=aA.mp hn;exact ZT d k (h.2.2 k a)
 | d+1,.many k lo hi,h=>by
  rw[jx];exact Li (ZT d k h.2.2) h.1 h.2.1
noncomputable def mx:Nat->Nat
 | 0=>0
 | 1=>41
 | d+1=>1+mx d+mx d*mx d+mx d*mx d*mx d
theorem Xx (d:Nat):41<=mx (d+1):=by
 induction d with
 | zero=>exact am _
 | succ d a=>
  show 41<=1+mx _+mx _*mx _+mx _*mx _*mx _;omega
theorem Qf (d:Nat)(n:Nat)(h:n<=41):n<=mx (d+1):=av h (Xx d)
theorem gc (a:1<=N)(h:m<=3):N ^ m<=1+N+N*N+N*N*N:=by
 have:m=0\/m=1\/m=2\/m=3:=by omega
 rcases this with rfl | rfl | rfl | rfl <;> simp[iL] <;> omega
theorem jD:∀(d:Nat) (k:Kd),k.Ok d->k.all.length<=mx d
 | 0,_,h=>h.elim
 | d+1,.whole lo hi,h=>by
  obtain⟨e,c,a⟩:=h;rw[jk];exact Qf d _ (by omega)
 | d+1,.pick i,h=>by
  rw[Wy];exact Qf d _ (av h.2.1 (by omega))
 | 1,.row f,h=>by
  obtain⟨e,c,a⟩:=h
  match f,e,a with
  | k :: _,_,a=>exact(a k aa).elim
 | d+2,.row f,h=>by
  obtain⟨e,c,a⟩:=h;rw[Jh];have hp:=av (by omega:1<=41) (Xx d)
  have:=Xw hp (f.map λk=>k.all.length) λn hn=>by
   obtain⟨k,g,rfl⟩:=aA.mp hn;exact jD _ k (a k g)
  rw[ae]at this;exact av this (gc hp c)
 | 1,.many k lo hi,h=>h.2.2.elim
 | d+2,.many k lo hi,h=>by
  rw[jx];exact Ff (jD _ k h.2.2) h.1 h.2.1
theorem zc (h:f ρ= .nx ρ'):zn f g ρ=g ρ' :=by rw[zY,h]
theorem nQ:zp my (zd kj (vE 0) (cE (.int 0))) (cE (.str w)) (.vl (.tup (.str x :: r)) :: ρ)= .ok (x == w):=by
 rw[zB,zh,v0,i3,zW,i3,pr,zW,i3];rfl
theorem jE:zd kj (vE 0) (cE (.int 1)) (.vl (.tup (a :: b :: r)) :: ρ)= .ok b:=by
 rw[zh,v0,i3,zW,i3,o9]
theorem Wz:zd kj (vE 0) (cE (.int 2)) (.vl (.tup (a :: b :: c :: r)) :: ρ)= .ok c:=by
 rw[zh,v0,i3,zW,i3,DH]
theorem Gg:zd kj (vE 0) (cE (.int 3)) (.vl (.tup (a :: b :: c :: d :: r)) :: ρ)= .ok d:=by
 rw[zh,v0,i3,zW,i3,Ez]
theorem U7 (h:f ρ= .ok (.int i)):zd zv f (cE (.int 1)) ρ= .ok (.int (i+1)):=by
 rw[zh,h,i3,zW,i3,zZ]
theorem U8 (a:f ρ= .ok (.int i))(c:g ρ= .ok (.int j))(h: -1000000 < i/\i < 1000000/\ -1000000 < j/\j < 1000000):Jy f g ρ= .ok (rng i (j - i).toNat):=by
 unfold Jy;rw[a,c];exact if_pos h
theorem Qg:∀(a:List (Str×Int)) (x y:Sl),zx (zN 0 1) zV (vE 0) (a.map Jz) [x,y]= .ok (a.map λc=>T.str c.1)
 | [],_,_=>rfl
 | c :: a,x,y=>by
  have e:zx (zN 0 1) zV (vE 0) ((c :: a).map Jz) [x,y]=(zx _ _ _ _ [.vl _,.vl _]).bind λvs=> .ok _:=rfl;rw[e,Qg a];rfl
theorem wq {x:T}{m:Nat}(h:m<=3):zU (.lst [x]) (.int (m:Int))= .ok (.lst (ag m [x]).flatten):=by
 unfold zU;dsimp only;have c:0<=(m:Int)/\(m:Int) < 1000000/\[x].length*(m:Int).toNat<=mF:=by
  have a:3<=mF:=by decide
  refine⟨by omega,by omega, ?_⟩
  rw[aK,cz];exact av h a
 rw[if_pos c,b9]
theorem ZP {a:Type}(x:a):∀m:Nat,(ag m [x]).flatten=ag m x
 | 0=>rfl
 | m+1=>by rw[bv,i7,ZP x m];rfl
abbrev U9 (ca cr:List T->R T):En->RS:=vY 1 (zb 1 cr (za (zd zU (Zc (za (zb 1 ca (za (zd kj (vE 0) (cE (.int 1))) (ze))) (ze))) (vE 2)) (ze)))
theorem V2 (a:f ρ= .ok x):Zc (za f ze) ρ= .ok (.lst [x]):=by
 unfold Zc za ze;rw[a];rfl
theorem uy {ca:List T->R T}{k:Kd}{t:T}{lo:Nat}{d:List T}(q:ca [t]= .ok (.lst d))(f:1<=d.length){a b c:T}:∀(js:List Nat) (acc:List T) (x:Sl),(∀j∈js,lo+j<=3)->acc.length+(js.map λj=>d.length ^ (lo+j)).sum<=mF->
  ∃y,Zu (zw 2) (U9 ca nq) (js.map λ(j:Nat)=>T.int ((lo:Int)+(j:Int))) [.vl (.tup [a,t,b,c]),.ow acc,x]= .nx [.vl (.tup [a,t,b,c]),.ow (acc++js.flatMap λj=>Yd (ag (lo+j) d)),y]
 | [],acc,x,_,_=>⟨x,by simp[Zu]⟩
 | j :: js,acc,x,o,B=>by
  have F:=o j aa;rw[ar,cg]at B;have C:nq [.lst ((ag (lo+j) d).map _)]= .ok _:=Qe _ (by rw[aV];omega) (λl v=>by rw[bF v];exact f) (by rw[aS,jj];omega)
  have p:(Yd (ag (lo+j) d)).length=d.length ^ (lo+j):=by rw[JE,aS,jj]
  have G:zU (.lst [.lst d]) (.int ((lo)+(j)))= .ok (.lst ((ag (lo+j) d).map T.lst)):=by
   have g:(lo:Int)+(j)=((lo+j:Nat)):=by omega
   rw[g,wq (by omega),ZP,aS]
  have u:U9 ca nq [.vl (.tup [a,t,b,c]),.ow acc,.vl (.int ((lo)+(j)))]= .nx [.vl (.tup [a,t,b,c]),.ow (acc++Yd (ag (lo+j) d)),.vl (.int ((lo)+(j)))]:=by
   have g:zb 1 nq (za (zd zU (Zc (za (zb 1 ca (za (zd kj (vE 0) (cE (.int 1))) (ze))) (ze))) (vE 2)) (ze)) [.vl (.tup [a,t,b,c]),.ow acc,.vl (.int ((lo)+(j)))]= .ok (.lst (Yd (ag (lo+j) d))):=by
    have w:zb 1 ca (za (zd kj (vE 0) (cE (.int 1))) (ze)) [.vl (.tup [a,t,b,c]),.ow acc,.vl (.int ((lo)+(j)))]= .ok (.lst d):=by
     rw[zI,jE,i3,q]
    rw[zI,zh,V2 w,i3,v2,i3,G,i3,C]
   show ((zb 1 _ _ _).s λt=>match t with | .lst D=>if acc.length+D.length<=mF then RS.nx _ else .bad | _=> .bad)=_
   rw[g];show (if _ then _ else _)=_
   rw[if_pos (by omega)]
   rfl
  obtain⟨y,I⟩:=uy (k:=k) q f js (acc++Yd (ag (lo+j) d)) _ (λi hi=>o i (a9 _ hi)) (by rw[az];omega)
  refine⟨y, ?_⟩;have e:Zu (zw 2) (U9 ca nq) ((j :: js).map λ(j:Nat)=>T.int ((lo)+(j))) [.vl (.tup [a,t,b,c]),.ow acc,x]=match U9 ca _ [.vl _,.ow acc,.vl _] with
   | .nx ρ2=>Zu _ _ (js.map λ(j)=>T.int _) ρ2
   | .ct ρ2=>Zu _ _ (js.map λ(j)=>T.int _) ρ2
   | .bk ρ2=> .nx ρ2
   | r=>r:=rfl
  rw[e,u];dsimp only;rw[I,bW,bi]
theorem xk (g:lo<=hi)(f:hi<=3){r:RS}
  (d:Zu (zw 2) (U9 ca nq) ((aN (hi+1 - lo)).map λ(j:Nat)=>T.int ((lo:Int)+(j:Int))) [.vl (.tup [a,t,.int (lo:Int),.int (hi:Int)]),.ow acc,x]=r):
  ZD (Jy (zd kj (vE 0) (cE (.int 2))) (zd zv (zd kj (vE 0) (cE (.int 3))) (cE (.int 1)))) (zw 2) (U9 ca nq) [.vl (.tup [a,t,.int (lo:Int),.int (hi:Int)]),.ow acc,x]=r:=by
 have hn:((hi:Int)+1 - (lo)).toNat=hi+1 - lo:=by omega
 have c: -1000000 < (lo:Int)/\(lo:Int) < 1000000/\ -1000000 < (hi:Int)+1/\(hi:Int)+1 < 1000000:=by omega
 have e:ZD (Jy (zd kj (vE 0) (cE (.int 2))) (zd zv (zd kj (vE 0) (cE (.int 3))) (cE (.int 1)))) (zw 2) (U9 ca nq) [.vl (.tup [a,t,.int (lo),.int (hi)]),.ow acc,x]=(Jy _ _ _).s λts=>Zu _ _ ts _:=rfl;rw[e,U8 Wz (U7 Gg) c,hn];exact d
theorem EO (e:L=pw n lo hi)(h:L<=1000000):([]:List T).length+((aN (hi+1 - lo)).map λj=>n ^ (lo+j)).sum<=mF:=by
 have h' :pw n lo hi<=mF:=av (e ▸ h) (by decide)
 rw[cN,fZ];exact h'
theorem Qh (d:Nat)(lo hi:Int)(h:(Kd.whole lo hi).Ok (d+1))(f:(Kd.whole lo hi).all.length<=1000000)(H:∀a :Kd,a.Ok d->ca [a.t]= .ok (.lst a.all)):zk (nA ca nq (mB 3 [(Kd.whole lo hi).t]))= .ok (.lst (Kd.whole lo hi).all):=by
 have e:zk (nA ca nq (mB 3 [(Kd.whole lo hi).t]))=zk (nA ca _ [.vl _,.un,.un]):=rfl;rw[e,nA,zY,j9];obtain⟨g,c,i⟩:=h;simp only[Kd.t];rw[Zd,ji,Wu];unfold sY;rw[U8 jE (U7 Wz) ⟨by omega,by omega,by omega,by omega⟩]
 rfl
theorem xl (d:Nat)(a:List (Str×Int))(h:(Kd.pick a).Ok (d+1))(k:(Kd.pick a).all.length<=1000000)(H:∀f :Kd,f.Ok d->ca [f.t]= .ok (.lst f.all)):zk (nA ca nq (mB 3 [(Kd.pick a).t]))= .ok (.lst (Kd.pick a).all):=by
 have g:mF=16777216:=rfl;have e:zk (nA ca nq (mB 3 [(Kd.pick a).t]))=zk (nA ca _ [.vl _,.un,.un]):=rfl;rw[e,nA,zY,j9];simp only[Kd.t];rw[nQ,j1,show (("pick":Str) == "whole")=false from rfl,if_neg ax,wX];dsimp only;rw[zY,j9,Zd,ji,Wu,Wu,jO,zJ,Zs,jE];have j:=h.2.1;have i:zq (zN 0 1) zV (vE 0) 2 [] [.vl (.tup [.str "pick",.tup (a.map Jz)]),.un,.un] (a.map Jz)= .ok (a.map λc=>T.str c.1):=by
  unfold zq;rw[if_pos (by rw[ae];omega)]
  show quiet (zx _ _ _ _ [.un,.un])=_;rw[Qg];rfl
 show zk (match ((((R.ok _).bind λts=>(zq _ _ _ 2 [] _ ts).bind λvs=> .ok _)).s λt=> .rt t) with | .nx ρ' =>_ | r=>r)=_
 rw[i3,i];rfl
theorem gh (d:Nat)(a:List Kd)(h:(Kd.row a).Ok (d+1))(o:(Kd.row a).all.length<=1000000)(H:∀c :Kd,c.Ok d->ca [c.t]= .ok (.lst c.all)):zk (nA ca nq (mB 3 [(Kd.row a).t]))= .ok (.lst (Kd.row a).all):=by
 have q:mF=16777216:=rfl;have e:zk (nA ca nq (mB 3 [(Kd.row a).t]))=zk (nA ca _ [.vl _,.un,.un]):=rfl;rw[e,nA,zY,j9];obtain⟨C,B,i⟩:=h;simp only[Kd.t];rw[nQ,j1,show (("row":Str) == "whole")=false from rfl,if_neg ax,wX];dsimp only;rw[zY,j9,nQ,j1,show (("row":Str) == "pick")=false from rfl,if_neg ax,wX];dsimp only;rw[zY,j9,Zd,ji,Wu,Wu,jO,zI,Kd.ts_map];have w:zq (zw 0) zV (zb 1 ca (za (vE 0) (ze))) 1 [] [.vl (.tup [.str "row",.tup (a.map Kd.t)]),.un,.un] (a.map Kd.t)= .ok ((a.map Kd.all).map T.lst):=by
  unfold zq;rw[if_pos (by rw[ae];omega)]
  show quiet (zx _ _ _ _ [.un])=_;have:∀(a:List Kd) (x:Sl),(∀k∈a,k.Ok d)->zx (zw 0) zV (zb 1 ca (za (vE 0) (ze))) (a.map Kd.t) [x]= .ok ((a.map Kd.all).map T.lst):=by
   intro a
   induction a with
   | nil=>intro _ _;rfl
   | cons k a u=>
    intro x f;have p:zx (zw 0) zV (zb 1 ca (za (vE 0) (ze))) ((k :: a).map _) [x]=(zb 1 ca _ [.vl k.t]).bind λv=>(zx _ _ _ _ [.vl k.t]).bind λvs=> .ok _:=rfl;rw[p,zI,v0,i3,H k (f k aa),u _ λc g =>f c (a9 _ g)];rfl
  rw[this a .un i];rfl
 have j:=Jh a;have y:nq [.lst ((a.map Kd.all).map _)]= .ok _:=Qe _ (by rw[ae];omega) (λl o=>by
  obtain⟨k,f,rfl⟩:=aA.mp o;exact ZT d k (i k f)) (by
  rw[aZ];show mR (a.map λk=>k.all.length)<=mF;omega)
 show zk (match ((((R.ok _).bind λts=>(zq _ _ _ 1 [] _ ts).bind λvs=> .ok _).bind λx=>nq [x]).s λt=> .rt t) with | .nx ρ' =>_ | r=>r)=_
 rw[i3,w,i3,i3,y,Kd.all,Kd.alls_map];rfl
theorem xm {ca:List T->R T}(d:Nat)(k:Kd)(lo hi:Nat)(h:(Kd.many k lo hi).Ok (d+1))(r:(Kd.many k lo hi).all.length<=1000000)(H:∀g :Kd,g.Ok d->ca [g.t]= .ok (.lst g.all)):zk (nA ca nq (mB 3 [(Kd.many k lo hi).t]))= .ok (.lst (Kd.many k lo hi).all):=by
 have q:mF=16777216:=rfl;have e:zk (nA ca nq (mB 3 [(Kd.many k lo hi).t]))=zk (nA ca nq [.vl (Kd.many k lo hi).t,.un,.un]):=rfl;rw[e,nA,zY,j9];obtain⟨u,o,l⟩:=h;have f:=jx k lo hi;simp only[Kd.t];rw[nQ,j1,show (("many":Str) == "whole")=false from rfl,if_neg ax,wX];dsimp only;rw[zY,j9,nQ,j1,show (("many":Str) == "pick")=false from rfl,if_neg ax,wX];dsimp only;rw[zY,j9,nQ,j1,show (("many":Str) == "row")=false from rfl,if_neg ax,wX];dsimp only;have v:uO 1 (ze) [.vl (.tup [.str "many",k.t,.int (lo:Int),.int (hi:Int)]),.un,.un]= .nx [.vl (.tup [.str "many",k.t,.int (lo:Int),.int (hi:Int)]),.ow [],.un]:=rfl;rw[zY,v];dsimp only;obtain⟨y,p⟩:=uy (k:=k) (lo:=lo) (H k l) (ZT d k l) (a:= .str "many") (b:= .int (lo:Int)) (c:= .int (hi:Int)) (aN (hi+1 - lo)) [] .un (λj w=>by have:=aT.mp w;omega) (EO f r)
 have i:=xk (ca:=ca) (t:=k.t) u o p;rw[bP]at i;rw[zc i,Kd.all];rfl
theorem xn (d:Nat)(k:Kd)(h:k.Ok (d+1))(a:k.all.length<=1000000)(H:∀c :Kd,c.Ok d->ca [c.t]= .ok (.lst c.all)):zk (nA ca nq (mB 3 [k.t]))= .ok (.lst k.all):=by
 cases k with
 | whole lo hi=>exact Qh d lo hi h a H
 | pick e=>exact xl d e h a H
 | row f=>exact gh d f h a H
 | many k lo hi=>exact xm d k lo hi h a H
theorem Xy:∀(d n:Nat),d<=n->d<=3->∀k:Kd,k.Ok d->k.all.length<=1000000->pM n 0 [k.t]= .ok (.lst k.all)
 | 0,_,_,_,_,h,_=>h.elim
 | d+1,0,hn,_,_,_,_=>by omega
 | d+1,n+1,hn,hd,k,h,f=>by
  have e:pM (n+1) 0 [k.t]=zk (nA (pM n 0) nq (mB 3 [k.t])):=rfl;rw[e];refine xn d k h f λc a =>Xy d n (by omega) (by omega) c a ?_
  have g:=jD d c a;have:mx d<=1000000:=by
   have:d=0\/d=1\/d=2:=by omega
   rcases this with rfl | rfl | rfl <;> decide
  omega
theorem Fl:zp nt (zd kj (vE 0) (cE (.int 0))) (Za (za (cE (.str a)) (za (cE (.str b)) (ze)))) (.vl (.tup (.str x :: r)) :: ρ)=nt (.str x) (.tup [.str a,.str b]):=by
 rw[zB,zh,v0,i3,zW,i3,pr,i3,UO zW zW,i3]
theorem jF (h:g ρ= .ok true):mD g f1 f2 ρ=f1 ρ:=by rw[j9,h,j1,if_pos rfl]
theorem BS (h:g ρ= .ok false):mD g f1 f2 ρ=f2 ρ:=by rw[j9,h,j1,if_neg ax]
theorem zj (h:g ρ= .ok false):mD g f1 mC ρ= .nx ρ:=by rw[BS h];rfl
theorem zE (h:f ρ= .ok t):zC i f ρ= .nx (ρ.set i (.vl t)):=by rw[wg,h,j1]
theorem zg (h:f (frz ρ)= .ok t):zr f ρ= .rt t:=by rw[Zd,h,j1]
theorem ZI {g:T->En->R En}(c:g t ρ= .ok ρ1)(a:fb ρ1= .nx ρ2):Zu g fb (t :: ts) ρ=Zu g fb ts ρ2:=by
 rw[Zu,c];dsimp only;rw[a]
theorem CH (i:Nat)(t:T)(ρ:En):zw i t ρ= .ok (ρ.set i (.vl t)):=rfl
theorem zu (h:f ρ= .rt t):zn f g ρ= .rt t:=by rw[zY,h]
theorem Qi {i j:Nat}(h:i < 2 ^ 60):zU (.int (i:Int)) (.int (j:Int))= .ok (.int ((i*j:Nat):Int)):=by
 rw[Qb _ _ (.inl ⟨by omega,by omega⟩),fR]
theorem Ee (h:n<=mx d)(hd:d<=3):n < 2 ^ 60:=by
 have:d=0\/d=1\/d=2\/d=3:=by omega
 have f:mx 3 < 2 ^ 60:=by decide
 have a:mx 2 < 2 ^ 60:=by decide
 have c:mx 1 < 2 ^ 60:=by decide
 have e:mx 0 < 2 ^ 60:=by decide
 rcases this with rfl | rfl | rfl | rfl <;> omega
theorem UT {a b:Sl}:∀(c:List Nat) (m:Nat) (x y:Sl),(∀n∈c,1<=n)->m*mR c < 2 ^ 60->∃f,Zu (zw 3) (zC 2 (zd zU (vE 2) (vE 3))) (c.map λ(n:Nat)=>T.int (n:Int)) [a,b,.vl (.int (m:Int)),x,y]= .nx [a,b,.vl (.int ((m*mR c:Nat):Int)),f,y]
 | [],m,x,y,_,_=>⟨x,by simp[Zu,mR]⟩
 | n :: c,m,x,y,hp,i=>by
  have g:=wl λk j=>hp k (a9 _ j);have hn:=hp n aa;have e:m<=m*mR (n :: c):=dh _ (dj hn g);have d:=bq e i;rw[mR,← dF]at i;obtain⟨f,p⟩:=UT c _ _ y (λk j=>hp k (a9 _ j)) i;refine⟨f, ?_⟩;have l:zC 2 (zd zU (vE 2) (vE 3)) [a,b,.vl (.int (m)),.vl (.int (n)),y]= .nx [a,b,.vl (.int ((m*n):Int)),.vl (.int (n)),y]:=by
   rw[wg,zh,v2,i3,v3,i3,Qi d];rfl
  have o:zw 3 (T.int (n)) [a,b,.vl (.int (m)),x,y]= .ok _:=rfl;rw[ar,ZI o l,mR,← dF];exact p
theorem UU:∀(d:Nat) (lo hi:Int),(Kd.whole lo hi).Ok (d+1)->(Kd.whole lo hi).Ok 1
 | _,_,_,h=>h
theorem xo:∀(d:Nat) (a:List (Str×Int)),(Kd.pick a).Ok (d+1)->(Kd.pick a).Ok 1
 | _,_,h=>h
theorem uz (k:Kd)(h:k.Ok 1)(c:k.t= .tup (.str x :: r))(a:nt (.str x) (.tup [.str "whole",.str "pick"])= .ok true):zk (nU (ot 8) cs (mB 5 [k.t]))= .ok (.int (k.all.length:Int)):=by
 have d:ot 8 _= .ok _:=Xy 1 8 (by omega) (by omega) k h (av (jD 1 k h) (by decide))
 have e:zk (nU (ot 8) cs (mB 5 [k.t]))=zk (nU _ cs [.vl k.t,.un,.un,.un,.un]):=rfl;have g:zp nt (zd kj (vE 0) (cE (.int 0))) (Za (za (cE (.str "whole")) (za (cE (.str "pick")) (ze)))) [.vl k.t,.un,.un,.un,.un]= .ok true:=by
  rw[c,Fl,a]
 have f:zr (mw Z6 (zb 1 (ot 8) (za (vE 0) (ze)))) [.vl k.t,.un,.un,.un,.un]= .rt (.int (k.all.length)):=by
  refine zg ?_;rw[ji,Z8,zI,v0,i3,d,i3,DV]
 rw[e,nU,zu (by rw[jF g,f])]
 rfl
theorem Hv (b:Bool):b2 b=(iv b:Int):=by cases b <;> rfl
theorem xp (hd:d+1<=3)(c:List Kd)(h:(Kd.row c).Ok (d+1))(H:∀k:Kd,k.Ok d->cs [k.t]= .ok (.int (k.all.length:Int))):zk (nU (ot 8) cs (mB 5 [(Kd.row c).t]))= .ok (.int ((Kd.row c).all.length:Int)):=by
 have f:=Ee (jD _ _ h) hd;rw[Jh]at f ⊢;obtain⟨F,q,o⟩:=h;simp only[Kd.t,Kd.ts_map];have e:zk (nU (ot 8) cs (mB 5 [.tup [.str "row",.tup (c.map Kd.t)]]))=zk (nU _ cs [.vl _,.un,.un,.un,.un]):=rfl;have i:zp nt (zd kj (vE 0) (cE (.int 0))) (Za (za (cE (.str "whole")) (za (cE (.str "pick")) (ze)))) [.vl (.tup [.str "row",.tup (c.map Kd.t)]),.un,.un,.un,.un]= .ok false:=by
  rfl
 have C:zq (zw 0) zV (zb 1 cs (za (vE 0) (ze))) 1 [] [.vl (.tup [.str "row",.tup (c.map Kd.t)]),.un,.un,.un,.un] (c.map Kd.t)= .ok ((c.map λk=>k.all.length).map λ(n:Nat)=>T.int (n)):=by
  unfold zq;rw[if_pos (by rw[ae];exact av q (by decide))]
  have:∀(c:List Kd) (x:Sl),(∀k∈c,k.Ok d)->zx (zw 0) zV (zb 1 cs (za (vE 0) (ze))) (c.map Kd.t) [x]= .ok ((c.map λk=>k.all.length).map λ(n:Nat)=>T.int (n)):=by
   intro c
   induction c with
   | nil=>intro _ _;rfl
   | cons k c B=>
    intro x g;have i:zx (zw 0) zV (zb 1 cs (za (vE 0) (ze))) ((k :: c).map _) [x]=(zb 1 cs _ [.vl k.t]).bind λv=>(zx _ _ _ _ [.vl k.t]).bind λvs=> .ok _:=rfl;rw[i,zI,v0,i3,H k (g k aa),B _ λw j =>g w (a9 _ j)];rfl
  show quiet (zx _ _ _ _ [.un])=_;rw[this c .un o];rfl
 have y:mZ (zp my (zd kj (vE 0) (cE (.int 0))) (cE (.str "row"))) (zA (Z5 (zd kj (vE 0) (cE (.int 1)))) (zw 0) (zV) (zb 1 cs (za (vE 0) (ze))) 1 []) (Zc (ze)) [.vl (.tup [.str "row",.tup (c.map Kd.t)]),.un,.un,.un,.un]= .ok (.lst ((c.map λk=>k.all.length).map λ(n:Nat)=>T.int (n))):=by
  unfold mZ;rw[nQ,i3,show (("row":Str) == "row")=true from rfl,if_pos rfl,zJ,Zs,jE];show ((R.ok _).bind _)=_;rw[i3,C,i3]
 obtain⟨D,l⟩:=UT (a:= .vl _) (c.map λk=>k.all.length) 1 .un .un (λn hn=>by
  obtain⟨k,g,rfl⟩:=aA.mp hn;exact ZT d k (o k g)) (by rw[cz];exact f)
 rw[cz]at l;have r:ZD (Z5 (vE 1)) _ _ [.vl _,.vl (.lst ((c.map λk=>k.all.length).map λ(n:Nat)=>T.int (n))),.vl (.int 1),.un,.un]=_:=l;rw[e,nU,zc (zj i),zc (zE y)];have u:([.vl (.tup [.str "row",.tup (c.map Kd.t)]),.un,.un,.un,.un]:En).set 1 (.vl (.lst ((c.map λk=>k.all.length).map λ(n:Nat)=>T.int (n))))=[.vl _,.vl (.lst ((c.map λk=>k.all.length).map λ(n:Nat)=>T.int (n))),.un,.un,.un]:=rfl;rw[u,zc (zE zW)];have p:([.vl (.tup [.str "row",.tup (c.map Kd.t)]),.vl (.lst ((c.map λk=>k.all.length).map λ(n:Nat)=>T.int (n))),.un,.un,.un]:En).set 2 (.vl (.int 1))=[.vl _,.vl (.lst ((c.map λk=>k.all.length).map λ(n)=>T.int _)),.vl _,.un,.un]:=rfl;rw[p,zc r];rfl
theorem Er (a:f ρ= .ok (.int i))(d:g ρ= .ok (.int j)):ny mL mL f (cE (.int c)) g ρ= .ok (.bl (decide (i<=c) && decide (c<=j))):=by
 rw[Q5,a,i3,zW,i3,wJ,d];cases decide (i<=c) <;> rfl
theorem wY (a b:Nat):decide ((a:Int)<=(b:Int))=decide (a<=b):=by
 by_cases h:a<=b
 ·rw[decide_eq_true h];exact decide_eq_true (by omega)
 ·rw[decide_eq_false h];exact decide_eq_false (by omega)
theorem UV (a b:Nat):((a:Int) == (b:Int))=(a == b):=by
 by_cases h:a=b
 ·subst h;simp
 ·rw[beq_eq_false_iff_ne.mpr h,beq_eq_false_iff_ne];omega
theorem tL (h:f ρ= .ok (.bl b)):mw qe f ρ= .ok (.int ((iv b:Nat):Int)):=by
 rw[Z8,h];show R.ok _=_;rw[Hv]
theorem Qj (c:f ρ= .ok (.int (i:Int)))(a:g ρ= .ok (.int (j:Int))):zd zv f g ρ= .ok (.int ((i+j:Nat):Int)):=by
 rw[zh,c,i3,a,i3,zZ,Int.natCast_add]
theorem Ji (h:i < 2 ^ 60)(a:f ρ= .ok (.int (i:Int)))(c:g ρ= .ok (.int (j:Int))):zd zU f g ρ= .ok (.int ((i*j:Nat):Int)):=by
 rw[zh,a,i3,c,i3,Qi h]
theorem gm (h:n<=mx d)(hd:d+1<=3)(j:1<=d):n*n*n < 2 ^ 60/\n*n < 2 ^ 60/\n < 2 ^ 60:=by
 have a:n<=70644:=by
  have:d=1\/d=2:=by omega
  have c:mx 2=70644:=by decide
  have a:mx 1=41:=by decide
  rcases this with rfl | rfl <;> omega
 have c:=bo a a;have i:=bo c a;have g:70644*70644*70644 < 2 ^ 60:=by decide
 have e:70644*70644 < 2 ^ 60:=by decide
 have f:70644 < 2 ^ 60:=by decide
 exact⟨bq i g,bq c e,bq a f⟩
noncomputable abbrev mt (t:T)(lo hi:Nat):T:= .tup [.str "many",t,.int (lo:Int),.int (hi:Int)]
theorem pR :vE 4 (a :: b :: c :: d :: .vl t :: ρ)= .ok t:=rfl
theorem Qk {t:T}{a x:Sl}{lo hi n:Nat}(o:n*n*n < 2 ^ 60)(k:n*n < 2 ^ 60)(f:n < 2 ^ 60):
  zn (zC 2 (zd zv (mw qe (ZL my (zd kj (vE 0) (cE (.int 2))) (cE (.int 0)))) (zd zU (vE 4) (mw qe (ny mL mL (zd kj (vE 0) (cE (.int 2))) (cE (.int 1)) (zd kj (vE 0) (cE (.int 3))))))))
  (zn (zC 2 (zd zv (vE 2) (zd zU (zd zU (vE 4) (vE 4)) (mw qe (ny mL mL (zd kj (vE 0) (cE (.int 2))) (cE (.int 2)) (zd kj (vE 0) (cE (.int 3))))))))
  (zC 2 (zd zv (vE 2) (zd zU (zd zU (zd zU (vE 4) (vE 4)) (vE 4)) (mw qe (ZL my (zd kj (vE 0) (cE (.int 3))) (cE (.int 3))))))))
  [.vl (mt t lo hi),a,.vl (.int 1),x,.vl (.int (n:Int))]= .nx [.vl (mt t lo hi),a,.vl (.int ((iv (lo == 0)+n*iv (decide (lo<=1) && decide (1<=hi))+n*n*iv (decide (lo<=2) && decide (2<=hi))+n*n*n*iv (hi == 3):Nat):Int)),x,.vl (.int (n:Int))]:=by
 have c:∀{p q r s:Sl},mw _ (ny mL mL _ _ _) [.vl (mt t lo hi),p,q,r,s]= .ok (.int ((iv (decide (lo<=1) && decide (1<=hi))):Int)):=λ{p q r s}=>tL (by
  rw[Er Wz Gg];rw[show decide ((lo:Int)<=1)=decide _ from wY lo 1,show decide ((1:Int)<=(hi))=decide _ from wY 1 hi])
 have j:∀{p q r s:Sl},mw _ (ny mL mL _ _ _) [.vl (mt t lo hi),p,q,r,s]= .ok (.int ((iv (decide (lo<=2) && decide (2<=hi))):Int)):=λ{p q r s}=>tL (by
  rw[Er Wz Gg];rw[show decide ((lo:Int)<=2)=decide _ from wY lo 2,show decide ((2:Int)<=(hi))=decide _ from wY 2 hi])
 have d:∀{p q r s:Sl},mw _ (ZL my (zd kj _ _) (cE _)) [.vl (mt t lo hi),p,q,r,s]= .ok _:=λ{p q r s}=>tL (by
  rw[Ze,Wz,i3,zW,i3,nL,i3,show ((lo:Int) == 0)=(lo == 0) from UV lo 0])
 have e:∀{p q r s:Sl},mw _ (ZL my (zd kj _ _) (cE _)) [.vl (mt t lo hi),p,q,r,s]= .ok _:=λ{p q r s}=>tL (by
  rw[Ze,Gg,i3,zW,i3,nL,i3,show ((hi:Int) == 3)=(hi == 3) from UV hi 3])
 have g:=zE (i:=2) (Qj (d (p:=a) (q:= .vl (.int 1)) (r:=x)) (Ji f pR c));have g:zC 2 _ _= .nx [.vl _,a,.vl _,x,.vl _]:=g;rw[zc g];generalize iv _+n*iv _=m1;have u:=zE (i:=2) (Qj (v2 (t:= .int (m1)) (b:=a) (ρ:=[x,.vl _])) (Ji k (Ji f pR pR) j));rw[zc u];generalize m1+n*n*iv _=m2;have l:=zE (i:=2) (Qj (v2 (t:= .int (m2)) (b:=a) (ρ:=[x,.vl _])) (Ji o (Ji k (Ji f pR pR) pR) e));exact l
theorem Ql {c:List T->R T}{d:Nat}(hd:d+1<=3)(k:Kd)(lo hi:Nat)(h:(Kd.many k lo hi).Ok (d+1))(H:∀k:Kd,k.Ok d->c [k.t]= .ok (.int (k.all.length:Int))):zk (nU (ot 8) c (mB 5 [(Kd.many k lo hi).t]))= .ok (.int ((Kd.many k lo hi).all.length:Int)):=by
 obtain⟨C,j,f⟩:=h;have g:1<=d:=by
  cases d with
  | zero=>exact f.elim
  | succ d=>omega
 obtain⟨v,w,p⟩:=gm (jD d k f) hd g;rw[jx,g9 _ C j];simp only[Kd.t];have F:=H k f;generalize k.all.length=n at*;generalize k.t=t at*;have e:zk (nU (ot 8) c (mB 5 [mt t lo hi]))=zk (nU _ c [.vl _,.un,.un,.un,.un]):=rfl;have q:zp nt (zd kj (vE 0) (cE (.int 0))) (Za (za (cE (.str "whole")) (za (cE (.str "pick")) (ze)))) [.vl (mt t lo hi),.un,.un,.un,.un]= .ok false:=by
  rfl
 have y:mZ (zp my (zd kj (vE 0) (cE (.int 0))) (cE (.str "row"))) (zA (Z5 (zd kj (vE 0) (cE (.int 1)))) (zw 0) (zV) (zb 1 c (za (vE 0) (ze))) 1 []) (Zc (ze)) [.vl (mt t lo hi),.un,.un,.un,.un]= .ok (.lst []):=by
  rfl
 have r:([.vl (mt t lo hi),.un,.un,.un,.un]:En).set 1 (.vl (.lst []))=[.vl _,.vl _,.un,.un,.un]:=rfl;have i:([.vl (mt t lo hi),.vl (.lst []),.un,.un,.un]:En).set 2 (.vl (.int 1))=[.vl _,.vl _,.vl _,.un,.un]:=rfl;have o:ZD (Z5 (vE 1)) (zw 3) (zC 2 (zd zU (vE 2) (vE 3))) [.vl (mt t lo hi),.vl (.lst []),.vl (.int 1),.un,.un]= .nx _:=rfl;have B:zp my (zd kj (vE 0) (cE (.int 0))) (cE (.str "many")) [.vl (mt t lo hi),.vl (.lst []),.vl (.int 1),.un,.un]= .ok true:=by
  rfl
 have e5:zb 1 c (za (zd kj (vE 0) (cE (.int 1))) (ze)) [.vl (mt t lo hi),.vl (.lst []),.vl (.int 1),.un,.un]= .ok (.int (n)):=by
  rw[zI,jE,i3,F]
 have l:([.vl (mt t lo hi),.vl (.lst []),.vl (.int 1),.un,.un]:En).set 4 (.vl (.int (n)))=[.vl _,.vl _,.vl _,.un,.vl _]:=rfl;have u:=Qk (t:=t) (a:= .vl (.lst [])) (x:= .un) (lo:=lo) (hi:=hi) v w p;rw[e,nU,zc (zj q),zc (zE y),r,zc (zE zW),i,zc o];have D:∀(P:En->RS),mD _ (zn _ P) mC _=P _:=λP=>by
  rw[jF B,zc (zE e5),l]
 rw[zc (Eq.trans (D _) u)];rfl
theorem Qm:∀(d n:Nat),d<=n->d<=3->∀k:Kd,k.Ok d->A8 n 0 [k.t]= .ok (.int (k.all.length:Int))
 | 0,_,_,_,_,h=>h.elim
 | d+1,0,hn,_,_,_=>by omega
 | d+1,n+1,hn,hd,k,h=>by
  have H:=λe a =>Qm d n (by omega) (by omega) e a
  cases k with
  | whole lo hi=>exact uz _ (UU d lo hi h) (x:="whole") (r:=[.int lo,.int hi]) (by simp only[Kd.t]) rfl
  | pick c=>exact uz _ (xo d c h) (x:="pick") (r:=[.tup (c.map Jz)]) (by simp only[Kd.t]) rfl
  | row f=>exact xp (by omega) f h H
  | many k lo hi=>exact Ql (by omega) k lo hi h H
theorem Ok.mono:∀(d:Nat) (k:Kd),k.Ok d->k.Ok (d+1)
 | 0,_,h=>h.elim
 | d+1,.whole _ _,h=>h
 | d+1,.pick _,h=>h
 | d+1,.row c,h=>⟨h.1,h.2.1,λk a=>Ok.mono d k (h.2.2 k a)⟩
 | d+1,.many k _ _,h=>⟨h.1,h.2.1,Ok.mono d k h.2.2⟩
theorem gp (j:Int):zU (.int 700) (.int j)= .ok (.int (700*j)):=Qb _ _ (.inl ⟨by decide,by decide⟩)
theorem Eh (a:List Int)(d:Nat)(e:1<=d)(g:d<=8)(k:Int)(f:0<=k):∃q:Kd,oQ 8 [mN a,.int k,.int (d:Int)]= .ok q.t/\q.Ok d:=by
 obtain⟨t,c,hi⟩:=U4 a d 8 g e k f;obtain⟨q,rfl,i⟩:=U6 d t hi;exact⟨q,c,i⟩
abbrev pk:En->RS:=zn (mD (zp mL (zb 1 (sK 8) (za (vE 3) (ze))) (vB 2)) (zr (vE 3)) (mC))
  (zC 3 (zb 3 (oQ 8) (za (vE 0) (za (zd zv (zd zv (vE 1) (cE (.int 500))) (zd zU (cE (.int 700)) (vE 4))) (za (cE (.int 2)) (ze))))))
abbrev oi (ns:List Int)(a:Int)(m:Nat)(k:Kd)(x:Sl):En:=[.vl (mN ns),.vl (.int a),.vl (.int (m:Int)),.vl k.t,x]
theorem Qn (c:k.Ok 3):zp mL (zb 1 (sK 8) (za (vE 3) (ze))) (vB 2) (oi ns a m k x)= .ok (decide (k.all.length<=m)):=by
 have e:sK 8 _= .ok _:=Qm 3 8 (by omega) (by omega) k c
 rw[zB,zI,v3,i3,e,i3,w2,i3,wJ,wY]
theorem gq (c:List Int)(l:0<=a)(g:k.Ok 3)(j:Nat):(k.all.length<=m/\pk (oi c a m k (.vl (.int (0+(j:Int)))))= .rt k.t)\/∃f :Kd,f.Ok 3/\pk (oi c a m k (.vl (.int (0+(j:Int)))))= .nx (oi c a m f (.vl (.int (0+(j:Int))))):=by
 by_cases h:k.all.length<=m
 ·refine .inl ⟨h, ?_⟩;refine zu ?_;rw[jF (by rw[Qn g,decide_eq_true h])]
  exact zg rfl
 ·obtain⟨q,d,i⟩:=Eh c 2 (by omega) (by omega) (a+500+700*(0+(j))) (by omega)
  refine .inr ⟨q,Ok.mono 2 q i, ?_⟩;unfold pk;rw[zc (zj (by rw[Qn g,decide_eq_false h]))]
  have d:oQ 8 [mN c,.int _,.int 2]= .ok q.t:=d;have e:zb 3 (oQ 8) (za (vE 0) (za (zd zv (zd zv (vE 1) (cE (.int 500))) (zd zU (cE (.int 700)) (vE 4))) (za (cE (.int 2)) (ze)))) (oi c a m k (.vl (.int (0+(j)))))= .ok q.t:=by
   rw[Zb,v0,i3,zh,zh,v1,i3,zW,i3,zZ,i3,zh,zW,i3,v4,i3,gp,i3,zZ,i3,zW,i3,d]
  rw[zE e];rfl
theorem Hz {g:T->En->R En}(c:g t ρ= .ok ρ1)(a:fb ρ1= .rt r):Zu g fb (t :: ts) ρ= .rt r:=by
 rw[Zu,c];dsimp only;rw[a]
theorem Qo (d:List Int)(i:0<=a):∀(js:List Nat) (k:Kd) (x:Sl),k.Ok 3->(∃c :Kd,c.Ok 3/\c.all.length<=m/\Zu (zw 4) pk (js.map λ(j:Nat)=>T.int (0+(j:Int))) (oi d a m k x)= .rt c.t)\/
  ∃(c :Kd) (o :Sl),c.Ok 3/\Zu (zw 4) pk (js.map λ(j:Nat)=>T.int (0+(j:Int))) (oi d a m k x)= .nx (oi d a m c o)
 | [],k,x,e=> .inr ⟨k,x,e,rfl⟩
 | j :: js,k,x,e=>by
  have l:zw 4 (T.int (0+(j))) (oi d a m k x)= .ok _:=rfl;rw[ar];rcases gq d i e j with ⟨g,f⟩ | ⟨c,g,f⟩
  ·exact .inl ⟨k,e,g,Hz l f⟩
  ·rw[ZI l f];exact Qo d i js c _ g
theorem xq (c:List Int)(a:Int)(j:0<=a)(m:Nat)(v:4<=m):∃k:Kd,k.Ok 3/\k.all.length<=m/\t7 [mN c,.int a,.int (m:Int)]= .ok k.t:=by
 obtain⟨q,i,r⟩:=Eh c 3 (by omega) (by omega) a j
 have i:oQ 8 [mN c,.int a,.int 3]= .ok q.t:=i;have e:t7 [mN c,.int a,.int (m)]=zk (Al _ _ [.vl _,.vl _,.vl _,.un,.un]):=rfl;have p:zb 3 (oQ 8) (za (vE 0) (za (vE 1) (za (cE (.int 3)) (ze)))) [.vl (mN c),.vl (.int a),.vl (.int (m)),.un,.un]= .ok q.t:=by
  rw[Zb,v0,i3,v1,i3,zW,i3,i]
 have u:([.vl _,.vl _,.vl _,.un,.un]:En).set 3 _=oi c a m q .un:=rfl;rw[e,Al,zc (zE p),u];rcases Qo c j _ q .un r with ⟨k,d,o,f⟩ | ⟨k,x,d,f⟩
 ·refine⟨k,d,o, ?_⟩;have g:ZD (Zi (cE (.int 3))) (zw 4) pk _= .rt k.t:=f;rw[zu g];rfl
 ·have g:ZD (Zi (cE (.int 3))) (zw 4) pk _= .nx _:=f;rw[zc g];have l:zp mL _ _ (frz (oi c a m k x))= .ok _:=Qn d
  by_cases h:k.all.length<=m
  ·refine⟨k,d,h, ?_⟩;rw[zg]
   ·rfl
   ·unfold mZ;rw[l,decide_eq_true h];rfl
  ·refine⟨.whole (-1) 2,⟨by omega,by omega,by omega⟩,by exact v, ?_⟩
   rw[zg]
   ·rfl
   ·unfold mZ;rw[l,i3,decide_eq_false h,if_neg ax];rfl
mutual
noncomputable def Kd.has:Kd->T->Bool
 | .whole lo hi=>λt=>oN lo hi t
 | .pick d=>λt=>match t with | .str x=>d.any λc=>c.1 == x | _=>false
 | .row a=>λt=>match t with | .tup xs=>xs.length == a.length && Kd.hass a xs | _=>false
 | .many k lo hi=>λt=>match t with | .tup xs=>decide (lo<=xs.length) && decide (xs.length<=hi) && xs.all k.has | _=>false
noncomputable def Kd.hass:List Kd->List T->Bool
 | []=>λ_=>true
 | k :: a=>λxs=>match xs with | []=>true | x :: xs=>k.has x && Kd.hass a xs
end
theorem JF:∀(a:List Kd) (xs:List T),Kd.hass a xs=(a.zip xs).all λq=>q.1.has q.2
 | [],_=>by simp[Kd.hass]
 | k :: a,[]=>by simp[Kd.hass]
 | k :: a,x :: xs=>by simp[Kd.hass,JF a xs]
noncomputable def yZ:List (List T)->List T->Prop
 | [],[]=>True
 | l :: a,x :: xs=>x∈l/\yZ a xs
 | _,_=>False
theorem wu:∀(g c:List (List T)) (xs:List T),xs∈ZB c g↔∃a∈c,∃b,yZ g b/\xs=a++b
 | [],c,xs=>by
  rw[ZB];constructor
  ·exact λh=>⟨xs,h,[],trivial,by simp⟩
  ·rintro⟨a,f,b,d,rfl⟩
   cases b with
   | nil=>simpa using f
   | cons=>exact d.elim
 | l :: g,c,xs=>by
  rw[ZB,wu g];constructor
  ·rintro⟨o,i,b,d,rfl⟩
   obtain⟨a,f,j⟩:=di.mp i;obtain⟨x,k,e⟩:=aA.mp j;exact⟨a,f,x :: b,⟨k,d⟩,by rw[← e];simp⟩
  ·rintro⟨a,f,b,d,rfl⟩
   cases b with
   | nil=>exact d.elim
   | cons x b=>exact⟨a++[x],di.mpr ⟨a,f,aA.mpr ⟨x,d.1,rfl⟩⟩,b,d.2,by simp⟩
theorem WA (c:List (List T))(t:T):t∈Yd c↔∃xs,yZ c xs/\t= .tup xs:=by
 rw[aA];constructor
 ·rintro⟨xs,h,rfl⟩
  obtain⟨a,d,b,e,rfl⟩:=(wu c _ xs).mp h;rw[aq.mp d];exact⟨b,e,rfl⟩
 ·rintro⟨xs,h,rfl⟩
  exact⟨xs,(wu c _ xs).mpr ⟨[],aq.mpr rfl,xs,h,rfl⟩,rfl⟩
theorem WB (l:List T):∀(m:Nat) (xs:List T),yZ (ag m l) xs↔xs.length=m/\∀x∈xs,x∈l
 | 0,[]=>by simp[yZ]
 | 0,x :: xs=>by simp[yZ]
 | m+1,[]=>by simp[yZ,bv]
 | m+1,x :: xs=>by
  show x∈l/\yZ _ xs↔_;rw[WB l m xs];simp;constructor
  ·rintro⟨a,b,c⟩;exact⟨b,a,c⟩
  ·rintro⟨a,b,c⟩;exact⟨b,a,c⟩
theorem uA:∀(d:List Kd),(∀k∈d,∀x,x∈k.all↔k.has x=true)->∀xs,yZ (d.map Kd.all) xs↔(xs.length == d.length && Kd.hass d xs)=true
 | [],_,[]=>by simp[yZ,Kd.hass]
 | [],_,x :: xs=>by simp[yZ]
 | k :: d,h,[]=>by simp[yZ]
 | k :: d,h,x :: xs=>by
  show x∈k.all/\yZ _ xs↔_;rw[uA d (λf e =>h f (a9 _ e)) xs,h k aa x];simp[Kd.hass];constructor
  ·rintro⟨a,b,c⟩;exact⟨b,a,c⟩
  ·rintro⟨a,b,c⟩;exact⟨b,a,c⟩
mutual
theorem ZU:∀(k:Kd) (x:T),x∈k.all↔k.has x=true
 | .whole lo hi,x=>by
  rw[Kd.all,Kd.has,aA];constructor
  ·rintro⟨i,a,rfl⟩
   rw[aT]at a;simp[oN];omega
  ·intro h;obtain⟨i,rfl⟩:=Qc h;simp[oN]at h;exact⟨(i - lo).toNat,by rw[aT];omega,by congr 1;omega⟩
 | .pick g,x=>by
  rw[Kd.all,Kd.has,aA];constructor
  ·rintro⟨c,d,rfl⟩
   simp only[fB];exact⟨c,d,by simp⟩
  ·intro h;dsimp only at h;split at h
   ·rw[fB]at h;obtain⟨c,d,e⟩:=h;exact⟨c,d,by rw[eq_of_beq e]⟩
   ·cases h
 | .row f,x=>by
  rw[Kd.all,Kd.has,WA,Kd.alls_map];have:=uA f (UW f);constructor
  ·rintro⟨xs,h,rfl⟩
   exact(this xs).mp h
  ·intro h;dsimp only at h;split at h
   ·rename_i xs;exact⟨xs,(this xs).mpr h,rfl⟩
   ·cases h
 | .many k lo hi,x=>by
  rw[Kd.all,Kd.has,di];constructor
  ·rintro⟨i,a,h⟩
   rw[WA]at h;obtain⟨xs,h,rfl⟩:=h;rw[WB]at h;rw[aT]at a;simp only[aj,decide_eq_true_eq,aJ];exact⟨⟨by omega,by omega⟩,λy hy=>(ZU k y).mp (h.2 y hy)⟩
  ·intro h;dsimp only at h;split at h
   ·rename_i xs;simp only[aj,decide_eq_true_eq,aJ]at h;refine⟨xs.length - lo,by rw[aT];omega, ?_⟩
    rw[WA];exact⟨xs,(WB _ _ _).mpr ⟨by omega,λy hy=>(ZU k y).mpr (h.2 y hy)⟩,rfl⟩
   ·cases h
theorem UW:∀(a:List Kd),∀k∈a,∀x,x∈k.all↔k.has x=true
 | [],_,h=>nomatch h
 | k :: a,c,h=>by
  rcases ak.mp h with e | h
  ·intro x;rw[e];exact ZU k x
  ·exact UW a c h
end
theorem wZ:∀(qs:List (Kd×T)) (x y:Sl),(∀q∈qs,c [q.1.t,q.2]= .ok (.bl (q.1.has q.2)))->zx (zN 0 1) zV (zb 2 c (za (vE 0) (za (vE 1) (ze)))) (qs.map λq=>T.tup [q.1.t,q.2]) [x,y]= .ok (qs.map λq=>T.bl (q.1.has q.2))
 | [],_,_,_=>rfl
 | q :: qs,x,y,h=>by
  have e:zb 2 c (za (vE 0) (za (vE 1) (ze))) [.vl q.1.t,.vl q.2]= .ok (.bl (q.1.has q.2)):=by
   rw[zt,v0,i3,v1,i3,h q aa]
  have d:=wZ qs (.vl q.1.t) (.vl q.2) λr hr=>h r (a9 _ hr);have a:zx (zN 0 1) zV (zb 2 c (za (vE 0) (za (vE 1) (ze)))) ((q :: qs).map λq=>T.tup [q.1.t,q.2]) [x,y]=
   (zb 2 c _ [.vl _,.vl q.2]).bind λv=>(zx _ _ _ (qs.map λq=>T.tup _) [.vl _,.vl q.2]).bind λvs=> .ok _:=rfl
  rw[a,e,i3,d,i3,ar]
theorem WC {a:Type}(p:a->Bool):∀qs:List a,WT (qs.map λq=>T.bl (p q))=some (qs.all p)
 | []=>rfl
 | q :: qs=>by
  have e:WT ((q :: qs).map λq=>T.bl (p q))=match WT (qs.map λq=>T.bl _) with | some j=>some _ | none=>none:=rfl
  rw[e,WC p qs];rfl
theorem gr (a:List Kd)(xs:List T):yG (a.map Kd.t) xs=(a.zip xs).map λq=>T.tup [q.1.t,q.2]:=by
 unfold yG;rw[List.zip_map_left,aZ];rfl
theorem UX (a:List Kd)(xs:List T)(f:jN s= .ok (a.map Kd.t))(e:a.length<=3)(H:∀q∈a.zip xs,c [q.1.t,q.2]= .ok (.bl (q.1.has q.2))):
  zk (tq c (mB 2 [s,.tup xs]))= .ok (.bl ((a.zip xs).all λq=>q.1.has q.2)):=by
 have d:Yb (vE 0) (vE 1) [.vl s,.vl (.tup xs)]= .ok ((a.zip xs).map λq=>T.tup [q.1.t,q.2]):=by
  show (jN s).bind _=_;rw[f,← gr];rfl
 have i:((a.zip xs).map λq=>T.tup [q.1.t,q.2]).length<=mF:=by
  rw[ae,dE];exact av (mo _ _) (av e (by decide))
 have g:zq (zN 0 1) zV (zb 2 c (za (vE 0) (za (vE 1) (ze)))) 2 [] [.vl s,.vl (.tup xs)] ((a.zip xs).map λq=>T.tup [q.1.t,q.2])= .ok ((a.zip xs).map λq=>T.bl (q.1.has q.2)):=by
  unfold zq;rw[if_pos i];show quiet (zx _ _ _ _ [.un,.un])=_;rw[wZ _ _ _ H];rfl
 rw[tq,zg]
 ·rfl
 ·show mw _ _ [.vl s,.vl _]=_;rw[Z8,zJ,d,i3,g,i3];show (match WT ((a.zip xs).map λq=>T.bl _) with | some k=>_ | none=>_)=_
  rw[WC]
theorem JG (a:List (Str×Int))(h:a.length<=4):nK [(Kd.pick a).t]= .ok (.lst (a.map λc=>T.str c.1)):=by
 have e:nK [(Kd.pick a).t]=zk (tF [.vl (.tup [.str "pick",.tup (a.map Jz)])]):=by rfl
 have g:(a.map Jz).length<=mF:=by rw[ae];exact av h (by decide)
 have f:zq _ _ (zd kj (vE 0) (cE (.int 0))) 1 [] [.vl (.tup [.str "pick",.tup (a.map Jz)])] _= .ok ((a.map Jz).map λc=>match c with | .tup (w :: _)=>w | _=>c):=
  zK _ g λt d=>by
   obtain⟨c,_,rfl⟩:=aA.mp d;rfl
 rw[e,tF,zg]
 ·rfl
 ·show zA _ _ _ _ _ _ [.vl _]=_;show ((zq _ _ _ _ _ _ _).bind _)=_;rw[f,aZ];rfl
theorem UY (t:T):∀a:List (Str×Int),Jo (λy=>mE 30 y t) (a.map λc=>T.str c.1)=some ((Kd.pick a).has t)
 | []=>by cases t <;> rfl
 | c :: a=>by
  have f:=UY t a;have e:Jo (λy=>mE 30 y t) ((c :: a).map λc=>T.str c.1)=match mE 30 _ t with
   | none=>none
   | some b=>match Jo (λy=>mE 30 y t) (a.map λc=>T.str c.1) with
    | none=>none
    | some d=>some _:=rfl
  rw[e,f];cases t <;> rfl
abbrev mG (a b:T):En:=[.vl a,.vl b]
theorem JH (h:(x == w)=false):mD (zp my (zd kj (vE 0) (cE (.int 0))) (cE (.str w))) f mC (mG (.tup (.str x :: r)) b)= .nx (mG (.tup (.str x :: r)) b):=
 zj (by rw[nQ,h])
theorem Qp:mD (zp my (zd kj (vE 0) (cE (.int 0))) (cE (.str x))) f mC (mG (.tup (.str x :: r)) b)=f (mG (.tup (.str x :: r)) b):=
 jF (by rw[nQ,beq_self_eq_true])
theorem Qq (lo hi:Int)(x:T):zk (oh nT nP nK cp (mB 2 [(Kd.whole lo hi).t,x]))= .ok (.bl ((Kd.whole lo hi).has x)):=by
 have e:mB 2 [(Kd.whole lo hi).t,x]=mG (.tup [.str "whole",.int lo,.int hi]) x:=by rfl
 rw[e,oh,zu]
 ·rfl
 ·rw[Qp,zg];show j8 _ _ (mG _ x)=_;rw[J8,zI,v1,i3,Wt];cases x with
  | int i=>
   rw[Q5,jE,i3,w1,i3,wJ,i3,Wz,i3,wJ];show _=R.ok (T.bl (decide _ && decide _));cases decide (lo<=i) <;> rfl
  | _=>rfl
theorem xr (a:List (Str×Int))(f:a.length<=4)(x:T):zk (oh nT nP nK cp (mB 2 [(Kd.pick a).t,x]))= .ok (.bl ((Kd.pick a).has x)):=by
 have e:mB 2 [(Kd.pick a).t,x]=mG (.tup [.str "pick",.tup (a.map Jz)]) x:=by rfl
 have d:=JG a f;rw[Kd.t]at d;rw[e,oh,zc (JH (by decide)),zu]
 ·rfl
 ·rw[Qp,zg];show ZL _ _ _ (mG _ x)=_;rw[Ze,w1,i3,zI,v0,i3,d];show ((match Jo (λy=>mE 30 y x) (a.map λ(c:Str×Int)=>T.str c.1) with | some b=>R.ok b | none=> .bad).bind _)=_
  rw[UY];rfl
theorem gu (a:List Kd)(d:a.length<=3)(x:T)(H:∀xs,x= .tup xs->cp [.tup (a.map Kd.t),x]= .ok (.bl ((a.zip xs).all λq=>q.1.has q.2))):zk (oh nT nP nK cp (mB 2 [(Kd.row a).t,x]))= .ok (.bl ((Kd.row a).has x)):=by
 have e:mB 2 [(Kd.row a).t,x]=mG (.tup [.str "row",.tup (a.map Kd.t)]) x:=by rw[Kd.t,Kd.ts_map];rfl
 rw[e,oh,zc (JH (by decide)),zc (JH (by decide)),zu]
 ·rfl
 ·rw[Qp,zg];show j8 _ _ (mG _ x)=_;have c:mw Z6 (zd kj (vE 0) (cE (.int 1))) (mG (.tup [.str "row",.tup (a.map Kd.t)]) x)= .ok (.int (a.length)):=by
   rw[Z8,jE,i3,jP,ae]
  rw[J8,Zb,v1,i3,c,i3,i3,ZH,Zw,zt,jE,i3,v1,i3];cases x with
  | tup xs=>
   rw[H xs rfl];show (if (decide _ && decide _)=true then _ else _)=R.ok (T.bl (xs.length == a.length && Kd.hass a xs))
   rw[JF]
   by_cases h:xs.length=a.length
   ·simp[h]
   ·rw[if_neg (by simp;omega)]
    simp[h]
  | _=>rfl
theorem Qr (k:Kd):∀xs:List T,((ag xs.length k).zip xs).all (λq=>q.1.has q.2)=xs.all k.has
 | []=>rfl
 | x :: xs=>by
  rw[aw,bv,dz,cX,cX,Qr k xs]
theorem xt (k:Kd)(lo hi:Nat)(f:hi<=3)(x:T)(H:∀xs,x= .tup xs->xs.length<=3->cp [.lst ((ag xs.length k).map Kd.t),x]= .ok (.bl (((ag xs.length k).zip xs).all λq=>q.1.has q.2))):zk (oh nT nP nK cp (mB 2 [(Kd.many k lo hi).t,x]))= .ok (.bl ((Kd.many k lo hi).has x)):=by
 have e:mB 2 [(Kd.many k lo hi).t,x]=mG (.tup [.str "many",k.t,.int (lo),.int (hi)]) x:=by rfl
 rw[e,oh,zc (JH (by decide)),zc (JH (by decide)),zc (JH (by decide)),zg]
 ·rfl
 ·show j8 _ _ (mG _ x)=_;rw[J8,Zb,v1,i3,Wz,i3,Gg,i3,ZH,Zw];cases x with
  | tup xs=>
   show (if (decide _ && decide _)=true then _ else _)=R.ok (T.bl (decide _ && decide _ && xs.all _))
   cases c:(decide (lo<=xs.length) && decide (xs.length<=hi)) with
   | false=>rfl
   | true=>
    rw[aj,decide_eq_true_eq,decide_eq_true_eq]at c;have a:xs.length<=3:=by omega
    have d:zd zU (Zc (za (zd kj (vE 0) (cE (.int 1))) (ze))) (mw Z6 (vB 1)) (mG (.tup [.str "many",k.t,.int (lo),.int (hi)]) (.tup xs))= .ok (.lst ((ag xs.length k).map Kd.t)):=by
     rw[zh,V2 jE,i3,Z8,w1,i3,jP,i3,wq a,ZP,aS]
    rw[zt,d,i3,v1,i3,H xs rfl a,Qr];rfl
  | _=>rfl
theorem Xz:∀(d n:Nat),2*d<=n->∀(k:Kd) (x:T),k.Ok d->og n 0 [k.t,x]= .ok (.bl (k.has x))
 | 0,_,_,_,_,h=>h.elim
 | d+1,n+2,hn,k,x,h=>by
  have g:=Xz d n (by omega)
  have e:og (n+2) 0 [k.t,x]=zk (oh nT nP nK (og (n+1) 1) (mB 2 [k.t,x])):=by rw[og]
  have f:∀s y,og (n+1) 1 [s,y]=zk _:=λs y=>by rw[og];intro h;cases h
  cases k with
  | whole lo hi=>exact Qq lo hi x
  | pick j=>exact xr j h.2.1 x
  | row i=>
   refine gu i h.2.1 x λxs a=> ?_;rw[f,a,UX i xs rfl h.2.1 λq c=>g q.1 q.2 (h.2.2 q.1 (c8 c).1)]
  | many k lo hi=>
   refine xt k lo hi h.2.1 x λxs a l=> ?_;rw[f,a,UX _ xs rfl (by rw[aV];exact l) λq c=>g q.1 q.2 (by
    rw[bF (c8 c).1];exact h.2.2)]
theorem Qs:∀(d:Nat) (k:Kd),k.Ok d->nG d k.t=true
 | 0,_,h=>h.elim
 | d+1,.whole lo hi,h=>by
  have e:nG (d+1) (Kd.whole lo hi).t=(decide (-20<=lo) && decide (lo<=hi) && decide (hi<=20)):=by rfl
  obtain⟨j,i,g⟩:=h;rw[e];simp;omega
 | d+1,.pick f,h=>by
  have e:nG (d+1) (Kd.pick f).t=(decide (1<=(f.map Jz).length) && decide ((f.map Jz).length<=4) && (f.map Jz).all zX && decide ((dd [] ((f.map Jz).map j7)).length=(f.map Jz).length)):=by rfl
  obtain⟨j,i,g,q⟩:=h;have r:(f.map Jz).map j7=f.map (·.1):=by rw[aZ];rfl
  have u:=(Ww _ []).mpr λk w v=>by simpa using q k w v
  rw[e,r,u,ae];simp only[aj,decide_eq_true_eq,aJ];refine⟨⟨⟨j,i⟩,λc o=> ?_⟩,by simp⟩
  obtain⟨p,hp,rfl⟩:=aA.mp o;obtain⟨a,b,c⟩:=g p hp;show (Zr _ && decide _ && decide _)=true;rw[a];simp;omega
 | d+1,.row l,h=>by
  have e:nG (d+1) (Kd.row l).t=(decide (1<=(l.map Kd.t).length) && decide ((l.map Kd.t).length<=3) && (l.map Kd.t).all (nG d)):=by rw[Kd.t,Kd.ts_map];rfl
  obtain⟨j,i,g⟩:=h;rw[e,ae];simp only[aj,decide_eq_true_eq,aJ];refine⟨⟨j,i⟩,λc o=> ?_⟩;obtain⟨k,x,rfl⟩:=aA.mp o;exact Qs d k (g k x)
 | d+1,.many k lo hi,h=>by
  have e:nG (d+1) (Kd.many k lo hi).t=((decide ((0:Int)<=(lo:Int)) && decide ((lo:Int)<=(hi)) && decide ((hi:Int)<=3)) && nG d k.t):=by rfl
  obtain⟨j,i,g⟩:=h;rw[e,Qs d k g];simp;omega
theorem UZ:∀(a:List Kd) (xs:List T),xs.length=a.length->Kd.hass a xs=true->∀x∈xs,∃k∈a,k.has x=true
 | [],[],_,_,_,h=>nomatch h
 | k :: a,[],h,_,_,_=>by cases h
 | [],x :: xs,h,_,_,_=>by cases h
 | k :: a,x :: xs,e,h,y,hy=>by
  rw[Kd.hass]at h;rw[aj]at h;rcases ak.mp hy with rfl | hy
  ·exact⟨k,aa,h.1⟩
  ·obtain⟨c,f,d⟩:=UZ a xs (by simpa using e) h.2 y hy
   exact⟨c,a9 _ f,d⟩
theorem y0 {k l:Type}(f:k->List l)(m:Nat):∀(c:List k) (i j:Nat),(∀a∈c,(f a).length=m)->j < m->(c.flatMap f)[i*m+j]? =(c[i]?).bind λa=>(f a)[j]?
 | [],i,j,_,_=>by simp
 | a :: c,0,j,h,d=>by
  have g:=h a aa;rw[bW,Nat.zero_mul,fZ,aY (by omega)]
  rfl
 | a :: c,i+1,j,h,d=>by
  have g:=h a aa;have e:(i+1)*m=i*m+m:=by rw[fO,cz]
  rw[bW,aR (by omega),g,e,show i*m+m+j - m=i*m+j by omega,y0 f m c i j (λb o=>h b (a9 _ o)) d]
  rfl
theorem uB {d i:Type}(f:d->List i):∀(c:List d) (q j:Nat) (a:d),c[q]? =some a->j < (f a).length->(c.flatMap f)[((c.take q).map λb=>(f b).length).sum+j]? =(f a)[j]?
 | [],q,j,a,h,_=>by simp at h
 | b :: c,0,j,a,h,g=>by
  have e:=by simpa using h
  subst e;rw[bW,List.take_zero,bI,List.sum_nil,fZ,aY g]
 | b :: c,q+1,j,a,h,g=>by
  rw[bW,lg,ar,cg,Nat.add_assoc,aR (by omega),Nat.add_sub_cancel_left]
  exact uB f c q j a (by simpa using h) g
theorem W1:∀(d c:List (List T)) (l:List T),ZB c (d++[l])=(ZB c d).flatMap λa=>l.map λx=>a++[x]
 | [],c,l=>rfl
 | _ :: d,c,l=>by
  rw[fE,ZB,ZB,W1 d]
theorem xu {d:List (List T)}(h:(ZB [[]] d)[i]? =some xs)(c:l[j]? =some x):(ZB [[]] (d++[l]))[i*l.length+j]? =some (xs++[x]):=by
 have e:=(ay.mp c).1;rw[W1,y0 _ _ _ i j (λa _=>ae ..) e,h];show (l.map λx=>xs++[x])[j]? =_;rw[ao,c];rfl
theorem ya:∀(a:List Nat) (n:Nat),mR (a++[n])=mR a*n
 | [],n=>by simp[mR]
 | m :: a,n=>by rw[fE,mR,mR,ya a n,dF]
theorem W2 (a:List (List T)):(ZB [[]] a).length=mR (a.map (·.length)):=by rw[wm,aK,cz]
theorem jG {a:Type}{xs:List a}(h:i < xs.length):∃x,xs[i]? =some x:=⟨_,ah h⟩
theorem Fi {xs:List T}{j:Nat}{v:T}(h:xs[j]? =some v):mS xs (j:Int)= .ok v:=by unfold mS;rw[Zv h]
noncomputable def nE (c lo q:Nat):Nat:=((aN q).map λi=>c ^ (lo+i)).sum
theorem xv (c lo q:Nat):nE c lo (q+1)=nE c lo q+c ^ (lo+q):=by
 unfold nE;rw[iN,cM];simp
theorem gy (a:q < hi+1 - lo)(h:(ZB [[]] (ag (lo+q) k.all))[j]? =some xs):(Kd.many k lo hi).all[nE k.all.length lo q+j]? =some (.tup xs):=by
 have d:=(ay.mp h).1;have e:=uB (λi=>Yd (ag _ _)) _ q j q (by rw[c_ a]) (by rw[ae];exact d)
 have c:(((aN (hi+1 - lo)).take q).map λb=>(Yd (ag (lo+b) k.all)).length).sum=nE k.all.length lo q:=by
  rw[List.take_range,fU (iG a),nE];congr 1
  refine c6 λi _=> ?_;rw[JE,aS,jj]
 rw[c]at e;rw[Kd.all,e];rw[ao,h];rfl
abbrev Aw (c:List T->R T):En->RS:=zC 1 (zd zU (vE 1) (zb 1 c (za (vE 2) (ze))))
theorem Qt:∀(a:List Kd) (m:Nat) (x:Sl),(∀k∈a,c [k.t]= .ok (.int (k.all.length:Int))/\1<=k.all.length)->m*mR (a.map λk=>k.all.length) < 2 ^ 60->
  ∃y,Zu (zw 2) (Aw c) (a.map Kd.t) [S,.vl (.int (m:Int)),x]= .nx [S,.vl (.int ((m*mR (a.map λk=>k.all.length):Nat):Int)),y]
 | [],m,x,_,_=>⟨x,by simp[Zu,mR]⟩
 | k :: a,m,x,H,f=>by
  obtain⟨g,l⟩:=H k aa;have hp:=wl λn hn=>by
   obtain⟨e,d,rfl⟩:=aA.mp hn;exact(H e (a9 _ d)).2
  rw[ar,mR,← dF]at f;have i:m < 2 ^ 60:=by
   have p:m<=m*k.all.length:=dh _ l;have q:m*k.all.length<=m*k.all.length*mR (a.map λk=>k.all.length):=dh _ hp;omega
  have j:Aw c [S,.vl (.int (m)),.vl k.t]= .nx [S,.vl (.int ((m*k.all.length:Nat))),.vl k.t]:=by
   rw[Aw,zE]
   ·rfl
   ·rw[zh,v1,i3,zI,v2,i3,g,i3,Qi i]
  obtain⟨y,o⟩:=Qt (S:=S) a _ _ (λe d =>H e (a9 _ d)) f;refine⟨y, ?_⟩;rw[ar,ZI rfl j,o,ar,mR,dF]
theorem wv (a:List Kd)(g:JW s= .ok (a.map Kd.t))(H:∀k∈a,c [k.t]= .ok (.int (k.all.length:Int))/\1<=k.all.length)(i:mR (a.map λk=>k.all.length) < 2 ^ 60):
  zk (pZ c (mB 3 [s]))= .ok (.int ((mR (a.map λk=>k.all.length):Nat):Int)):=by
 obtain⟨y,e⟩:=Qt a 1 .un H (by rw[cz];exact i)
 rw[cz]at e;have f:zC 1 (cE (.int 1)) [.vl s,.un,.un]= .nx [.vl s,.vl _,.un]:=rfl;have d:ZD (Z5 (vE 0)) (zw 2) (Aw c) [.vl s,.vl (.int 1),.un]= .nx [.vl s,.vl (.int ((mR (a.map λk=>k.all.length)):Int)),y]:=by
  show ((JW s).s λts=>Zu _ _ ts _)=_;rw[g];exact e
 show zk (pZ c [.vl s,.un,.un])=_;rw[pZ,zc f,zc d];rfl
theorem Qu {c:Type}(g:c->Nat):∀l:List c,Z2 (l.map λa=>T.int ((g a:Nat):Int))=some (l.map λa=>((g a:Nat):Int))
 | []=>rfl
 | a :: l=>by
  show (match Z2 (l.map λa=>T.int _) with | some l=>some _ | none=>none)=_
  rw[Qu g l];rfl
theorem yb {c:Type}(g:c->Nat):∀l:List c,(l.map λa=>((g a:Nat):Int)).sum=(((l.map g).sum:Nat):Int)
 | []=>rfl
 | a :: l=>by rw[ar,cg,ar,cg,yb g l];omega
theorem F5 {c:Type}(g:c->Nat)(l:List c):qh (.lst (l.map λa=>T.int ((g a:Nat):Int)))= .ok (.int (((l.map g).sum:Nat):Int)):=by
 unfold qh;dsimp only;rw[Qu,← yb]
theorem Jc (k:Kd)(m:Nat):((ag m k).map λk=>k.all.length)=ag m k.all.length:=by rw[aS]
theorem Qv (o:lo+q<=4)(H:∀m,m<=3->c [.lst (ag m t)]= .ok (.int ((n ^ m:Nat):Int))):
  zk (sD c (mB 2 [mt t lo hi,.int ((lo+q:Nat):Int)]))= .ok (.int ((nE n lo q:Nat):Int)):=by
 have l:Jy (zd kj (vE 0) (cE (.int 2))) (vE 1) [.vl (mt t lo hi),.vl (.int ((lo+q:Nat)))]= .ok (rng (lo) q):=by
  rw[U8 rfl rfl ⟨by omega,by omega,by omega,by omega⟩]
  congr 2;omega
 have k:zq _ _ (zb 1 c (za (zd _ _ _) _)) 1 [0] [.vl _,.vl (.int ((lo+q:Nat)))] _= .ok ((rng (lo) q).map λx=>match x with | .int i=>T.int ((n ^ i.toNat:Nat)) | y=>y):=
  zK _ (by unfold rng;rw[ae,bJ];have:mF=16777216:=rfl;omega) λx d=>by
   obtain⟨i,a,rfl⟩:=aA.mp d;have f:=aT.mp a;show zb 1 c _ [.vl _,.vl _]=_;have e:zd zU (Zc (za (zd kj (vE 1) (cE (.int 1))) (ze))) (vE 0) [.vl (.int ((lo)+(i))),.vl (mt t lo hi)]= .ok (.lst (ag (lo+i) t)):=by
    have j:zd kj (vE 1) (cE (.int 1)) [.vl (.int ((lo)+(i))),.vl (mt t lo hi)]= .ok t:=rfl;rw[zh,V2 j,i3,v0,i3,show (lo:Int)+(i)=((lo+i:Nat)) by omega,wq (by omega),ZP]
   rw[zI,e,i3,H _ (by omega)]
   show _=R.ok (T.int _);rw[show ((lo:Int)+(i)).toNat=lo+i by omega]
 rw[sD,zg]
 ·rfl
 ·show mw _ _ [.vl _,.vl _]=_;rw[Z8,zJ,l,i3,k,i3,i3];have g:((rng (lo) q).map λx=>match x with | .int i=>T.int ((n ^ i.toNat:Nat)) | y=>y)=(aN q).map λi=>T.int ((n ^ (lo+i):Nat)):=by
   unfold rng;rw[aZ];refine c6 λi _=> ?_;show T.int _=_;rw[show ((lo:Int)+(i)).toNat=lo+i by omega]
  rw[g,F5 (λi=>n ^ (lo+i))];rfl
theorem XA (h:n<=mx d)(hd:d<=2)(a:m<=3):n ^ m < 2 ^ 60:=by
 have c:mx d<=70644:=by
  have:d=0\/d=1\/d=2:=by omega
  rcases this with rfl | rfl | rfl <;> decide
 have e:=av (Nat.pow_le_pow_left (av h c) m) (bN (by omega) a)
 omega
theorem yc:∀(d n:Nat),3*d<=n->d<=3->∀k:Kd,k.Ok d->nS n 0 [k.t]= .ok (.int (k.all.length:Int))
 | 0,_,_,_,_,h=>h.elim
 | d+1,n+3,hn,hd,k,h=>by
  have r:=yc d n (by omega) (by omega)
  have f:=yc d (n+1) (by omega) (by omega)
  have e:nS (n+3) 0 [k.t]=zk (AK _ _ [.vl k.t]):=rfl;have q:∀s u,nS (n+2) 2 [s,u]=zk _:=λs u=>rfl;rw[e,AK];cases k with
  | whole lo hi=>
   obtain⟨i,c,a⟩:=h;rw[jk];simp only[Kd.t];rw[zu (t:= .int _)]
   ·rfl
   ·rw[jF (by rw[nQ,beq_self_eq_true]),zg]
    show R.ok _=_;congr 2;omega
  | pick v=>
   rw[Wy];simp only[Kd.t];rw[zc (zj (by rfl)),zu]
   ·rfl
   ·rw[jF (by rw[nQ,beq_self_eq_true]),zg]
    show R.ok _=_;rw[ae]
  | row o=>
   obtain⟨i,c,a⟩:=h;rw[Jh];simp only[Kd.t];rw[Kd.ts_map,zc (zj (by rfl)),zc (zj (by rfl)),zu]
   ·rfl
   ·rw[jF (by rw[nQ,beq_self_eq_true]),zg]
    have j:=jD (d+1) (.row o) ⟨i,c,a⟩;rw[Jh]at j;exact wv o rfl (λk l=>⟨f k (a k l),ZT d k (a k l)⟩) (Ee j hd)
  | many k lo hi=>
   obtain⟨i,c,a⟩:=h;rw[jx];simp only[Kd.t];rw[zc (zj (by rfl)),zc (zj (by rfl)),zc (zj (by rfl)),zg]
   ·rfl
   ·show zb 2 _ _ [.vl _]=_;rw[zt,v0,i3,U7 Gg,i3,q,show (hi:Int)+1=((lo+(hi+1 - lo):Nat)) by omega]
    refine Qv (by omega) λm p=> ?_
    have hp:mR ((ag m k).map λk=>k.all.length)=k.all.length ^ m:=by rw[Jc,jj]
    rw[← hp];refine wv _ (by rw[aS];rfl) (λw g => ?_) (by rw[hp];exact XA (jD d k a) (by omega) p)
    rw[bF g];exact⟨r k a,ZT d k a⟩
theorem jw {d:Nat}(hd:d<=3){k:Kd}(h:k.Ok d):o4 20 [k.t]= .ok (.int (k.all.length:Int)):=yc d 20 (by omega) hd k h
theorem yd {d:Nat}(hd:d<=2){k:Kd}(h:k.Ok d){lo hi q:Nat}(c:lo+q<=4):pJ 20 [mt k.t lo hi,.int ((lo+q:Nat):Int)]= .ok (.int ((nE k.all.length lo q:Nat):Int)):=by
 have e:pJ 20 [mt k.t lo hi,.int ((lo+q:Nat))]=zk (sD (nS 19 1) (mB 2 [mt k.t lo hi,.int ((lo+q):Int)])):=rfl;rw[e];refine Qv c λm f=> ?_;have hp:mR ((ag m k).map λk=>k.all.length)=k.all.length ^ m:=by rw[Jc,jj]
 rw[← hp];refine wv _ (by rw[aS];rfl) (λg a => ?_) (by rw[hp];exact XA (jD d k h) hd f)
 rw[bF a];exact⟨yc d 18 (by omega) (by omega) k h,ZT d k h⟩
abbrev A5 (cc cw:List T->R T):En->RS:=zn (zC 5 (zb 1 cc (za (vE 4) (ze))))
  (zn (Us 2 (zb 2 cw (za (vE 4) (za (zd jL (vE 3) (vE 5)) (ze)))))
  (zC 3 (zd Wb (vE 3) (vE 5))))
structure rS (cc cw:List T->R T) (k:Kd):Prop where
 cnt:cc [k.t]= .ok (.int (k.all.length:Int))
 at_:∀(i:Nat) x,k.all[i]? =some x->cw [k.t,.int (i:Int)]= .ok x
 pos:1<=k.all.length
 le:k.all.length < 1000000
theorem DT :vE 5 (a :: b :: c :: d :: e :: .vl t :: ρ)= .ok t:=rfl
theorem Qw {n c:Nat}(h:1<=c):jL (.int (n:Int)) (.int (c:Int))= .ok (.int ((n % c:Nat):Int)):=by
 unfold jL;dsimp only;rw[if_pos (by omega)];rfl
theorem gz {n c:Nat}(h:1<=c)(h' :c < 1000000):Wb (.int (n:Int)) (.int (c:Int))= .ok (.int ((n / c:Nat):Int)):=by
 unfold Wb;dsimp only;rw[if_pos (by omega)];rfl
theorem Qx (hi:ρ[i]? =some (.ow ts))(a:ts.length < mF)(h:f ρ= .ok t):Us i f ρ= .nx (ρ.set i (.ow (ts++[t]))):=by
 unfold Us;rw[hi];dsimp only;rw[h,j1,if_pos a]
theorem Qy {e d:List T->R T}{S N:Sl}:∀(rs:List Kd) (acc:List T) (n:Nat) (x y:Sl),(∀k∈rs,rS e d k)->n < mR (rs.map λk=>k.all.length)->acc.length+rs.length<=1000->
  ∃xs r f l,(ZB [[]] (rs.reverse.map Kd.all))[n]? =some xs/\Zu (zw 4) (A5 e d) (rs.map Kd.t) [S,N,.ow acc,.vl (.int (n:Int)),x,y]= .nx [S,N,.ow (acc++xs.reverse),r,f,l]
 | [],acc,n,x,y,_,hn,_=>⟨[],.vl (.int (n)),x,y,by
   have:=by simp[mR]at hn;exact hn
   subst this;rfl,by simp[Zu]⟩
 | k :: rs,acc,n,x,y,H,hn,u=>by
  obtain⟨p,G,g,j⟩:=H k aa;rw[aw]at u;have I:mF=16777216:=rfl;have a:n % k.all.length < k.all.length:=mv _ g;obtain⟨v,o⟩:=jG a;have c:=Nat.div_lt_of_lt_mul hn;obtain⟨xs,r,f,l,C,F⟩:=Qy rs (acc++[v]) _ _ _ (λD i =>H D (a9 _ i)) c (by rw[az,aK];omega)
  have B:zC 5 (zb 1 e (za (vE 4) (ze))) [S,N,.ow acc,.vl (.int (n)),.vl k.t,y]= .nx [S,N,.ow acc,.vl (.int (n)),.vl k.t,.vl (.int (k.all.length))]:=by
   rw[zE]
   ·rfl
   ·rw[zI,v4,i3,p]
  have b2:Us 2 (zb 2 d (za (vE 4) (za (zd jL (vE 3) (vE 5)) (ze)))) [S,N,.ow acc,.vl (.int (n)),.vl k.t,.vl (.int (k.all.length))]= .nx [S,N,.ow (acc++[v]),.vl (.int (n)),.vl k.t,.vl (.int (k.all.length))]:=by
   rw[Qx rfl (by omega)]
   ·rfl
   ·rw[zt,v4,i3,zh,v3,i3,DT,i3,Qw g,i3,G _ v o]
  have w:zC 3 (zd Wb (vE 3) (vE 5)) [S,N,.ow (acc++[v]),.vl (.int (n)),.vl k.t,.vl (.int (k.all.length))]= .nx [S,N,.ow (acc++[v]),.vl (.int ((n / k.all.length:Nat))),.vl k.t,.vl (.int (k.all.length))]:=by
   rw[zE]
   ·rfl
   ·rw[zh,v3,i3,DT,i3,gz g j]
  have q:A5 e d [S,N,.ow acc,.vl (.int (n)),.vl k.t,y]= .nx [S,N,.ow (acc++[v]),.vl (.int ((n / k.all.length:Nat))),.vl k.t,.vl (.int (k.all.length))]:=by
   rw[A5,zc B,zc b2,w]
  refine⟨xs++[v],r,f,l, ?_, ?_⟩
  ·have:=xu C o;rw[dm,Nat.div_add_mod]at this;rw[cR,cM];exact this
  ·rw[ar,ZI rfl q,F];simp
theorem Qz:∀a:List Nat,mR a.reverse=mR a
 | []=>rfl
 | n :: a=>by rw[cR,ya,Qz a,mR,dm]
theorem ww {p j:List T->R T}{s:T}(e:List Kd)(G:jN s= .ok (e.map Kd.t))(N:e.length<=3)(H:∀k∈e,rS p j k){n:Nat}{xs:List T}(q:(ZB [[]] (e.map Kd.all))[n]? =some xs):
  zk (rY p j (mB 6 [s,.int (n:Int)]))= .ok (.tup xs):=by
 have hn:=(ay.mp q).1;rw[W2,aZ]at hn;have hr:(e.reverse.map λk=>k.all.length)=(e.map λk=>k.all.length).reverse:=by rw[md]
 obtain⟨O,r,y,M,u,I⟩:=Qy _ [] n .un .un (λk F=>H k (List.mem_reverse.mp F)) (by rw[hr,Qz];exact hn) (by rw[cu,cN];omega)
 rw[i_,q]at u;cases u;have C:uO 2 (ze) [.vl s,.vl (.int (n)),.un,.un,.un,.un]= .nx [.vl s,.vl _,.ow [],.un,.un,.un]:=rfl;have v:zC 3 (vE 1) [.vl s,.vl (.int (n)),.ow [],.un,.un,.un]= .nx [.vl s,.vl _,.ow [],.vl _,.un,.un]:=rfl;have B:ZD (BI (vE 0)) (zw 4) (A5 p j) [.vl s,.vl (.int (n)),.ow [],.vl (.int (n)),.un,.un]= .nx [.vl s,.vl (.int (n)),.ow xs.reverse,r,y,M]:=by
  show (((jN s).bind λxs=>R.ok _).s λts=>Zu _ _ ts _)=_;rw[G,i3,← md];exact I
 have i:xs.reverse.length<=mF:=by
  have:∀(f d:List _) (m:Nat),(∀a∈d,a.length<=m)->∀a∈ZB d f,a.length<=m+f.length:=by
   intro f
   induction f with
   | nil=>intro d m h a g;exact h a g
   | cons l f J=>
    intro d m h a g;have:=J (d.flatMap λa=>l.map λx=>a++[x]) (m+1) (λb o=>by
     obtain⟨c,w,o⟩:=di.mp o;obtain⟨z,_,rfl⟩:=aA.mp o;have:=h c w;rw[az,aK];omega) a g
    rw[aw];omega
  have D:=this _ _ 0 (λa g=>by rw[aq.mp g];exact am _) xs (bg q)
  rw[ae]at D;rw[cu];have o:mF=16777216:=rfl;omega
 show zk (rY p j [.vl s,.vl _,.un,.un,.un,.un])=_;rw[rY,zc C,zc v,zc B,zg]
 ·rfl
 ·show VG (.lst _)=_;unfold VG;dsimp only;rw[if_pos i,i_]
abbrev o7:En->R Bool:=zp mL (zb 2 (pJ 20) (za (vE 0) (za (zd zv (vE 2) (cE (.int 1))) (ze)))) (vB 1)
abbrev py:En->RS:=zC 2 (zd zv (vE 2) (cE (.int 1)))
theorem ES:vB 1 (a :: .vl t :: ρ)= .ok t:=rfl
theorem QA {d:Nat}(hd:d<=2){k:Kd}(h:k.Ok d){lo hi n:Nat}(p:lo<=hi)(j:hi<=3)(hn:n < nE k.all.length lo (hi+1 - lo)):∀(f q:Nat),q<=hi - lo->hi - lo - q < f->nE k.all.length lo q<=n->
  ∃c,c <=hi - lo/\nE k.all.length lo c <=n/\n < nE k.all.length lo (c +1)/\Zo o7 py f [.vl (mt k.t lo hi),.vl (.int (n:Int)),.vl (.int ((lo+q:Nat):Int))]= .nx [.vl (mt k.t lo hi),.vl (.int (n:Int)),.vl (.int ((lo+c :Nat):Int))]
 | 0,q,_,g,_=>by omega
 | f+1,q,v,g,i=>by
  have u:o7 [.vl (mt k.t lo hi),.vl (.int (n)),.vl (.int ((lo+q:Nat)))]= .ok (decide (nE k.all.length lo (q+1)<=n)):=by
   rw[o7,zB,zt,v0,i3,U7 v2,i3,show ((lo+q:Nat):Int)+1=((lo+(q+1):Nat)) by omega,yd hd h (by omega),i3,ES,i3,wJ,wY]
  have o:Zo o7 py (f+1) [.vl (mt k.t lo hi),.vl (.int (n)),.vl (.int ((lo+q:Nat)))]=(o7 _).s λl =>if l =true then match py [.vl _,.vl _,.vl (.int _)] with
    | .nx ρ2=>Zo o7 py f ρ2
    | .ct ρ2=>Zo o7 py f ρ2
    | .bk ρ2=> .nx ρ2
    | r=>r
   else .nx _:=rfl
  rw[o,u,j1]
  by_cases a:nE k.all.length lo (q+1)<=n
  ·rw[if_pos (decide_eq_true a)];have e:q+1<=hi - lo:=by
    rcases Nat.lt_or_ge q _ with z | z
    ·exact z
    ·have:q=hi - lo:=by omega
     rw[this,show hi - lo+1=hi+1 - lo by omega]at a
     omega
   have w:py [.vl (mt k.t lo hi),.vl (.int (n)),.vl (.int ((lo+q:Nat)))]= .nx [.vl (mt k.t lo hi),.vl (.int (n)),.vl (.int ((lo+(q+1):Nat)))]:=by
    rw[py,zE]
    ·rfl
    ·rw[U7 v2,show ((lo+q:Nat):Int)+1=((lo+(q+1):Nat)) by omega]
   exact QA hd h p j hn f _ e (by omega) a
  ·rw[if_neg (by simpa using a)]
   exact⟨q,v,i,by omega,rfl⟩
theorem Hh {i j:Nat}(h:j<=i):jK (.int (i:Int)) (.int (j:Int))= .ok (.int ((i - j:Nat):Int)):=by
 rw[Zf];congr 2;omega
theorem Y0 {d:Nat}(hd:d<=2){k:Kd}(h:k.Ok d){cp:List T->R T}{lo hi n:Nat}(l:lo<=hi)(i:hi<=3)(hn:n < nE k.all.length lo (hi+1 - lo))
  (H:∀(m:Nat),m<=3->∀(j:Nat) (xs:List T),(ZB [[]] (ag m k.all))[j]? =some xs->cp [.lst (ag m k.t),.int (j:Int)]= .ok (.tup xs)):
  ∃x,(Kd.many k lo hi).all[n]? =some x/\zk (rO (pJ 20) cp (mB 3 [mt k.t lo hi,.int (n:Int)]))= .ok x:=by
 obtain⟨q,u,g,a,e⟩:=QA hd h l i hn 8 0 (by omega) (by omega) (by unfold nE;simp)
 rw[xv]at a;have r:n - nE k.all.length lo q < (ZB [[]] (ag (lo+q) k.all)).length:=by
  rw[W2,aS,jj];omega
 obtain⟨xs,c⟩:=jG r;have f:=gy (hi:=hi) (by omega) c
 rw[show nE _ lo q+(n - nE _ lo q)=n by omega]at f
 refine⟨_,f, ?_⟩;have o:zC 2 (zd kj (vE 0) (cE (.int 2))) [.vl (mt k.t lo hi),.vl (.int (n:Int)),.un]= .nx [.vl _,.vl _,.vl (.int ((lo+0:Nat)))]:=rfl;show zk (rO _ cp [.vl _,.vl _,.un])=_;rw[rO,zc o,zc e,zg]
 ·rfl
 ·show zb 2 cp _ [.vl _,.vl _,.vl _]=_;have p:zd zU (Zc (za (zd kj (vE 0) (cE (.int 1))) (ze))) (vE 2) [.vl (mt k.t lo hi),.vl (.int (n)),.vl (.int ((lo+q:Nat)))]= .ok (.lst (ag (lo+q) k.t)):=by
   rw[zh,V2 jE,i3,v2,i3,wq (by omega),ZP]
  rw[zt,p,i3,zh,v1,i3,zt,v0,i3,v2,i3,yd hd h (by omega),i3,Hh g,i3,H _ (by omega) _ xs c]
theorem QB {d:Nat}(hd:d<=2){k:Kd}(h:k.Ok d):k.all.length < 1000000:=by
 have c:=jD d k h;have a:mx d<=70644:=by
  have:d=0\/d=1\/d=2:=by omega
  rcases this with rfl | rfl | rfl <;> decide
 omega
theorem jQ:∀(d n:Nat),3*d<=n->d<=3->∀k:Kd,k.Ok d->∀(i:Nat) (x:T),k.all[i]? =some x->nZ n 0 [k.t,.int (i:Int)]= .ok x
 | 0,_,_,_,_,h=>h.elim
 | d+1,n+3,hn,hd,k,h=>by
  intro i x a;have B:=jQ d n (by omega) (by omega)
  have q:=jQ d (n+1) (by omega) (by omega)
  have e:nZ (n+3) 0 [k.t,.int (i:Int)]=zk (A2 nK _ _ (mG k.t (.int (i:Int)))):=rfl;have f :=(ay.mp a).1;rw[e,A2];cases k with
  | whole lo hi=>
   rw[Kd.all,ao]at a;rw[jk]at f;rw[c_ f]at a;cases a;rw[zu]
   ·rfl
   ·rfl
  | pick v=>
   have u:=JG v h.2.1;simp only[Kd.t]at u ⊢;rw[zc (JH (by decide)),zu]
   ·rfl
   ·rw[Qp,zg];show zd kj _ _ (mG _ _)=_;rw[zh,zI,v0,i3,u,v1];exact Fi a
  | row C=>
   obtain⟨r,p,c⟩:=h;rw[Kd.all,Kd.alls_map,ao]at a;cases hr:(ZB _ _)[i]? with
   | none=>rw[hr]at a;cases a
   | some xs=>
    rw[hr]at a;cases a;simp only[Kd.t];rw[Kd.ts_map,zc (JH (by decide)),zc (JH (by decide)),zu]
    ·rfl
    ·rw[Qp,zg];refine ww C rfl p (λk l=>⟨jw (by omega) (c k l),q k (c k l),ZT d k (c k l),QB (by omega) (c k l)⟩) hr
  | many k lo hi=>
   obtain⟨r,p,c⟩:=h;rw[jx]at f;obtain⟨D,g,w⟩:=Y0 (cp:=nZ (n+1) 2) (by omega) c r p f (λm y j xs hr=>by
    refine ww _ (by rw[aS];rfl) (by rw[aV];exact y) (λF o => ?_) (by rw[aS];exact hr)
    rw[bF o];exact⟨jw (by omega) c,B k c,ZT d k c,QB (by omega) c⟩)
   rw[a]at g;cases g;simp only[Kd.t];rw[zc (JH (by decide)),zc (JH (by decide)),zc (JH (by decide)),zg]
   ·rfl
   ·show zb 2 _ _ (mG _ _)=_;rw[zt,v0,i3,v1,i3];exact w
theorem LP {k:Kd}(h:k.Ok 3){i:Nat}{x:T}(a:k.all[i]? =some x):su 20 [k.t,.int (i:Int)]= .ok x:=jQ 3 20 (by omega) (by omega) k h i x a
theorem QC (x:Str):∀a:List (Str×Int),oy (.str x) (a.map λc=>T.str c.1)=some (a.map λc=>c.1 == x)
 | []=>rfl
 | c :: a=>by
  show (match mE 30 (.str c.1) (.str x) with
   | none=>none
   | some b=>match oy _ (a.map λ(c:Str×Int)=>T.str c.1) with
    | none=>none
    | some bs=>some _)=_
  rw[QC x a];rfl
theorem uC:∀(bs:List Bool) (i:Nat),bs[i]? =some true->(∀j,j < i->bs[j]? =some false)->bs.idxOf true=i
 | [],i,h,_=>by simp at h
 | b :: bs,0,h,_=>by
  have:=by simpa using h
  subst this;rfl
 | b :: bs,i+1,h,a=>by
  have c:=by simpa using a 0 (by omega)
  subst c;have:=uC bs i (by simpa using h) λj h' =>by simpa using a (j+1) (by omega)
  rw[List.idxOf_cons,this];rfl
theorem xw {a:List (Str×Int)}(hd:Dst (a.map (·.1))){i:Nat}{c:Str×Int}(h:a[i]? =some c):Xc (.str c.1) (a.map λc=>T.str c.1)= .ok (.int (i:Int)):=by
 unfold Xc;rw[QC];dsimp only;have hi:=(ay.mp h).1;have g:(a.map λd=>d.1 == c.1)[i]? =some true:=by rw[ao,h];simp
 rw[if_pos (bg g),uC _ i g λj k=> ?_];rw[ao];cases f:a[j]? with
 | none=>rw[List.getElem?_eq_none_iff]at f;omega
 | some d=>
  have l:=hd i c.1 (by rw[ao,h];rfl)
  have:d.1 ≠ c.1:=λe=>l (by
   rw[← e];refine bg (i:=j) ?_;rw[eA k,ao,f];rfl)
  show some (d.1 == c.1)=some _;rw[beq_eq_false_iff_ne.mpr this]
noncomputable def Pl:Nat->T->Prop
 | 0,_=>False
 | n+1,.tup xs=>∀x∈xs,Pl n x
 | n+1,.lst xs=>∀x∈xs,Pl n x
 | _+1,.fz _=>False
 | _+1,_=>True
theorem JI {f:T->T->Option Bool}:∀(xs a:List T),(∀x∈xs,∀y,∃b,f x y=some b)->∃b,nu f xs a=some b
 | [],[],_=>⟨_,rfl⟩
 | [],_ :: _,_=>⟨_,rfl⟩
 | _ :: _,[],_=>⟨_,rfl⟩
 | x :: xs,y :: a,h=>by
  obtain⟨b,e⟩:=h x aa y;obtain⟨c,d⟩:=JI xs a λz hz=>h z (a9 _ hz);exact⟨b && c,by unfold nu;rw[e,d]⟩
theorem Zl {f:T->T->Option Bool}:∀(xs:List T),(∀x∈xs,f x x=some true)->nu f xs xs=some true
 | [],_=>rfl
 | x :: xs,h=>by
  unfold nu;rw[h x aa,Zl xs λz hz=>h z (a9 _ hz)];rfl
theorem JJ:∀(n:Nat) (y x:T),Pl n y->∃b,mE n y x=some b
 | 0,_,_,h=>h.elim
 | n+1,y,x,h=>by
  cases y with
  | tup xs=>
   cases x with
   | tup a=>exact JI xs a λz hz u=>JJ n z u (h z hz)
   | _=>exact⟨false,by rw[mE] <;> intros <;> first | rfl | contradiction | (intro z)⟩
  | lst xs=>
   cases x with
   | lst a=>exact JI xs a λz hz u=>JJ n z u (h z hz)
   | fz a=>exact JI xs a λz hz u=>JJ n z u (h z hz)
   | _=>exact⟨false,by rw[mE] <;> intros <;> first | rfl | contradiction | (intro z)⟩
  | fz xs=>exact h.elim
  | non=>cases x <;> exact⟨_,rfl⟩
  | bl b=>cases x <;> exact⟨_,rfl⟩
  | int i=>cases x <;> exact⟨_,rfl⟩
  | str i=>cases x <;> exact⟨_,rfl⟩
theorem Z3:∀(n:Nat) (y:T),Pl n y->mE n y y=some true
 | 0,_,h=>h.elim
 | n+1,y,h=>by
  cases y with
  | tup xs=>exact Zl xs λz hz=>Z3 n z ((h) z hz)
  | lst xs=>exact Zl xs λz hz=>Z3 n z ((h) z hz)
  | fz xs=>exact h.elim
  | non=>rfl
  | bl b=>show some _=_;simp
  | int i=>show some _=_;simp
  | str i=>show some _=_;simp
theorem Pl.up:∀(n:Nat) (y:T),Pl n y->Pl (n+1) y
 | 0,_,h=>h.elim
 | n+1,y,h=>by
  cases y with
  | tup xs=>exact λz hz=>Pl.up n z ((h) z hz)
  | lst xs=>exact λz hz=>Pl.up n z ((h) z hz)
  | fz xs=>exact h.elim
  | _=>exact trivial
theorem Pl.le (c:n<=m)(h:Pl n y):Pl m y:=by
 obtain⟨j,rfl⟩:∃j,m=n+j:=⟨m - n,by omega⟩
 clear c
 induction j with
 | zero=>exact h
 | succ j a=>exact Pl.up _ _ a
theorem Ua (h:Pl 30 t):mW t t= .ok false:=by unfold mW;rw[Z3 30 t h];rfl
theorem xx (h:Pl 30 t):my t t= .ok true:=by unfold my;rw[Z3 30 t h]
theorem uD {f:T->Option Bool}:∀(ts:List T),(∀t∈ts,∃b,f t=some b)->∃b,Jo f ts=some b/\(b=false->∀t∈ts,f t=some false)
 | [],_=>⟨false,rfl,λ_ _ h=>nomatch h⟩
 | t :: ts,h=>by
  obtain⟨b,d⟩:=h t aa;obtain⟨c,g,h'⟩:=uD ts λu a=>h u (a9 _ a);refine⟨b || c,by unfold Jo;rw[d,g],λe u a=> ?_⟩
  rw[Bool.or_eq_false_iff]at e;rcases ak.mp a with rfl | a
  ·rw[d,e.1]
  ·exact h' e.2 u a
theorem ZJ (h:f ρ= .ok t):jA f ρ= .nx ρ:=by unfold jA;rw[h,j1]
theorem nR (k:Kd):((rng 0 k.all.length).map λt=>match t with | .int i=>(k.all[i.toNat]?).getD .non | y=>y)=k.all:=by
 unfold rng;rw[aZ];refine dL λi=> ?_;rw[ao]
 by_cases hi:i < k.all.length
 ·rw[c_ hi];show some ((k.all[((0:Int)+(i)).toNat]?).getD _)=_;rw[show ((0:Int)+(i)).toNat=i by omega]
  obtain⟨x,a⟩:=jG hi;rw[a];rfl
 ·rw[aP (by simpa using hi),aP (by omega)];rfl
theorem WD (a:f ρ= .ok (.int j))(h: -1000000 < j/\j < 1000000):Zi f ρ= .ok (rng 0 j.toNat):=by
 unfold Zi;rw[a];exact if_pos h
theorem gC:nv (.int i) (.int j)= .ok (decide (j < i)):=rfl
inductive W:Nat->T->Prop where
 | int (d:Nat) (i:Int):W d (.int i)
 | str (d:Nat) (s:Str):W d (.str s)
 | tup {d:Nat} {xs:List T} (h:xs.length<=3) (r:∀x∈xs,W d x):W (d+1) (.tup xs)
theorem QD:∀(d:Nat) (k:Kd) (x:T),k.Ok (d+1)->k.has x=true->W d x
 | d,.whole lo hi,x,_,h=>by
  cases x <;> first | exact .int _ _ | (simp[Kd.has,oN]at h)
 | d,.pick q,x,_,h=>by
  cases x <;> first | exact .str _ _ | (simp[Kd.has]at h)
 | 0,.row i,x,a,h=>by
  obtain⟨g,j,a⟩:=a
  match i,g,a with
  | k :: _,_,a=>exact(a k aa).elim
 | 0,.many k lo hi,x,a,h=>a.2.2.elim
 | d+1,.row i,x,a,h=>by
  obtain⟨g,j,a⟩:=a;cases x with
  | tup xs=>
   rw[Kd.has]at h;simp only[aj,beq_iff_eq]at h;obtain⟨l,f⟩:=h;refine .tup (by omega) λx c=> ?_
   obtain⟨k,o,e⟩:=UZ i xs l f x c;exact QD d k x (a k o) e
  | _=>simp[Kd.has]at h
 | d+1,.many k lo hi,x,a,h=>by
  obtain⟨g,j,a⟩:=a;cases x with
  | tup xs=>
   rw[Kd.has]at h;simp only[aj,decide_eq_true_eq,aJ]at h;obtain⟨⟨l,p⟩,f⟩:=h;refine .tup (by omega) λx c=> ?_
   exact QD d k x a (f x c)
  | _=>simp[Kd.has]at h
mutual
noncomputable def lv:T->List T
 | .tup xs=>nW xs
 | .non=>[.non]
 | .bl b=>[.bl b]
 | .int b=>[.int b]
 | .str b=>[.str b]
 | .lst b=>[.lst b]
 | .fz b=>[.fz b]
noncomputable def nW:List T->List T
 | []=>[]
 | x :: xs=>lv x++nW xs
end
theorem EY (xs:List T):lv (.tup xs)=nW xs:=by rw[lv]
theorem WF (x:T)(xs:List T):nW (x :: xs)=lv x++nW xs:=by rw[nW]
theorem QE:nW []=[]:=by rw[nW]
theorem QF:∀xs:List T,(∀x∈xs,(lv x).length<=n)->(nW xs).length<=xs.length*n
 | [],_=>by exact bf _
 | x :: xs,h=>by
  rw[WF,az,aw,fX];have c:=h x aa;have a:=QF xs λy hy=>h y (a9 _ hy);omega
theorem sP (d:Nat):1<=3 ^ d:=Nat.one_le_pow _ _ (by omega)
theorem QG (h:W d x):(lv x).length<=3 ^ d:=by
 induction h with
 | int d i=>exact sP d
 | str d i=>exact sP d
 | @tup d xs h r a=>
  rw[EY];have:=QF xs a;have c:=cU (3 ^ d) h;omega
inductive Lf:T->Prop where
 | int (i:Int):Lf (.int i)
 | str (i:Str):Lf (.str i)
theorem XB:∀(xs:List T),(∀x∈xs,∀y∈lv x,Lf y)->∀y∈nW xs,Lf y
 | [],_,y,hy=>by cases hy
 | x :: xs,h,y,hy=>by
  rcases aW.mp hy with hy | hy
  ·exact h x aa y hy
  ·exact XB xs (λz hz=>h z (a9 _ hz)) y hy
theorem EG (h:W d x):∀y∈lv x,Lf y:=by
 induction h with
 | int d i=>intro y hy;rw[aq.mp hy];exact .int _
 | str d i=>intro y hy;rw[aq.mp hy];exact .str _
 | @tup d xs h r a=>intro y hy;exact XB xs a y hy
theorem HR (hi:ρ[i]? =some (.ow ts))(h:f ρ= .ok (.lst us))(a:ts.length+us.length<=mF):vY i f ρ= .nx (ρ.set i (.ow (ts++us))):=by
 unfold vY;rw[hi];dsimp only;rw[h,j1];dsimp only;rw[if_pos a]
abbrev Bs (c:List T->R T):En->RS:=vY 1 (zb 1 c (za (vE 2) (ze)))
theorem QH (hn:n<=1000):∀(xs:List T) (acc:List T) (x:Sl),(∀x∈xs,c [x]= .ok (.lst (lv x))/\(lv x).length<=n)->acc.length+xs.length*n<=1000000->
  ∃d,Zu (zw 2) (Bs c) xs [a,.ow acc,x]= .nx [a,.ow (acc++nW xs),d]
 | [],acc,x,_,_=>⟨x,by rw[QE,bw];rfl⟩
 | y :: xs,acc,x,H,g=>by
  obtain⟨e,i⟩:=H y aa;rw[aw,fX]at g;have j:mF=16777216:=rfl;obtain⟨d,h⟩:=QH hn xs (acc++lv y) _ (λz hz=>H z (a9 _ hz)) (by rw[az];omega)
  refine⟨d, ?_⟩;have f:zw 2 y [a,.ow acc,x]= .ok _:=rfl;have b2:Bs c [a,.ow acc,.vl y]= .nx [a,.ow (acc++lv y),.vl y]:=by
   have z:zb 1 c (za (vE 2) (ze)) [a,.ow acc,.vl y]= .ok (.lst (lv y)):=by rw[zI,v2,i3,e]
   exact HR rfl z (by omega)
  rw[ZI f b2,h,WF,bi]
theorem XD:jW (ZX (mw (WS "tuple") (vB 0))) (.vl x :: r)= .ok (!(match x with | .tup _=>true | _=>false)):=by
 all_goals (cases x <;> rfl)
theorem wx:∀(n d:Nat),d < n->d<=3->∀x:T,W d x->sU n 0 [x]= .ok (.lst (lv x))
 | 0,d,h,_,_,_=>absurd h (iP _)
 | n+1,d,h,k,x,a=>by
  show zk (Ah _ [.vl x,.un,.un])=_;rw[Ah];cases a with
  | int d i=>
   rfl
  | str d i=>
   rfl
  | @tup d xs f r=>
   have hp:3 ^ d<=27:=bN (by omega) (show d<=3 by omega)
   obtain⟨e,j⟩:=QH (by omega) xs [] .un (λy hy=>⟨wx n d (by omega) (by omega) y (r y hy),QG (r y hy)⟩) (by have:=bo f hp;simp;omega)
   have c:uO 1 ze [.vl (.tup xs),.un,.un]= .nx [.vl _,.ow [],.un]:=rfl;have g:ZD (Z5 (vE 0)) (zw 2) (Bs (sU n 0)) [.vl (.tup xs),.ow [],.un]= .nx [.vl (.tup xs),.ow ([]++nW xs),e]:=by
    exact j
   rw[zc (zj XD),zc c,zc g,bP];rfl
abbrev CM (c:List T->R T):En->RS:=zC 1 (zd zv (vE 1) (zb 1 c (za (vE 2) (ze))))
theorem F7 (h:xs.length+ys.length<=1000000):zv (.lst xs) (.lst ys)= .ok (.lst (xs++ys)):=by
 unfold zv;dsimp only;rw[if_pos (by have a:mF=16777216:=rfl;omega)]
theorem QI (hn:n<=1000):∀(xs:List T) (acc:List T) (x:Sl),(∀x∈xs,c [x]= .ok (.lst (lv x))/\(lv x).length<=n)->acc.length+xs.length*n<=1000000->
  ∃d,Zu (zw 2) (CM c) xs [a,.vl (.lst acc),x]= .nx [a,.vl (.lst (acc++nW xs)),d]
 | [],acc,x,_,_=>⟨x,by rw[QE,bw];rfl⟩
 | y :: xs,acc,x,H,g=>by
  obtain⟨e,i⟩:=H y aa;rw[aw,fX]at g;obtain⟨d,h⟩:=QI hn xs (acc++lv y) _ (λz hz=>H z (a9 _ hz)) (by rw[az];omega)
  refine⟨d, ?_⟩;have f:zw 2 y [a,.vl (.lst acc),x]= .ok _:=rfl;have b2:CM c [a,.vl (.lst acc),.vl y]= .nx [a,.vl (.lst (acc++lv y)),.vl y]:=by
   have z:zd zv (vE 1) (zb 1 c (za (vE 2) (ze))) [a,.vl (.lst acc),.vl y]= .ok (.lst (acc++lv y)):=by rw[zh,v1,i3,zI,v2,i3,e,i3,F7 (by omega)]
   exact zE z
  rw[ZI f b2,h,WF,bi]
theorem ye:∀(n d:Nat),d < n->d<=3->∀x:T,W d x->rT n 0 [x]= .ok (.lst (lv x))
 | 0,d,h,_,_,_=>absurd h (iP _)
 | n+1,d,h,k,x,a=>by
  show zk (AB _ [.vl x,.un,.un])=_;rw[AB];cases a with
  | int d i=>
   rfl
  | str d i=>
   rfl
  | @tup d xs f r=>
   have hp:3 ^ d<=27:=bN (by omega) (show d<=3 by omega)
   obtain⟨e,j⟩:=QI (by omega) xs [] .un (λy hy=>⟨ye n d (by omega) (by omega) y (r y hy),QG (r y hy)⟩) (by have:=bo f hp;simp;omega)
   have c:zC 1 (Zc ze) [.vl (.tup xs),.un,.un]= .nx [.vl _,.vl _,.un]:=rfl;have g:ZD (Z5 (vE 0)) (zw 2) (CM (rT n 0)) [.vl (.tup xs),.vl (.lst []),.un]= .nx [.vl (.tup xs),.vl (.lst ([]++nW xs)),e]:=by
    exact j
   rw[zc (zj XD),zc c,zc g,bP];rfl
theorem Z4 {p:T->Bool}{js:List Nat}(ts:List T)(c:ts.length<=mF)(H:∀t∈ts,ft ((Jp k js ρ).set 0 (.vl t))= .ok (p t)/\fe ((Jp k js ρ).set 0 (.vl t))= .ok t):zq (zw 0) ft fe k js ρ ts= .ok (ts.filter p):=by
 unfold zq;rw[if_pos c,Zq (h:=id) ts _ λt a=>⟨(H t a).1,λ_=>(H t a).2⟩,List.map_id];rfl
noncomputable def ZV:List T->List Int
 | []=>[]
 | .int i :: r=>i :: ZV r
 | .non :: r=>ZV r
 | .bl _ :: r=>ZV r
 | .str _ :: r=>ZV r
 | .tup _ :: r=>ZV r
 | .lst _ :: r=>ZV r
 | .fz _ :: r=>ZV r
theorem wA:∀ts:List T,ts.filter BW=(ZV ts).map T.int
 | []=>rfl
 | t :: ts=>by
  have a:=wA ts;rw[ce,a];cases t <;> rfl
theorem Ub:∀a:List Int,Z2 (a.map T.int)=some a
 | []=>rfl
 | i :: a=>by
  have e:Z2 ((i :: a).map T.int)=match Z2 _ with | some l=>some _ | none=>none:=rfl
  rw[e,Ub a]
theorem WG:∀ts:List T,(ZV ts).length<=ts.length
 | []=>am _
 | t :: ts=>by
  have a:=WG ts;cases t <;> simp only[ZV,aw] <;> omega
theorem w9 (hd:d<=2)(h:W d x):(lv x).length<=9:=av (QG h) (bN (by omega) hd)
theorem Y1 (hd:d<=2)(h:W d x):tT [x]= .ok (.lst ((ZV (lv x)).map T.int)):=by
 show zk _=_;have e:=w9 hd h;have c:zq _ (ZX (zb 1 nT (za (vE 0) _))) (vE 0) 1 [] [.vl x] (lv x)= .ok _:=
  Z4 _ (by have f:mF=16777216:=rfl;omega) λt _=>⟨by
   show ZX _ [.vl t]=_;rw[j6,zI,v0,i3,Wt,i3,UL],rfl⟩
 rw[CU,zg]
 ·rfl
 ·show zA _ _ _ _ _ _ [.vl x]=_;have a:pK 8 [x]= .ok _:=wx 8 d (by omega) (by omega) x h
  rw[zJ,Zs,zI,v0,i3,a];show ((zq _ _ _ _ _ _ _).bind _)=_;rw[c,i3,wA]
noncomputable def oj (a:List Int):Bool:=(a.zip (a.drop 1)).all λq=>decide (q.1<=q.2)
theorem QJ:∀(qs:List (Int×Int)) (x y:Sl),zx (zN 0 1) zV (ZL mL (vB 0) (vB 1)) (qs.map λq=>T.tup [.int q.1,.int q.2]) [x,y]= .ok (qs.map λq=>T.bl (decide (q.1<=q.2)))
 | [],_,_=>rfl
 | q :: qs,x,y=>by
  have c:=QJ qs (.vl (.int q.1)) (.vl (.int q.2));have a:zx (zN 0 1) zV (ZL mL (vB 0) (vB 1)) ((q :: qs).map λq=>T.tup [.int q.1,.int q.2]) [x,y]=
   (R.ok (T.bl _)).bind λv=>(zx _ _ _ (qs.map λq=>T.tup [.int q.1,.int q.2]) [.vl _,.vl _]).bind λvs=> .ok _:=rfl
  rw[a,i3,c,i3,ar]
theorem QK (xs:List T):nJ xs (some ((1:Nat):Int)) none=xs.drop 1:=by
 unfold nJ;rw[HT.sIx_nat,HT.sIx_none]
 by_cases h:1<=xs.length
 ·rw[fU h,eT (by rw[dR];omega)]
 ·have:xs=[]:=bK.mp (by omega)
  subst this;rfl
theorem QL (a:List Int)(d:a.length<=100):B4 [.lst (a.map T.int)]= .ok (.bl (oj a)):=by
 show zk _=_;have hz:Yb (vE 0) (nj (vE 0) (Zj (cE (.int 1))) (np)) [.vl (.lst (a.map T.int))]= .ok ((a.zip (a.drop 1)).map λq=>T.tup [.int q.1,.int q.2]):=by
  show R.ok (yG _ (nJ _ (some ((1:Nat))) _))=_;rw[QK,← List.map_drop];unfold yG;rw[List.zip_map,aZ];rfl
 have c:zq (zN 0 1) zV (ZL mL (vB 0) (vB 1)) 2 [] [.vl (.lst (a.map T.int))] ((a.zip (a.drop 1)).map λq=>T.tup [.int q.1,.int q.2])= .ok ((a.zip (a.drop 1)).map λq=>T.bl (decide (q.1<=q.2))):=by
  unfold zq;rw[if_pos (by rw[ae,dE];have e:mF=16777216:=rfl;omega)]
  show quiet (zx _ _ _ _ [.un,.un])=_;rw[QJ];rfl
 rw[C4,zg]
 ·rfl
 ·show mw _ _ [.vl _]=_;rw[Z8,zJ,hz,i3,c,i3];show (match WT _ with | some k=>R.ok _ | none=> .bad)=_
  rw[WC (λq=>decide _)];rfl
theorem Zt (x y:Int)(r:List Int):oj (x :: y :: r)=(decide (x<=y) && oj (y :: r)):=by
 unfold oj;rw[d_,dN,dz,cX,d_,dN]
theorem QM (x:Int):∀l:List Int,oj l=true->oj (UC x l)=true/\∀y,(∀z∈l,y<=z)->y<=x->∀z∈UC x l,y<=z
 | [],_=>⟨rfl,λy _ h z hz=>by rw[aq.mp hz];exact h⟩
 | [a],_=>by
  rw[UC];split
  ·rename_i h;exact⟨by rw[Zt,decide_eq_true h];rfl,λy d e z hz=>by
    rcases ak.mp hz with rfl | hz
    ·exact e
    ·exact d z hz⟩
  ·rw[UC];exact⟨by rw[Zt,decide_eq_true (by omega)];rfl,λy d e z hz=>by
    rcases ak.mp hz with rfl | hz
    ·exact d _ aa
    ·rw[aq.mp hz];exact e⟩
 | a :: b :: r,h=>by
  rw[Zt,aj,decide_eq_true_eq]at h;obtain⟨c,g⟩:=QM x _ h.2;rw[UC];split
  ·rename_i i;exact⟨by rw[Zt,decide_eq_true i,Zt,decide_eq_true h.1,h.2];rfl,λy d e z hz=>by
    rcases ak.mp hz with rfl | hz
    ·exact e
    ·exact d z hz⟩
  ·refine⟨?_,λy d e z hz=>by
    rcases ak.mp hz with rfl | hz
    ·exact d _ aa
    ·exact g y (λw j=>d w (a9 _ j)) e z hz⟩
   rw[UC]at c ⊢;split
   ·rename_i f;rw[if_pos f]at c;rw[Zt,decide_eq_true (by omega),c];rfl
   ·rename_i f;rw[if_neg f]at c;rw[Zt,decide_eq_true h.1,c];rfl
theorem QN:∀l:List Int,oj (qt l)=true
 | []=>rfl
 | x :: l=>by rw[qt];exact(QM x _ (QN l)).1
theorem QO:∀l:List Int,oj l=true->qt l=l
 | [],_=>rfl
 | [x],_=>rfl
 | x :: y :: r,h=>by
  rw[Zt,aj,decide_eq_true_eq]at h;rw[qt,QO _ h.2,UC,if_pos h.1]
theorem yf:∀xs a:List Int,∃b,nu (mE n) (xs.map T.int) (a.map T.int)=some b/\(b=true↔xs=a)
 | [],[]=>⟨true,rfl,by simp⟩
 | [],y :: a=>⟨false,rfl,by simp⟩
 | x :: xs,[]=>⟨false,rfl,by simp⟩
 | x :: xs,y :: a=>by
  obtain⟨b,e,h⟩:=yf xs a;have d:nu _ ((x :: xs).map T.int) ((y :: a).map T.int)=match mE n _ _ with
   | none=>none
   | some b=>match nu _ _ _ with
    | none=>none
    | some c=>some _:=rfl
  have f:mE n (.int x) (.int y)=some (x == y):=by cases n <;> rfl
  refine⟨(x == y) && b,by rw[d,f,e], ?_⟩
  rw[aj,beq_iff_eq,h,iO]
theorem QP (a:List Int):my (.lst (a.map T.int)) (.lst ((qt a).map T.int))= .ok (oj a):=by
 obtain⟨b,e,h⟩:=yf a _;have f:mE 30 (.lst _) (.lst _)=some b:=e;unfold my;rw[f];show R.ok b=_;congr 1
 cases c:b with
 | true=>
  have:=h.mp c;rw[this];exact(QN a).symm
 | false=>
  cases d:oj a with
  | false=>rfl
  | true=>rw[c]at h;exact absurd (h.mpr (QO a d).symm) ax
theorem U0 (a:List Int)(c:a.length<=60):VH (.lst (a.map T.int))= .ok (.lst ((qt a).map T.int)):=by
 unfold VH;dsimp only;rw[Ub];dsimp only;rw[if_pos (by rw[ae];omega)]
theorem FY (a:List Int):qh (.lst (a.map T.int))= .ok (.int a.sum):=by
 unfold qh;dsimp only;rw[Ub]
def inB (xs:List T)(x:T):Bool:=(Jo (λy=>mE 30 y x) xs).getD false
theorem Fy (x:T)(h:∀y∈xs,Pl 30 y):Jo (λy=>mE 30 y x) xs=some (inB xs x):=by
 obtain⟨b,e,_⟩:=uD xs λt a=>JJ 30 t x (h t a);unfold inB;rw[e];rfl
theorem W.pl (h:W d x):Pl (d+1) x:=by
 induction h with
 | int d i=>exact trivial
 | str d i=>exact trivial
 | @tup d xs h r a=>exact a
theorem W.pl30 (h:W d x)(hd:d<=2):Pl 30 x:=h.pl.le (by omega)
noncomputable def Z9:T->List T
 | .tup xs=>xs
 | .non=>[.non]
 | .bl b=>[.bl b]
 | .int b=>[.int b]
 | .str b=>[.str b]
 | .lst b=>[.lst b]
 | .fz b=>[.fz b]
theorem gE (h:W d x):tM [x]= .ok (.tup (Z9 x)):=by cases h <;> rfl
theorem uE (h:W d x):(Z9 x).length<=3:=by
 cases h with
 | int=>exact(by decide:1<=3)
 | str=>exact(by decide:1<=3)
 | tup h _=>exact h
theorem yg (h:W d x)(hd:d<=2):∀y∈Z9 x,Pl 30 y:=by
 cases h with
 | int=>intro y hy;rw[aq.mp hy];exact trivial
 | str=>intro y hy;rw[aq.mp hy];exact trivial
 | @tup d xs h r=>intro y hy;exact(r y hy).pl30 (by omega)
def un (a:List T):Bool:= !(a.zipIdx.any λp=>inB (a.take p.2) p.1)
theorem uF {xs:List T}{k:Nat}:o8 (.tup xs) none (some (k:Int))= .ok (.tup (xs.take k)):=by
 show R.ok _=_;have:nJ xs none (some (k))=xs.take k:=by
  unfold nJ;rw[HT.sIx_none,HT.sIx_nat];simp only[dN,Nat.sub_zero];rw[List.take_eq_take_iff];omega
 rw[this]
theorem QR {a:List T}(h:∀y∈a,Pl 30 y)(k:Nat)(x:T):nt x (.tup (a.take k))= .ok (inB (a.take k) x):=by
 show (match Jo (λy=>mE 30 y x) _ with | some b=>R.ok b | none=> .bad)=_
 rw[Fy x λy hy=>h y (j_ hy)]
abbrev oA:En->R T:=ZL nt (vB 1) (nj (vE 2) (np) (Zj (vE 0)))
theorem QS {a:List T}(h:∀y∈a,Pl 30 y):∀(qs:List (T×Nat)) (x y:Sl),zx (zN 0 1) zV oA (qs.map λp=>T.tup [.int (p.2:Nat),p.1]) [x,y,.vl (.tup a)]= .ok (qs.map λp=>T.bl (inB (a.take p.2) p.1))
 | [],_,_=>rfl
 | q :: qs,x,y=>by
  have f:=QS h qs (.vl (.int (q.2))) (.vl q.1);have e:oA [.vl (.int (q.2)),.vl q.1,.vl (.tup a)]= .ok (.bl (inB (a.take q.2) q.1)):=by
   have c:nj (vE 2) np (Zj (vE 0)) [.vl (.int (q.2)),.vl q.1,.vl (.tup a)]=o8 (.tup a) _ _:=rfl;unfold oA;rw[Ze,w1,i3,c,uF,i3,QR h,i3]
  have d:zx (zN 0 1) zV oA ((q :: qs).map λp=>T.tup [.int (p.2),p.1]) [x,y,.vl (.tup a)]=
   (oA [.vl _,.vl q.1,.vl _]).bind λv=>(zx _ _ oA (qs.map λp=>T.tup _) [.vl _,.vl q.1,.vl _]).bind λvs=> .ok _:=rfl
  rw[d,e,i3,f,i3,ar]
theorem uG {a:Type}(p:a->Bool):∀qs:List a,wI (qs.map λq=>T.bl (p q))=some (qs.any p)
 | []=>rfl
 | q :: qs=>by
  have e:wI ((q :: qs).map λq=>T.bl (p q))=match wI (qs.map λq=>T.bl _) with | some j=>some _ | none=>none:=rfl
  rw[e,uG p qs];rfl
theorem QT (h:∀y∈ps,Pl 30 y)(e:ps.length<=100):BD [.tup ps]= .ok (.bl (un ps)):=by
 show zk _=_;have d:zq (zN 0 1) zV oA 2 [0] [.vl (.tup ps)] (jM ps)= .ok (ps.zipIdx.map λp=>T.bl (inB (ps.take p.2) p.1)):=by
  unfold zq;rw[if_pos (by unfold jM;rw[ae,lA];have f:mF=16777216:=rfl;omega)]
  show quiet (zx _ _ _ _ [.un,.un,.vl _])=_;unfold jM;rw[QS h];rfl
 rw[DK,zg]
 ·rfl
 ·have c:zA (wa (vE 0)) (zN 0 1) zV oA 2 [0] [.vl (.tup ps)]= .ok (.lst (ps.zipIdx.map λp=>T.bl (inB (ps.take p.2) p.1))):=by
   show ((R.ok _).bind _)=_;rw[i3,d,i3]
  have a:mw BK (zA (wa (vE 0)) (zN 0 1) zV oA 2 [0]) [.vl (.tup ps)]= .ok (.bl (ps.zipIdx.any λp=>inB (ps.take p.2) p.1)):=by
   rw[Z8,c];show (match wI _ with | some k=>R.ok _ | none=> .bad)=_
   rw[uG (λp:T×Nat=>inB _ p.1)]
  show vX _ [.vl _]=_;unfold vX;rw[a];rfl
theorem xy {d:List T}(h:∀y∈d,Pl 30 y)(v:d.length<=100){a b c:Sl}{ρ:En}:∃r,zq (zw 0) (zp nt (zd kj (vE 1) (vE 0)) (nj (vE 1) (np) (Zj (vE 0)))) (vE 0) 1 [3] (a :: b :: c :: .vl (.tup d) :: ρ) (rng 0 d.length)= .ok r/\r.isEmpty=un d:=by
 let p:T->Bool:=λt=>match t with
  | .int i=>match d[i.toNat]? with | some w=>inB (d.take i.toNat) w | none=>false
  | _=>false
 refine⟨(rng 0 _).filter p,Z4 _ (by unfold rng;rw[ae,bJ];have B:mF=16777216:=rfl;omega) λt j=> ?_, ?_⟩
 ·obtain⟨k,f,rfl⟩:=aA.mp j;have e :=aT.mp f;refine⟨?_,rfl⟩;show zp nt _ _ [.vl _,.vl _]=_;rw[show (0:Int)+(k)=(k) by omega]
  have l:kj (.tup d) (.int k)= .ok d[k]:=by
   show mS d k=_;unfold mS;rw[Zv (ah e)]
  have u:nj (vE 1) np (Zj (vE 0)) [.vl (.int (k)),.vl (.tup d)]=o8 (.tup d) _ _:=rfl;rw[zB,zh,v1,i3,v0,i3,l,i3,u,uF,i3,QR h];show _=R.ok (match d[((k:Int)).toNat]? with | some w=>inB _ w | none=>false)
  rw[b9,ah e]
 ·rw[fV,List.isEmpty_iff,f7];unfold un;rw[lQ,lE];constructor
  ·intro H q o;obtain⟨x,k⟩:=q;have f:=List.mem_zipIdx' o;have:=H _ (by exact aA.mpr ⟨k,aT.mpr f.1,rfl⟩)
   intro g;apply this
   show (match d[((0:Int)+(k)).toNat]? with | some w=>inB _ w | none=>false)=true
   rw[show ((0:Int)+(k)).toNat=k by omega,ah f.1,← f.2]
   exact g
  ·intro H t j g;obtain⟨k,f,rfl⟩:=aA.mp j;have e :=aT.mp f;have g:(match d[((0:Int)+(k)).toNat]? with | some w=>inB _ w | none=>false)=true:=g
   rw[show ((0:Int)+(k)).toNat=k by omega,ah e]at g
   exact H _ (List.mk_mem_zipIdx_iff_getElem?.mpr (ah e)) g
noncomputable def V3 (w:Str):T->Bool
 | .str x=>x == w
 | _=>false
theorem DO (w:Str)(n:Nat):∀t:T,mE n t (.str w)=some (V3 w t)
 | .str x=>by cases n <;> rfl
 | .non=>by cases n <;> rfl
 | .bl _=>by cases n <;> rfl
 | .int _=>by cases n <;> rfl
 | .tup _=>by cases n <;> rfl
 | .lst _=>by cases n <;> rfl
 | .fz _=>by cases n <;> rfl
theorem QU (w:Str):∀ts:List T,Jo (λy=>mE 30 y (.str w)) ts=some (ts.any (V3 w))
 | []=>rfl
 | t :: ts=>by
  have e:Jo (λy=>mE 30 y (.str w)) (t :: ts)=match mE 30 t _ with
   | none=>none
   | some b=>match Jo (λy=>mE 30 y _) ts with
    | none=>none
    | some d=>some _:=rfl
  rw[e,DO,QU w ts];rfl
theorem gG (w:Str)(ts:List T):(ts.filter (V3 w)).isEmpty= !(ts.any (V3 w)):=by
 induction ts with
 | nil=>rfl
 | cons t ts a=>
  rw[ce,ib];cases V3 w t with
  | true=>rfl
  | false=>rw[if_neg ax,a,Bool.false_or]
inductive Ru where
 | sum (a b:Int) | size (a b:Int) | word (w:Str) | rising | unlike | no (r:Ru) | all (r s:Ru) | some (r s:Ru)
def Ru.t:Ru->T
 | .sum a b=> .tup [.str "sum",.int a,.int b]
 | .size a b=> .tup [.str "size",.int a,.int b]
 | .word w=> .tup [.str "word",.str w]
 | .rising=> .tup [.str "rising"]
 | .unlike=> .tup [.str "unlike"]
 | .no r=> .tup [.str "no",r.t]
 | .all r s=> .tup [.str "all",r.t,s.t]
 | .some r s=> .tup [.str "some",r.t,s.t]
inductive ZK:Nat->Ru->Prop where
 | sum {d:Nat} {a b:Int} (ha: -50<=a/\a<=50) (hb: -50<=b/\b<=50):ZK (d+1) (.sum a b)
 | size {d:Nat} {a b:Int} (ha: -50<=a/\a<=50) (hb: -50<=b/\b<=50):ZK (d+1) (.size a b)
 | word {d:Nat} {w:Str} (h:Zr (.str w)=true):ZK (d+1) (.word w)
 | rising {d:Nat}:ZK (d+1) .rising
 | unlike {d:Nat}:ZK (d+1) .unlike
 | no {d:Nat} {r:Ru} (h:ZK d r):ZK (d+1) (.no r)
 | all {d:Nat} {r s:Ru} (h:ZK d r) (h' :ZK d s):ZK (d+1) (.all r s)
 | some {d:Nat} {r s:Ru} (h:ZK d r) (h' :ZK d s):ZK (d+1) (.some r s)
theorem ZK.up (h:ZK d r):ZK (d+1) r:=by
 induction h with
 | sum e f=>exact .sum e f
 | size e f=>exact .size e f
 | word h=>exact .word h
 | rising=>exact .rising
 | unlike=>exact .unlike
 | no h c=>exact .no c
 | all h h' c a =>exact .all c a
 | some h h' c a =>exact .some c a
def kp:Ru->T->Bool
 | .sum a b,x=>decide (a<=(ZV (lv x)).sum) && decide ((ZV (lv x)).sum<=b)
 | .size a b,x=>decide (a<=((Z9 x).length:Int)) && decide (((Z9 x).length:Int)<=b)
 | .word w,x=>(lv x).any (V3 w)
 | .rising,x=>oj (ZV (lv x))
 | .unlike,x=>un (Z9 x)
 | .no r,x=> !kp r x
 | .all r s,x=>kp r x && kp s x
 | .some r s,x=>kp r x || kp s x
theorem JK (h: -50<=i/\i<=50):At [.int i]= .ok (.bl true):=by
 show zk _=_;rw[C5,zg]
 ·rfl
 ·show j8 _ _ [.vl _]=_;rw[J8,zI,v0,i3,Q5,Xr,zW,i3];rw[i3,w0,i3,wJ,decide_eq_true h.1,i3,i3,wJ,decide_eq_true h.2];rfl
theorem Zx (b:Bool)(h:(x == w)=b):zp my (zd kj (vE 0) (cE (.int 0))) (cE (.str w)) (.vl (.tup (.str x :: r)) :: ρ)= .ok b:=by rw[nQ,h]
theorem Ye (h:f ρ= .ok false)(h' :g ρ= .ok b):nz f g ρ= .ok b:=by rw[U2,h,i3,if_neg ax,h']
theorem Du (h:f ρ= .ok true):nz f g ρ= .ok true:=by rw[U2,h,i3,if_pos rfl]
theorem wK (h:f ρ= .ok (.bl true))(h' :g ρ=r):j8 f g ρ=r:=by rw[J8,h,Zw,if_pos rfl,h']
theorem XF (h:((xs.length:Int) == n)=true):ZL my (mw Z6 (vB 0)) (cE (.int n)) (.vl (.tup xs) :: ρ)= .ok (.bl true):=by
 rw[Ze,Z8,w0,i3,jP,i3,zW,i3,nL,h,i3]
theorem jl:nz (zp my (vB 1) (cE (.int 0))) (nz (jW (ZX (mw (WS "tuple") (vB 0)))) (zp my (mw Z6 (vB 0)) (cE (.int 0)))) (mG (.tup (x :: xs)) (.int ((d+1:Nat):Int)))= .ok false:=by
 refine Ye ?_ (Ye ?_ ?_)
 ·rw[zB,w1,i3,zW,i3,nL,beq_eq_false_iff_ne.mpr (by omega)]
 ·rfl
 ·rw[zB,Z8,w0,i3,jP,i3,zW,i3,nL,beq_eq_false_iff_ne.mpr (by rw[aw];omega)]
theorem xz (h:Zr (.str w)=true):KS (.str w):=by
 have h:(decide _ && decide _ && w.cps.toList.all _)=true:=h;simp only[aj,decide_eq_true_eq]at h;exact av h.1.2 (by decide)
theorem Jj:∀(n d:Nat),d<=n->∀r:Ru,ZK d r->pX n 0 [r.t,.int (d:Int)]= .ok (.bl true)
 | 0,d,h,r,hr=>by
  have:d=0:=by omega
  subst this;cases hr
 | n+1,d,h,r,hr=>by
  show zk (Ao pC (pX n 0) At (mG r.t (.int (d:Int))))=_;rw[Ao];cases hr with
  | @sum d a b f i=>
   rw[Ru.t,zc (zj jl),zu (t:= .bl true)]
   ·rfl
   ·exact zg (wK (XF rfl) (wK (by show zb 1 _ _ (mG _ _)=_;rw[zI,jE,i3,JK f]) (by show zb 1 _ _ (mG _ _)=_;rw[zI,Wz,i3,JK i])))
  | @size d a b f i=>
   rw[Ru.t,zc (zj jl),zu (t:= .bl true)]
   ·rfl
   ·exact zg (wK (XF rfl) (wK (by show zb 1 _ _ (mG _ _)=_;rw[zI,jE,i3,JK f]) (by show zb 1 _ _ (mG _ _)=_;rw[zI,Wz,i3,JK i])))
  | @word d w j=>
   rw[Ru.t,zc (zj jl),zc (zj (Ye (Zx false (by decide)) (Zx false (by decide)))),zu (t:= .bl true)]
   ·rfl
   ·exact zg (wK (XF rfl) (by show zb 1 _ _ (mG _ _)=_;rw[zI,jE,i3,Q4 _ (xz j),j]))
  | rising=>
   rw[Ru.t,zc (zj jl),zc (zj (Ye (Zx false (by decide)) (Zx false (by decide)))),zc (zj (Zx false (by decide))),zu (t:= .bl true)]
   ·rfl
   ·rw[jF (Du (Zx true (by decide)))]
    exact zg (XF rfl)
  | unlike=>
   rw[Ru.t,zc (zj jl),zc (zj (Ye (Zx false (by decide)) (Zx false (by decide)))),zc (zj (Zx false (by decide))),zu (t:= .bl true)]
   ·rfl
   ·rw[jF (Ye (Zx false (by decide)) (Zx true (by decide)))]
    exact zg (XF rfl)
  | @no d r hr=>
   have e:=Jj n d (by omega) r hr
   rw[Ru.t,zc (zj jl),zc (zj (Ye (Zx false (by decide)) (Zx false (by decide)))),zc (zj (Zx false (by decide))),zc (zj (Ye (Zx false (by decide)) (Zx false (by decide)))),zu (t:= .bl true)]
   ·rfl
   ·rw[jF (Zx true (by decide))]
    exact zg (wK (XF rfl) (by show zb 2 _ _ (mG _ _)=_;rw[zt,jE,i3,zh,v1,i3,zW,i3,Zf,i3,show ((d+1:Nat)) - 1=(d:Int) by omega,e]))
  | @all d r s hr g=>
   have e:=Jj n d (by omega) r hr
   have c :=Jj n d (by omega) s g
   rw[Ru.t,zc (zj jl),zc (zj (Ye (Zx false (by decide)) (Zx false (by decide)))),zc (zj (Zx false (by decide))),zc (zj (Ye (Zx false (by decide)) (Zx false (by decide)))),zc (zj (Zx false (by decide))),zu (t:= .bl true)]
   ·rfl
   ·exact zg (wK (XF rfl) (wK (by show zb 2 _ _ (mG _ _)=_;rw[zt,jE,i3,zh,v1,i3,zW,i3,Zf,i3,show ((d+1:Nat):Int) - 1=(d) by omega,e]) (by show zb 2 _ _ (mG _ _)=_;rw[zt,Wz,i3,zh,v1,i3,zW,i3,Zf,i3,show ((d+1:Nat):Int) - 1=(d) by omega,c])))
  | @some d r s hr g=>
   have e:=Jj n d (by omega) r hr
   have c :=Jj n d (by omega) s g
   rw[Ru.t,zc (zj jl),zc (zj (Ye (Zx _ (by decide)) (Zx _ (by decide)))),zc (zj (Zx _ (by decide))),zc (zj (Ye (Zx _ (by decide)) (Zx _ (by decide)))),zc (zj (Zx _ (by decide))),zu]
   ·rfl
   ·exact zg (wK (XF rfl) (wK (by show zb 2 _ _ (mG _ _)=_;rw[zt,jE,i3,zh,v1,i3,zW,i3,Zf,i3,show ((d+1:Nat):Int) - 1=(d) by omega,e]) (by show zb 2 _ _ (mG _ _)=_;rw[zt,Wz,i3,zh,v1,i3,zW,i3,Zf,i3,show ((d+1:Nat):Int) - 1=(d) by omega,c])))
theorem Ev (a:f ρ= .ok (.int i))(c:g ρ= .ok (.int j))(d:h ρ= .ok (.int k)):ny mL mL f g h ρ= .ok (.bl (decide (i<=j) && decide (j<=k))):=by
 rw[Q5,a,i3,c,i3,wJ,i3];cases decide (i<=j) with
 | true=>rw[if_pos rfl,d,i3,wJ,i3,lh]
 | false=>rw[if_neg ax,Bool.false_and]
theorem QV (hd:d<=2)(h:W d x)(b:Bool)(hr:(match r with | .no _=>False | .all _ _=>False | .some _ _=>False | _=>True)):rZ [r.t,x]= .ok (.bl (kp r x)):=by
 have hn:=Y1 hd h;have hp:=gE h;have c:pK 8 [x]= .ok (.lst (lv x)):=wx 8 d (by omega) (by omega) x h
 have hi:=av (WG _) (w9 hd h);show zk (tV tM (pK 8) tT _ _ (mG r.t x))=_;rw[tV];cases r with
 | sum a b=>
  rw[zu]
  ·rfl
  ·refine zg ?_;show ny _ _ _ _ _ (mG _ x)=_;exact Ev jE (by rw[Z8,zI,v1,i3,hn,i3,FY]) Wz
 | size a b=>
  rw[Ru.t,zc (zj (Zx _ (by decide))),zu]
  ·rfl
  ·rw[jF (Zx _ (by decide))]
   refine zg ?_;show ny _ _ _ _ _ (mG _ x)=_;exact Ev jE (by rw[Z8,zI,v1,i3,hp,i3,jP]) Wz
 | word w=>
  rw[Ru.t,zc (zj (Zx false (by decide))),zc (zj (Zx false (by decide))),zu]
  ·rfl
  ·rw[jF (Zx true (by decide))]
   refine zg ?_;show ZL _ _ _ (mG _ x)=_;rw[Ze,jE,i3,zI,v1,i3,c];show ((match Jo (λy=>mE 30 y (.str w)) (lv x) with | some b=>R.ok b | none=> .bad).bind _)=_
   rw[QU];rfl
 | rising=>
  rw[Ru.t,zc (zj (Zx false (by decide))),zc (zj (Zx _ (by decide))),zc (zj (Zx _ (by decide))),zu (t:= .bl (kp _ x))]
  ·rfl
  ·rw[jF (Zx true (by decide))]
   refine zg ?_;show zb 1 _ _ (mG _ x)=_;rw[zI,zI,v1,i3,hn,i3,QL _ (by omega)]
   rfl
 | unlike=>
  rw[Ru.t,zc (zj (Zx false (by decide))),zc (zj (Zx _ (by decide))),zc (zj (Zx false (by decide))),zc (zj (Zx _ (by decide))),zg]
  ·rfl
  ·show zb 1 _ _ (mG _ x)=_;rw[zI,zI,v1,i3,hp,i3,QT (yg h hd) (av (uE h) (by omega))]
   rfl
 | no=>exact hr.elim
 | all=>exact hr.elim
 | some=>exact hr.elim
theorem QW (h:f ρ= .ok (.bl b)):vX f ρ= .ok (.bl (!b)):=by unfold vX;rw[h];rfl
theorem WH (h:f ρ= .ok (.bl a))(h' :g ρ= .ok (.bl b)):j8 f g ρ= .ok (.bl (a && b)):=by
 rw[J8,h,h'];cases a <;> rfl
theorem XG (h:f ρ= .ok (.bl a))(h' :g ρ= .ok (.bl b)):pP f g ρ= .ok (.bl (a || b)):=by
 unfold pP;rw[h];cases a with
 | true=>rfl
 | false=>exact h'
theorem Jk (i:e<=2)(g:W e x):∀(n d:Nat),d<=n->∀r:Ru,ZK d r->oo n 0 [r.t,x]= .ok (.bl (kp r x))
 | 0,d,h,r,hr=>by
  have:d=0:=by omega
  subst this;cases hr
 | n+1,d,h,r,hr=>by
  show zk (An (oo n 0) rZ (mG r.t x))=_;rw[An];have c:∀(r:Ru) (s:Str) (q:List T),r.t= .tup (.str s :: q)->(s == "no")=false->(s == "all")=false->(s == "some")=false->(match r with | .no _=>False | .all _ _=>False | .some _ _=>False | _=>True)->
    zk (zn (mD (zp my (zd kj (vE 0) (cE (.int 0))) (cE (.str "no"))) (zr (vX (zb 2 (oo n 0) (za (zd kj (vE 0) (cE (.int 1))) (za (vE 1) (ze)))))) (mC))
  (zn (mD (zp my (zd kj (vE 0) (cE (.int 0))) (cE (.str "all"))) (zr (j8 (zb 2 (oo n 0) (za (zd kj (vE 0) (cE (.int 1))) (za (vE 1) (ze)))) (zb 2 (oo n 0) (za (zd kj (vE 0) (cE (.int 2))) (za (vE 1) (ze)))))) (mC))
  (zn (mD (zp my (zd kj (vE 0) (cE (.int 0))) (cE (.str "some"))) (zr (pP (zb 2 (oo n 0) (za (zd kj (vE 0) (cE (.int 1))) (za (vE 1) (ze)))) (zb 2 (oo n 0) (za (zd kj (vE 0) (cE (.int 2))) (za (vE 1) (ze)))))) (mC))
  (zr (zb 2 rZ (za (vE 0) (za (vE 1) (ze))))))) (mG r.t x))= .ok (.bl (kp r x)):=by
   intro r s q e o v l y;have j:=QV i g true y;rw[e]at j ⊢;rw[zc (zj (Zx _ o)),zc (zj (Zx false v)),zc (zj (Zx _ l)),zg]
   ·rfl
   ·show zb 2 _ _ (mG _ x)=_;rw[zt,v0,i3,v1,i3,j]
  cases hr with
  | @sum d a b u p=>exact c (.sum a b) "sum" _ rfl (by decide) (by decide) (by decide) trivial
  | @size d a b u p=>exact c _ "size" _ rfl (by decide) (by decide) (by decide) trivial
  | @word d w B=>exact c _ _ _ rfl (by decide) (by decide) (by decide) trivial
  | rising=>exact c .rising _ _ rfl (by decide) (by decide) (by decide) trivial
  | unlike=>exact c .unlike _ _ rfl (by decide) (by decide) (by decide) trivial
  | @no d r hr=>
   have k:=Jk i g n d (by omega) r hr
   rw[Ru.t,zu]
   ·rfl
   ·exact zg (QW (by show zb 2 _ _ (mG _ x)=_;rw[zt,jE,i3,v1,i3,k]))
  | @all d r s hr j=>
   have k:=Jk i g n d (by omega) r hr
   have f :=Jk i g n d (by omega) s j
   rw[Ru.t,zc (zj (Zx _ (by decide))),zu]
   ·rfl
   ·exact zg (WH (by show zb 2 _ _ (mG _ x)=_;rw[zt,jE,i3,v1,i3,k]) (by show zb 2 _ _ (mG _ x)=_;rw[zt,Wz,i3,v1,i3,f]))
  | @some d r s hr j=>
   have k:=Jk i g n d (by omega) r hr
   have f :=Jk i g n d (by omega) s j
   rw[Ru.t,zc (zj (Zx _ (by decide))),zc (zj (Zx _ (by decide))),zu]
   ·rfl
   ·exact zg (XG (by show zb 2 _ _ (mG _ x)=_;rw[zt,jE,i3,v1,i3,k]) (by show zb 2 _ _ (mG _ x)=_;rw[zt,Wz,i3,v1,i3,f]))
abbrev lk (r x a b:T):En:=[.vl r,.vl x,.vl a,.vl b,.un,.un,.un]
theorem mX (c:Bool)(h:(x == w)=c):zp my (zd kj (vE 0) (cE (.int 0))) (cE (.str w)) (lk (.tup (.str x :: r)) y a b)= .ok c:=Zx c h
theorem yh:∀(c:List Int) (m:Int) (y:Sl),∃d,Zu (zw 5) (zC 4 (zd zv (vE 4) (vE 5))) (c.map T.int) [.vl r,.vl x,.vl a,.vl b,.vl (.int m),y,z]= .nx [.vl r,.vl x,.vl a,.vl b,.vl (.int (m+c.sum)),d,z]
 | [],m,y=>⟨y,by rw[List.sum_nil,Int.add_zero];rfl⟩
 | i :: c,m,y=>by
  obtain⟨d,h⟩:=yh (r:=r) (x:=x) (a:=a) (b:=b) (z:=z) c (m+i) (.vl (.int i));refine⟨d, ?_⟩;have e:zw 5 (.int i) [.vl r,.vl x,.vl a,.vl b,.vl (.int m),y,z]= .ok [.vl r,.vl x,.vl a,.vl b,.vl (.int m),.vl (.int i),z]:=rfl;have b2:zC 4 (zd zv (vE 4) (vE 5)) [.vl r,.vl x,.vl a,.vl b,.vl (.int m),.vl (.int i),z]= .nx [.vl r,.vl x,.vl a,.vl b,.vl (.int (m+i)),.vl (.int i),z]:=rfl;rw[ar,ZI e b2,h,cg,Int.add_assoc]
theorem CC (a:f ρ= .ok (.int i))(c:g ρ= .ok (.int j)):ZL mL f g ρ= .ok (.bl (decide (i<=j))):=by rw[Ze,a,i3,c,i3,wJ,i3]
theorem BF (a:f ρ= .ok (.int i))(c:g ρ= .ok (.int j)):ZL ox f g ρ= .ok (.bl (decide (j<=i))):=by
 rw[Ze,a,i3,c,i3];rfl
theorem uH:frz (lk r x a b)=lk r x a b:=rfl
theorem jy (g:e<=2)(f:W e x):∀(n d:Nat),d<=n->∀r:Ru,ZK d r->nC n 0 [r.t,x]= .ok (.bl (kp r x))
 | 0,d,h,r,hr=>by
  have:d=0:=by omega
  subst this;cases hr
 | n+1,d,h,r,hr=>by
  show zk (Aq (sC 8) (nC n 0) [.vl r.t,.vl x,.un,.un,.un,.un,.un])=_;have D:sC 8 [x]= .ok (.lst (lv x)):=ye 8 e (by omega) (by omega) x f
  have M:=w9 g f;have hB:mF=16777216:=rfl;have hi:(ZV (lv x)).length<=9:=av (WG _) M;have S:zC 2 (zA (Z5 (zb 1 (sC 8) (za (vE 1) (ze)))) (zw 0) (ZX (mw (WS "int") (vB 0))) (vE 0) 1 []) [.vl r.t,.vl x,.un,.un,.un,.un,.un]= .nx [.vl r.t,.vl x,.vl (.lst ((ZV (lv x)).map T.int)),.un,.un,.un,.un]:=by
   have l:zq (zw 0) (ZX (mw (WS "int") (vB 0))) (vE 0) 1 [] [.vl r.t,.vl x,.un,.un,.un,.un,.un] (lv x)= .ok ((lv x).filter BW):=
    Z4 _ (by omega) λt G=>⟨by cases EG f t G <;> rfl,rfl⟩
   rw[zE (t:= .lst ((ZV (lv x)).map T.int))]
   ·rfl
   ·rw[zJ,Zs,zI,v1,i3,D,i3];show ((zq _ _ _ _ _ _ (lv x)).bind _)=_;rw[l,i3,wA]
  have X:zC 3 (mZ (ZX (mw (WS "tuple") (vB 1))) (vE 1) (Za (za (vE 1) (ze)))) [.vl r.t,.vl x,.vl (.lst ((ZV (lv x)).map T.int)),.un,.un,.un,.un]= .nx (lk r.t x (.lst ((ZV (lv x)).map T.int)) (.tup (Z9 x))):=by
   cases f <;> rfl
  rw[Aq,zc S,zc X];cases hr with
  | @sum d a b Q O=>
   obtain⟨C,F⟩:=yh (r:=(Ru.sum a b).t) (x:=x) (a:= .lst ((ZV (lv x)).map T.int)) (b:= .tup (Z9 x)) (z:= .un) (ZV (lv x)) 0 .un;rw[f6]at F;have o:zC 4 (cE (.int 0)) (lk (Ru.sum a b).t x (.lst ((ZV (lv x)).map T.int)) (.tup (Z9 x)))= .nx [.vl (Ru.sum a b).t,.vl x,.vl (.lst ((ZV (lv x)).map T.int)),.vl (.tup (Z9 x)),.vl (.int 0),.un,.un]:=rfl;have N:ZD (Z5 (vE 2)) (zw 5) (zC 4 (zd zv (vE 4) (vE 5))) [.vl (Ru.sum a b).t,.vl x,.vl (.lst ((ZV (lv x)).map T.int)),.vl (.tup (Z9 x)),.vl (.int 0),.un,.un]= .nx [.vl (Ru.sum a b).t,.vl x,.vl (.lst ((ZV (lv x)).map T.int)),.vl (.tup (Z9 x)),.vl (.int (ZV (lv x)).sum),C,.un]:=by
    unfold ZD;rw[Zs,v2,i3];exact F
   rw[zu (t:= .bl (kp (.sum a b) x))]
   ·rfl
   ·rw[jF (by rw[Ru.t];exact mX true (by decide)),zc o,zc N,zg (t:= .bl (kp (.sum a b) x))]
    show j8 _ _ [.vl (Ru.sum a b).t,.vl x,.vl (.lst ((ZV (lv x)).map T.int)),.vl (.tup (Z9 x)),.vl (.int (ZV (lv x)).sum),X2 C,.un]=_;rw[Ru.t];exact WH (CC jE rfl) (CC rfl Wz)
  | @size d a b Q O=>
   rw[Ru.t,zc (zj (mX false (by decide))),zu (t:= .bl (kp (.size a b) x))]
   ·rfl
   ·rw[jF (mX true (by decide)),zg (t:= .bl (kp (.size a b) x))]
    rw[uH];exact WH (BF (i:=((Z9 x).length:Int)) rfl jE) (CC (i:=((Z9 x).length:Int)) rfl Wz)
  | @word d w hw=>
   rw[Ru.t,zc (zj (mX false (by decide))),zc (zj (mX false (by decide))),zu (t:= .bl (kp (.word w) x))]
   ·rfl
   ·rw[jF (mX true (by decide)),zg (t:= .bl (kp (.word w) x))]
    rw[uH];have l:zq (zw 0) (zp my (vB 0) (zd kj (vE 1) (cE (.int 1)))) (vE 0) 1 [0] (lk (.tup [.str "word",.str w]) x (.lst ((ZV (lv x)).map T.int)) (.tup (Z9 x))) (lv x)= .ok ((lv x).filter (V3 w)):=
     Z4 _ (by omega) λt G=>⟨by
      show zp my (vB 0) (zd kj (vE 1) (cE (.int 1))) [.vl t,.vl (.tup [.str "word",.str w])]=_;rw[zB,w0,i3,zh,v1,i3,zW,i3,o9,i3];unfold my;rw[DO],rfl⟩
    rw[Ze,zJ,Zs,zI,v1,i3,D,i3];show (((zq _ _ _ _ _ _ (lv x)).bind _).bind _)=_;rw[l,i3,i3,show Zc ze (lk (.tup [.str "word",.str w]) x (.lst ((ZV (lv x)).map T.int)) (.tup (Z9 x)))= .ok (.lst []) from rfl,i3];have I:mW (.lst ((lv x).filter (V3 w))) (.lst [])= .ok (!((lv x).filter (V3 w)).isEmpty):=by cases (lv x).filter (V3 w) <;> rfl
    rw[I,i3,gG,Bool.not_not];rfl
  | rising=>
   rw[Ru.t,zc (zj (mX false (by decide))),zc (zj (mX false (by decide))),zc (zj (mX false (by decide))),zu (t:= .bl (kp .rising x))]
   ·rfl
   ·rw[jF (mX true (by decide)),zg (t:= .bl (kp .rising x))]
    rw[uH,Ze,Z8,w2,i3,i3,U0 _ (by omega),i3,QP,i3]
    rfl
  | unlike=>
   rw[Ru.t,zc (zj (mX false (by decide))),zc (zj (mX false (by decide))),zc (zj (mX false (by decide))),zc (zj (mX false (by decide))),zu (t:= .bl (kp .unlike x))]
   ·rfl
   ·rw[jF (mX true (by decide)),zg (t:= .bl (kp .unlike x))]
    rw[uH];have J:=uE f;obtain⟨q,U,Z⟩:=xy (yg f g) (by omega) (a:= .vl (.tup [.str "unlike"])) (b:= .vl x) (c:= .vl (.lst ((ZV (lv x)).map T.int))) (ρ:=[.un,.un,.un])
    have P:Zi (mw Z6 (vB 3)) (lk (.tup [.str "unlike"]) x (.lst ((ZV (lv x)).map T.int)) (.tup (Z9 x)))= .ok (rng 0 (Z9 x).length):=by
     rw[WD (j:=((Z9 x).length:Int)) rfl ⟨by omega,by omega⟩,b9]
    rw[Ze,zJ,P,i3,U,i3,i3,show Zc ze (lk (.tup [.str "unlike"]) x (.lst ((ZV (lv x)).map T.int)) (.tup (Z9 x)))= .ok (.lst []) from rfl,i3,Lq,i3,Z];rfl
  | @no d r hr=>
   have p:=jy g f n d (by omega) r hr
   rw[Ru.t,zc (zj (mX false (by decide))),zc (zj (mX false (by decide))),zc (zj (mX false (by decide))),zc (zj (mX false (by decide))),zc (zj (mX false (by decide))),zu (t:= .bl (kp (.no r) x))]
   ·rfl
   ·rw[jF (mX true (by decide)),zg (t:= .bl (kp (.no r) x))]
    rw[uH];exact QW (by rw[zt,jE,i3,v1,i3,p])
  | @all d r s hr B=>
   have p:=jy g f n d (by omega) r hr
   have k :=jy g f n d (by omega) s B
   have o:zC 6 (zA (Z5 (nj (vE 0) (Zj (cE (.int 1))) (np))) (zw 0) (zV) (zb 2 (nC n 0) (za (vE 0) (za (vE 1) (ze)))) 1 [1]) (lk (.tup [.str "all",r.t,s.t]) x (.lst ((ZV (lv x)).map T.int)) (.tup (Z9 x)))= .nx [.vl (.tup [.str "all",r.t,s.t]),.vl x,.vl (.lst ((ZV (lv x)).map T.int)),.vl (.tup (Z9 x)),.un,.un,.vl (.lst [.bl (kp r x),.bl (kp s x)])]:=by
    rw[zE (t:= .lst [.bl (kp r x),.bl (kp s x)])]
    ·rfl
    ·rw[zJ];show ((zq (zw 0) zV (zb 2 (nC n 0) (za (vE 0) (za (vE 1) (ze)))) 1 [1] (lk (.tup [.str "all",r.t,s.t]) x (.lst ((ZV (lv x)).map T.int)) (.tup (Z9 x))) [r.t,s.t]).bind _)=_;have l:zq (zw 0) zV (zb 2 (nC n 0) (za (vE 0) (za (vE 1) (ze)))) 1 [1] (lk (.tup [.str "all",r.t,s.t]) x (.lst ((ZV (lv x)).map T.int)) (.tup (Z9 x))) [r.t,s.t]= .ok [.bl (kp r x),.bl (kp s x)]:=by
      unfold zq;rw[if_pos (by show 2<=mF;omega)]
      have y:zb 2 (nC n 0) (za (vE 0) (za (vE 1) (ze))) [.vl r.t,.vl x]= .ok (.bl (kp r x)):=by rw[zt,v0,i3,v1,i3,p]
      have u:zb 2 (nC n 0) (za (vE 0) (za (vE 1) (ze))) [.vl s.t,.vl x]= .ok (.bl (kp s x)):=by rw[zt,v0,i3,v1,i3,k]
      show quiet ((zb 2 (nC n 0) (za (vE 0) (za (vE 1) (ze))) [.vl r.t,.vl x]).bind λv=>((zb 2 (nC n 0) (za (vE 0) (za (vE 1) (ze))) [.vl s.t,.vl x]).bind λv=>(R.ok []).bind λvs=> .ok (v :: vs)).bind λvs=> .ok (v :: vs))=_;rw[y,u];rfl
     rw[l,i3]
   rw[Ru.t,zc (zj (mX false (by decide))),zc (zj (mX false (by decide))),zc (zj (mX false (by decide))),zc (zj (mX false (by decide))),zc (zj (mX false (by decide))),zc (zj (mX false (by decide))),zc o,zg (t:= .bl (kp (.all r s) x))]
   ·rfl
   ·show mZ _ _ _ [.vl (.tup [.str "all",r.t,s.t]),.vl x,.vl (.lst ((ZV (lv x)).map T.int)),.vl (.tup (Z9 x)),.un,.un,.vl (.lst [.bl (kp r x),.bl (kp s x)])]=_;unfold mZ;rw[Zx true (by decide),i3,if_pos rfl]
    exact WH rfl rfl
  | @some d r s hr B=>
   have p:=jy g f n d (by omega) r hr
   have k :=jy g f n d (by omega) s B
   have o:zC 6 (zA (Z5 (nj (vE 0) (Zj (cE (.int 1))) (np))) (zw 0) (zV) (zb 2 (nC n 0) (za (vE 0) (za (vE 1) (ze)))) 1 [1]) (lk (.tup [.str "some",r.t,s.t]) x (.lst ((ZV (lv x)).map T.int)) (.tup (Z9 x)))= .nx [.vl (.tup [.str "some",r.t,s.t]),.vl x,.vl (.lst ((ZV (lv x)).map T.int)),.vl (.tup (Z9 x)),.un,.un,.vl (.lst [.bl (kp r x),.bl (kp s x)])]:=by
    rw[zE (t:= .lst [.bl (kp r x),.bl (kp s x)])]
    ·rfl
    ·rw[zJ];show ((zq (zw 0) zV (zb 2 (nC n 0) (za (vE 0) (za (vE 1) (ze)))) 1 [1] (lk (.tup [.str "some",r.t,s.t]) x (.lst ((ZV (lv x)).map T.int)) (.tup (Z9 x))) [r.t,s.t]).bind _)=_;have l:zq (zw 0) zV (zb 2 (nC n 0) (za (vE 0) (za (vE 1) (ze)))) 1 [1] (lk (.tup [.str "some",r.t,s.t]) x (.lst ((ZV (lv x)).map T.int)) (.tup (Z9 x))) [r.t,s.t]= .ok [.bl (kp r x),.bl (kp s x)]:=by
      unfold zq;rw[if_pos (by show 2<=mF;omega)]
      have y:zb 2 (nC n 0) (za (vE 0) (za (vE 1) (ze))) [.vl r.t,.vl x]= .ok (.bl (kp r x)):=by rw[zt,v0,i3,v1,i3,p]
      have u:zb 2 (nC n 0) (za (vE 0) (za (vE 1) (ze))) [.vl s.t,.vl x]= .ok (.bl (kp s x)):=by rw[zt,v0,i3,v1,i3,k]
      show quiet ((zb 2 (nC n 0) (za (vE 0) (za (vE 1) (ze))) [.vl r.t,.vl x]).bind λv=>((zb 2 (nC n 0) (za (vE 0) (za (vE 1) (ze))) [.vl s.t,.vl x]).bind λv=>(R.ok []).bind λvs=> .ok (v :: vs)).bind λvs=> .ok (v :: vs))=_;rw[y,u];rfl
     rw[l,i3]
   rw[Ru.t,zc (zj (mX false (by decide))),zc (zj (mX false (by decide))),zc (zj (mX false (by decide))),zc (zj (mX false (by decide))),zc (zj (mX false (by decide))),zc (zj (mX false (by decide))),zc o,zg (t:= .bl (kp (.some r s) x))]
   ·rfl
   ·show mZ _ _ _ [.vl (.tup [.str "some",r.t,s.t]),.vl x,.vl (.lst ((ZV (lv x)).map T.int)),.vl (.tup (Z9 x)),.un,.un,.vl (.lst [.bl (kp r x),.bl (kp s x)])]=_;unfold mZ;rw[Zx false (by decide),i3,if_neg ax]
    exact XG rfl rfl
abbrev lr (ns:List Int)(k:Int)(d:Nat)(p:Int)(a b:Sl):En:=[.vl (mN ns),.vl (.int k),.vl (.int (d:Int)),.vl (.int p),a,b]
theorem QX (h:nk [mN ns,.int (k+j),.int m]= .ok (.int q)):zb 3 nk (za (vE 0) (za (zd zv (vE 1) (cE (.int j))) (za (cE (.int m)) (ze)))) (lr ns k d p a b)= .ok (.int q):=by
 rw[Zb,v0,i3,zh,v1,i3,zW,i3,zZ,i3,zW,i3,h]
theorem JL (a:List Int):∀(n d:Nat),d<=n->1<=d->∀k:Int,0<=k->∃r:Ru,oK n 0 [mN a,.int k,.int (d:Int)]= .ok r.t/\ZK d r
 | 0,d,h,h1,k,hk=>by omega
 | n+1,d,h,h1,k,hk=>by
  obtain⟨p,hp,p0,p9⟩:=zO a k 9 hk (by omega)
  have e1:zC 3 (zb 3 nk (za (vE 0) (za (vE 1) (za (cE (.int 9)) (ze))))) [.vl (mN a),.vl (.int k),.vl (.int (d:Int)),.un,.un,.un]= .nx (lr a k d p .un .un):=by
   rw[zE (t:= .int p)]
   ·rfl
   ·rw[Zb,v0,i3,v1,i3,zW,i3,hp]
  have e:oK (n+1) 0 [mN a,.int k,.int (d:Int)]=zk (AI nk (oK n 0) [.vl (mN a),.vl (.int k),.vl (.int (d:Int)),.un,.un,.un]):=rfl;rw[e,AI,zc e1];have i:X0 (zp nv (vB 2) (cE (.int 1))) (zp nv (vB 3) (cE (.int 5))) (lr a k d p .un .un)= .ok (decide (1 < d) && decide (5 < p)):=by
   rw[Qa,zB,w2,i3,zW,i3,gC,i3,show decide ((1:Int) < (d:Int))=decide (1 < d) by rw[fV,decide_eq_true_eq,decide_eq_true_eq];omega]
   cases decide (1 < d) with
   | true=>rw[if_pos rfl,zB,w3,i3,zW,i3,gC,lh]
   | false=>rfl
  by_cases hb:1 < d/\5 < p
  ·rw[decide_eq_true hb.1,decide_eq_true hb.2]at i;obtain⟨d,rfl⟩:∃G,d=G +1:=⟨d - 1,by omega⟩
   obtain⟨f,N,O⟩:=JL a n d (by omega) (by omega) (2*k+11) (by omega)
   obtain⟨x,Q,o2⟩:=JL a n d (by omega) (by omega) (2*k+24) (by omega)
   have m2:zU (.int 2) (.int k)= .ok (.int (2*k)):=Qb _ _ (.inl ⟨by decide,by decide⟩)
   have C:zC 4 (zb 3 (oK n 0) (za (vE 0) (za (zd zv (zd zU (cE (.int 2)) (vE 1)) (cE (.int 11))) (za (zd jK (vE 2) (cE (.int 1))) (ze))))) (lr a k (d+1) p .un .un)= .nx (lr a k (d+1) p (.vl f.t) .un):=by
    rw[zE (t:=f.t)]
    ·rfl
    ·rw[Zb,v0,i3,zh,zh,zW,i3,v1,i3,m2,i3,zW,i3,zZ,i3,zh,v2,i3,zW,i3,Zf,i3,show ((d+1:Nat):Int) - 1=(d:Int) by omega,N]
   have X:zb 3 (oK n 0) (za (vE 0) (za (zd zv (zd zU (cE (.int 2)) (vE 1)) (cE (.int 24))) (za (zd jK (vE 2) (cE (.int 1))) (ze)))) (lr a k (d+1) p (.vl f.t) .un)= .ok x.t:=by
    rw[Zb,v0,i3,zh,zh,zW,i3,v1,i3,m2,i3,zW,i3,zZ,i3,zh,v2,i3,zW,i3,Zf,i3,show ((d+1:Nat):Int) - 1=(d:Int) by omega,Q]
   by_cases h6:p=6
   ·subst h6;refine⟨.no f, ?_,.no O⟩;rw[zu (t:=(Ru.no f).t)]
    ·rfl
    ·rw[jF i,zc C,zu (t:=(Ru.no f).t)];rw[jF rfl,Ru.t];exact zg (UO rfl rfl)
   ·have B :zp my (vB 3) (cE (.int 6)) (lr a k (d+1) p (.vl f.t) .un)= .ok false:=by
     rw[zB,w3,i3,zW,i3,nL,beq_eq_false_iff_ne.mpr h6]
    by_cases h7:p=7
    ·subst h7;refine⟨.all f x, ?_,.all O o2⟩;rw[zu (t:=(Ru.all f x).t)]
     ·rfl
     ·rw[jF i,zc C,zc (zj B),Ru.t];exact zg (KW rfl rfl X)
    ·have h8:p=8:=by omega
     subst h8;refine⟨.some f x, ?_,.some O o2⟩;rw[zu (t:=(Ru.some f x).t)]
     ·rfl
     ·rw[jF i,zc C,zc (zj B),Ru.t];exact zg (KW rfl rfl X)
  ·have i:X0 (zp nv (vB 2) (cE (.int 1))) (zp nv (vB 3) (cE (.int 5))) (lr a k d p .un .un)= .ok false:=by
    rw[i];congr 1
    rw[Bool.and_eq_false_iff,decide_eq_false_iff_not,decide_eq_false_iff_not];omega
   obtain⟨d,rfl⟩:∃G,d=G +1:=⟨d - 1,by omega⟩
   obtain⟨q,hq,q0,q9⟩:=zO a (k+1) 9 (by omega) (by omega)
   have C:zC 5 (zd jK (zb 3 nk (za (vE 0) (za (zd zv (vE 1) (cE (.int 1))) (za (cE (.int 9)) (ze))))) (cE (.int 4))) (lr a k (d+1) p .un .un)= .nx (lr a k (d+1) p .un (.vl (.int (q - 4)))):=by
    rw[zE (t:= .int (q - 4))]
    ·rfl
    ·rw[zh,QX hq,i3,zW,i3,Zf]
   rw[zc (zj i),zc C];have D:∃m:Nat,m < 6/\zd jL (vE 3) (cE (.int 6)) (lr a k (d+1) p .un (.vl (.int (q - 4))))= .ok (.int (m:Int)):=by
    obtain⟨w,rfl⟩:=dg p0;exact⟨w % 6,mv _ (by omega),by rw[zh,v3,i3,zW,i3];exact Qw (c:=6) (by omega)⟩
   obtain⟨m,m6,D⟩:=D;have Z:zp om (zd jL (vE 3) (cE (.int 6))) (cE (.int 2)) (lr a k (d+1) p .un (.vl (.int (q - 4))))= .ok (decide (m < 2)):=by
    rw[zB,D,i3,zW,i3,Dt];congr 1;rw[fV,decide_eq_true_eq,decide_eq_true_eq];omega
   have tk:∀j:Nat,zp my (zd jL (vE 3) (cE (.int 6))) (cE (.int (j:Int))) (lr a k (d+1) p .un (.vl (.int (q - 4))))= .ok (m == j):=λj=>by
    rw[zB,D,i3,zW,i3,nL,UV]
   have v:zp my (zd jL (vE 3) (cE (.int 6))) (cE (.int 2)) (lr a k (d+1) p .un (.vl (.int (q - 4))))= .ok (m == 2):=tk 2;have y:zp my (zd jL (vE 3) (cE (.int 6))) (cE (.int 3)) (lr a k (d+1) p .un (.vl (.int (q - 4))))= .ok (m == 3):=tk 3;have o:zp my (zd jL (vE 3) (cE (.int 6))) (cE (.int 4)) (lr a k (d+1) p .un (.vl (.int (q - 4))))= .ok (m == 4):=tk 4
   by_cases h2:m < 2
   ·obtain⟨u,J,u0,u5⟩:=zO a (k+2) 5 (by omega) (by omega)
    refine⟨.sum (q - 4) (q - 4+u - 1), ?_,.sum ⟨by omega,by omega⟩ ⟨by omega,by omega⟩⟩
    rw[zu (t:=(Ru.sum (q - 4) (q - 4+u - 1)).t)]
    ·rfl
    ·rw[jF (by rw[Z,decide_eq_true h2]),Ru.t]
     refine zg (KW rfl rfl ?_);show zd jK _ _ (lr a k (d+1) p .un (.vl (.int (q - 4))))=_;rw[zh,zh,QX J,show vE 5 (lr a k (d+1) p .un (.vl (.int (q - 4))))= .ok (.int (q - 4)) from rfl,i3,i3,zZ,i3,zW,i3,Zf]
   rw[zc (zj (by rw[Z,decide_eq_false h2]))]
   by_cases S:m=2
   ·subst S;obtain⟨g,l,M,F⟩:=zO a (k+1) 3 (by omega) (by omega)
    obtain⟨u,J,u0,u4⟩:=zO a (k+2) 4 (by omega) (by omega)
    refine⟨.size g u, ?_,.size ⟨by omega,by omega⟩ ⟨by omega,by omega⟩⟩
    rw[zu (t:=(Ru.size g u).t)]
    ·rfl
    ·rw[jF v,Ru.t];exact zg (KW rfl (QX l) (QX J))
   rw[zc (zj (by rw[v,beq_eq_false_iff_ne.mpr S]))]
   by_cases h4:m=3
   ·subst h4;obtain⟨g,l,M,F⟩:=zO a (k+1) 4 (by omega) (by omega)
    have P:∃w:Str,Zr (.str w)=true/\kj (.lst [.str "a",.str "b",.str "ab",.str "zz"]) (.int g)= .ok (.str w):=by
     have I:g =0\/g =1\/g =2\/g =3:=by omega
     rcases I with rfl | rfl | rfl | rfl
     ·exact⟨"a",by decide,rfl⟩
     ·exact⟨"b",by decide,rfl⟩
     ·exact⟨"ab",by decide,rfl⟩
     ·exact⟨"zz",by decide,rfl⟩
    obtain⟨w,P,hx⟩:=P;refine⟨.word w, ?_,.word P⟩;rw[zu (t:=(Ru.word w).t)]
    ·rfl
    ·rw[jF y,Ru.t];refine zg (UO rfl ?_);show zd kj _ _ (lr a k (d+1) p .un (.vl (.int (q - 4))))=_;rw[zh,QX l];exact hx
   rw[zc (zj (by rw[y,beq_eq_false_iff_ne.mpr h4]))]
   by_cases U:m=4
   ·subst U;refine⟨.rising, ?_,.rising⟩;rw[zg (t:=Ru.rising.t)]
    ·rfl
    ·show mZ _ _ _ (lr a k (d+1) p .un (.vl (.int (q - 4))))=_;unfold mZ;rw[o,i3];rfl
   ·refine⟨.unlike, ?_,.unlike⟩;rw[zg (t:=Ru.unlike.t)]
    ·rfl
    ·show mZ _ _ _ (lr a k (d+1) p .un (.vl (.int (q - 4))))=_;unfold mZ;rw[o,i3,beq_eq_false_iff_ne.mpr U];rfl
theorem Ed {f:T->T->Option Bool}:∀xs a:List T,(∀x∈xs,∀y∈a,∃b,f x y=some b/\(b=true↔x=y))->∃b,nu f xs a=some b/\(b=true↔xs=a)
 | [],[],_=>⟨true,rfl,by simp⟩
 | [],y :: a,_=>⟨false,rfl,by simp⟩
 | x :: xs,[],_=>⟨false,rfl,by simp⟩
 | x :: xs,y :: a,H=>by
  obtain⟨b,e,h⟩:=H x aa y aa;obtain⟨c,j,h'⟩:=Ed xs a λu d v g=>H u (a9 _ d) v (a9 _ g);have i:nu f (x :: xs) (y :: a)=match f x y with
   | none=>none
   | some b=>match nu f xs a with
    | none=>none
    | some c=>some _:=rfl
  refine⟨b && c,by rw[i,e,j], ?_⟩
  rw[aj,h,h',iO]
theorem Ii:∀(n d e:Nat) (x y:T),d<=n->W d x->W e y->∃b,mE n x y=some b/\(b=true↔x=y):=by
 intro n d e x y hn c
 induction c generalizing n e y with
 | int d i=>
  intro hy;cases hy with
  | int e j=>exact⟨i == j,by cases n <;> rfl,by rw[beq_iff_eq,T.int.injEq]⟩
  | str e j=>exact⟨false,by cases n <;> rfl,by simp⟩
  | tup h r=>exact⟨false,by cases n <;> rfl,by simp⟩
 | str d i=>
  intro hy;cases hy with
  | int e j=>exact⟨false,by cases n <;> rfl,by simp⟩
  | str e j=>exact⟨i == j,by cases n <;> rfl,by rw[beq_iff_eq,T.str.injEq]⟩
  | tup h r=>exact⟨false,by cases n <;> rfl,by simp⟩
 | @tup d xs h r p=>
  intro hy;obtain⟨n,rfl⟩:∃m,n=m+1:=⟨n - 1,by omega⟩
  cases hy with
  | int e j=>exact⟨false,rfl,by simp⟩
  | str e j=>exact⟨false,rfl,by simp⟩
  | @tup e a h' l =>
   obtain⟨b,g,o⟩:=Ed xs a λu f v k=>p u f n e v (by omega) (l v k)
   exact⟨b,g,by rw[o,T.tup.injEq]⟩
theorem XH (f:W 2 x):∀a:List T,(∀y∈a,W 2 y)->∃b,Jo (λy=>mE 30 y x) a=some b/\(b=true↔x∈a)
 | [],_=>⟨false,rfl,by simp⟩
 | y :: a,H=>by
  obtain⟨b,e,h⟩:=Ii 30 2 2 y x (by omega) (H y aa) f
  obtain⟨c,j,h'⟩:=XH f a λv g=>H v (a9 _ g);have i:Jo (λy=>mE 30 y x) (y :: a)=match mE 30 y x with
   | none=>none
   | some b=>match Jo (λy=>mE 30 y x) a with
    | none=>none
    | some d=>some _:=rfl
  refine⟨b || c,by rw[i,e,j], ?_⟩
  rw[fS,h,h',ak];exact⟨λq=>q.elim (λz=> .inl z.symm) .inr,λq=>q.elim (λz=> .inl z.symm) .inr⟩
theorem Fz (a:W 2 x)(hy:∀y∈ys,W 2 y)(h:b=true↔x∈ys):Y8 x (.lst ys)= .ok (!b):=by
 obtain⟨c,e,h'⟩:=XH a ys hy;have d:c=b:=by rw[fV,h,h']
 subst d;show ((match Jo (λy=>mE 30 y x) ys with | some b=>R.ok b | none=> .bad).bind λb=>R.ok _)=_
 rw[e];rfl
theorem xA {k:Kd}(a:k.Ok 3){x:T}(c:x∈k.all):W 2 x:=QD 2 k x a ((ZU k x).mp c)
abbrev fl (k:Kd)(r:Ru):List T:=k.all.filter (kp r)
theorem CG {k:Kd}(c:k.Ok 3)(r:Ru):∀x∈fl k r,W 2 x:=λx a=>xA c (bA.mp a).1
theorem Im (k:Kd)(r:Ru)(a:k.all.length<=500):(fl k r).length<=mF:=av (fj _ _) (av a (by decide))
theorem ZE (a:W 2 x)(hr:ZK 3 r):n5 8 [r.t,x]= .ok (.bl (kp r x)):=Jk (by omega) a 8 3 (by omega) r hr
def imp (k:Kd)(r s:Ru):Bool:=(fl k r).all (kp s)
theorem gH:imp k r s=true↔∀x∈k.all,kp r x=true->kp s x=true:=by
 unfold imp;rw[aJ];exact⟨λh x a hr=>h x (bA.mpr ⟨a,hr⟩),λh x a=>h x (bA.mp a).1 (bA.mp a).2⟩
noncomputable def mP (q:Rat):T:= .tup [.int q.num,.int q.den]
theorem IE {b:Nat}:mW (.int (b:Int)) (.int 0)= .ok (!(b == 0)):=by
 show R.ok _=_;congr 2
 cases b with
 | zero=>rfl
 | succ n=>
  rw[show ((n+1 == 0)=false) from rfl,beq_eq_false_iff_ne];omega
theorem yi (h:g ρ= .ok true)(a:fb ρ= .nx ρ'):Zo g fb (n+1) ρ=Zo g fb n ρ' :=by
 show (g ρ).s _=_;rw[h,j1,if_pos rfl,a]
theorem QY (h:g ρ= .ok false):Zo g fb (n+1) ρ= .nx ρ:=by
 show (g ρ).s _=_;rw[h,j1,if_neg ax]
theorem B8 {a b:Nat}(h:1<=b):jL (.int (a:Int)) (.int (b:Int))= .ok (.int ((a % b:Nat):Int)):=Qw h
abbrev DR:En->RS:=zn (zC 2 (zd jL (vE 0) (vE 1))) (zn (zC 0 (vE 1)) (zC 1 (vE 2)))
theorem QZ:∀(n b a:Nat) (x:Sl),b < n->∃d,Zo (zp mW (vB 1) (cE (.int 0))) DR n [.vl (.int (a:Int)),.vl (.int (b:Int)),x]= .nx [.vl (.int ((l7 a b:Nat):Int)),.vl (.int 0),d]
 | 0,b,a,x,h=>by omega
 | n+1,0,a,x,h=>⟨x,by
  rw[Nat.gcd_zero_right];rfl⟩
 | n+1,b+1,a,x,h=>by
  have e:DR [.vl (.int (a)),.vl (.int ((b+1:Nat))),x]= .nx [.vl (.int ((b+1:Nat))),.vl (.int ((a % (b+1):Nat))),.vl (.int ((a % (b+1)):Int))]:=by
   have g:zC 2 (zd jL (vE 0) (vE 1)) [.vl (.int (a)),.vl (.int ((b+1:Nat))),x]= .nx [.vl (.int (a)),.vl (.int ((b+1):Int)),.vl (.int ((a % (b+1):Nat)))]:=by
    rw[zE]
    ·rfl
    ·rw[zh,v0,i3,v1,i3,B8 (by omega)]
   show zn _ _ _=_;rw[zc g];rfl
  have c:a % (b+1) < n:=by have:=mv a (show b+1 > 0 by omega);omega
  obtain⟨d,f⟩:=QZ n _ _ _ c;refine⟨d, ?_⟩;rw[yi (show zp mW (vB 1) (cE (.int 0)) [.vl _,.vl (.int ((b+1:Nat))),x]= .ok _ from IE) e,f,lS _,← Nat.gcd_rec,lS]
theorem gJ {a b:Nat}(h:b < 2 ^ 9000):tR [.int (a:Int),.int (b:Int)]= .ok (.int ((l7 a b:Nat):Int)):=by
 obtain⟨d,c⟩:=QZ _ b a .un h;show zk (Ax [.vl _,.vl _,.un])=_;unfold Ax;rw[zc c];rfl
theorem EE (u:Int):G9 (.int u)= .ok (.int (u.natAbs:Int)):=by
 show R.ok _=_;congr 2
 split <;> omega
theorem XI {u:Int}{g:Nat}(a:1<=g)(h:g < 2 ^ 9000):Ga (.int u) (.int (g:Int))= .ok (.int (u / (g:Int))):=by
 show (if _ then _ else _)=_
 rw[if_pos];refine⟨by omega, ?_⟩
 exact(Nat.log2_lt (by omega)).mpr h
theorem Mc (u:Int)(d:Nat)(h:1<=d):(mkRat u d).num=u / ((l7 u.natAbs d:Nat):Int)/\(((mkRat u d).den:Nat):Int)=(d:Int) / ((l7 u.natAbs d:Nat):Int):=by
 rw[ip,iq,if_neg (by omega),if_neg (by omega),lS d]
 exact⟨rfl,Int.natCast_ediv _ _⟩
theorem gK {u:Int}{d:Nat}(h:1<=d):1<=l7 u.natAbs d/\l7 u.natAbs d<=d:=⟨Nat.gcd_pos_of_pos_right _ h,Nat.gcd_le_right _ h⟩
theorem jR {u:Int}{d:Nat}(h:1<=d)(hd:d < 2 ^ 9000):rW [.int u,.int (d:Int)]= .ok (mP (mkRat u d)):=by
 obtain⟨a,f⟩:=gK h;have c:=bq f hd;obtain⟨g,e⟩:=Mc u d h;show zk (tQ _ [.vl _,.vl _,.un])=_;unfold tQ;have i:zC 2 (zb 2 tR (za (mw G9 (vB 0)) (za (vE 1) (ze)))) [.vl (.int u),.vl (.int (d)),.un]= .nx [.vl (.int u),.vl (.int (d)),.vl (.int ((l7 u.natAbs d):Int))]:=by
  rw[zE]
  ·rfl
  ·rw[zt,Z8,w0,i3,EE,i3,v1,i3,gJ hd]
 rw[zc i,zg]
 ·rfl
 ·unfold mP;rw[g,e];exact UO (XI a c) (XI a c)
structure Bd (q:Rat) (m:Nat):Prop where
 num:q.num.natAbs<=2 ^ m
 den:q.den<=2 ^ m
theorem Bd.le (h:Bd q m)(a:m<=n):Bd q n:=⟨av h.num (bN (by decide) a),av h.den (bN (by decide) a)⟩
theorem Bd.mk' (h:1<=d)(c:u.natAbs<=2 ^ m)(a:d<=2 ^ m):Bd (mkRat u d) m:=by
 constructor
 ·rw[ip,if_neg (by omega),Int.natAbs_ediv_of_dvd]
  ·exact av (mq _ _) c
  ·exact Int.natAbs_dvd_natAbs.mp (by simpa using Nat.gcd_dvd_right d _)
 ·rw[iq,if_neg (by omega)]
  exact av (mq _ _) a
theorem XJ (q:Rat):1<=q.den:=bX q.den_nz
theorem Bd.mul (h:Bd p m)(k:Bd q n):Bd (p*q) (m+n):=by
 rw[Rat.mul_def'];refine Bd.mk' (dj (XJ p) (XJ q)) ?_ ?_
 ·rw[k_,fP];exact bo h.num k.num
 ·rw[fP];exact bo h.den k.den
theorem gL (h:Bd p m)(k:Bd q n):(p.num*(q.den:Int)+q.num*(p.den:Int)).natAbs<=2 ^ (m+n+1):=by
 refine av (Int.natAbs_add_le _ _) ?_;rw[k_,k_,lC,lC];have a:=bo h.num k.den;have d:=bo k.num h.den;rw[iL,fP];have c:2 ^ n*2 ^ m=2 ^ m*2 ^ n:=dm _ _;omega
theorem Bd.add (h:Bd p m)(k:Bd q n):Bd (p+q) (m+n+1):=by
 rw[Rat.add_def'];refine Bd.mk' (dj (XJ p) (XJ q)) (gL h k) ?_;refine av (bo h.den k.den) ?_;rw[← fP];exact bN (by decide) (by omega)
theorem Dn (h:n<=2 ^ m)(a:m < 9000):n < 2 ^ 9000:=bq h (l6 (by decide) a)
theorem DP (h:n<=2 ^ m)(a:m < 8000):n < big:=by
 exact bq h (l6 (by decide) a)
theorem HC (h:i.natAbs<=2 ^ m)(k:j.natAbs<=2 ^ n)(a:m < 8000)(hn:n < 8000):oq (.int i) (.int j)= .ok (.int (i*j)):=by
 show (if _ then _ else _)=_
 rw[if_pos ⟨DP h a,DP k hn⟩]
theorem nd (d:Nat)(h:d<=2 ^ m):((d:Int)).natAbs<=2 ^ m:=by exact h
theorem tJ (h:vE i ρ= .ok (.tup [a,b])):zd kj (vE i) (cE (.int 0)) ρ= .ok a:=by rw[zh,h,i3,zW,i3,pr]
theorem pL (h:vE i ρ= .ok (.tup [a,b])):zd kj (vE i) (cE (.int 1)) ρ= .ok b:=by rw[zh,h,i3,zW,i3,o9]
theorem v6 (a:f ρ= .ok (.int i))(c:g ρ= .ok (.int j))(h:i.natAbs<=2 ^ m)(k:j.natAbs<=2 ^ n)(d:m < 8000)(hn:n < 8000):zd oq f g ρ= .ok (.int (i*j)):=by
 rw[zh,a,i3,c,i3,HC h k d hn]
theorem FO (a:f ρ= .ok (.int i))(c:g ρ= .ok (.int j)):zd zv f g ρ= .ok (.int (i+j)):=by
 rw[zh,a,i3,c,i3,zZ]
theorem yj (h:Bd p m)(k:Bd q n)(d:m+n < 8000):oX [mP p,mP q]= .ok (mP (p*q)):=by
 show zk (tP _ [.vl _,.vl _])=_;unfold tP;rw[zg]
 ·rfl
 ·rw[zt];have a:vE 0 (frz [.vl (mP p),.vl (mP q)])= .ok _:=rfl;have c:vE 1 (frz [.vl (mP p),.vl (mP q)])= .ok _:=rfl;rw[v6 (tJ a) (tJ c) h.num k.num (by omega) (by omega),i3,v6 (pL a) (pL c) (nd _ h.den) (nd _ k.den) (by omega) (by omega),i3,← fR,
   jR (dj (XJ p) (XJ q)) (Dn (by rw[fP];exact bo h.den k.den) (by omega)),← Rat.mul_def']
theorem gM (h:Bd p m)(k:Bd q n)(d:m+n < 8000):tK [mP p,mP q]= .ok (mP (p+q)):=by
 show zk (Au _ [.vl _,.vl _])=_;unfold Au;rw[zg]
 ·rfl
 ·rw[zt];have a:vE 0 (frz [.vl (mP p),.vl (mP q)])= .ok _:=rfl;have c:vE 1 (frz [.vl (mP p),.vl (mP q)])= .ok _:=rfl;rw[FO (v6 (tJ a) (pL c) h.num (nd _ k.den) (by omega) (by omega)) (v6 (tJ c) (pL a) k.num (nd _ h.den) (by omega) (by omega)),i3,v6 (pL a) (pL c) (nd _ h.den) (nd _ k.den) (by omega) (by omega),i3,← fR,
   jR (dj (XJ p) (XJ q)) (Dn (by rw[fP];exact bo h.den k.den) (by omega)),← Rat.add_def']
noncomputable def XL:List Rat->Rat
 | []=>0
 | q :: r=>q+XL r
abbrev D5:En->RS:=zC 1 (zb 2 tK (za (vE 1) (za (vE 2) (ze))))
theorem v7:∀(qs:List Rat) (p:Rat) (n:Nat) (x:Sl),(∀q∈qs,Bd q m)->Bd p n->n+qs.length*(m+1) < 8000->
  ∃c,Zu (zw 2) D5 (qs.map mP) [s,.vl (mP p),x]= .nx [s,.vl (mP (p+XL qs)),c]
 | [],p,n,x,_,_,_=>⟨x,by rw[XL,Rat.add_zero];rfl⟩
 | q :: r,p,n,x,d,hp,i=>by
  rw[aw,fO]at i;have f:=d q aa;obtain⟨c,e⟩:=v7 r _ _ _ (λa g=>d a (a9 _ g)) (hp.add f) (by omega)
  refine⟨c, ?_⟩;rw[ar,ZI (CH 2 _ _),e,XL,Rat.add_assoc];show zC 1 _ [s,.vl _,.vl _]=_;rw[zE]
  ·rfl
  ·rw[zt,v1,i3,show vE 2 _= .ok _ from rfl,i3,gM hp f (by omega)]
theorem Hr:Bd 0 0:=⟨by decide,by decide⟩
theorem bd1:Bd 1 0:=⟨by decide,by decide⟩
theorem Uc {qs:List Rat}(h:∀q∈qs,Bd q m)(f:qs.length*(m+1) < 8000):Bh [.lst (qs.map mP)]= .ok (mP (XL qs)):=by
 show zk (AU _ [.vl _,.un,.un])=_;unfold AU;have c:zC 1 (Za (za (cE (.int 0)) (za (cE (.int 1)) (ze)))) [.vl (.lst (qs.map mP)),.un,.un]= .nx [.vl (.lst (qs.map mP)),.vl (mP 0),.un]:=by
  rfl
 obtain⟨d,e⟩:=v7 qs 0 0 .un h Hr (by omega)
 have a:ZD (Z5 (vE 0)) (zw 2) D5 [.vl (.lst (qs.map mP)),.vl (mP 0),.un]= .nx [.vl (.lst (qs.map mP)),.vl (mP (XL qs)),d]:=by
  rw[Rat.zero_add]at e;exact e
 rw[zc c,zc a];rfl
noncomputable def Ja:List Rat->Rat
 | []=>1
 | q :: r=>q*Ja r
noncomputable def Y2 (a:List (Str×Int)):Int:=(a.map (·.2)).sum
mutual
noncomputable def Kd.sh:Kd->T->Rat
 | .whole lo hi=>λ_=>mkRat 1 (hi+1 - lo).toNat
 | .pick a=>λt=>match t with | .str x=>mkRat ((a.lookup x).getD 0) (Y2 a).toNat | _=>0
 | .row c=>λt=>match t with | .tup xs=>Kd.shs c xs | _=>0
 | .many k lo hi=>λt=>match t with | .tup xs=>mkRat 1 (hi+1 - lo)*Ja (xs.map k.sh) | _=>0
noncomputable def Kd.shs:List Kd->List T->Rat
 | []=>λ_=>1
 | k :: a=>λxs=>match xs with | []=>1 | x :: xs=>k.sh x*Kd.shs a xs
end
theorem v8:∀(a:List Kd) (xs:List T),Kd.shs a xs=Ja ((a.zip xs).map λq=>q.1.sh q.2)
 | [],_=>by simp[Kd.shs,Ja]
 | k :: a,[]=>by simp[Kd.shs,Ja]
 | k :: a,x :: xs=>by simp[Kd.shs,Ja,v8 a xs]
theorem v9 (k:Kd):∀xs:List T,((ag xs.length k).zip xs).map (λq=>q.1.sh q.2)=xs.map k.sh
 | []=>rfl
 | x :: xs=>by rw[aw,bv,dz,ar,ar,v9 k xs]
theorem Bd.prod:∀{qs:List Rat},(∀q∈qs,Bd q m)->Bd (Ja qs) (qs.length*m)
 | [],_=>by exact bd1.le (bf _)
 | q :: r,h=>by
  rw[aw,fO,cz,dU];exact(h q aa).mul (Bd.prod λa c=>h a (a9 _ c))
theorem vc:∀a:List (Str×Int),Jf (a.map Jz)=some a
 | []=>rfl
 | c :: a=>by
  show (match Jf _ with | some l=>some _ | none=>none)=_
  rw[vc a]
theorem Dst.nd (h:Dst ws):ws.Nodup:=by
 rw[List.Nodup,dY];intro i j hi a c e;refine h j _ (ah a) ?_;rw[← e];rw[List.mem_take_iff_getElem];exact⟨i,by omega,rfl⟩
theorem W3:∀(a:List (Str×Int)) (x:Str),(a.any λc=>c.1 == x)=true->∃i,a.lookup x=some i/\(x,i)∈a
 | [],x,h=>by simp at h
 | c :: a,x,h=>by
  rw[ib,fS]at h
  by_cases e:c.1=x
  ·refine⟨c.2, ?_, ?_⟩
   ·rw[aQ];simp[e]
   ·rw[← e];exact aa
  ·have h:=h.resolve_left (by simp[e])
   obtain⟨i,f,d⟩:=W3 a x h;refine⟨i, ?_,a9 _ d⟩;rw[aQ];have:=beq_eq_false_iff_ne.mpr (bj e);rw[this];exact f
theorem XM:∀{d:List (Str×Int)},(∀c∈d,1<=c.2/\c.2<=20)->(d.length:Int)<=Y2 d/\Y2 d<=20*d.length
 | [],_=>by simp[Y2]
 | c :: d,h=>by
  have i:=XM λa f=>h a (a9 _ f);have g:=h c aa;have e:Y2 (c :: d)=c.2+Y2 d:=by simp[Y2]
  rw[aw];omega
theorem XN {a:List (Str×Int)}(h:(Kd.pick a).Ok (d+1)):1<=Y2 a/\Y2 a<=80/\∀c∈a,1<=c.2/\c.2<=20:=by
 have e:=λc f=>(h.2.2.1 c f).2;have:=XM e;have g:=h.1;have i:=h.2.1;exact⟨by omega,by omega,e⟩
theorem vd (a:List (Str×Int))(x:Str):(Kd.pick a).sh (.str x)=mkRat ((a.lookup x).getD 0) (Y2 a).toNat:=by rw[Kd.sh]
theorem EQ {a:List (Str×Int)}(hd:Dst (a.map (·.1)))(h:a.lookup x=some i):qy (.tup (a.map Jz)) (.str x)= .ok (.int i):=by
 unfold qy;dsimp only;rw[vc];dsimp only;rw[if_pos hd.nd,h]
theorem gO {a:List (Str×Int)}(hd:Dst (a.map (·.1))):uj (.tup (a.map Jz))= .ok (.int (Y2 a)):=by
 unfold uj;dsimp only;rw[vc];dsimp only;rw[if_pos hd.nd];rfl
theorem xB {a:List (Str×Int)}(h:(Kd.pick a).Ok (d+1))(c:a.lookup x=some i):AY [(Kd.pick a).t,.str x]= .ok (mP ((Kd.pick a).sh (.str x))):=by
 obtain⟨g,e,_⟩:=XN h;show zk (Cy _ [.vl _,.vl _,.un])=_;have f:zd kj (vE 0) (cE (.int 1)) [.vl (Kd.pick a).t,.vl (.str x),.un]= .ok (.tup (a.map Jz)):=by exact jE
 have j:Y2 a=(((Y2 a).toNat):Int):=by omega
 show zk ((R.bind _ _).s _)=_;rw[f,i3,v1,i3,EQ h.2.2.2 c,i3,gO h.2.2.2,i3,j,jR (by omega) (Dn (m:=7) (by omega) (by decide)),vd,c]
 rfl
abbrev Eg (c:List T->R T):En->RS:=zC 2 (zb 2 oX (za (vE 2) (za (zb 2 c (za (vE 3) (za (vE 4) (ze)))) (ze))))
theorem ve:∀(qs:List (Kd×T)) (p:Rat) (n:Nat) (x y:Sl),(∀q∈qs,c [q.1.t,q.2]= .ok (mP (q.1.sh q.2))/\Bd (q.1.sh q.2) m)->Bd p n->n+qs.length*m < 8000->
  ∃d f,Zu (zN 3 4) (Eg c) (qs.map λq=>T.tup [q.1.t,q.2]) [s,t,.vl (mP p),x,y]= .nx [s,t,.vl (mP (p*Ja (qs.map λq=>q.1.sh q.2))),d,f]
 | [],p,n,x,y,_,_,_=>⟨x,y,by simp only[bI,Ja,Rat.mul_one];rfl⟩
 | q :: r,p,n,x,y,h,hp,k=>by
  rw[aw,fO]at k;obtain⟨j,g⟩:=h q aa;obtain⟨d,f,e⟩:=ve r _ _ _ _ (λa i=>h a (a9 _ i)) (hp.mul g) (by omega)
  refine⟨d,f, ?_⟩;rw[ar,ar,ZI rfl,e,Ja,Rat.mul_assoc];show zC 2 _ _=_;rw[zE]
  ·rfl
  ·rw[zt,show vE 2 _= .ok _ from rfl,i3,zt,show vE 3 _= .ok _ from rfl,i3,show vE 4 _= .ok q.2 from rfl,i3,j,i3,yj hp g (by omega)]
theorem uI (a:List Kd)(xs:List T)(f:jN s= .ok (a.map Kd.t))(r:a.length<=3)(j:m<=1000)(H:∀q∈a.zip xs,c [q.1.t,q.2]= .ok (mP (q.1.sh q.2))/\Bd (q.1.sh q.2) m):
  zk (Ay oX c (mB 5 [s,.tup xs]))= .ok (mP (Ja ((a.zip xs).map λq=>q.1.sh q.2))):=by
 have e:mB 5 [s,.tup xs]=[.vl s,.vl _,.un,.un,.un]:=rfl;have hz:=by
  have l:(a.zip xs).length<=3:=by rw[dE];omega
  have:=bo l j;omega
 obtain⟨i,p,g⟩:=ve _ 1 0 .un .un H bd1 (by omega)
 have d:zC 2 (Za (za (cE (.int 1)) (za (cE (.int 1)) (ze)))) [.vl s,.vl (.tup xs),.un,.un,.un]= .nx [.vl s,.vl (.tup xs),.vl (mP 1),.un,.un]:=by
  rfl
 have o:Yb (vE 0) (vE 1) [.vl s,.vl (.tup xs),.vl (mP 1),.un,.un]= .ok ((a.zip xs).map λq=>T.tup [q.1.t,q.2]):=by
  show (jN s).bind _=_;rw[f,← gr];rfl
 have k:ZD (Yb (vE 0) (vE 1)) (zN 3 4) (Eg c) [.vl s,.vl (.tup xs),.vl (mP 1),.un,.un]= .nx [.vl s,.vl (.tup xs),.vl (mP (Ja ((a.zip xs).map λq=>q.1.sh q.2))),i,p]:=by
  unfold ZD;rw[o,j1,g,Rat.one_mul]
 rw[e,Ay,zc d,zc k];rfl
noncomputable def sb:Nat->Nat
 | 0=>0
 | d+1=>7+3*sb d
theorem t9 (d:Nat):sb (d+1)=7+3*sb d:=rfl
abbrev xC (a b:T):En:=[.vl a,.vl b,.un]
theorem Gh (h:(x == w)=false):mD (zp my (zd kj (vE 0) (cE (.int 0))) (cE (.str w))) f mC (xC (.tup (.str x :: r)) b)= .nx (xC (.tup (.str x :: r)) b):=
 zj (by rw[show zp my _ _ _= .ok _ from nQ,h])
theorem Bt:mD (zp my (zd kj (vE 0) (cE (.int 0))) (cE (.str x))) f mC (xC (.tup (.str x :: r)) b)=f (xC (.tup (.str x :: r)) b):=
 jF (by rw[show zp my _ _ _= .ok _ from nQ,beq_self_eq_true])
theorem yk:∀(d n:Nat),2*d<=n->d<=3->∀(k:Kd) (x:T),k.Ok d->k.has x=true->n6 n 0 [k.t,x]= .ok (mP (k.sh x))/\Bd (k.sh x) (sb d)
 | 0,_,_,_,_,_,h,_=>h.elim
 | d+1,n+2,hn,P,k,x,h,f=>by
  have I:=yk d n (by omega) (by omega)
  have p:sb d<=1000:=by
   rcases(show d=0\/d=1\/d=2 by omega) with rfl | rfl | rfl <;> decide
  have e:n6 (n+2) 0 [k.t,x]=zk (ph (o4 20) oX AY (n6 (n+1) 1) (xC k.t x)):=by rfl
  have F:∀s y,n6 (n+1) 1 [s,y]=zk _:=λs y=>by rw[n6];intro h;cases h
  rw[e];cases k with
  | whole lo hi=>
   obtain⟨X,M,O⟩:=h;have u:=jw (d:=1) (by omega) (UU d lo hi ⟨X,M,O⟩)
   rw[jk]at u;constructor
   ·rw[show (Kd.whole lo hi).t= .tup _ from by rw[Kd.t]]at u ⊢
    rw[ph,zu (t:=mP _),Kd.sh]
    ·rfl
    ·rw[Bt,zg (t:=mP _)];show Za _ (xC _ x)=_;have C:mP (mkRat 1 (hi+1 - lo).toNat)= .tup [.int 1,.int (((hi+1 - lo).toNat):Int)]:=by
      unfold mP;rw[ip,iq,if_neg (by omega),if_neg (by omega),show (1:Int).natAbs=1 from rfl,lT,Nat.div_one]
      rfl
     rw[C];exact UO rfl (by rw[zI,v0,i3,u])
   ·rw[Kd.sh];refine(Bd.mk' (m:=7) (by omega) (by decide) (by omega)).le ?_
    rw[t9];omega
  | pick D=>
   cases x with
   | str y=>
    have c :=by rw[Kd.has]at f;exact f
    obtain⟨i,hi,Q⟩:=W3 D y c;obtain⟨Z,N,v⟩:=XN h;have hw:=v _ Q;constructor
    ·have G:=xB h hi;rw[show (Kd.pick D).t= .tup _ from by rw[Kd.t]]at G ⊢
     rw[ph,zc (Gh (by decide)),zu (t:=mP _)]
     ·rfl
     ·rw[Bt,zg (t:=mP _)];show zb 2 _ _ (xC _ _)=_;rw[zt,v0,i3,v1,i3,G]
    ·rw[vd,hi];refine(Bd.mk' (m:=7) (by omega) ?_ (by omega)).le ?_
     ·show i.natAbs<=128;omega
     ·rw[t9];omega
   | _=>rw[Kd.has]at f;cases f
  | row l=>
   cases x with
   | tup xs=>
    have c :=by rw[Kd.has]at f;exact f
    rw[aj,beq_iff_eq,JF,aJ]at c;have H:=λq g=>I q.1 q.2 (h.2.2 q.1 (c8 g).1) (c.2 q g);have hp:=uI (s:= .tup (l.map Kd.t)) l xs rfl h.2.1 p H;have B:(Kd.row l).sh (.tup xs)=Ja ((l.zip xs).map λq=>q.1.sh q.2):=by rw[Kd.sh,← v8]
    rw[B];constructor
    ·rw[show (Kd.row l).t= .tup _ from by rw[Kd.t,Kd.ts_map]]
     rw[ph,zc (Gh (by decide)),zc (Gh (by decide)),zu]
     ·rfl
     ·rw[Bt,zg];show zb 2 _ _ (xC _ _)=_;rw[zt,jE,i3,v1,i3,F,hp]
    ·have r:=Bd.prod (m:=sb d) (λq g=>by
      obtain⟨a,w,rfl⟩:=aA.mp g;exact(H a w).2)
     refine r.le ?_;have J:=h.2.1;have hz:((l.zip xs).map λq=>q.1.sh q.2).length<=3:=by rw[ae,dE];omega
     have:=cU (sb d) hz;rw[t9];omega
   | _=>rw[Kd.has]at f;cases f
  | many k lo hi=>
   cases x with
   | tup xs=>
    have c :=by rw[Kd.has]at f;exact f
    rw[aj,aj,decide_eq_true_eq,decide_eq_true_eq,aJ]at c;obtain⟨⟨l1,l2⟩,c⟩:=c;have J:=h.2.1;have j:xs.length<=3:=by omega
    have H:∀q∈(ag xs.length k).zip xs,n6 n 0 [q.1.t,q.2]= .ok (mP (q.1.sh q.2))/\Bd (q.1.sh q.2) (sb d):=λq g=>by
     have:=c8 g;have e:=bF this.1;refine I q.1 q.2 ?_ ?_
     ·rw[e];exact h.2.2
     ·rw[e];exact c q.2 this.2
    have hp:=uI (s:= .lst _) _ xs rfl (by rw[aV];exact j) p H
    rw[v9]at hp;have B:(Kd.many k lo hi).sh (.tup xs)=mkRat 1 (hi+1 - lo)*Ja (xs.map k.sh):=by rw[Kd.sh]
    have r:=Bd.prod (qs:=xs.map k.sh) (m:=sb d) (λq g=>by
      rw[← v9]at g;obtain⟨a,w,rfl⟩:=aA.mp g;exact(H a w).2)
    rw[ae]at r;have o:Bd (mkRat 1 (hi+1 - lo)) 2:=Bd.mk' (by omega) (by decide) (by omega)
    have hz:=cU (sb d) j;rw[B];constructor
    ·rw[show (Kd.many k lo hi).t= .tup _ from by rw[Kd.t]]
     have U:zd zU (Zc (za (zd kj (vE 0) (cE (.int 1))) (ze))) (mw Z6 (vB 1)) [.vl (.tup [.str "many",k.t,.int (lo:Int),.int (hi:Int)]),.vl (.tup xs),.vl (mP (mkRat 1 (hi+1 - lo)))]= .ok (.lst ((ag xs.length k).map Kd.t)):=by
      rw[zh,V2 jE,i3,Z8,w1,i3,jP,i3,wq j,ZP,aS]
     have C:mP (mkRat 1 (hi+1 - lo))= .tup [.int 1,.int ((hi:Int) - (lo:Int)+1)]:=by
      unfold mP;rw[ip,iq,if_neg (by omega),if_neg (by omega),show (1:Int).natAbs=1 from rfl,lT,Nat.div_one,show ((hi+1 - lo:Nat))=(hi:Int) - (lo:Int)+1 by omega]
      rfl
     have S:zC 2 (Za (za (cE (.int 1)) (za (zd zv (zd jK (zd kj (vE 0) (cE (.int 3))) (zd kj (vE 0) (cE (.int 2)))) (cE (.int 1))) (ze)))) (xC (.tup [.str "many",k.t,.int (lo:Int),.int (hi:Int)]) (.tup xs))= .nx [.vl (.tup [.str "many",k.t,.int (lo:Int),.int (hi:Int)]),.vl (.tup xs),.vl (mP (mkRat 1 (hi+1 - lo)))]:=by
      rw[C];rfl
     rw[ph,zc (Gh (by decide)),zc (Gh (by decide)),zc (Gh (by decide)),zc S,zg]
     ·rfl
     ·show zb 2 _ _ [.vl _,.vl _,.vl _]=_;rw[zt,show vE 2 _= .ok _ from rfl,i3,zt,U,i3,v1,i3,F,hp,i3,yj o r (by omega)]
    ·refine(o.mul r).le ?_;rw[t9];omega
   | _=>cases f
theorem vf {k:Kd}(a:k.Ok 3):Ai [k.t]= .ok .non:=by
 have hi:=Qs 3 k a;show zk (Ag _ [.vl k.t])=_;rw[Ag,zj]
 ·rfl
 ·rw[Jv,j6,zI,v0,i3,yW _ (Wx 3 _ hi).so,hi];rfl
theorem j2 {k:Kd}(a:k.Ok 3)(o:k.all.length<=500):oZ [k.t]= .ok (.lst k.all):=by
 show zk (AX _ _ _ [.vl k.t,.un])=_;have e:zC 1 (zb 1 (o4 20) (za (vE 0) (ze))) [.vl k.t,.un]= .nx (mG k.t (.int (k.all.length))):=by
  rw[zE]
  ·rfl
  ·rw[zI,v0,i3,jw (by omega) a]
 have g:zp nv (vB 1) (cE (.int 500)) (mG k.t (.int (k.all.length)))= .ok false:=by
  rw[zB,w1,i3,zW,i3,gC,decide_eq_false (by omega)]
 have l:Zi (vE 1) (mG k.t (.int (k.all.length)))= .ok (rng 0 k.all.length):=by
  rw[WD rfl ⟨by omega,by omega⟩,b9]
 have j:zq _ _ (zb 2 (su 20) (za (vE 1) (za (vE 0) _))) 1 [0] (mG k.t (.int (k.all.length))) (rng 0 k.all.length)= .ok ((rng 0 _).map λt=>match t with | .int i=>(k.all[i.toNat]?).getD .non | y=>y):=
  zK _ (by unfold rng;rw[ae,bJ];have:mF=16777216:=rfl;omega) λt f=>by
   obtain⟨i,hi,rfl⟩:=aA.mp f;obtain⟨x,c⟩:=jG (aT.mp hi);show zb 2 _ _ (mG _ k.t)=R.ok ((k.all[((0:Int)+(i)).toNat]?).getD _);rw[show ((0:Int)+(i))=(i) by omega,zt,v1,i3,v0,i3,LP a c,b9,c]
   rfl
 have d:Aa (Zi (vE 1)) (zw 0) (zV) (zb 2 (su 20) (za (vE 1) (za (vE 0) (ze)))) 1 [0] (mG k.t (.int (k.all.length)))= .rf k.all:=by
  show ((Zi _ (mG k.t _)).s λts=>(zq _ _ _ _ _ (mG k.t _) ts).s λvs=>RS.rf vs)=_;rw[l,j1,j];exact congrArg _ (nR k)
 rw[AX,zc (ZJ (by rw[zI,v0,i3,vf a])),zc e,zc (zj g),d]
 rfl
theorem ZQ (h:ZK 3 r):oJ [r.t]= .ok .non:=by
 show zk (A7 _ [.vl r.t])=_;rw[A7,zj]
 ·rfl
 ·have e:BJ [r.t]= .ok (.bl true):=by
   show zk (zr _ _)=_;rw[zg]
   ·rfl
   ·exact Jj 8 3 (by omega) r h
  rw[Jv,j6,zI,v0,i3,e];rfl
theorem Jl:zk (zr f ρ)=f (frz ρ):=by rw[Zd,Ju]
theorem Fj {k:Kd}(a:k.Ok 3)(x:T):CO [k.t,x]= .ok (.bl (k.has x)):=by
 show zk (A3 _ _ (mG k.t x))=_;unfold A3;rw[zc (ZJ (by rw[zI,v0,i3,vf a])),Jl]
 exact Xz 3 20 (by omega) k x a
theorem WI {k:Kd}(a:k.Ok 3){x:T}(c:k.has x=true):sv [k.t,x]= .ok .non:=by
 show zk (AW _ (mG k.t x))=_;rw[AW,zj (by rw[Jv,j6,zt,v0,i3,v1,i3,Fj a,c];rfl)];rfl
noncomputable def yl (lo hi:Int):Int:=if hi < (if lo > 0 then lo else 0) then hi else (if lo > 0 then lo else 0)
noncomputable def vg (i:Int):Int:=if i < 0 then -i else i
noncomputable def mU:List (T->Int)->List T->Int
 | f :: fs,x :: xs=>f x+mU fs xs
 | _,_=>0
noncomputable def oE (fs:List (T->List T))(xs:List T):List (List T):=(aN xs.length).flatMap λi=>match fs[i]?,xs[i]? with
 | some f,some x=>(f x).map λy=>xs.set i y
 | _,_=>[]
noncomputable def si (xs:List T):List (List T):=(aN xs.length).map λi=>xs.take i++xs.drop (i+1)
mutual
noncomputable def Kd.wt:Kd->T->Int
 | .whole lo hi=>λt=>match t with | .int i=>vg (i - yl lo hi) | _=>0
 | .pick a=>λt=>match t with | .str x=>((a.map (·.1)).idxOf x:Nat) | _=>0
 | .row c=>λt=>match t with | .tup xs=>mU (Kd.wtF c) xs | _=>0
 | .many k lo hi=>λt=>match t with | .tup xs=>mU (ag xs.length k.wt) xs+(xs.length:Int) - (lo:Int) | _=>0
noncomputable def Kd.wtF:List Kd->List (T->Int)
 | []=>[]
 | k :: a=>k.wt :: Kd.wtF a
end
mutual
noncomputable def Kd.less:Kd->T->List T
 | .whole lo hi=>λt=>match t with | .int i=>if i=yl lo hi then [] else if i > yl lo hi then [.int (i - 1)] else [.int (i+1)] | _=>[]
 | .pick a=>λt=>match t with | .str x=>(match (a.map (·.1)).idxOf x with | 0=>[] | j+1=>match a[j]? with | some c=>[.str c.1] | none=>[]) | _=>[]
 | .row d=>λt=>match t with | .tup xs=>(oE (Kd.lessF d) xs).map T.tup | _=>[]
 | .many k lo hi=>λt=>match t with | .tup xs=>(if xs.length=lo then [] else (si xs).map T.tup)++(oE (ag xs.length k.less) xs).map T.tup | _=>[]
noncomputable def Kd.lessF:List Kd->List (T->List T)
 | []=>[]
 | k :: a=>k.less :: Kd.lessF a
end
theorem Kd.wtF_map:∀a:List Kd,Kd.wtF a=a.map Kd.wt
 | []=>by simp only[Kd.wtF,bI]
 | k :: a=>by simp only[Kd.wtF,ar,Kd.wtF_map a]
theorem Kd.lessF_map:∀a:List Kd,Kd.lessF a=a.map Kd.less
 | []=>by simp only[Kd.lessF,bI]
 | k :: a=>by simp only[Kd.lessF,ar,Kd.lessF_map a]
structure nY (k:Kd):Prop where
 pos:∀x,k.has x=true->0<=k.wt x
 dn:∀x y,k.has x=true->y∈k.less x->k.has y=true/\k.wt y < k.wt x
 one:∀x,k.has x=true->k.wt x ≠ 0->∃y∈k.less x,k.wt y=k.wt x - 1
 uniq:∀x y,k.has x=true->k.has y=true->k.wt x=0->k.wt y=0->x=y
theorem vh (h:lo<=hi):lo<=yl lo hi/\yl lo hi<=hi:=by
 unfold yl;split <;> split at* <;> omega
theorem ZW:oN lo hi x=true↔∃i,x= .int i/\lo<=i/\i<=hi:=by
 constructor
 ·intro h;obtain⟨i,rfl⟩:=Qc h;simp[oN]at h;exact⟨i,rfl,h⟩
 ·rintro⟨i,rfl,h⟩
  simp[oN];exact h
theorem vi (h:lo<=hi):nY (.whole lo hi):=by
 obtain⟨p,o⟩:=vh h;refine⟨λx a=> ?_,λx y a hy=> ?_,λx a k=> ?_,λx y a hy f d=> ?_⟩
 ·simp only[Kd.wt,vg];split <;> omega
 ·obtain⟨i,rfl,c⟩:=ZW.mp a;simp only[Kd.less]at hy;split at hy
  ·cases hy
  ·split at hy
   ·simp at hy;subst hy;simp only[Kd.has,Kd.wt,vg];refine⟨ZW.mpr ⟨_,rfl,by omega,by omega⟩, ?_⟩
    split <;> split <;> omega
   ·simp at hy;subst hy;simp only[Kd.has,Kd.wt,vg];refine⟨ZW.mpr ⟨_,rfl,by omega,by omega⟩, ?_⟩
    split <;> split <;> omega
 ·obtain⟨i,rfl,c⟩:=ZW.mp a;simp only[Kd.wt,vg]at k ⊢;simp only[Kd.less]
  by_cases e:i=yl lo hi
  ·exfalso;apply k;split <;> omega
  ·rw[if_neg e]
   by_cases g:i > yl lo hi
   ·rw[if_pos g];refine⟨_,aq.mpr rfl, ?_⟩;simp only[Kd.wt,vg];split <;> split <;> omega
   ·rw[if_neg g];refine⟨_,aq.mpr rfl, ?_⟩;simp only[Kd.wt,vg];split <;> split <;> omega
 ·obtain⟨i,rfl,c⟩:=ZW.mp a;obtain⟨j,rfl,l⟩:=ZW.mp hy;simp only[Kd.wt,vg]at f d;have:i=j:=by split at f <;> split at d <;> omega
  rw[this]
theorem Zm {e:List (Str×Int)}:(Kd.pick e).has x=true↔∃w,x= .str w/\w∈e.map (·.1):=by
 have d:∀w,(e.any λc=>c.1 == w)=true↔w∈e.map _:=λw=>by
  rw[fB,aA];exact⟨λ⟨c,a,b⟩=>⟨c,a,beq_iff_eq.mp b⟩,λ⟨c,a,b⟩=>⟨c,a,beq_iff_eq.mpr b⟩⟩
 constructor
 ·intro h;cases x with
  | str w=>exact⟨w,rfl,(d w).mp h⟩
  | _=>cases h
 ·rintro⟨w,rfl,h⟩
  exact(d w).mpr h
theorem ym {a:List Str}{w:Str}(h:w∈a):a.idxOf w < a.length:=ij.mpr h
theorem vj {a:List Str}{w:Str}(h:w∈a):a[a.idxOf w]? =some w:=by
 rw[ah (ym h),lu _]
theorem gP {c:List Str}(h:Dst c){i j:Nat}{w:Str}(hi:c[i]? =some w)(e:c[j]? =some w):i=j:=by
 have d:∀{i j:Nat},c[i]? =some w->c[j]? =some w->¬ i < j:=λ{i j} hi e f=>by
  refine h j w e (bg (i:=i) ?_);rw[eA f];exact hi
 have a:=d hi e;have b:=d e hi;omega
theorem vk {a:List Str}(h:Dst a){i:Nat}{w:Str}(hi:a[i]? =some w):a.idxOf w=i:=gP h (vj (bg hi)) hi
theorem xD {f:List (Str×Int)}(h:Dst (f.map (·.1))):nY (.pick f):=by
 refine⟨λx d=> ?_,λx y d hy=> ?_,λx d g=> ?_,λx y d hy r p=> ?_⟩
 ·obtain⟨w,rfl,g⟩:=Zm.mp d;simp only[Kd.wt];omega
 ·obtain⟨w,rfl,g⟩:=Zm.mp d;simp only[Kd.less]at hy;split at hy
  ·cases hy
  ·rename_i j e;split at hy
   ·rename_i c u;simp at hy;subst hy;have i:(f.map (·.1))[j]? =some c.1:=by rw[ao,u];rfl
    refine⟨Zm.mpr ⟨_,rfl,bg i⟩, ?_⟩;simp only[Kd.wt];rw[vk h i];omega
   ·cases hy
 ·obtain⟨w,rfl,l⟩:=Zm.mp d;simp only[Kd.wt]at g ⊢;simp only[Kd.less];have o:=ym l;cases e:(f.map _).idxOf w with
  | zero=>rw[e]at g;exact absurd rfl g
  | succ j=>
   rw[e]at o;have B:=lU (by simpa using o)
   obtain⟨c,i⟩:=jG B;dsimp only;rw[i];refine⟨_,aq.mpr rfl, ?_⟩;have k :(f.map (·.1))[j]? =some c.1:=by rw[ao,i];rfl
   simp only[Kd.wt];rw[vk h k];omega
 ·obtain⟨w,rfl,g⟩:=Zm.mp d;obtain⟨v,rfl,q⟩:=Zm.mp hy;simp only[Kd.wt]at r p;have a:=vj g;have b:=vj q;rw[show (f.map _).idxOf w=0 by omega]at a
  rw[show (f.map _).idxOf v=0 by omega,a]at b
  rw[aH b]
def Hs (a:List Kd)(xs:List T):Prop:=xs.length=a.length/\∀(i:Nat) (k:Kd) (x:T),a[i]? =some k->xs[i]? =some x->k.has x=true
theorem Ud:∀(fs:List (T->Int)) (xs:List T) (i:Nat) (f:T->Int) (x y:T),fs[i]? =some f->xs[i]? =some x->mU fs (xs.set i y)=mU fs xs - f x+f y
 | [],_,i,_,_,_,h,_=>by simp at h
 | _ :: _,[],i,_,_,_,_,h=>by simp at h
 | f :: fs,x :: xs,0,g,u,y,h,h' =>by
  simp at h h';subst h h';simp only[List.set_cons_zero,mU];omega
 | f :: fs,x :: xs,i+1,g,u,y,h,h' =>by
  have a:=Ud fs xs i g u y (by simpa using h) (by simpa using h')
  simp only[List.set_cons_succ,mU,a];omega
theorem WK {g:List Kd}:Hs (k :: g) (x :: xs)↔k.has x=true/\Hs g xs:=by
 constructor
 ·rintro⟨e,c⟩
  exact⟨c 0 k x rfl rfl,by simpa using e,λi d f a b=>c (i+1) d f (by simpa using a) (by simpa using b)⟩
 ·rintro⟨j,e,c⟩
  refine⟨by simp[e],λi d f a b=> ?_⟩
  cases i with
  | zero=>simp at a b;subst a b;exact j
  | succ i=>exact c i d f (by simpa using a) (by simpa using b)
theorem jm:∀(c:List Kd) (xs:List T),(∀k∈c,nY k)->Hs c xs->0<=mU (c.map Kd.wt) xs
 | [],[],_,_=>by simp[mU]
 | [],_ :: _,_,h=>by simp[Hs]at h
 | _ :: _,[],_,h=>by simp[mU]
 | k :: c,x :: xs,d,h=>by
  obtain⟨g,e⟩:=WK.mp h;have a:=(d k aa).pos x g;have b:=jm c xs (λq f=>d q (a9 _ f)) e;simp only[ar,mU];omega
theorem WL:∀(c:List Kd) (xs d:List T),(∀k∈c,nY k)->Hs c xs->Hs c d->mU (c.map Kd.wt) xs=0->mU (c.map Kd.wt) d=0->xs=d
 | [],xs,d,_,h,h',_,_=>by
  have a:=cj h.1;have b:=cj h'.1;rw[a,b]
 | k :: c,[],_,_,h,_,_,_=>by simp[Hs]at h
 | k :: c,_ :: _,[],_,_,h,_,_=>by simp[Hs]at h
 | k :: c,x :: xs,y :: d,i,h,h',e,r =>by
  obtain⟨j,o⟩:=WK.mp h;obtain⟨l,g⟩:=WK.mp h';have f :=λq p=>i q (a9 _ p);have L:=i k aa;have a:=L.pos x j;have u :=L.pos y l;have b:=jm c xs f o;have v :=jm c d f g;simp only[ar,mU]at e r;rw[L.uniq x y j l (by omega) (by omega),WL c xs d f o g (by omega) (by omega)]
theorem vm:∀(d:List Kd) (xs:List T),(∀k∈d,nY k)->Hs d xs->mU (d.map Kd.wt) xs ≠ 0->∃(i:Nat) (k:Kd) (x:T),d[i]? =some k/\xs[i]? =some x/\k.wt x ≠ 0
 | [],xs,_,_,h=>absurd (by simp[mU]) h
 | k :: d,[],_,_,h=>absurd (by simp[mU]) h
 | k :: d,x :: xs,p,h,f=>by
  obtain⟨r,o⟩:=WK.mp h
  by_cases e:k.wt x=0
  ·simp only[ar,mU,e,f6]at f;obtain⟨i,l,j,a,b,c⟩:=vm d xs (λq g=>p q (a9 _ g)) o f;exact⟨i+1,l,j,by simpa using a,by simpa using b,c⟩
  ·exact⟨0,k,x,rfl,rfl,e⟩
theorem vn {c:List Kd}:ys∈oE (c.map Kd.less) xs↔∃(i:Nat) (k:Kd) (x y:T),c[i]? =some k/\xs[i]? =some x/\y∈k.less x/\ys=xs.set i y:=by
 unfold oE;rw[di];constructor
 ·rintro⟨i,hi,h⟩
  rw[ao]at h;cases e:c[i]? with
  | none=>rw[e]at h;simp at h
  | some k=>
   rw[e]at h;cases a :xs[i]? with
   | none=>rw[a]at h;simp at h
   | some x=>
    rw[a]at h;obtain⟨y,hy,rfl⟩:=aA.mp h;exact⟨i,k,x,y,e,a,hy,rfl⟩
 ·rintro⟨i,k,x,y,e,a,hy,rfl⟩
  have hi:=(ay.mp a).1;refine⟨i,aT.mpr hi, ?_⟩;rw[ao,e,a];exact aA.mpr ⟨y,hy,rfl⟩
theorem IG {c:List Kd}(h:Hs c xs)(g:c[i]? =some k)(hy:k.has y=true):Hs c (xs.set i y):=by
 refine⟨by rw[bx];exact h.1,λj d f a b=> ?_⟩
 by_cases e:i=j
 ·subst e;have hi:=by have:=(ay.mp b).1;simpa using this
  rw[be hi]at b;rw[g]at a;cases a;cases b;exact hy
 ·rw[aB e]at b;exact h.2 j d f a b
theorem Zg {c:Type}{l:List c}{i:Nat}{a:c}(h:l[i]? =some a):a∈l:=bg h
theorem vo {d:List Kd}{xs e:List T}(g:∀k∈d,nY k)(h:Hs d xs)(hy:e∈oE (d.map Kd.less) xs):Hs d e/\mU (d.map Kd.wt) e < mU (d.map Kd.wt) xs:=by
 obtain⟨i,k,x,y,a,b,c,rfl⟩:=vn.mp hy;obtain⟨f,j⟩:=(g k (Zg a)).dn x y (h.2 i k x a b) c;refine⟨IG h a f, ?_⟩;rw[Ud _ xs i _ x y (by rw[ao,a];rfl) b];omega
theorem vp {d:List Kd}{xs:List T}(f:∀k∈d,nY k)(h:Hs d xs)(j:mU (d.map Kd.wt) xs ≠ 0):∃g∈oE (d.map Kd.less) xs,mU (d.map Kd.wt) g=mU (d.map Kd.wt) xs - 1:=by
 obtain⟨i,k,x,a,b,c⟩:=vm d xs f h j;obtain⟨y,hy,e⟩:=(f k (Zg a)).one x (h.2 i k x a b) c;refine⟨xs.set i y,vn.mpr ⟨i,k,x,y,a,b,hy,rfl⟩, ?_⟩;rw[Ud _ xs i _ x y (by rw[ao,a];rfl) b];omega
theorem XO {e:List Kd}:(xs.length == e.length && Kd.hass e xs)=true↔Hs e xs:=by
 rw[aj,beq_iff_eq,JF,aJ];constructor
 ·rintro⟨d,c⟩
  refine⟨d,λi k x a b=>c (k,x) (bg (i:=i) ?_)⟩;rw[cG];exact⟨a,b⟩
 ·rintro⟨d,c⟩
  refine⟨d,λq f=> ?_⟩;obtain⟨i,hi⟩:=dJ.mp f;obtain⟨a,b⟩:=cG.mp hi;exact c i q.1 q.2 a b
theorem W4 {k:Kd}{xs:List T}:xs.all k.has=true↔Hs (ag xs.length k) xs:=by
 rw[aJ];constructor
 ·intro h;refine⟨by simp,λi c x a b=> ?_⟩
  obtain rfl:k=c :=(dA.mp (Zg a)).2.symm;exact h x (Zg b)
 ·rintro⟨_,h⟩ x d
  obtain⟨i,hi⟩:=dJ.mp d;have e:=(ay.mp hi).1;exact h i k x (by rw[aU,if_pos e]) hi
theorem j3 {a:List Kd}(h:(Kd.row a).has t=true):∃xs,t= .tup xs/\Hs a xs:=by
 simp only[Kd.has]at h;split at h
 ·exact⟨_,rfl,XO.mp h⟩
 ·cases h
theorem ZC (h:(Kd.many k lo hi).has t=true):∃xs,t= .tup xs/\lo<=xs.length/\xs.length<=hi/\Hs (ag xs.length k) xs:=by
 simp only[Kd.has]at h;split at h
 ·rw[aj,aj,decide_eq_true_eq,decide_eq_true_eq]at h;exact⟨_,rfl,h.1.1,h.1.2,W4.mp h.2⟩
 ·cases h
theorem gQ {a:List Kd}(h:Hs a xs):(Kd.row a).has (.tup xs)=true:=by exact XO.mpr h
theorem yn (c:lo<=xs.length)(a:xs.length<=hi)(h:Hs (ag xs.length k) xs):(Kd.many k lo hi).has (.tup xs)=true:=by
 simp only[Kd.has];rw[aj,aj,decide_eq_true_eq,decide_eq_true_eq];exact⟨⟨c,a⟩,W4.mpr h⟩
theorem gR {i:List Kd}(g:∀k∈i,nY k):nY (.row i):=by
 refine⟨λx c=> ?_,λx y c hy=> ?_,λx c l=> ?_,λx y c hy f e=> ?_⟩
 ·obtain⟨xs,rfl,h⟩:=j3 c;simp only[Kd.wt,Kd.wtF_map];exact jm i xs g h
 ·obtain⟨xs,rfl,h⟩:=j3 c;simp only[Kd.less,Kd.lessF_map]at hy;obtain⟨d,j,rfl⟩:=aA.mp hy;obtain⟨a,b⟩:=vo g h j;simp only[Kd.wt,Kd.wtF_map];exact⟨gQ a,b⟩
 ·obtain⟨xs,rfl,h⟩:=j3 c;simp only[Kd.wt,Kd.wtF_map]at l ⊢;obtain⟨d,f,e⟩:=vp g h l;refine⟨.tup d,by simp only[Kd.less,Kd.lessF_map];exact aA.mpr ⟨d,f,rfl⟩, ?_⟩
  exact e
 ·obtain⟨xs,rfl,h⟩:=j3 c;obtain⟨d,rfl,h'⟩:=j3 hy;simp only[Kd.wt,Kd.wtF_map]at f e;rw[WL i xs d g h h' f e]
theorem WM {k:Kd}:∀(xs:List T) (i:Nat) (x:T),xs[i]? =some x->mU (ag (xs.take i++xs.drop (i+1)).length k.wt) (xs.take i++xs.drop (i+1))=mU (ag xs.length k.wt) xs - k.wt x
 | [],i,x,h=>by simp at h
 | y :: a,0,x,h=>by
  simp at h;subst h;simp only[List.take_zero,bP,fZ,d_,dN,aw,bv,mU];omega
 | y :: a,i+1,x,h=>by
  have c:=WM (k:=k) a i x (by simpa using h)
  simp only[lg,d_,fE,aw,bv,mU,c];omega
theorem vq {xs:List T}{i:Nat}(h:i < xs.length):(xs.take i++xs.drop (i+1)).length=xs.length - 1:=by
 rw[az,db,dR];omega
theorem XQ (h:Hs (ag xs.length k) xs):Hs (ag (xs.take i++xs.drop (i+1)).length k) (xs.take i++xs.drop (i+1)):=by
 rw[← W4]at h ⊢;rw[aJ]at h ⊢;intro x a;rcases aW.mp a with a | a
 ·exact h x (j_ a)
 ·exact h x (List.mem_of_mem_drop a)
theorem Zh {c d:Type}(f:c->d)(n:Nat)(a:c):ag n (f a)=(ag n a).map f:=by rw[aS]
theorem xE {k:Kd}{lo hi:Nat}(v:nY k):nY (.many k lo hi):=by
 have hr:∀n,∀q∈ag n k,nY q:=λn q G=>by obtain rfl:=(dA.mp G).2;exact v
 refine⟨λx g=> ?_,λx y g hy=> ?_,λx g I=> ?_,λx y g hy o r=> ?_⟩
 ·obtain⟨xs,rfl,o,r,h⟩:=ZC g;simp only[Kd.wt,Zh];have:=jm _ xs (hr _) h;omega
 ·obtain⟨xs,rfl,o,r,h⟩:=ZC g;rcases aW.mp hy with hy | hy
  ·split at hy
   ·cases hy
   ·obtain⟨d,j,rfl⟩:=aA.mp hy;obtain⟨i,u,rfl⟩:=aA.mp j;have f :=aT.mp u;obtain⟨x,c⟩:=jG f;have l:=vq f;refine⟨yn (by omega) (by omega) (XQ h), ?_⟩
    simp only[Kd.wt];rw[WM xs i x c];have:=v.pos x (aJ.mp (W4.mpr h) x (Zg c));omega
  ·rw[Zh]at hy;obtain⟨d,j,rfl⟩:=aA.mp hy;obtain⟨a,b⟩:=vo (hr _) h j;have l:=by have:=a.1;simpa using this
   refine⟨yn (by omega) (by omega) (by rw[l];exact a), ?_⟩
   simp only[Kd.wt,Zh];rw[l];omega
 ·obtain⟨xs,rfl,o,r,h⟩:=ZC g;simp only[Kd.wt,Zh]at I ⊢
  by_cases e:mU ((ag xs.length k).map Kd.wt) xs=0
  ·have w:xs.length ≠ lo:=by omega
   have B:0 < xs.length:=by omega
   obtain⟨x,c⟩:=jG B;refine⟨.tup (xs.take 0++xs.drop (0+1)), ?_, ?_⟩
   ·simp only[Kd.less,if_neg w];exact aW.mpr (.inl (aA.mpr ⟨_,aA.mpr ⟨0,aT.mpr B,rfl⟩,rfl⟩))
   ·dsimp only;rw[← Zh,WM xs 0 x c,vq B,Zh];have z:k.wt x=0:=by
     have:=WM (k:=k) xs 0 x c;have p:=jm _ _ (hr _) (XQ (i:=0) h);have C :=v.pos x (aJ.mp (W4.mpr h) x (Zg c));rw[Zh,Zh]at this;omega
    omega
  ·obtain⟨d,a,b⟩:=vp (hr _) h e;have l:=by have:=(vo (hr _) h a).1.1;simpa using this
   refine⟨.tup d, ?_, ?_⟩
   ·simp only[Kd.less,Zh];exact aW.mpr (.inr (aA.mpr ⟨d,a,rfl⟩))
   ·simp only[Zh];rw[l];omega
 ·obtain⟨xs,rfl,N,J,h⟩:=ZC g;obtain⟨d,rfl,M,b2,h'⟩:=ZC hy;simp only[Kd.wt,Zh]at o r;have p:=jm _ xs (hr _) h;have C :=jm _ d (hr _) h';have D:xs.length=lo:=by omega
  have F:d.length=lo:=by omega
  rw[D]at h o;rw[F]at h' r;rw[WL _ xs d (hr _) h h' (by omega) (by omega)]
theorem oR:∀(d:Nat) (k:Kd),k.Ok d->nY k
 | 0,_,h=>h.elim
 | d+1,.whole lo hi,h=>vi h.2.1
 | d+1,.pick c,h=>xD h.2.2.2
 | d+1,.row e,h=>gR λk a=>oR d k (h.2.2 k a)
 | d+1,.many k lo hi,h=>xE (oR d k h.2.2)
theorem vt {a:List (Str×Int)}(hd:Dst (a.map (·.1)))(h:w∈a.map (·.1)):Xc (.str w) (a.map λc=>T.str c.1)= .ok (.int (((a.map (·.1)).idxOf w:Nat):Int)):=by
 obtain⟨c,d,rfl⟩:=aA.mp h;obtain⟨i,hi⟩:=dJ.mp d;rw[xw hd hi,vk hd (by rw[ao,hi];rfl)]
theorem vv (lo hi:Int):oG [(Kd.whole lo hi).t]= .ok (.int (yl lo hi)):=by
 have e:oG [(Kd.whole lo hi).t]=zk (tY [.vl (.tup [.str "whole",.int lo,.int hi])]):=by rfl
 rw[e,tY,zg]
 ·rfl
 ·rfl
theorem vw:∀(a:List Kd) (xs:List T),mU (a.map Kd.wt) xs=((a.zip xs).map λq=>q.1.wt q.2).sum
 | [],xs=>by simp[mU]
 | _ :: _,[]=>by simp[mU]
 | k :: a,x :: xs=>by simp only[ar,mU,dz,cg,vw a xs]
theorem WN {c:Type}(g:c->Int):∀l:List c,Z2 (l.map λa=>T.int (g a))=some (l.map g)
 | []=>rfl
 | a :: l=>by
  show (match Z2 (l.map λa=>T.int _) with | some d =>some _ | none=>none)=_
  rw[WN g l];rfl
theorem vx {c:Type}(g:c->Int)(l:List c):qh (.lst (l.map λa=>T.int (g a)))= .ok (.int (l.map g).sum):=by
 show (match Z2 (l.map λa=>T.int _) with | some l=>_ | none=>_)=_
 rw[WN]
theorem wB:∀(qs:List (Kd×T)) (x y:Sl),(∀q∈qs,c [q.1.t,q.2]= .ok (.int (q.1.wt q.2)))->zx (zN 0 1) zV (zb 2 c (za (vE 0) (za (vE 1) (ze)))) (qs.map λq=>T.tup [q.1.t,q.2]) [x,y]= .ok (qs.map λq=>T.int (q.1.wt q.2))
 | [],_,_,_=>rfl
 | q :: qs,x,y,h=>by
  have e:zb 2 c (za (vE 0) (za (vE 1) (ze))) [.vl q.1.t,.vl q.2]= .ok (.int (q.1.wt q.2)):=by
   rw[zt,v0,i3,v1,i3,h q aa]
  have d:=wB qs (.vl q.1.t) (.vl q.2) λr hr=>h r (a9 _ hr);have a:zx (zN 0 1) zV (zb 2 c (za (vE 0) (za (vE 1) (ze)))) ((q :: qs).map λq=>T.tup [q.1.t,q.2]) [x,y]=
   (zb 2 c _ [.vl _,.vl q.2]).bind λv=>(zx _ _ _ (qs.map λq=>T.tup _) [.vl _,.vl q.2]).bind λvs=> .ok _:=rfl
  rw[a,e,i3,d,i3,ar]
theorem uJ (a:List Kd)(xs:List T)(e:jN s= .ok (a.map Kd.t))(d:a.length<=3)(H:∀q∈a.zip xs,c [q.1.t,q.2]= .ok (.int (q.1.wt q.2))):
  zk (As c (mB 2 [s,.tup xs]))= .ok (.int (mU (a.map Kd.wt) xs)):=by
 have i:Yb (vE 0) (vE 1) [.vl s,.vl (.tup xs)]= .ok ((a.zip xs).map λq=>T.tup [q.1.t,q.2]):=by
  show (jN s).bind _=_;rw[e,← gr];rfl
 have g:((a.zip xs).map λq=>T.tup [q.1.t,q.2]).length<=mF:=by
  rw[ae,dE];exact av (mo _ _) (av d (by decide))
 have f:zq (zN 0 1) zV (zb 2 c (za (vE 0) (za (vE 1) (ze)))) 2 [] [.vl s,.vl (.tup xs)] ((a.zip xs).map λq=>T.tup [q.1.t,q.2])= .ok ((a.zip xs).map λq=>T.int (q.1.wt q.2)):=by
  unfold zq;rw[if_pos g];show quiet (zx _ _ _ _ [.un,.un])=_;rw[wB _ _ _ H];rfl
 rw[As,zg]
 ·rfl
 ·show mw _ _ [.vl s,.vl _]=_;rw[Z8,zJ,i,i3,f,i3,i3,vx,vw]
theorem vy {c:List Kd}(h:Hs c xs):∀q∈c.zip xs,q.1.has q.2=true:=λq d=>by
 obtain⟨i,hi⟩:=dJ.mp d;obtain⟨a,b⟩:=cG.mp hi;exact h.2 i q.1 q.2 a b
theorem Lp:G9 (.int i)= .ok (.int (vg i)):=rfl
theorem gS:∀(d n:Nat),2*d<=n->∀(k:Kd) (x:T),k.Ok d->k.has x=true->nV n 0 [k.t,x]= .ok (.int (k.wt x))
 | 0,_,_,_,_,h,_=>h.elim
 | d+1,n+2,hn,k,x,h,f=>by
  have r:=gS d n (by omega)
  have e:nV (n+2) 0 [k.t,x]=zk (pp nK oG (nV (n+1) 1) (mB 2 [k.t,x])):=by rw[nV]
  have p:∀s y,nV (n+1) 1 [s,y]=zk _:=λs y=>by rw[nV];intro h;cases h
  rw[e];cases k with
  | whole lo hi=>
   obtain⟨i,rfl,u⟩:=ZW.mp f;have e:mB 2 [(Kd.whole lo hi).t,.int i]=mG (.tup [.str "whole",.int lo,.int hi]) (.int i):=by rw[Kd.t];rfl
   have hn:=vv lo hi;rw[Kd.t]at hn;rw[e,pp,zu (t:= .int (vg _))]
   ·rfl
   ·rw[Qp,zg];show mw _ _ (mG _ _)=_;rw[Z8,zh,v1,i3,zI,v0,i3,hn,i3,Zf,i3,Lp]
  | pick g=>
   obtain⟨w,rfl,D⟩:=Zm.mp f;have e:mB 2 [(Kd.pick g).t,.str w]=mG (.tup [.str "pick",.tup (g.map Jz)]) (.str w):=by rfl
   have a :=JG g h.2.1;rw[Kd.t]at a;rw[e,pp,zc (JH (by decide)),zu (t:= .int (((g.map _).idxOf w:Nat):Int))]
   ·rfl
   ·rw[Qp,zg];show G8 _ _ _ (mG _ _)=_;unfold G8;rw[zI,v0,i3,a,i3];dsimp only;rw[w1,i3,vt h.2.2.2 D]
  | row l=>
   obtain⟨xs,rfl,j⟩:=j3 f;have e:mB 2 [(Kd.row l).t,.tup xs]=mG (.tup [.str "row",.tup (l.map Kd.t)]) (.tup xs):=by rw[Kd.t,Kd.ts_map];rfl
   rw[e,pp,zc (JH (by decide)),zc (JH (by decide)),zu]
   ·simp only[Kd.wt,Kd.wtF_map];rfl
   ·rw[Qp,zg];show zb _ _ _ (mG _ _)=_;rw[zt,jE,i3,v1,i3,p,uJ l xs rfl h.2.1 λq c=>r q.1 q.2 (h.2.2 q.1 (c8 c).1) (vy j q c)]
  | many k lo hi=>
   obtain⟨xs,rfl,F,v,j⟩:=ZC f;have o:=av v h.2.1;have e:mB 2 [(Kd.many k lo hi).t,.tup xs]=mG (.tup [.str "many",k.t,.int (lo),.int (hi)]) (.tup xs):=by rfl
   have B:zd zU (Zc (za (zd kj (vE 0) (cE (.int 1))) (ze))) (mw Z6 (vB 1)) (mG (.tup [.str "many",k.t,.int (lo),.int (hi)]) (.tup xs))= .ok (.lst ((ag xs.length k).map Kd.t)):=by
    rw[zh,V2 jE,i3,Z8,w1,i3,jP,i3,wq o,ZP,aS]
   rw[e,pp,zc (JH (by decide)),zc (JH (by decide)),zc (JH (by decide)),zg]
   ·simp only[Kd.wt,Zh];rfl
   ·show zd _ _ _ (mG _ _)=_;have C:=uJ (s:= .lst _) _ xs rfl (by rw[aV];exact o) λq c=>r q.1 q.2 (by
     rw[bF (c8 c).1];exact h.2.2) (vy j q c)
    rw[zh,zh,zt,B,i3,v1,i3,p,C,i3,Z8,w1,i3,jP,i3,zZ,i3,Wz,i3,Zf]
theorem xF {fx fi fy:En->R T}{ρ:En}{xs:List T}{i:Nat}{y:T}(a:fx ρ= .ok (.tup xs))(hi:fi ρ= .ok (.int (i:Int)))(hy:fy ρ= .ok y)(h:i < xs.length)(e:xs.length<=1000):
  zd zv (zd zv (nj fx np (Zj fi)) (Za (za fy ze))) (nj fx (Zj (zd zv fi (cE (.int 1)))) np) ρ= .ok (.tup (xs.set i y)):=by
 have c:mF=16777216:=rfl;have d:zd zv fi (cE (.int 1)) ρ= .ok (.int ((i+1:Nat))):=by rw[U7 hi];rfl
 rw[zh,zh,xi,a,i3,tO,i3,UR hi,i3,Xu h,i3,Cp hy,i3,UQ (by simp;omega),i3,xi,a,i3,UR d,i3,tO,i3,Xv (by omega),i3,UQ (by simp;omega)]
 rw[List.set_eq_take_append_cons_drop,if_pos h,bi];rfl
theorem xG {fx fi:En->R T}{ρ:En}{xs:List T}{i:Nat}(a:fx ρ= .ok (.tup xs))(hi:fi ρ= .ok (.int (i:Int)))(h:i < xs.length)(e:xs.length<=1000):
  zd zv (nj fx np (Zj fi)) (nj fx (Zj (zd zv fi (cE (.int 1)))) np) ρ= .ok (.tup (xs.take i++xs.drop (i+1))):=by
 have c:mF=16777216:=rfl;have d:zd zv fi (cE (.int 1)) ρ= .ok (.int ((i+1:Nat))):=by rw[U7 hi];rfl
 rw[zh,xi,a,i3,tO,i3,UR hi,i3,Xu h,i3,xi,a,i3,UR d,i3,tO,i3,Xv (by omega),i3,UQ (by simp;omega)]
theorem vz {fs:List (T->List T)}(h:∀(i:Nat) (f:T->List T) (x:T),fs[i]? =some f->xs[i]? =some x->(f x).length<=m):(oE fs xs).length<=xs.length*m:=by
 have c:∀(g:Nat->List (List T)) (js:List Nat),(∀j∈js,(g j).length<=m)->(js.flatMap g).length<=js.length*m:=λg js=>by
  induction js with
  | nil=>simp
  | cons j js l=>
   intro d;rw[bW,az,aw,fX];have a:=d j aa;have b:=l λi hi=>d i (a9 _ hi);omega
 have:=c (λi=>match fs[i]?,xs[i]? with | some f,some x=>(f x).map λy=>xs.set i y | _,_=>[]) (aN xs.length) λi _=>by
  split
  ·rename_i f x e k;rw[ae];exact h i f x e k
  ·exact bf _
 rw[bJ]at this;exact this
theorem WO:∀(d:Nat) (k:Kd) (x:T),k.Ok d->k.has x=true->(k.less x).length<=4 ^ d
 | 0,_,_,h,_=>h.elim
 | d+1,.whole lo hi,x,h,c=>by
  have:1<=4 ^ (d+1):=bX (by simp)
  obtain⟨i,rfl,_⟩:=ZW.mp c;simp only[Kd.less];split
  ·simp
  ·split <;> simp <;> omega
 | d+1,.pick q,x,h,c=>by
  have:1<=4 ^ (d+1):=bX (by simp)
  obtain⟨w,rfl,_⟩:=Zm.mp c;simp only[Kd.less];split
  ·simp
  ·split <;> simp <;> omega
 | d+1,.row p,x,h,c=>by
  obtain⟨xs,rfl,g⟩:=j3 c;simp only[Kd.less,Kd.lessF_map,ae];have:=vz λi f x a b=>by
   rw[ao]at a;cases e:p[i]? with
   | none=>rw[e]at a;cases a
   | some k=>rw[e]at a;cases a;exact WO d k x (h.2.2 k (Zg e)) (g.2 i k x e b)
  have j:xs.length<=3:=by rw[g.1];exact h.2.1
  have o:xs.length*4 ^ d<=3*4 ^ d:=cU _ j;omega
 | 0+1,.many k lo hi,x,h,c=>h.2.2.elim
 | d+1+1,.many k lo hi,x,h,c=>by
  obtain⟨xs,rfl,v,l,g⟩:=ZC c;have j:=av l h.2.1;simp only[Kd.less,az,ae];have:=vz (fs:=ag xs.length _) λi f x a b=>by
   obtain rfl:=(dA.mp (Zg a)).2;exact WO _ k x h.2.2 (aJ.mp (W4.mpr g) x (Zg b))
  have o:xs.length*4 ^ (d+1)<=3*4 ^ (d+1):=cU _ j;have r:(if xs.length=lo then ([]) else (si xs).map T.tup).length<=3:=by
   split
   ·simp
   ·unfold si;simp;omega
  have u:1<=4 ^ d:=bX (by simp)
  omega
theorem Y3 (lo:Int)(n:Nat):(rng lo n).length=n:=by unfold rng;simp
theorem gT (h:t∈rng 0 n):∃i:Nat,i < n/\t= .int (i:Int):=by
 obtain⟨i,hi,rfl⟩:=aA.mp h;exact⟨i,aT.mp hi,by rw[f6]⟩
theorem Ei (n:Nat):rng 0 n=(aN n).map λ(i:Nat)=>T.int (i:Int):=by
 refine c6 λi _=> ?_;rw[f6]
theorem HI (h:f ρ= .ok (.tup xs)):mw Z6 f ρ= .ok (.int (xs.length:Int)):=by rw[Z8,h,i3,jP]
theorem EZ (h:f ρ= .ok (.tup xs))(a:xs.length<=1000):Zi (mw Z6 f) ρ= .ok (rng 0 xs.length):=by
 rw[WD (HI h) (by omega),b9]
theorem XR (h:g ρ= .ok true):mZ g f f' ρ=f ρ:=by unfold mZ;rw[h];rfl
theorem FU (h:g ρ= .ok false):mZ g f f' ρ=f' ρ:=by unfold mZ;rw[h];rfl
theorem vA (lo hi i:Int):rQ [(Kd.whole lo hi).t,.int i]= .ok (.lst ((Kd.whole lo hi).less (.int i))):=by
 have e:rQ [(Kd.whole lo hi).t,.int i]=zk (sX _ [.vl _,.vl _,.un]):=rfl;have d:zC 2 (zb 1 oG (za (vE 0) (ze))) [.vl (Kd.whole lo hi).t,.vl (.int i),.un]= .nx [.vl (Kd.whole lo hi).t,.vl (.int i),.vl (.int (yl lo hi))]:=by
  rw[zE]
  ·rfl
  ·rw[zI,v0,i3,vv]
 have c:zp my (vB 1) (vB 2) [.vl (Kd.whole lo hi).t,.vl (.int i),.vl (.int (yl lo hi))]= .ok _:=rfl;have a:zp nv (vB 1) (vB 2) [.vl (Kd.whole lo hi).t,.vl (.int i),.vl (.int (yl lo hi))]= .ok _:=rfl;rw[e,sX,zc d];simp only[Kd.less]
 by_cases h:i=yl lo hi
 ·rw[if_pos h,zu]
  ·rfl
  ·rw[jF (by rw[c,beq_iff_eq.mpr h])];rfl
 ·rw[if_neg h,zc (zj (by rw[c,beq_eq_false_iff_ne.mpr h]))]
  by_cases g:i > yl lo hi
  ·rw[if_pos g,zg]
   ·rfl
   ·show mZ _ _ _ [.vl _,.vl _,.vl _]=_;rw[XR (by rw[a,decide_eq_true g])];rfl
  ·rw[if_neg g,zg]
   ·rfl
   ·show mZ _ _ _ [.vl _,.vl _,.vl _]=_;rw[FU (by rw[a,decide_eq_false g])];rfl
theorem uK {a:List (Str×Int)}(k:a.length<=4)(hd:Dst (a.map (·.1)))(g:w∈a.map (·.1)):sA [(Kd.pick a).t,.str w]= .ok (.lst ((Kd.pick a).less (.str w))):=by
 have e:sA [(Kd.pick a).t,.str w]=zk (Aj _ [.vl _,.vl _,.un,.un]):=rfl;have l:zC 2 (zb 1 nK (za (vE 0) (ze))) [.vl (Kd.pick a).t,.vl (.str w),.un,.un]= .nx [.vl (Kd.pick a).t,.vl (.str w),.vl (.lst (a.map λc=>T.str c.1)),.un]:=by
  rw[zE]
  ·rfl
  ·rw[zI,v0,i3,JG a k]
 have i:zC 3 (G8 Xc (vB 2) (vB 1)) [.vl (Kd.pick a).t,.vl (.str w),.vl (.lst (a.map λc=>T.str c.1)),.un]= .nx [.vl (Kd.pick a).t,.vl (.str w),.vl (.lst (a.map λc=>T.str c.1)),.vl (.int (((a.map (·.1)).idxOf w):Int))]:=by
  rw[zE]
  ·rfl
  ·exact vt hd g
 have f:=ym g;rw[e,Aj,zc l,zc i];simp only[Kd.less];cases q:(a.map _).idxOf w with
 | zero=>
  rw[zg]
  ·rfl
  ·rfl
 | succ j=>
  rw[q]at f;have p:=lU (by simpa using f)
  obtain⟨c,d⟩:=jG p;dsimp only;rw[d];rw[zg]
  ·rfl
  ·show mZ _ _ _ [.vl _,.vl _,.vl (.lst (a.map λc=>T.str c.1)),.vl _]=_;rw[XR]
   ·rw[V2];have o:zd jK (vE 3) (cE (.int 1)) [.vl (Kd.pick a).t,.vl (.str w),.vl (.lst (a.map λc=>T.str c.1)),.vl (.int ((j+1:Nat)))]= .ok (.int (j)):=by
     show R.ok _=_;rw[show ((j+1:Nat):Int) - 1=(j) by omega]
    rw[zh,o];exact Xs (by rw[ao,d];rfl)
   ·show R.ok _=_;rw[decide_eq_true (by omega)]
theorem Y4 (j:xs.length<=3):rK [(Kd.many k lo hi).t,.tup xs]= .ok (.lst (if xs.length=lo then [] else (si xs).map T.tup)):=by
 have e:rK [(Kd.many k lo hi).t,.tup xs]=zk (A6 (mG (.tup [.str "many",k.t,.int (lo),.int (hi)]) (.tup xs))):=by rfl
 have c:zp my (mw Z6 (vB 1)) (zd kj (vE 0) (cE (.int 2))) (mG (.tup [.str "many",k.t,.int (lo),.int (hi)]) (.tup xs))= .ok (xs.length == lo):=by
  rw[zB,Z8,w1,i3,jP,i3,Wz,i3,nL,UV]
 rw[e,A6]
 by_cases h:xs.length=lo
 ·rw[if_pos h,zu]
  ·rfl
  ·rw[jF (by rw[c,beq_iff_eq.mpr h])];rfl
 ·rw[if_neg h,zc (zj (by rw[c,beq_eq_false_iff_ne.mpr h])),zg]
  ·rfl
  ·show zA _ _ _ _ _ _ (mG _ _)=_;have d:Zi (mw _ (vB 1)) (mG (.tup [.str "many",k.t,.int (lo),.int (hi)]) (.tup xs))= .ok _:=EZ rfl (by omega)
   have g:zq _ _ (zd _ (nj (vE 1) _ (Zj (vE 0))) _) 1 [1] (mG (.tup [.str "many",k.t,.int (lo),.int (hi)]) _) _= .ok ((rng 0 _).map λt=>match t with | .int i=> .tup (xs.take i.toNat++xs.drop (i.toNat+1)) | y=>y):=
    zK _ (by rw[Y3];exact av j (by decide)) λt f=>by
     obtain⟨i,a,rfl⟩:=gT f;exact xG rfl rfl a (by omega)
   rw[zJ,d,i3,g,Ei,aZ];unfold si;rw[aZ];exact congrArg (λl=>R.ok _) (c6 λi _=>rfl)
abbrev BX:En->RS:=Us 2 (zd zv (zd zv (nj (vE 1) (np) (Zj (vE 3))) (Za (za (vE 5) (ze)))) (nj (vE 1) (Zj (zd zv (vE 3) (cE (.int 1)))) (np)))
theorem vC {s c:T}{xs:List T}{i:Nat}(hi:i < xs.length)(j:xs.length<=3):∀(a acc:List T) (z:Sl),acc.length+a.length<=1000000->∃d,Zu (zw 5) BX a [.vl s,.vl (.tup xs),.ow acc,.vl (.int (i:Int)),.vl c,z]= .nx [.vl s,.vl (.tup xs),.ow (acc++a.map λy=>T.tup (xs.set i y)),.vl (.int (i:Int)),.vl c,d]
 | [],acc,z,_=>⟨z,by rw[bI,bw];rfl⟩
 | y :: a,acc,z,k=>by
  have f :=by simpa using k
  obtain⟨d,hz⟩:=vC hi j a (acc++[.tup _]) _ (by simp;omega)
  refine⟨d, ?_⟩;have e:BX [.vl s,.vl (.tup xs),.ow acc,.vl (.int (i)),.vl c,.vl y]= .nx [.vl s,.vl (.tup xs),.ow (acc++[.tup (xs.set i y)]),.vl (.int (i)),.vl c,.vl y]:=by
   have g:=xF (fx:=vE 1) (fi:=vE 3) (fy:=vE 5) (ρ:=[.vl s,.vl _,.ow acc,.vl _,.vl c,.vl y]) rfl rfl rfl hi (by omega)
   exact Qx rfl (bq (show acc.length<=1000000 by omega) (by decide)) g
  rw[ZI rfl e,hz,bi];rfl
def tj (a:List Kd)(xs:List T)(i:Nat):List (List T):=match (a.map Kd.less)[i]?,xs[i]? with
 | some f,some x=>(f x).map λy=>xs.set i y
 | _,_=>[]
theorem gU {c:List Kd}(a:c[i]? =some k)(b:xs[i]? =some x):tj c xs i=(k.less x).map λy=>xs.set i y:=by
 unfold tj;rw[ao,a,b];rfl
theorem xH (xs:List T):jM xs=(aN xs.length).map λ(i:Nat)=>T.tup [.int (i:Int),(xs[i]?).getD .non]:=by
 refine dL λi=> ?_;unfold jM;rw[ao,iV,ao]
 by_cases h:i < xs.length
 ·rw[c_ h];simp[ah h]
 ·rw[aP (by omega),aP (by simpa using h)];rfl
abbrev AL (c:List T->R T):En->RS:=ZD (Z5 (zb 2 c (za (zd kj (vE 0) (vE 3)) (za (vE 4) (ze))))) (zw 5) BX
theorem vD {c:List T->R T}{s:T}{f:List Kd}{xs:List T}(B:∀(i:Nat) (k:Kd),f[i]? =some k->kj s (.int (i:Int))= .ok k.t)(u:xs.length<=3)(e:xs.length=f.length)
  (H:∀(i:Nat) (k:Kd) (x:T),f[i]? =some k->xs[i]? =some x->c [k.t,x]= .ok (.lst (k.less x))/\(k.less x).length<=1000):∀(js:List Nat) (acc:List T) (a b z:Sl),(∀j∈js,j < xs.length)->acc.length+js.length*1000<=1000000->
  ∃g p r,Zu (zN 3 4) (AL c) (js.map λ(i:Nat)=>T.tup [.int (i:Int),(xs[i]?).getD .non]) [.vl s,.vl (.tup xs),.ow acc,a,b,z]= .nx [.vl s,.vl (.tup xs),.ow (acc++(js.flatMap (tj f xs)).map T.tup),g,p,r]
 | [],acc,a,b,z,_,_=>⟨a,b,z,by show RS.nx _=RS.nx _;rw[List.flatMap_nil,bI,bw]⟩
 | j :: js,acc,a,b,z,v,J=>by
  have C :=by simpa using J
  have d:=v j aa;obtain⟨x,l⟩:=jG d;obtain⟨k,q⟩:=jG (show j < f.length by omega)
  obtain⟨I,O⟩:=H j k x q l;obtain⟨w,o⟩:=vC d u (k.less x) acc z (by omega)
  obtain⟨g,p,r,N⟩:=vD B u e H js (acc++(k.less x).map λy=>T.tup _) _ _ w (λi hi=>v i (a9 _ hi)) (by simp;omega)
  refine⟨g,p,r, ?_⟩;have G:AL c [.vl s,.vl (.tup xs),.ow acc,.vl (.int (j)),.vl x,z]= .nx [.vl s,.vl (.tup xs),.ow (acc++(k.less x).map λy=>T.tup (xs.set j y)),.vl (.int (j)),.vl x,w]:=by
   have F:Z5 (zb 2 c (za (zd kj (vE 0) (vE 3)) (za (vE 4) (ze)))) [.vl s,.vl (.tup xs),.ow acc,.vl (.int (j)),.vl x,z]= .ok (k.less x):=by
    have D:zd kj (vE 0) (vE 3) [.vl s,.vl (.tup xs),.ow acc,.vl _,.vl x,z]= .ok k.t:=B j k q;rw[Zs,zt,D,i3,v4,i3,I];rfl
   unfold AL ZD;rw[F];exact o
  have M:zN 3 4 (T.tup [.int (j),(xs[j]?).getD .non]) [.vl s,.vl (.tup xs),.ow acc,a,b,z]= .ok [.vl s,.vl (.tup xs),.ow acc,.vl (.int (j)),.vl x,z]:=by rw[l];rfl
  rw[ar,ZI M G,N,bW,gU q l,cM,aZ,bi];rfl
theorem yo {a:List Kd}(o:∀(i:Nat) (k:Kd),a[i]? =some k->kj s (.int (i:Int))= .ok k.t)(q:xs.length<=3)(d:xs.length=a.length)
  (H:∀(i:Nat) (k:Kd) (x:T),a[i]? =some k->xs[i]? =some x->c [k.t,x]= .ok (.lst (k.less x))/\(k.less x).length<=1000):zk (Af c (mB 6 [s,.tup xs]))= .ok (.lst ((oE (a.map Kd.less) xs).map T.tup)):=by
 obtain⟨f,v,g,h⟩:=vD o q d H _ [] .un .un .un (λj u=>aT.mp u) (by simp;omega)
 have e:mB 6 [s,.tup xs]=[.vl s,.vl _,.un,.un,.un,.un]:=rfl;have l:uO 2 ze [.vl s,.vl (.tup xs),.un,.un,.un,.un]= .nx [.vl s,.vl _,.ow [],.un,.un,.un]:=rfl;have r:ZD (wa (vE 1)) (zN 3 4) (AL c) [.vl s,.vl (.tup xs),.ow [],.un,.un,.un]= .nx [.vl s,.vl (.tup xs),.ow ([]++((aN xs.length).flatMap (tj a xs)).map T.tup),f,v,g]:=by
  have p:wa (vE 1) [.vl s,.vl (.tup xs),.ow [],.un,.un,.un]= .ok ((aN xs.length).map λ(i:Nat)=>T.tup [.int (i),(xs[i]?).getD .non]):=by rw[← xH];rfl
  unfold ZD;rw[p];exact h
 rw[e,Af,zc l,zc r,zg]
 ·rfl
 ·rfl
theorem LO (h:xs.length+ys.length<=mF):zv (.lst xs) (.lst ys)= .ok (.lst (xs++ys)):=if_pos h
theorem j0 {d:Nat}(hd:d<=3){k:Kd}{x:T}(h:k.Ok d)(a:k.has x=true):(k.less x).length<=1000:=by
 have:=WO d k x h a;have c:4 ^ d<=4 ^ 3:=bN (by omega) hd
 omega
theorem XS:∀(d n:Nat),2*d<=n->d<=3->∀(k:Kd) (x:T),k.Ok d->k.has x=true->n9 n 0 [k.t,x]= .ok (.lst (k.less x))
 | 0,_,_,_,_,_,h,_=>h.elim
 | d+1,n+2,hn,hd,k,x,h,f=>by
  have v:=XS d n (by omega) (by omega)
  have e:n9 (n+2) 0 [k.t,x]=zk (o6 rQ sA rK (n9 (n+1) 1) (mB 2 [k.t,x])):=by rw[n9]
  have u:∀s y,n9 (n+1) 1 [s,y]=zk _:=λs y=>by rw[n9];intro h;cases h
  rw[e];cases k with
  | whole lo hi=>
   obtain⟨i,rfl,C⟩:=ZW.mp f;have e:mB 2 [(Kd.whole lo hi).t,.int i]=mG (.tup [.str "whole",.int lo,.int hi]) (.int i):=by rw[Kd.t];rfl
   have hn:=vA lo hi i;rw[Kd.t]at hn;rw[e,o6,zu (t:= .lst _)]
   ·rfl
   ·rw[Qp,zg];show zb _ _ _ (mG _ _)=_;rw[zt,v0,i3,v1,i3,hn]
  | pick q=>
   obtain⟨w,rfl,I⟩:=Zm.mp f;have e:mB 2 [(Kd.pick q).t,.str w]=mG (.tup [.str "pick",.tup (q.map Jz)]) (.str w):=by rw[Kd.t];rfl
   have j :=uK h.2.1 h.2.2.2 I;rw[Kd.t]at j;rw[e,o6,zc (JH (by decide)),zu]
   ·rfl
   ·rw[Qp,zg];show zb _ _ _ (mG _ _)=_;rw[zt,v0,i3,v1,i3,j]
  | row B=>
   obtain⟨xs,rfl,c⟩:=j3 f;have e:mB 2 [(Kd.row B).t,.tup xs]=mG (.tup [.str "row",.tup (B.map Kd.t)]) (.tup xs):=by rw[Kd.t,Kd.ts_map];rfl
   rw[e,o6,zc (JH (by decide)),zc (JH (by decide)),zu]
   ·rfl
   ·rw[Qp,zg];show zb _ _ _ (mG _ _)=_;rw[zt,jE,i3,v1,i3,u,yo (λi k o=>Hw (by rw[ao,o];rfl)) (by rw[c.1];exact h.2.1) c.1 λi k x a b=>⟨v k x (h.2.2 k (Zg a)) (c.2 i k x a b),j0 (by omega) (h.2.2 k (Zg a)) (c.2 i k x a b)⟩]
    simp only[Kd.less,Kd.lessF_map]
  | many k lo hi=>
   obtain⟨xs,rfl,J,D,c⟩:=ZC f;have l:=av D h.2.1;have e:mB 2 [(Kd.many k lo hi).t,.tup xs]=mG (.tup [.str "many",k.t,.int (lo),.int (hi)]) (.tup xs):=by rfl
   have F:zd zU (Zc (za (zd kj (vE 0) (cE (.int 1))) (ze))) (mw Z6 (vB 1)) (mG (.tup [.str "many",k.t,.int (lo),.int (hi)]) (.tup xs))= .ok (.lst ((ag xs.length k).map Kd.t)):=by
    rw[zh,V2 jE,i3,Z8,w1,i3,jP,i3,wq l,ZP,aS]
   have g:=Y4 (k:=k) (lo:=lo) (hi:=hi) l;rw[Kd.t]at g;have r:=j0 hd h f;rw[e,o6,zc (JH (by decide)),zc (JH (by decide)),zc (JH (by decide)),zg]
   ·rfl
   ·show zd _ _ _ (mG _ _)=_;have G:=yo (s:= .lst ((ag xs.length k).map _)) (λi k o=>Xs (by rw[ao,o];rfl)) l (by simp) λi p x a b=>by
     obtain rfl:=(dA.mp (Zg a)).2;exact⟨v p x h.2.2 (c.2 i p x a b),j0 (by omega) h.2.2 (c.2 i p x a b)⟩
    simp only[Kd.less,Zh,az]at r ⊢;rw[zh,zt,v0,i3,v1,i3,g,i3,zt,F,i3,v1,i3,u,G,i3,LO (av r (by decide))]
theorem vF:∀(c:List Kd) (xs:List T),(∀(i:Nat) (k:Kd) (x:T),c[i]? =some k->xs[i]? =some x->k.wt x<=B)->0<=B->mU (c.map Kd.wt) xs<=(xs.length:Int)*B
 | [],xs,_,d=>by
  exact Int.mul_nonneg (by omega) d
 | k :: c,[],_,d=>by simp[mU]
 | k :: c,x :: xs,h,d=>by
  have a:=h 0 k x rfl rfl;have b:=vF c xs (λi e f p q=>h (i+1) e f (by simpa using p) (by simpa using q)) d
  simp only[ar,mU,aw];rw[show ((xs.length+1:Nat):Int)=(xs.length)+1 by omega,Int.add_mul];omega
theorem gX:∀(d:Nat) (k:Kd) (x:T),k.Ok d->k.has x=true->k.wt x<=40*((4 ^ d:Nat):Int)
 | 0,_,_,h,_=>h.elim
 | d+1,.whole lo hi,x,h,c=>by
  have f:1<=4 ^ (d+1):=bX (by simp)
  obtain⟨i,rfl,l⟩:=ZW.mp c;obtain⟨C,y⟩:=vh h.2.1;obtain⟨a,_,b⟩:=h;simp only[Kd.wt,vg];split <;> omega
 | d+1,.pick v,x,h,c=>by
  have f:1<=4 ^ (d+1):=bX (by simp)
  obtain⟨w,rfl,r⟩:=Zm.mp c;have:=ym r;rw[ae]at this;have:=h.2.1;simp only[Kd.wt];omega
 | d+1,.row u,x,h,c=>by
  have f:1<=4 ^ d:=bX (by simp)
  obtain⟨xs,rfl,e⟩:=j3 c;simp only[Kd.wt,Kd.wtF_map];have o:xs.length<=3:=by rw[e.1];exact h.2.1
  have a:=vF u xs (λi k x p q=>gX d k x (h.2.2 k (Zg p)) (e.2 i k x p q)) (by omega)
  have b:(xs.length:Int)*(40*((4 ^ d:Nat)))<=3*(40*((4 ^ d:Nat))):=fJ (by omega) (by omega)
  omega
 | d+1,.many k lo hi,x,h,c=>by
  have f:1<=4 ^ d:=bX (by simp)
  obtain⟨xs,rfl,B,j,e⟩:=ZC c;simp only[Kd.wt,Zh];have o:=av j h.2.1;have a:=vF (ag _ k) xs (λi g x p q=>by
   obtain rfl:=(dA.mp (Zg p)).2;exact gX d g x h.2.2 (e.2 i g x p q)) (by omega)
  have b:(xs.length:Int)*(40*((4 ^ d:Nat)))<=3*(40*((4 ^ d:Nat))):=fJ (by omega) (by omega)
  omega
theorem rF {k:Kd}(h:k.Ok 3){x:T}(a:k.has x=true):AC 20 [k.t,x]= .ok (.lst (k.less x)):=XS 3 20 (by omega) (by omega) k x h a
theorem Le {k:Kd}(h:k.Ok 3){x:T}(a:k.has x=true):oU 20 [k.t,x]= .ok (.int (k.wt x)):=gS 3 20 (by omega) k x h a
theorem vG {k:Kd}(a:k.Ok 3){x:T}(c:k.has x=true):AO [k.t,x]= .ok (.lst (k.less x)):=by
 show zk (A1 _ _ (mG k.t x))=_;rw[A1,zc (ZJ (by rw[zt,v0,i3,v1,i3,WI a c])),zg]
 ·rfl
 ·show zb _ _ _ (mG k.t x)=_;rw[zt,v0,i3,v1,i3,rF a c]
theorem jn {k:Kd}(a:k.Ok 3){x:T}(c:k.has x=true):oF [k.t,x]= .ok (.int (k.wt x)):=by
 show zk (A4 _ _ (mG k.t x))=_;rw[A4,zc (ZJ (by rw[zt,v0,i3,v1,i3,WI a c])),zg]
 ·rfl
 ·show zb _ _ _ (mG k.t x)=_;rw[zt,v0,i3,v1,i3,Le a c]
def br (k:Kd)(r:Ru):List T:=k.all.filter λx=> !(kp r x)
theorem jo:x∈br k r↔k.has x=true/\kp r x=false:=by
 unfold br;rw[bA,ZU];simp
def lb (k:Kd)(r:Ru):Option T:=match br k r with
 | []=>none
 | t :: ts=>some (ZS (k.wt t) t (ts.map k.wt) ts)
noncomputable def oT:Option T->T
 | some x=>x
 | none=> .non
theorem jp (w:T->Int):∀(ts:List T) (t:T),ZS (w t) t (ts.map w) ts∈t :: ts/\∀y∈t :: ts,w (ZS (w t) t (ts.map w) ts)<=w y
 | [],t=>by
  exact⟨List.mem_singleton_self _,λy hy=>by rw[aq.mp hy];exact i8 _⟩
 | u :: ts,t=>by
  rw[ar,ZS]
  by_cases h:w u < w t
  ·rw[if_pos h];obtain⟨a,b⟩:=jp w ts u;exact⟨a9 _ a,λy hy=>by
    rcases ak.mp hy with rfl | hy
    ·have:=b u aa;omega
    ·exact b y hy⟩
  ·rw[if_neg h];obtain⟨a,b⟩:=jp w ts t;exact⟨(ak.mp a).elim (λz=>by rw[z];exact aa) (λz=>a9 _ (a9 _ z)),λy hy=>by
    rcases ak.mp hy with rfl | hy
    ·exact b y aa
    ·rcases ak.mp hy with rfl | hy
     ·have:=b t aa;omega
     ·exact b y (a9 _ hy)⟩
theorem gY:lb k r=none↔∀x,k.has x=true->kp r x=true:=by
 have h:br k r=[]↔∀x,k.has x=true->kp r x=true:=by
  rw[fK];exact⟨λh x a=>by
   cases e:kp r x with
   | true=>rfl
   | false=>exact absurd (jo.mpr ⟨a,e⟩) (h x),λh x a=>by
   have:=jo.mp a;rw[h x this.1]at this;exact absurd this.2 (by decide)⟩
 rw[← h];unfold lb;cases br k r with
 | nil=>exact⟨λ_=>rfl,λ_=>rfl⟩
 | cons t ts=>exact⟨λz=>(nomatch z),λz=>(nomatch z)⟩
theorem Ue (h:lb k r=some x):k.has x=true/\kp r x=false/\∀y,k.has y=true->kp r y=false->k.wt x<=k.wt y:=by
 unfold lb at h;cases e:br k r with
 | nil=>rw[e]at h;cases h
 | cons t ts=>
  rw[e]at h;cases h;obtain⟨a,b⟩:=jp _ ts t;have c :=jo.mp (e ▸ a);exact⟨c.1,c.2,λy f d=>b y (e ▸ jo.mpr ⟨f,d⟩)⟩
theorem vH {f:T->R T}{w:T->Int}:∀ts:List T,(∀t∈ts,f t= .ok (.int (w t)))->Wp f ts=some (ts.map w)
 | [],_=>rfl
 | t :: ts,h=>by
  rw[Wp,h t aa,vH ts λy hy=>h y (a9 _ hy)];rfl
theorem WP (d:k.Ok 3)(f:k.all.length<=500)(hr:ZK 3 r):CK [k.t,r.t]= .ok (oT (lb k r)):=by
 show zk (Ad _ _ _ _ [.vl k.t,.vl r.t,.un])=_;have j:jA (zb 1 oJ (za (vE 1) _)) [.vl k.t,.vl r.t,.un]= .nx _:=ZJ (by rw[zI,v1,i3,ZQ hr])
 have o:zq _ (jW (ZX (zb 2 (n5 8) (za (vE 1) (za (vE 0) _))))) (vE 0) 1 [1] [.vl k.t,.vl r.t,.un] _= .ok _:=
  Z4 _ (av f (by decide)) λt i=>⟨by
   show jW _ [.vl t,.vl r.t]=_;unfold jW ZX;rw[zt,v1,i3,v0,i3,ZE (xA d i) hr];rfl,rfl⟩
 have l:zC 2 (zA (Z5 (zb 1 oZ (za (vE 0) (ze)))) (zw 0) (jW (ZX (zb 2 (n5 8) (za (vE 1) (za (vE 0) (ze)))))) (vE 0) 1 [1]) [.vl k.t,.vl r.t,.un]= .nx [.vl k.t,.vl r.t,.vl (.lst (br k r))]:=by
  rw[zE]
  ·rfl
  ·unfold zA Z5;rw[zI,v0,i3,j2 d f];show (zq _ _ _ _ _ _ _).bind _=_;rw[o];rfl
 rw[Ad,zc j,zc l,zg]
 ·rfl
 ·show VS [0] _ _ _ [.vl k.t,.vl r.t,.vl _]=_;have g:∀x∈br k r,k.has x=true:=λx a=>(jo.mp a).1;unfold lb;cases e:br k r with
  | nil=>rfl
  | cons t ts=>
   rw[e]at g;have c:Wp (λx=>zb 2 (oU 20) (za (vE 1) (za (vE 0) ze)) ((Jp 1 [0] [Sl.vl k.t,.vl r.t,.vl (.lst (t :: ts))]).set 0 (.vl x))) _=some _:=vH _ λx a=>by
    exact gS 3 20 (by omega) k x d (g x a)
   show (match Wp _ _ with | some (k :: p)=>R.ok _ | _=> .bad)=_
   rw[c];rfl
theorem rJ (h:f ρ= .ok (.lst (y :: ys))):zd kj f (cE (.int 0)) ρ= .ok y:=by
 rw[zh,h];show mS _ ((0:Nat))=_;unfold mS;rw[Zv (rfl)]
def bl (k:Kd)(r:Ru)(x:T):List T:=(k.less x).filter λy=> !(kp r y)
def nr (k:Kd)(r:Ru):Nat->T->List T
 | 0,x=>[x]
 | n+1,x=>match bl k r x with
  | []=>[x]
  | y :: _=>x :: nr k r n y
section
variable {k:Kd}{r:Ru}{x y:T}
theorem uL (g:k.Ok 3)(d:k.has x=true)(h:y∈bl k r x):k.has y=true/\kp r y=false/\k.wt y < k.wt x:=by
 obtain⟨c,f⟩:=bA.mp h;obtain⟨e,a⟩:=(oR 3 k g).dn x y d c;exact⟨e,by simpa using f,a⟩
theorem bl_len (a:k.Ok 3)(c:k.has x=true):(bl k r x).length<=1000:=av (fj _ _) (j0 (by omega) a c)
theorem yq (a:k.Ok 3)(hr:ZK 3 r)(c:k.has x=true):Ge [k.t,x,r.t]= .ok (.lst (bl k r x)):=by
 show zk _=_;unfold C6;rw[Jl];show zA _ _ _ _ _ _ [.vl k.t,.vl x,.vl r.t]=_;rw[zJ,Zs,zt,v0,i3,v1,i3,rF a c];show ((zq _ _ _ _ _ _ _).bind _)=_;have f:mF=16777216:=rfl;have e:=j0 (by omega) a c
 rw[Z4 _ (by omega) λt d=>⟨?_,rfl⟩]
 ·rfl
 ·show jW _ [.vl t,.vl r.t]=_;rw[Jv,j6,zt,v1,i3,v0,i3,ZE (QD 2 k t a ((oR 3 k a).dn x t c d).1) hr];rfl
theorem vI (d:k.Ok 3):∀(n:Nat) (x:T),k.has x=true->kp r x=false->∀y∈nr k r n x,k.has y=true/\kp r y=false
 | 0,x,a,c,y,hy=>by rw[aq.mp hy];exact⟨a,c⟩
 | n+1,x,a,c,y,hy=>by
  unfold nr at hy;cases e:bl k r x with
  | nil=>rw[e]at hy;rw[aq.mp hy];exact⟨a,c⟩
  | cons z i=>
   rw[e]at hy;obtain⟨g,f,_⟩:=uL d a (by rw[e];exact aa)
   rcases ak.mp hy with rfl | hy
   ·exact⟨a,c⟩
   ·exact vI d n z g f y hy
theorem chn_ne:∀(n:Nat) (x:T),nr k r n x ≠ []
 | 0,x=>by unfold nr;simp
 | n+1,x=>by unfold nr;split <;> simp
theorem vJ:∀(n:Nat) (x:T),(nr k r n x).length<=n+1
 | 0,x=>by unfold nr;simp
 | n+1,x=>by
  unfold nr;split
  ·simp
  ·rename_i y _ _;have:=vJ n y;simp;omega
theorem XT (l:List T)(h:vB i ρ= .ok (.lst l)):zp nv (mw Z6 (vB i)) (cE (.int 0)) ρ= .ok (!l.isEmpty):=by
 rw[zB,Z8,h];cases l with
 | nil=>rfl
 | cons a l=>
  show R.ok _=_;rw[decide_eq_true (by simp)];rfl
abbrev HN:En->RS:=zn (Us 3 (zd kj (vE 4) (cE (.int 0)))) (zC 4 (zb 3 Ge (za (vE 0) (za (zd kj (vE 4) (cE (.int 0))) (za (vE 2) (ze))))))
theorem vK (d:k.Ok 3)(hr:ZK 3 r):∀(n:Nat) (x:T) (acc:List T) (c:Nat),k.has x=true->k.wt x<=(n:Int)->acc.length+n<=100000->n < c->∃l,Zo (zp nv (mw Z6 (vB 4)) (cE (.int 0))) HN c [.vl k.t,.vl x0,.vl r.t,.ow (acc++[x]),.vl (.lst (bl k r x))]= .nx [.vl k.t,.vl x0,.vl r.t,.ow (acc++nr k r n x),l]
 | n,x,acc,0,_,_,_,j=>by omega
 | n,x,acc,c+1,g,C,u,j=>by
  have B:mF=16777216:=rfl;cases e:bl k r x with
  | nil=>
   refine⟨.vl (.lst []), ?_⟩;have q:nr k r n x=[x]:=by cases n with | zero=>rfl | succ n=>unfold nr;rw[e]
   rw[QY (XT [] rfl),q]
  | cons y a=>
   obtain⟨f,v,w⟩:=uL d g (by rw[e];exact aa)
   have hp:=(oR 3 k d).pos y f;obtain⟨m,rfl⟩:∃m,n=m+1:=⟨n - 1,by omega⟩
   obtain⟨l,p⟩:=vK d hr m y (acc++[x]) c f (by omega) (by rw[az,aK];omega) (by omega)
   refine⟨l, ?_⟩;have i:Us 3 (zd kj (vE 4) (cE (.int 0))) [.vl k.t,.vl x0,.vl r.t,.ow (acc++[x]),.vl (.lst (y :: a))]= .nx [.vl k.t,.vl x0,.vl r.t,.ow ((acc++[x])++[y]),.vl (.lst (y :: a))]:=by
    rw[Qx rfl (by rw[az,aK];omega) (rJ rfl)];rfl
   have o:zC 4 (zb 3 Ge (za (vE 0) (za (zd kj (vE 4) (cE (.int 0))) (za (vE 2) (ze))))) [.vl k.t,.vl x0,.vl r.t,.ow ((acc++[x])++[y]),.vl (.lst (y :: a))]= .nx [.vl k.t,.vl x0,.vl r.t,.ow ((acc++[x])++[y]),.vl (.lst (bl k r y))]:=by
    rw[zE]
    ·rfl
    ·rw[Zb,v0,i3,rJ rfl,i3,v2,i3,yq d hr f]
   rw[yi (XT (y :: a) rfl) ((zc i).trans o),p];have:nr k r (m+1) x=x :: nr k r m y:=by rw[nr,e]
   rw[this,bi];rfl
abbrev ch (k:Kd)(r:Ru)(x:T):List T:=nr k r (k.wt x).toNat x
theorem sj (a:k.Ok 3)(c:k.has x=true):((k.wt x).toNat:Int)=k.wt x/\(k.wt x).toNat<=2560:=by
 have e:=(oR 3 k a).pos x c;have d:=gX 3 k x a c;constructor <;> omega
theorem Lw (c:k.Ok 3)(hr:ZK 3 r)(a:k.has x=true)(g:kp r x=false):rP [k.t,x,r.t]= .ok (.lst (ch k r x)):=by
 obtain⟨w1,w2⟩:=sj c a;obtain⟨l,d⟩:=vK c hr (k.wt x).toNat x [] 1000000 a (by omega) (by simp;omega) (by omega)
 rw[bP]at d;show zk (Ar _ _ _ _ [.vl k.t,.vl x,.vl r.t,.un,.un])=_;have e:ZX (zb 2 (n5 8) (za (vE 2) (za (vE 1) (ze)))) [.vl k.t,.vl x,.vl r.t,.un,.un]= .ok false:=by
  rw[j6,zt,v2,i3,v1,i3,ZE (QD 2 k x c a) hr,g];rfl
 have f:uO 3 (za (vE 1) (ze)) [.vl k.t,.vl x,.vl r.t,.un,.un]= .nx [.vl k.t,.vl x,.vl r.t,.ow [x],.un]:=rfl;have e5:zC 4 (zb 3 Ge (za (vE 0) (za (vE 1) (za (vE 2) (ze))))) [.vl k.t,.vl x,.vl r.t,.ow [x],.un]= .nx [.vl k.t,.vl x,.vl r.t,.ow [x],.vl (.lst (bl k r x))]:=by
  rw[zE]
  ·rfl
  ·rw[Zb,v0,i3,v1,i3,v2,i3,yq c hr a]
 unfold Ar;rw[zc (ZJ (by rw[zI,v2,i3,ZQ hr])),zc (ZJ (by rw[zt,v0,i3,v1,i3,WI c a])),zc (zj e),zc f,zc e5,zc d]
 rfl
end
theorem Y5 {d:Type}{f g:d->T}{js:List Nat}(l:List d)(i:l.length<=mF)(H:∀a∈l,fe ((Jp k js ρ).set 0 (.vl (f a)))= .ok (g a)):zq (zw 0) zV fe k js ρ (l.map f)= .ok (l.map g):=by
 rw[zK (h:=λt=>match fe ((Jp k js ρ).set 0 _) with | .ok u=>u | _=>t) _ (by rw[ae];exact i) (λt e=>by
  obtain⟨a,c,rfl⟩:=aA.mp e;rw[H a c]),aZ]
 congr 1
 refine c6 λa c=> ?_;show (match fe _ with | .ok u=>u | _=>f a)=_
 rw[H a c]
inductive Cn:(List T->T)->Prop where
 | l:Cn T.lst
 | t:Cn T.tup
theorem jq {C:List T->T}(d:Cn C){rs:List Ru}(hr:∀r∈rs,ZK 3 r)(hn:rs.length<=1000):pB [C (rs.map Ru.t)]= .ok .non:=by
 have g:∀(c:List T) (rs:List Ru) (y:Sl),(∀r∈rs,ZK 3 r)->∃a,Zu (zw 1) (jA (zb 1 oJ (za (vE 1) (ze)))) (rs.map Ru.t) [.vl (C c),y]= .nx [.vl (C c),a]:=by
  intro c rs
  induction rs with
  | nil=>exact λy _=>⟨y,rfl⟩
  | cons r rs i=>
   intro y h;obtain⟨a,e⟩:=i _ λq j=>h q (a9 _ j);refine⟨a, ?_⟩;rw[ar,ZI (ρ1:=[.vl _,.vl r.t]) rfl (ZJ (by exact ZQ (h r aa))),e]
 obtain⟨a,e⟩:=g _ rs .un hr;show zk (AJ _ [.vl _,.un])=_;unfold AJ;rw[zc (zj (by cases d <;> rfl))]
 have f:Z5 (vE 0) [.vl (C (rs.map Ru.t)),.un]= .ok (rs.map Ru.t):=by cases d <;> rfl
 unfold ZD;rw[f];show zk (Zu _ _ _ _)=_;rw[e];rfl
section
theorem Io (h:f ρ= .ok t)(h' :g ρ= .ok t)(hp:Pl 30 t):ZL my f g ρ= .ok (.bl true):=by rw[Ze,h,i3,h',i3,xx hp];rfl
end
theorem D2 {k:Kd}(a:k.Ok 3){x:T}(c:k.has x=true):AZ 20 [k.t,x]= .ok (mP (k.sh x))/\Bd (k.sh x) 91:=yk 3 20 (by omega) (by omega) k x a c
theorem Hi {k:Kd}(c:k.Ok 3){a:List T}(d:∀x∈a,k.has x=true)(g:a.length<=60):AE [k.t,.lst a]= .ok (mP (XL (a.map k.sh))):=by
 show zk _=_;have j:zq _ _ (zb 2 (AZ 20) (za (vE 1) (za (vE 0) _))) 1 [0] (mG k.t (.lst a)) a= .ok (a.map λx=>mP _):=
  zK _ (av g (by decide)) λt f=>by
   show zb 2 _ _ (mG t k.t)=_;rw[zt,v1,i3,v0,i3,(D2 c (d t f)).1]
 unfold Bx;rw[zg]
 ·rfl
 ·show zb 1 _ _ (mG k.t _)=_;rw[zI,zJ,Zs,v1];show ((zq _ _ _ _ _ _ a).bind _).bind _=_;rw[j,i3];have:=Uc (λq i=>by obtain⟨x,e,rfl⟩:=aA.mp i;exact(D2 c (d x e)).2) (by rw[ae];omega)
  rw[aZ]at this;exact this
def wy (rs:List Ru)(x:T):List Bool:=rs.map λr=>kp r x
theorem vL {rs:List Ru}(hr:∀r∈rs,ZK 3 r)(hn:rs.length<=1000)(c:W 2 x):Az [.lst (rs.map Ru.t),x]= .ok (.tup ((wy rs x).map T.bl)):=by
 have d:mF=16777216:=rfl;show zk _=_;unfold BA;rw[Jl];show (((zq _ _ _ _ _ _ _).bind _).bind _)=_;rw[Y5 (g:=λr=> .bl _) rs (by omega) λr a => ?_,i3]
 ·unfold wy;rw[aZ];rfl
 ·show zb 2 _ _ (mG r.t x)=_;rw[zt,v0,i3,v1,i3,ZE c (hr r a)]
theorem JM:∀k:List Bool,ZO (k.map T.bl)=some k
 | []=>rfl
 | b :: k=>by
  show (ZO _).map (λl=>b :: l)=_;rw[JM k];rfl
def j4 (kf:T->List Bool):List T->List WE->List WE
 | [],a=>a
 | w :: c,a=>j4 kf c (wV (kf w) w a)
theorem uM {g:T->R T}{kf:T->List Bool}:∀(a:List T) (c:List WE),(∀w∈a,g w= .ok (.tup ((kf w).map T.bl)))->wc g a c= .ok (j4 kf a c)
 | [],c,_=>rfl
 | w :: a,c,h=>by
  show ((g w).bind λt=>match t with
   | .tup ts=>(match ZO ts with
    | some k=>wc g a _
    | none=> .bad)
   | _=> .bad)=_
  rw[h w aa,i3];dsimp only;rw[JM];exact uM a _ λv d=>h v (a9 _ d)
structure EOk (al:List T) (n:Nat) (es:List WE):Prop where
 nd:(es.map (·.1)).Nodup
 len:es.length<=n
 mem:∀e∈es,(∀x∈e.2,x∈al)/\e.2.length<=n
theorem WQ (k:List Bool)(w:T):∀a:List WE,(wV k w a).map (·.1)=if k∈a.map (·.1) then a.map (·.1) else a.map (·.1)++[k]
 | []=>by simp[wV]
 | (c,d) :: r=>by
  unfold wV
  by_cases h:c =k
  ·subst h;simp
  ·rw[if_neg h,ar,WQ k w r,ar];have h' :¬ k=c :=λz=>h z.symm
   by_cases m:k∈r.map (·.1)
   ·rw[if_pos m,if_pos (a9 _ m)]
   ·rw[if_neg m,if_neg (by simpa[h'] using m)];rfl
theorem vM {al:List T}{n:Nat}{k:List Bool}{w:T}(f:w∈al):∀g:List WE,(∀e∈g,(∀x∈e.2,x∈al)/\e.2.length<=n)->∀e∈wV k w g,(∀x∈e.2,x∈al)/\e.2.length<=n+1
 | [],_,e,a=>by
  simp only[wV,aq]at a;subst a;exact⟨λx d=>by rw[aq.mp d];exact f,by show 1<=n+1;omega⟩
 | (j,i) :: r,h,e,a=>by
  unfold wV at a;have c:=h _ aa;have hr:=λe a=>h e (a9 _ a);split at a
  ·rcases ak.mp a with rfl | a
   ·refine⟨λx d=> ?_,by have:i.length<=n:=c.2;rw[az,aK];omega⟩
    rcases aW.mp d with z | z
    ·exact c.1 x z
    ·rw[aq.mp z];exact f
   ·exact⟨(hr e a).1,lV (hr e a).2⟩
  ·rcases ak.mp a with rfl | a
   ·exact⟨c.1,lV c.2⟩
   ·exact vM f r hr e a
theorem EOk.ins {al:List T}{n:Nat}{c:List WE}(h:EOk al n c){k:List Bool}{w:T}(i:w∈al):EOk al (n+1) (wV k w c):=by
 have e:=WQ k w c;have j:(wV k w c).length<=c.length+1:=by
  have:=congrArg i6 e;rw[ae]at this;rw[this];split
  ·rw[ae];omega
  ·rw[az,ae];exact am _
 refine⟨?_,by have:=h.len;omega,vM i c h.mem⟩
 rw[e];split
 ·exact h.nd
 ·rename_i f;rw[i9];exact⟨h.nd,by simp,λa d b g z=>f (by rw[aq.mp g]at z;rw[← z];exact d)⟩
theorem vN {kf:T->List Bool}:∀(a:List T) (n:Nat) (c:List WE),EOk al n c->(∀w∈a,w∈al)->EOk al (n+a.length) (j4 kf a c)
 | [],n,c,h,_=>h
 | w :: a,n,c,h,d=>by
  have:=vN (kf:=kf) a _ _ (h.ins (k:=kf w) (d w aa)) λv e=>d v (a9 _ e);rw[aw,show n+(a.length+1)=n+1+a.length by omega]
  exact this
theorem vO {k:Kd}(d:k.Ok 3)(g:k.all.length<=500){rs:List Ru}(hr:∀r∈rs,ZK 3 r)(hn:rs.length<=1000):zP [k.t,.lst (rs.map Ru.t)]= .ok (j4 (wy rs) k.all [])/\EOk k.all k.all.length (j4 (wy rs) k.all []):=by
 have i:mF=16777216:=rfl;refine⟨?_, ?_⟩
 ·show ((oZ _).bind λt=>match t with
   | .lst c=>if c.length<=mF then wc (λw=>Az _) c [] else .bad
   | _=> .bad)=_
  rw[j2 d g,i3];dsimp only;rw[if_pos (by omega)]
  exact uM _ [] λw a=>vL hr hn (xA d a)
 ·have:=vN (al:=k.all) (kf:=wy rs) _ 0 [] ⟨by simp,by simp,λe f=>by cases f⟩ λw a=>a
  rwa[fZ]at this
def tl (k:Kd)(e:WE):T:= .tup [.tup (e.1.map T.bl),.int (e.2.length:Int),mP (XL (e.2.map k.sh))]
theorem vP:∀(a:List WE) (x y:Sl),(∀e∈a,fe [.vl (.tup (e.1.map T.bl)),.vl (.lst e.2),.vl k.t]= .ok (tl k e))->zx (zN 0 1) zV fe (a.map rN) [x,y,.vl k.t]= .ok (a.map (tl k))
 | [],x,y,_=>rfl
 | e :: a,x,y,h=>by
  show ((zN 0 1 _ _).bind λρ1=>(zV ρ1).bind λc=>if c=true then (fe ρ1).bind λv=>(zx _ _ fe _ ρ1).bind λvs=> .ok _ else zx _ _ fe _ ρ1)=_
  rw[show zN 0 1 _ _= .ok [.vl _,.vl _,.vl k.t] from rfl,i3];unfold zV;rw[h e aa,show zx _ (λ_=>R.ok _) fe _ _=_ from vP a _ _ λq d=>h q (a9 _ d)];rfl
theorem Ih (k:Kd)(e:WE):kW (tl k e)=e.1:=by
 show (ZO _).getD []=_;rw[JM];rfl
theorem Hf (k:Kd)(e:WE):Pl 29 (tl k e):=λx a=>by
 simp only[ak,bR,or_false]at a;rcases a with rfl | rfl | rfl
 ·intro y hy;obtain⟨b,_,rfl⟩:=aA.mp hy;trivial
 ·trivial
 ·intro y hy;simp only[ak,bR,or_false]at hy;rcases hy with rfl | rfl <;> trivial
section
variable {k:Kd}(hk:k.Ok 3)(h4:k.all.length<=40){rs:List Ru}(hr:∀r∈rs,ZK 3 r)(hn:rs.length<=1000)
include hk h4 hr hn
theorem xI:sk [k.t,.lst (rs.map Ru.t)]= .ok (.lst (yR ((j4 (wy rs) k.all []).map (tl k))))/\(((j4 (wy rs) k.all []).map (tl k)).map kW).Nodup/\Pl 30 (.lst (yR ((j4 (wy rs) k.all []).map (tl k)))):=by
 have y:mF=16777216:=rfl;obtain⟨j,c⟩:=vO hk (by omega) hr hn
 generalize j4 _ _ []=a at*;have w:=c.len;have hd:((a.map (tl k)).map kW).Nodup:=by rw[aZ,show (kW ∘ tl k)=λe=>e.1 from funext λe=>Ih k e];exact c.nd
 refine⟨?_,hd, ?_⟩
 ·show zk (AR _ _ _ [.vl k.t,.vl _,.un])=_;unfold AR;rw[zc (ZJ (by rw[zI,v1,i3,jq .l hr hn]))]
  have i:pQ (zN 0 1) zV (Za (za (vE 0) (za (mw Z6 (vB 1)) (za (zb 2 AE (za (vE 2) (za (vE 1) (ze)))) (ze))))) 2 [0] [.vl k.t,.vl (.lst (rs.map Ru.t)),.un] a= .ok (a.map (tl k)):=by
   unfold pQ;rw[if_pos (by omega)]
   show quiet (zx _ _ _ _ [.un,.un,.vl k.t])=_;rw[vP a _ _ λe u=> ?_]
   ·rfl
   ·obtain⟨q,o⟩:=c.mem e u;refine KW rfl rfl ?_;rw[zt,v2,i3,v1,i3,Hi hk (λx d=>(ZU k x).mp (q x d)) (by omega)]
  have p:uq (.lst (a.map (tl k)))= .ok (.lst (yR (a.map (tl k)))):=by
   show (if _ then _ else _)=_
   rw[if_pos];refine⟨aJ.mpr λt r=> ?_,hd,by rw[ae];omega⟩
   obtain⟨e,_,rfl⟩:=aA.mp r;show (ZO _).isSome=true;rw[JM];rfl
  have v:r9 zP [k.t,.lst (rs.map Ru.t)]= .ok a:=by
   show (if 2=2 then quiet _ else _)=_
   rw[j];rfl
  show zk (match r9 _ _ with
   | .ok a=>(match pQ _ _ _ 2 [0] [.vl k.t,.vl _,.un] a with
    | .ok vs=>(match uq _ with
     | .ok (.lst g)=>RS.rf g
     | _=> .bad)
    | _=> .bad)
   | _=> .bad)=_
  rw[v];dsimp only;rw[i];dsimp only;rw[p];rfl
 ·intro x d;have f :=(lf _ _).mem_iff.mp d;obtain⟨e,_,rfl⟩:=aA.mp f;exact Hf k e
end
theorem vQ {kf:T->List Bool}:∀d:List WE,(d.map (·.1)).Nodup->(∀e∈d,e.2=pre.filter λx=>kf x=e.1)->(kf w ∉ d.map (·.1)->pre.filter (λx=>kf x=kf w)=[])->∀e∈wV (kf w) w d,e.2=(pre++[w]).filter λx=>kf x=e.1
 | [],_,_,hn,e,a=>by
  simp only[wV,aq]at a;subst a;rw[List.filter_append,hn (by simp)]
  simp
 | (f,i) :: r,nd,h,hn,e,a=>by
  rw[ar,cK]at nd;unfold wV at a;have g:i=pre.filter λx=>kf x=f :=h _ aa
  by_cases c:f =kf w
  ·rw[if_pos c]at a;rcases ak.mp a with rfl | a
   ·rw[g];simp[c]
   ·rw[h e (a9 _ a)];have:¬ kf w=e.1:=λz=>nd.1 (aA.mpr ⟨e,a,by rw[c];exact z.symm⟩)
    simp[this]
  ·rw[if_neg c]at a;rcases ak.mp a with rfl | a
   ·rw[g];simp[show ¬ kf w=f from λz=>c z.symm]
   ·exact vQ r nd.2 (λe a=>h e (a9 _ a)) (λj=>hn (by
     rw[ar,ak,not_or];exact⟨λz=>c z.symm,j⟩)) e a
theorem WR {kf:T->List Bool}:∀(i c:List T) (d:List WE),(d.map (·.1)).Nodup->(∀e∈d,e.2=c.filter λx=>kf x=e.1)->(∀k,k∈d.map (·.1)↔∃w∈c,kf w=k)->(∀e∈j4 kf i d,e.2=(c++i).filter λx=>kf x=e.1)/\∀k,k∈(j4 kf i d).map (·.1)↔∃w∈c++i,kf w=k
 | [],c,d,_,h,l=>by rw[bw];exact⟨h,l⟩
 | w :: i,c,d,nd,h,l=>by
  have o:=WQ (kf w) w d;have:=WR i _ _ (by
   rw[o];split
   ·exact nd
   ·rename_i j;rw[i9];exact⟨nd,by simp,λa q b r z=>j (by rw[aq.mp r]at z;rw[← z];exact q)⟩) (vQ d nd h λj=>by
    rw[f7];intro x p z;exact j ((l _).mpr ⟨x,p,by simpa using z⟩)) λk=>by
    have f :=l k;rw[o];simp only[aW,aq];split
    ·rename_i j;rw[f];constructor
     ·rintro⟨v,g,e⟩
      exact⟨v,.inl g,e⟩
     ·rintro⟨v,g | rfl,e⟩
      ·exact⟨v,g,e⟩
      ·exact f.mp (e ▸ j)
    ·rw[aW,aq,f];constructor
     ·rintro(⟨v,g,e⟩ | e)
      ·exact⟨v,.inl g,e⟩
      ·exact⟨w,.inr rfl,e.symm⟩
     ·rintro⟨v,g | rfl,e⟩
      ·exact .inl ⟨v,g,e⟩
      ·exact .inr e.symm
  rw[bi]at this;exact this
theorem vR (r:Ru)(x:T):wy [r] x=[kp r x]:=rfl
section
variable {k:Kd}{r:Ru}
theorem xJ {e:WE}(i:e∈j4 (wy [r]) k.all []):∃x xs,e.2=x :: xs/\k.has x=true/\e.1=[kp r x]/\(kp r x=false->e.2=br k r):=by
 obtain⟨j,f⟩:=WR _ [] [] (by simp) (by simp) (by simp)
 rw[bP]at j f;have a:=j e i;obtain⟨w,u,l⟩:=(f e.1).mp (aA.mpr ⟨e,i,rfl⟩);have g:w∈e.2:=by rw[a];exact bA.mpr ⟨u,by simpa using l⟩
 cases d:e.2 with
 | nil=>rw[d]at g;cases g
 | cons x xs=>
  have o:x∈k.all.filter λy=>wy [r] y=e.1:=by rw[← a,d];exact aa
  obtain⟨q,c⟩:=bA.mp o;have c:[kp r x]=e.1:=(show wy [r] x=e.1 by simpa using c)
  refine⟨x,xs,rfl,(ZU k x).mp q,c.symm,λp=> ?_⟩;rw[← d,a,← c,p];refine lW λy _=> ?_;rw[vR];cases kp r y <;> decide
theorem XU:[false]∈(j4 (wy [r]) k.all []).map (·.1)↔br k r ≠ []:=by
 obtain⟨_,a⟩:=WR _ [] [] (by simp) (by simp) (by simp)
 rw[a];constructor
 ·rintro⟨w,c,e⟩ z
  have:=jo.mpr ⟨(ZU k w).mp c,by rw[vR]at e;simpa using e⟩
  rw[z]at this;cases this
 ·intro h;cases e:br k r with
  | nil=>exact absurd e h
  | cons x xs=>
   have:=jo.mp (by rw[e];exact aa)
   exact⟨x,(ZU k x).mpr this.1,by rw[vR,this.2]⟩
def pF:T->Bool
 | .tup (.tup [.bl b] :: _)=> !b
 | _=>false
noncomputable def gF:T->Int
 | .tup [_,.int n,_]=>n
 | _=>0
theorem XV {N:Int}:∀a:List WE,(a.map (·.1)).Nodup->(∀e∈a,∃b,e.1=[b]/\(b=false->(e.2.length:Int)=N))->(((a.map (tl k)).filter pF).map gF).sum=if [false]∈a.map (·.1) then N else 0
 | [],_,_=>by simp
 | e :: a,nd,h=>by
  rw[ar,cK]at nd;obtain⟨b,c,j⟩:=h e aa;have f:=XV a nd.2 λe g=>h e (a9 _ g);have i:pF (tl k e)= !b:=by unfold tl;rw[c];rfl
  rw[ar,ce,i,ar];cases b with
  | false=>
   rw[c]at nd;rw[if_neg nd.1]at f;rw[if_pos (by decide),ar,cg,f,if_pos (by rw[c];exact aa),← j rfl]
   exact Int.add_zero _
  | true=>
   rw[if_neg (by decide),f,c]
   by_cases d:[false]∈a.map (·.1)
   ·rw[if_pos d,if_pos (a9 _ d)]
   ·rw[if_neg d,if_neg (by rw[ak,not_or];exact⟨by decide,d⟩)]
theorem xK {a b:List Int}(h:a.Perm b):a.sum=b.sum:=by
 induction h with
 | nil=>rfl
 | cons x _ c=>rw[cg,cg,c]
 | swap x y l=>simp only[cg];omega
 | trans _ _ i j=>exact i.trans j
theorem xL (nd:((j4 (wy [r]) k.all []).map (·.1)).Nodup):(((yR ((j4 (wy [r]) k.all []).map (tl k))).filter pF).map gF).sum=((br k r).length:Int):=by
 rw[xK (((jh _).filter pF).map gF),XV _ nd λe c=> ?_]
 ·split
  ·rfl
  ·rename_i h;rw[XU]at h;have:br k r=[]:=by
    cases e:br k r with
    | nil=>rfl
    | cons x xs=>exact absurd (λz=>by rw[e]at z;cases z) h
   rw[this];rfl
 ·obtain⟨x,xs,_,_,d,a⟩:=xJ c;exact⟨kp r x,d,λz=>by rw[a z]⟩
theorem gZ (w:T->Int):∀(ts:List T) (t:T),jg (λa b=>decide (a < b)) (w t) (ts.map w)=w (ZS (w t) t (ts.map w) ts)
 | [],t=>rfl
 | u :: ts,t=>by
  rw[ar,ZS,jg]
  by_cases h:w u < w t
  ·rw[if_pos h,if_pos (decide_eq_true h)];exact gZ w ts u
  ·rw[if_neg h,if_neg (by rw[decide_eq_false h];decide)];exact gZ w ts t
theorem Uf (w:T->Int):∀(ts:List T) (t:T),∃l,(t :: ts).filter (λx=>w x == w (ZS (w t) t (ts.map w) ts))=ZS (w t) t (ts.map w) ts :: l
 | [],t=>⟨[],by rw[ce,if_pos (by exact beq_self_eq_true _)];rfl⟩
 | u :: ts,t=>by
  rw[ar,ZS]
  by_cases h:w u < w t
  ·rw[if_pos h];obtain⟨l,e⟩:=Uf w ts u;have:=(jp w ts u).2 u aa;exact⟨l,by rw[ce,if_neg (by rw[beq_iff_eq];omega)];exact e⟩
  ·rw[if_neg h];obtain⟨l,e⟩:=Uf w ts t;have c:=(jp w ts t).2 t aa;generalize ZS _ t _ ts=b at*
   by_cases a:w t=w b
   ·rw[ce,if_pos (by rw[beq_iff_eq];exact a)]at e ⊢
    injection e with e1 e2;exact⟨_,by rw[e1]⟩
   ·rw[ce,if_neg (by rw[beq_iff_eq];exact a)]at e ⊢
    exact⟨l,by rw[ce,if_neg (by rw[beq_iff_eq];omega)];exact e⟩
theorem XW:∀(n:Nat) (x:T),∃l,nr k r n x=x :: l
 | 0,x=>⟨[],rfl⟩
 | n+1,x=>by unfold nr;split <;> exact⟨_,rfl⟩
theorem XX (c:k.Ok 3):∀(n:Nat) (x:T),k.has x=true->∀q∈(nr k r n x).zip (nr k r n x).tail,k.wt q.2 < k.wt q.1
 | 0,x,_,q,a=>by cases a
 | n+1,x,f,q,a=>by
  unfold nr at a;cases e:bl k r x with
  | nil=>rw[e]at a;cases a
  | cons y o=>
   rw[e]at a;obtain⟨i,_,g⟩:=uL c f (by rw[e];exact aa)
   have d:=XX c n y i;obtain⟨l,j⟩:=XW n y;dsimp only at a;rw[j]at d a;rcases ak.mp a with rfl | a
   ·exact g
   ·exact d q a
theorem yr (c:k.Ok 3):∀(n:Nat) (x:T),k.has x=true->k.wt x<=(n:Int)->∃l y,nr k r n x=l++[y]/\k.has y=true/\bl k r y=[]
 | 0,x,a,o=>by
  refine⟨[],x,rfl,a,fK.mpr λz hz=> ?_⟩;obtain⟨d,_,f⟩:=uL c a hz;have:=(oR 3 k c).pos z d;omega
 | n+1,x,a,o=>by
  unfold nr;cases e:bl k r x with
  | nil=>exact⟨[],x,rfl,a,e⟩
  | cons y p=>
   obtain⟨d,_,f⟩:=uL c a (by rw[e];exact aa)
   obtain⟨l,z,i,j,g⟩:=yr c n y d (by omega)
   exact⟨x :: l,z,by dsimp only;rw[i];rfl,j,g⟩
end
section
variable {ns:List Int}{k:Kd}{r s:Ru}{o:T}{a b c d e f g:Sl}
theorem G1 (acc:List T)(x:T):mS (acc++[x]) (-1)= .ok x:=by
 unfold mS;have:nw (acc++[x]) (-1)=some x:=by
  unfold nw oD;have e:(-1+((acc.length:Int)+1)).toNat=acc.length:=by omega
  have h:(1:Int)<=(acc.length)+1:=by omega
  simp[h,e]
 rw[this]
theorem v5:vE 5 (a :: b :: c :: d :: e :: .vl x :: l)= .ok x:=rfl
theorem w4:vB 4 (a :: b :: c :: d :: .vl x :: l)= .ok x:=rfl
theorem l5:mw Z6 (vB 5) (a :: b :: c :: d :: e :: .vl (.lst x) :: l)= .ok (.int (x.length:Int)):=rfl
theorem Ab (hr:ZK 3 r):∀q∈[r],ZK 3 q:=λq i=>by rw[aq.mp i];exact hr
theorem vS (i:k.Ok 3)(j:k.all.length<=500)(hr:ZK 3 r):J6 [k.t,.lst [r.t]]= .ok (.lst ((j4 (wy [r]) k.all []).map λe=>T.lst e.2)):=by
 have e:=(vO i j (Ab hr) (show 1<=1000 by decide)).1
 show BV ((pB [.lst ([r].map _)]).bind λ_=>zP [k.t,.lst ([r].map _)])=_;rw[jq .l (Ab hr) (show 1<=1000 by decide),e];rfl
abbrev e5 (ns:List Int)(k:Kd)(r s:Ru)(o:T)(l:List T)(a b c d e f g:Sl):En:=[.vl (mN ns),.vl k.t,.vl r.t,.vl s.t,.vl o,.vl (.lst l),a,b,c,d,e,f,g]
abbrev DZ:En->RS:=mD (jW (ZX (zb 2 (pH 8) (za (vE 2) (za (zd kj (vE 6) (cE (.int 0))) (ze)))))) (zC 5 (vE 6)) (mC)
theorem Ef (i:k.Ok 3)(hr:ZK 3 r){x:T}(j:k.has x=true):pH 8 [r.t,x]= .ok (.bl (kp r x)):=jy (by omega) (QD 2 k x i j) 8 3 (by omega) r hr
theorem Ug (C:k.Ok 3)(hr:ZK 3 r):∀(u:List WE) (a:Sl) (i:List T),(∀q∈u,∃x xs,q.2=x :: xs/\k.has x=true/\(kp r x=false->q.2=br k r))->∃v l,Zu (zw 6) DZ (u.map λe=>T.lst e.2) (e5 ns k r s o i a b c d e f g)= .nx (e5 ns k r s o l v b c d e f g)/\(l=i\/l=br k r)/\((∃q∈u,∃x xs,q.2=x :: xs/\kp r x=false)->l=br k r)
 | [],a,i,_=>⟨a,i,rfl,.inl rfl,λ⟨_,h,_⟩=>by cases h⟩
 | q :: u,a,i,h=>by
  obtain⟨x,xs,ex,J,N⟩:=h q aa;have w:jW (ZX (zb 2 (pH 8) (za (vE 2) (za (zd kj (vE 6) (cE (.int 0))) (ze))))) (e5 ns k r s o i (.vl (.lst q.2)) b c d e f g)= .ok (!kp r x):=by
   rw[Jv,j6,zt,v2,i3,rJ (by rw[ex];rfl),i3,Ef C hr J];rfl
  cases hp:kp r x with
  | true=>
   rw[hp]at w;obtain⟨v,l,D,F,M⟩:=Ug C hr u _ i λq G=>h q (a9 _ G);refine⟨v,l, ?_,F,λ⟨p,j,y,O,B,hy⟩=> ?_⟩
   ·rw[ar,ZI rfl (zj w)];exact D
   ·rcases ak.mp j with rfl | j
    ·rw[ex]at B;injection B with z;rw[← z,hp]at hy;cases hy
    ·exact M ⟨p,j,y,O,B,hy⟩
  | false=>
   rw[hp]at w;obtain⟨v,l,D,F,_⟩:=Ug C hr u _ q.2 λq G=>h q (a9 _ G);have I:=F.elim (λz=>z.trans (N hp)) id;refine⟨v,l, ?_,.inr I,λ_=>I⟩;rw[ar,ZI (ρ2:=e5 ns k r s o q.2 _ b c d e f g) rfl ((jF w).trans rfl)];exact D
theorem Md (w:k.Ok 3)(F:k.all.length<=500)(hr:ZK 3 r):∃j,ZD (Z5 (zb 2 J6 (za (vE 1) (za (Zc (za (vE 2) (ze))) (ze))))) (zw 6) DZ (e5 ns k r s o [] a b c d e f g)= .nx (e5 ns k r s o (br k r) j b c d e f g):=by
 obtain⟨j,l,B,I,y⟩:=Ug w hr _ a [] λq i=>by
  obtain⟨x,xs,u,p,_,C⟩:=xJ i;exact⟨x,xs,u,p,C⟩
 have G:l=br k r:=by
  by_cases v:br k r=[]
  ·rcases I with z | z
   ·rw[z,v]
   ·exact z
  ·refine y ?_;obtain⟨q,i,e⟩:=aA.mp (XU.mpr v);obtain⟨x,xs,u,_,p,_⟩:=xJ i;exact⟨q,i,x,xs,u,by rw[p]at e;simpa using e⟩
 refine⟨j, ?_⟩;have D:Z5 (zb 2 J6 (za (vE 1) (za (Zc (za (vE 2) (ze))) (ze)))) (e5 ns k r s o [] a b c d e f g)= .ok ((j4 (wy [r]) k.all []).map λe=>T.lst e.2):=by
  rw[Zs,zt,v1,i3,V2 v2,i3,vS w F hr];rfl
 unfold ZD;rw[D,← G];exact B
theorem sS (i:k.Ok 3)(h:lb k r=some x):W 2 x:=QD 2 k x i (Ue h).1
theorem vT:lb k r=none↔br k r=[]:=by
 unfold lb;cases br k r with
 | nil=>exact⟨λ_=>rfl,λ_=>rfl⟩
 | cons t ts=>exact⟨λz=>(nomatch z),λz=>(nomatch z)⟩
theorem XY (j:k.Ok 3):uU (oT (lb k r)) .non= .ok (br k r).isEmpty:=by
 cases e:lb k r with
 | none=>rw[vT.mp e];rfl
 | some x=>
  have hn:(br k r).isEmpty=false:=by
   cases i:br k r with
   | nil=>rw[vT.mpr i]at e;cases e
   | cons _ _=>rfl
  rw[hn];cases sS j e <;> rfl
theorem vU (i:k.Ok 3):jV (oT (lb k r)) .non= .ok !(br k r).isEmpty:=by
 show (uU _ _).bind _=_;rw[XY i];rfl
theorem Et (i:k.Ok 3):Pl 30 (oT (lb k r)):=by
 cases e:lb k r with
 | none=>trivial
 | some x=>exact(sS i e).pl30 (am 2)
theorem IF (i:k.Ok 3):zp mW (ZL uU (vB 4) (cE .non)) (ZL my (vB 5) (Zc (ze))) (e5 ns k r s (oT (lb k r)) (br k r) a b c d e f g)= .ok false:=by
 rw[zB,Ze,w4,i3,zW,i3,XY i,i3];cases br k r <;> rfl
theorem EH (j:k.Ok 3)(p:k.all.length<=40)(hr:ZK 3 r):zp mW (mw Z6 (vB 5)) (mw qh (zA (Z5 (zb 2 sk (za (vE 1) (za (Zc (za (vE 2) (ze))) (ze))))) (zw 0) (zp my (zd kj (vE 0) (cE (.int 0))) (Za (za (cE (.bl false)) (ze)))) (zd kj (vE 0) (cE (.int 1))) 1 [])) (e5 ns k r s o (br k r) a b c d e f g)= .ok false:=by
 have y:mF=16777216:=rfl;obtain⟨w,B,_⟩:=xI j p (Ab hr) (show 1<=1000 by decide)
 have i:=(vO j (by omega) (Ab hr) (show 1<=1000 by decide)).2
 rw[zB,l5,i3,Z8,zJ,Zs,zt,v1,i3,V2 v2,i3,show sk [k.t,.lst [r.t]]=_ from w];show ((((zq _ _ _ _ _ _ _).bind _).bind _).bind _)=_;have l:zq (zw 0) (zp my (zd kj (vE 0) (cE (.int 0))) (Za (za (cE (.bl false)) (ze)))) (zd kj (vE 0) (cE (.int 1))) 1 [] (e5 ns k r s o (br k r) a b c d e f g) (yR ((j4 (wy [r]) k.all []).map (tl k)))= .ok (((yR ((j4 (wy [r]) k.all []).map (tl k))).filter pF).map λt=> .int (gF t)):=by
  unfold zq;rw[if_pos (by rw[(jh _).length_eq,ae];have:=i.len;omega),Zq _ _ λt q=> ?_]
  ·rfl
  ·obtain⟨e,u,rfl⟩:=aA.mp ((jh _).mem_iff.mp q);obtain⟨x,xs,_,_,v,_⟩:=xJ u;unfold tl;rw[v];cases kp r x <;> exact⟨rfl,λ_=>rfl⟩
 rw[l,i3,i3,vx,i3,xL i.nd];exact Ua trivial
abbrev D3:En->RS:=mD (zp jV (vB 4) (cE .non)) (zn (zC 7 (mw Kq (zA (Z5 (vE 5)) (zw 0) (zV) (zb 2 oF (za (vE 1) (za (vE 0) (ze)))) 1 [1])))
  (mD (zp mW (vB 4) (zd kj (zA (Z5 (vE 5)) (zw 0) (zp my (zb 2 oF (za (vE 1) (za (vE 0) (ze)))) (vB 2)) (vE 0) 1 [1,7]) (cE (.int 0)))) (zr (cE (.bl false))) (mC))) (mC)
theorem Lo (i:k.all.length<=40):(br k r).length<=40:=av (fj _ _) i
theorem HG (q:k.Ok 3)(F:k.all.length<=40):∃C,D3 (e5 ns k r s (oT (lb k r)) (br k r) a b c d e f g)= .nx (e5 ns k r s (oT (lb k r)) (br k r) a C c d e f g):=by
 have G:mF=16777216:=rfl;have B:=Lo (r:=r) F;have hi:zp jV (vB 4) (cE _) (e5 ns k r s (oT (lb k r)) (br k r) a b c d e f g)= .ok _:=vU q;cases j:br k r with
 | nil=>rw[j]at hi;exact⟨b,by rw[← j]at hi ⊢;exact zj (by rw[hi,j];rfl)⟩
 | cons t ts=>
  have v:∀x∈t :: ts,k.has x=true:=λx p=>(jo.mp (j ▸ p)).1;have D:oT (lb k r)=ZS (k.wt t) t (ts.map k.wt) ts:=by unfold lb;rw[j];rfl
  rw[j]at hi B;obtain⟨l,w⟩:=Uf _ ts t;have u:=gZ k.wt ts t;have pl:=Et (r:=r) q;rw[D]at hi pl ⊢;generalize ZS _ t _ ts=y at*;refine⟨.vl (.int (k.wt y)), ?_⟩;unfold D3;rw[jF hi,zc ?e1,zj ?e2]
  case e1=>
   rw[zE]
   ·rfl
   ·show (((zq _ _ _ _ _ _ _).bind _).bind _)=_;rw[zK (h:=λx=> .int _) _ (by omega) λx p=> ?_,i3]
    ·show (match Z2 ((t :: ts).map λx=>T.int _) with | some (i :: l)=>R.ok (T.int (jg (λa b=>decide _) i l)) | _=> .bad)=_
     rw[WN];exact congrArg (λz=>R.ok _) u
    ·show zb 2 _ _ (mG x k.t)=_;rw[zt,v1,i3,v0,i3,jn q (v x p)]
  case e2=>
   rw[zB,w4,i3,rJ ?_,i3,Ua pl];show ((zq _ _ _ _ _ _ _).bind _)=_;rw[Z4 _ (by omega) λx p=>⟨?_,rfl⟩,i3,w]
   show zp my _ _ [.vl x,.vl k.t,.vl _]=_;rw[zB,zt,v1,i3,v0,i3,jn q (v x p)];rfl
end
section
variable {ns:List Int}{k:Kd}{r s:Ru}{o:T}{a b c d e f g:Sl}
abbrev dB:En->RS:=zn (zC 9 (zd kj (vE 5) (zb 3 nk (za (vE 0) (za (zd zv (cE (.int 100)) (vE 8)) (za (mw Z6 (vB 5)) (ze)))))))
  (zn (zC 10 (zb 3 rP (za (vE 1) (za (vE 9) (za (vE 2) (ze))))))
  (zn (mD (nz (zp mW (zd kj (vE 10) (cE (.int 0))) (vB 9)) (zp mW (zA (Z5 (vE 10)) (zw 0) (zp Y8 (vB 0) (vB 1)) (cE (.int 1)) 1 [5]) (Zc (ze)))) (zr (cE (.bl false))) (mC))
  (zn (zC 11 (zA (Z5 (vE 10)) (zw 0) (zV) (zb 2 oF (za (vE 1) (za (vE 0) (ze)))) 1 [1]))
  (zn (mD (zp mW (zA (Yb (vE 11) (nj (vE 11) (Zj (cE (.int 1))) (np))) (zN 0 1) (zp ox (vB 1) (vB 0)) (cE (.int 1)) 2 []) (Zc (ze))) (zr (cE (.bl false))) (mC))
  (mD (zp mW (zA (Z5 (zb 2 AO (za (vE 1) (za (zd kj (vE 10) (YG (cE (.int 1)))) (ze))))) (zw 0) (jW (ZX (zb 2 (pH 8) (za (vE 1) (za (vE 0) (ze)))))) (vE 0) 1 [2]) (Zc (ze))) (zr (cE (.bl false))) (mC))))))
theorem vV:∀(qs:List (T×T)) (x y:Sl),(∀q∈qs,k.wt q.2 < k.wt q.1)->zx (zN 0 1) (zp ox (vB 1) (vB 0)) (cE (.int 1)) (qs.map λq=>T.tup [.int (k.wt q.1),.int (k.wt q.2)]) [x,y]= .ok []
 | [],_,_,_=>rfl
 | q :: qs,x,y,h=>by
  have:=h q aa;show (if decide _=true then _ else zx _ _ _ (qs.map λq=>T.tup _) _)=_
  rw[if_neg (by rw[decide_eq_true_eq];omega)]
  exact vV qs _ _ λq i=>h q (a9 _ i)
theorem E4 (L:List T):yG (L.map λx=>T.int (k.wt x)) ((L.map λx=>T.int (k.wt x)).drop 1)=(L.zip L.tail).map λq=>T.tup [.int (k.wt q.1),.int (k.wt q.2)]:=by
 unfold yG;rw[← List.map_drop,List.drop_one,List.zip_map,aZ];rfl
theorem EC (j:k.Ok 3)(h4:k.all.length<=40)(hr:ZK 3 r)(i:Nat)(hi:i < (br k r).length):∃I M G,dB (e5 ns k r s o (br k r) a b (.vl (.int (i:Int))) d e f g)= .nx (e5 ns k r s o (br k r) a b (.vl (.int (i:Int))) I M G g):=by
 have Z:mF=16777216:=rfl;obtain⟨p,hp,Q,P⟩:=zO ns (100+(i:Int)) ((br k r).length) (by omega) (by omega)
 obtain⟨x,J,N⟩:=F1 Q P;obtain⟨q,v⟩:=jo.mp N;obtain⟨w1,w2⟩:=sj j q;have X:=vJ (k:=k) (r:=r) (k.wt x).toNat x;have D:=vI (r:=r) j (k.wt x).toNat x q v;have hd:=XX (r:=r) j (k.wt x).toNat x q;obtain⟨U,y,hy,l,C⟩:=yr (r:=r) j (k.wt x).toNat x q (by omega)
 obtain⟨S,B⟩:=XW (k:=k) (r:=r) (k.wt x).toNat x;have w:=Lw j hr q v;have F:ch k r x=nr k r (k.wt x).toNat x:=rfl;rw[F]at w;generalize nr k r (k.wt x).toNat x=L at*;refine⟨.vl x,.vl (.lst L),.vl (.lst (L.map λz=> .int (k.wt z))), ?_⟩;unfold dB;rw[zc (ρ' :=e5 ns k r s o (br k r) a b _ (.vl x) e f g) ?s1,zc (ρ' :=e5 ns k r s o (br k r) a b _ (.vl x) (.vl (.lst L)) f g) ?s2,zc (zj ?s3),zc ?s4,zc (zj ?s5),zj ?s6]
 case s1=>
  rw[zE]
  ·rfl
  ·rw[zh,v5,i3,Zb,v0,i3,show zd _ _ _ _= .ok _ from rfl,i3,l5,i3,hp,i3,J]
 case s2=>
  rw[zE]
  ·rfl
  ·exact w
 case s3=>
  rw[U2,zB,rJ (by rw[← B];rfl)]
  show (((mW x x).bind _))=_;rw[Ua ((QD 2 k x j q).pl30 (am 2)),zB];show (((zq _ _ _ _ _ _ L).bind _).bind _)=_;unfold zq;rw[if_pos (by omega),Zq (p:=λ_=>false) L _ λt u=>⟨?_,λ_=>rfl⟩]
  ·rw[f7.mpr λ_ _=>by decide];rfl
  ·exact Fz (QD 2 k t j (D t u).1) (λy hy=>QD 2 k y j (jo.mp hy).1) ⟨λ_=>jo.mpr (D t u),λ_=>rfl⟩
 case s4=>
  rw[zE]
  ·rfl
  ·show ((zq _ _ _ _ _ _ L).bind _)=_;rw[zK L (by omega) λt u=> ?_,i3]
   show zb 2 _ _ (mG t k.t)=_;rw[zt,v1,i3,v0,i3,jn j (D t u).1]
 case s5=>
  show ((R.ok (yG (L.map λz=>T.int _) (nJ (L.map λz=>T.int _) (some ((1:Nat))) _))).bind _).bind _=_;rw[QK,E4,i3];unfold zq;rw[if_pos (by rw[ae,dE];omega)]
  show ((quiet (zx _ _ _ _ [.un,.un])).bind _).bind _=_;rw[vV _ _ _ hd];rfl
 case s6=>
  have O:=j0 (by omega) j l
  rw[zB,zJ,Zs,zt,v1];show (((((mS L _).bind _).bind _).bind _).bind _)=_;rw[hy,G1,i3,vG j l];show (((zq _ _ _ _ _ _ _).bind _).bind _)=_;rw[Z4 _ (by omega) λt u=>⟨?_,rfl⟩,i3]
  ·rw[show (k.less y).filter (λz=> !(kp r z))=[] from C];rfl
  ·show jW _ [.vl t,.vl r.t]=_;rw[Jv,j6,zt,v1,i3,v0,i3,Ef j hr ((oR 3 k j).dn y t l u).1];rfl
theorem XZ (q:k.Ok 3)(p:k.all.length<=40)(hr:ZK 3 r):∀(l:List Nat) (c d e f:Sl),(∀i∈l,i < (br k r).length)->∃M I N B,Zu (zw 8) dB (l.map λ(i:Nat)=>T.int (i:Int)) (e5 ns k r s o (br k r) a b c d e f g)= .nx (e5 ns k r s o (br k r) a b M I N B g)
 | [],c,d,e,f,_=>⟨c,d,e,f,rfl⟩
 | i :: l,c,d,e,f,h=>by
  obtain⟨w,y,u,J⟩:=EC q p hr i (h i aa);obtain⟨F,D,G,x,v⟩:=XZ q p hr l _ w y u λj C=>h j (a9 _ C);exact⟨F,D,G,x,by rw[ar,ZI rfl J,v]⟩
theorem FD (v:k.Ok 3)(u:k.all.length<=40)(hr:ZK 3 r):∃p j q l,ZD (Zi (zd wH (cE (.int 3)) (mw Z6 (vB 5)))) (zw 8) dB (e5 ns k r s o (br k r) a b c d e f g)= .nx (e5 ns k r s o (br k r) a b p j q l g):=by
 obtain⟨p,j,q,l,h⟩:=XZ v u hr (aN (min 3 (br k r).length)) c d e f λi hi=>by have:=aT.mp hi;omega
 refine⟨p,j,q,l, ?_⟩;have w:Zi (zd wH (cE (.int 3)) (mw Z6 (vB 5))) (e5 ns k r s o (br k r) a b c d e f g)= .ok (rng 0 (min 3 (br k r).length)):=by
  have:zd wH (cE (.int 3)) (mw Z6 (vB 5)) (e5 ns k r s o (br k r) a b c d e f g)= .ok (.int ((min 3 (br k r).length:Nat))):=by
   show R.ok _=_;split <;> exact congrArg (λz=>R.ok _) (by omega)
  rw[WD this (by omega),b9]
 unfold ZD;rw[w,Ei];exact h
theorem Y6 (i:k.Ok 3)(l:k.all.length<=500)(hr:ZK 3 r):Cd [k.t,r.t]= .ok (.lst (fl k r)):=by
 have p:mF=16777216:=rfl;show zk (AA _ _ _ (mG k.t r.t))=_;unfold AA;rw[zc (ZJ (by rw[zI,v1,i3,ZQ hr])),Jl]
 show zA _ _ _ _ _ _ (mG k.t r.t)=_;rw[zJ,Zs,zI,v0,i3,j2 i l];show ((zq _ _ _ _ _ _ _).bind _)=_;rw[Z4 _ (by omega) λt j=>⟨?_,rfl⟩,i3]
 show ZX _ (mG t r.t)=_;rw[j6,zt,v1,i3,v0,i3,ZE (xA i j) hr];rfl
theorem Y7 (l:k.Ok 3)(i:k.all.length<=500)(hr:ZK 3 r)(u:ZK 3 s):Gf [k.t,r.t,s.t]= .ok (.bl (imp k r s)):=by
 have hn:pB [.tup [r.t,s.t]]= .ok _:=jq .t (rs:=[r,s]) (λq j=>by
  simp only[ak,bR,or_false]at j;rcases j with rfl | rfl <;> assumption) (show 2<=1000 by decide)
 show zk (AQ _ _ _ [.vl k.t,.vl r.t,.vl s.t])=_;have v:zq _ _ (zb 2 (n5 8) (za (vE 1) (za (vE 0) _))) 1 [2] [.vl k.t,.vl r.t,.vl s.t] _= .ok ((fl k r).map λt=> .bl _):=
  zK _ (Im k r i) λt p=>by
   show zb 2 _ _ (mG t s.t)=_;rw[zt,v1,i3,v0,i3,ZE (CG l r t p) u]
 rw[AQ,zc (ZJ (by rw[zI,UO v1 v2,i3,hn])),Jl]
 show mw _ _ [.vl k.t,.vl r.t,.vl s.t]=_;rw[Z8,zJ,Zs,zt,v0,i3,v1,i3,Y6 l i hr];show (((zq _ _ _ _ _ _ _).bind _).bind _)=_;rw[v,i3];show (match WT _ with | some k=>R.ok _ | none=> .bad)=_
 rw[J7];rfl
end
section
theorem IS (h:imp k r s=true)(hy:lb k s=some y):∃x,lb k r=some x/\k.has x=true/\k.has y=true/\k.wt x<=k.wt y:=by
 obtain⟨a,d,_⟩:=Ue hy;have c:kp r y=false:=by
  cases e:kp r y with
  | false=>rfl
  | true=>rw[gH.mp h y ((ZU k y).mpr a) e]at d;cases d
 cases e:lb k r with
 | none=>rw[gY.mp e y a]at c;cases c
 | some x=>
  obtain⟨g,_,f⟩:=Ue e;exact⟨x,rfl,g,a,f y a c⟩
abbrev iB:En->RS:=mD (X0 (ZX (zb 3 Gf (za (vE 1) (za (vE 2) (za (vE 3) (ze)))))) (zp jV (vB 12) (cE .non))) (mD (nz (zp uU (vB 4) (cE .non)) (zp nv (zb 2 oF (za (vE 1) (za (vE 4) (ze)))) (zb 2 oF (za (vE 1) (za (vE 12) (ze)))))) (zr (cE (.bl false))) (mC)) (mC)
theorem Ce (i:k.Ok 3)(B:k.all.length<=40)(hr:ZK 3 r)(w:ZK 3 s):iB (e5 ns k r s (oT (lb k r)) l a b c d e f (.vl (oT (lb k s))))= .nx (e5 ns k r s (oT (lb k r)) l a b c d e f (.vl (oT (lb k s)))):=by
 have u:ZX (zb 3 Gf (za (vE 1) (za (vE 2) (za (vE 3) (ze))))) (e5 ns k r s (oT (lb k r)) l a b c d e f (.vl (oT (lb k s))))= .ok (imp k r s):=by
  rw[j6,Zb,v1,i3,v2,i3,v3,i3,Y7 i (by omega) hr w,i3,UL]
 have v:zp jV (vB 12) (cE _) (e5 ns k r s (oT (lb k r)) l a b c d e f (.vl (oT (lb k s))))= .ok _:=vU i;have g:X0 (ZX (zb 3 Gf (za (vE 1) (za (vE 2) (za (vE 3) (ze)))))) (zp jV (vB 12) (cE .non)) (e5 ns k r s (oT (lb k r)) l a b c d e f (.vl (oT (lb k s))))= .ok (imp k r s && !(br k s).isEmpty):=by
  rw[Qa,u];cases imp k r s with
  | false=>rfl
  | true=>exact v
 cases hi:imp k r s with
 | false=>rw[hi]at g;exact zj g
 | true=>
  rw[hi]at g;cases j:br k s with
  | nil=>rw[j]at g;exact zj g
  | cons t ts=>
   rw[j]at g;cases o:lb k s with
   | none=>rw[vT.mp o]at j;cases j
   | some y=>
    rw[o]at g;obtain⟨x,ex,p,hy,C⟩:=IS hi o;rw[ex]at g ⊢;refine(jF g).trans (zj ?_);have q:zp uU (vB 4) (cE .non) (e5 ns k r s x l a b c d e f (.vl y))= .ok false:=by
     cases QD 2 k x i p <;> rfl
    show nz _ _ (e5 ns k r s x l a b c d e f (.vl y))=_;rw[U2,q,i3,zB,zt,v1,i3,show vE 4 _=R.ok x from rfl,i3,jn i p,i3,zt,v1,i3,show vE 12 _=R.ok y from rfl,i3,jn i hy];show R.ok _=_;rw[decide_eq_false (by omega)]
end
theorem law_ok (c:List Int)(h:c.length<=63):oV [.fz (c.map T.int)]= .ok (.bl true):=by
 obtain⟨k,a,G,y⟩:=xq c 0 (by omega) 40 (by omega)
 obtain⟨r,F,e⟩:=JL c 8 2 (by omega) (by omega) 3000 (by omega)
 obtain⟨s,q,D⟩:=JL c 8 2 (by omega) (by omega) 3200 (by omega)
 have hr:=e.up;have d :=D.up;have C:=WP a (by omega) hr
 have u:=WP a (by omega) d
 have i:=WP a (by omega) (ZK.all e e)
 have f:lb k (.all r r)=lb k r:=by
  have:br k (.all r r)=br k r:=lW λx _=>by rw[kp,Bool.and_self]
  unfold lb;rw[this]
 rw[f]at i;show zk (AF _ _ _ _ _ _ _ _ _ rP _ [.vl _,.un,.un,.un,.un,.un,.un,.un,.un,.un,.un,.un,.un])=_;unfold AF;rw[zc (ρ' :=[.vl _,.vl k.t,.un,.un,.un,.un,.un,.un,.un,.un,.un,.un,.un]) ?e0]
 case e0=>
  rw[zE]
  ·rfl
  ·rw[Zb,v0,zW,i3,zW,i3];exact y
 rw[zc (ρ' :=[.vl _,.vl k.t,.vl r.t,.vl s.t,.un,.un,.un,.un,.un,.un,.un,.un,.un]) ?e1]
 case e1=>
  unfold rX;rw[UO (by exact F) (by exact q)]
  rfl
 rw[zc (ρ' :=e5 c k r s _ [] .un .un .un .un .un .un .un) ?e2]
 case e2=>
  unfold rX;rw[UO (by rw[zt,v1,i3,v2,i3,C]) rfl]
  rfl
 obtain⟨p,w⟩:=Md a (by omega) hr
 rw[zc w,zc (zj (IF a)),zc (zj (EH a (by omega) hr))]
 obtain⟨o,B⟩:=HG a (by omega)
 rw[zc B];obtain⟨l,j,e1,g,v⟩:=FD a (by omega) hr
 rw[zc v,zc (ρ' :=e5 c k r s _ _ p o l j e1 g _) ?e3]
 case e3=>
  rw[zE]
  ·rfl
  ·rw[zt,v1,i3,v3,i3,u]
 rw[zc (Ce a (by omega) hr d),Jl]
 show ZL my _ _ [.vl _,.vl k.t,.vl r.t,.vl s.t,.vl _,.vl _,X2 p,X2 o,X2 l,X2 j,X2 e1,X2 g,.vl _]=_;refine Io ?_ rfl (Et a);rw[zt,v1,i3,KW rfl rfl rfl,i3];exact i
end G
namespace G
open PySem PySem.Spec PyProof.Rows L2 PV
noncomputable def mI (i:Nat):Stmt:=PySem.Challenge.pw_worthkinds_k54_whole_least_and_tallies.main.body.getD i (.Pass ⟨0,0,0,0⟩)
set_option genInjectivity false in
set_option genSizeOf false in
structure Tx (K:ai) (mg:Str->Option Value):Prop where
 C_1o:FE K mg "_law_cell" (mI 79) ["_law_script","_law_k"]
 C_3:FE K mg "_law_pick" (mI 80) ["_law_script","_law_k","_law_many"]
 C_15:FE K mg "_law_word_of" (mI 81) ["_law_script","_law_at"]
 C_18:FE K mg "_law_leaf_kind" (mI 82) ["_law_script","_law_at"]
 C_l:FE K mg "_law_kind" (mI 83) ["_law_script","_law_at","_law_deep"]
 C_m:FE K mg "_law_rows_of" (mI 85) ["_law_lists"]
 C_8:FE K mg "_law_all" (mI 84) ["_law_kind_here"]
 C_i:FE K mg "_law_size" (mI 86) ["_law_kind_here"]
 C_1h:FE K mg "_law_small" (mI 87) ["_law_script","_law_at","_law_most"]
 C_p:FE K mg "_law_rule" (mI 88) ["_law_script","_law_at","_law_deep"]
 C_f:FE K mg "is_whole" (mI 12) ["thing"]
 C_1j:FE K mg "is_bound" (mI 50) ["thing"]
 C_z:FE K mg "is_word" (mI 14) ["thing"]
 C_r:FE K mg "is_rule_within" (mI 49) ["thing","levels"]
 C_d:FE K mg "is_rule" (mI 45) ["thing"]
 C_6:FE K mg "need_rule" (mI 47) ["rule"]
 C_1r:FE K mg "is_span" (mI 15) ["low","high","least","most"]
 C_h:FE K mg "is_tuple_of" (mI 13) ["thing","least","most"]
 C_1c:FE K mg "is_choice" (mI 18) ["thing"]
 C_1a:FE K mg "are_choices" (mI 17) ["thing"]
 C_b:FE K mg "is_kind_within" (mI 16) ["thing","levels"]
 C_1z:FE K mg "are_kinds_within" (mI 19) ["thing","levels"]
 C_5:FE K mg "is_kind" (mI 8) ["thing"]
 C_10:FE K mg "need_kind" (mI 10) ["kind"]
 C_2:FE K mg "count_of" (mI 26) ["kind"]
 C_13:FE K mg "count_of_parts" (mI 27) ["kinds"]
 C_v:FE K mg "count_shorter" (mI 28) ["kind","length"]
 C_c:FE K mg "words_of_pick" (mI 20) ["kind"]
 C_k:FE K mg "worth_at" (mI 29) ["kind","number"]
 C_1y:FE K mg "many_at" (mI 30) ["kind","number"]
 C_16:FE K mg "parts_at" (mI 31) ["kinds","number"]
 C_w:FE K mg "all_worths" (mI 25) ["kind"]
 C_o:FE K mg "leaves_of" (mI 54) ["worth"]
 C_1i:FE K mg "numbers_in" (mI 55) ["worth"]
 C_1q:FE K mg "parts_of" (mI 53) ["worth"]
 C_1u:FE K mg "are_rising" (mI 56) ["numbers"]
 C_1v:FE K mg "are_unlike" (mI 57) ["parts"]
 C_19:FE K mg "is_single_kept" (mI 52) ["rule","worth"]
 C_4:FE K mg "is_kept" (mI 51) ["rule","worth"]
 C_s:FE K mg "nearest_to_nought" (mI 65) ["kind"]
 C_7:FE K mg "weight_within" (mI 70) ["kind","worth"]
 C_12:FE K mg "weight_of_parts" (mI 71) ["kinds","parts"]
 C_1g:FE K mg "least_breaking" (mI 62) ["kind","rule"]
 C_x:FE K mg "need_rules" (mI 48) ["rules"]
 C_20:FE K mg "way_of" (mI 77) ["rules","worth"]
 C_worths_by_ways:FE K mg "worths_by_ways" (mI 76) ["kind","rules"]
 C_parted:FE K mg "parted" (mI 75) ["kind","rules"]
 C_q:FE K mg "_law_leaves" (mI 89) ["_law_worth"]
 C_a:FE K mg "_law_keeps" (mI 90) ["_law_rule_here","_law_worth"]
 C_1f:FE K mg "greatest_divisor" (mI 34) ["one","other"]
 C_u:FE K mg "fraction" (mI 33) ["up","down"]
 C_1l:FE K mg "plus" (mI 36) ["one","other"]
 C_n:FE K mg "together" (mI 37) ["fractions"]
 C_1n:FE K mg "share_of_word" (mI 40) ["kind","word"]
 C_y:FE K mg "times" (mI 35) ["one","other"]
 C_j:FE K mg "share_within" (mI 39) ["kind","worth"]
 C_1t:FE K mg "share_of_parts" (mI 41) ["kinds","parts"]
 C_1m:FE K mg "shares_together" (mI 38) ["kind","worths"]
 C_11:FE K mg "tally" (mI 74) ["kind","rules"]
 C_g:FE K mg "has_worth" (mI 21) ["kind","thing"]
 C_1w:FE K mg "have_parts" (mI 22) ["kinds","parts"]
 C_1p:FE K mg "is_worth" (mI 9) ["kind","thing"]
 C_t:FE K mg "need_worth" (mI 11) ["kind","worth"]
 C_1:FE K mg "weight" (mI 60) ["kind","worth"]
 C_1b:FE K mg "number_less" (mI 66) ["kind","number"]
 C_1d:FE K mg "word_less" (mI 67) ["kind","word"]
 C_9:FE K mg "shorter" (mI 68) ["kind","worth"]
 C_e:FE K mg "one_step_less" (mI 64) ["kind","worth"]
 C_1x:FE K mg "parts_less" (mI 69) ["kinds","parts"]
 C_14:FE K mg "breaking_less" (mI 63) ["kind","worth","rule"]
 C_1e:FE K mg "led_down" (mI 61) ["kind","worth","rule"]
 C_1k:FE K mg "lesser" (mI 59) ["kind","worth"]
 C_1s:FE K mg "keepers" (mI 46) ["kind","rule"]
 C_17:FE K mg "implies" (mI 73) ["kind","one","other"]
 C_0:FE K mg "law" (mI 91) ["_law_script"]
 z:∀x,(["abs","all","any","bool","dict","enumerate","int","isinstance","len","list","max","min","range","reversed","set","sorted","str","sum","tuple","zip"]:List Str).contains x=true->mg x=none
 c_DEEPEST:∃u,mg "DEEPEST"=some u/\∃t,u=Value.int 3 t
 c_DEEPEST_RULE:∃u,mg "DEEPEST_RULE"=some u/\∃t,u=Value.int 3 t
 c_FARTHEST_BOUND:∃u,mg "FARTHEST_BOUND"=some u/\∃t,u=Value.int 50 t
 c_MOST_TOLD:∃u,mg "MOST_TOLD"=some u/\∃t,u=Value.int 500 t
section
variable {Z:Zz}{Pt:Addr}(tx:Tx Z.K Z.mg)
include tx
set_option hygiene false
local macro_rules | `(tactic| gp_on)=> `(tactic| first
  | (show Up _ _ _ _;first
   | refine GT ?_ ?_
   | exact L4)
  | (show Snd _ _ (.Name ..) _;first
   | exact Fq _ (pv _)
   | exact tx.c_FARTHEST_BOUND.elim λ_ h=>Wi (by rfl) h.1 h.2
   | exact tx.c_DEEPEST_RULE.elim λ_ h=>Wi (by rfl) h.1 h.2
   | exact tx.c_DEEPEST.elim λ_ h=>Wi (by rfl) h.1 h.2
   | exact tx.c_MOST_TOLD.elim λ_ h=>Wi (by rfl) h.1 h.2)
  | (show Snd _ _ (.Constant ..) _;first
   | exact Iq
   | exact HE
   | exact Dc
   | exact FP)
  | (show We _ _ _ _;first
   | refine LL ?_ ?_
   | exact Hu
   | refine xa (by assumption) hr nd (by rfl) (.inl (by rfl)) ?_ (EA hy (by kernel_rfl) (by kernel_rfl) (by rfl) ?_ (λ_ hy _ _ _ _ _ _=> ?_) (λ_ hy _ _ _ _ _ _ _ hp=> ?_)) (pv _) (tx.z _ (by kernel_rfl))
   | refine L3 ?_)
  | (show jz _ _ _ _;first
   | exact GS _ (pv _)
   | refine Snd.b ?_)
  | (show Wd _ _ _ _;first
   | refine FK ?_
   | refine HA ?_ ?_ ?_
   | refine DY nd (by rfl) (.inl (by rfl)) ?_
   | refine Ex fT (by rfl) ?_ ?_ ?_
   | refine F0 ?_
   | refine Lx nd (by rfl) (.inl (by rfl)) ?_
   | refine Lk (Dy hy (by kernel_rfl) (by kernel_rfl) (by rfl) ?_ (λ_ hy _ _ _ _ _ _=> ?_) (λ_ hy _ _ _ _ _ _ _ hp=> ?_)) nd (by rfl) (.inl (by rfl)) (by rfl)
   | exact IJ
   | refine DY nd (by rfl) (.inr (by rfl)) ?_
   | refine HY (pv _) ?_
   | refine Fg (pv _) ?_
   | refine YT (n:=_) fT ?_ ?_
   | refine Ex PassesOwn.leaving (by rfl) ?_ ?_ ?_
   | exact Da (pv _) nd (by rfl) (.inl (by rfl))
   | refine E7 (Dy hy (by kernel_rfl) (by kernel_rfl) (by rfl) ?_ (λ_ hy _ _ _ _ _ _=> ?_) (λ_ hy _ _ _ _ _ _ _ hp=> ?_))
   | refine YT (n:=_ ^ _) fT ?_ ?_
   | refine Xg ?_ (YS (by rfl) nd (by rfl) (by rfl) (.inr (by rfl)) (.inl (by rfl)))
   | refine Xg ?_ (YS (by rfl) nd (by rfl) (by rfl) (.inl (by rfl)) (.inr (by rfl))))
  | (show Snd _ _ (.Call ..) _;first
   | refine EJ (by rfl) (tx.z _ (by kernel_rfl)) ?_
   | refine Vm (n:="tuple") (uc _) (by rfl) (tx.z _ (by kernel_rfl)) (by rfl) (tx.z _ (by kernel_rfl)) PyProof.Rows.Boot.«tuple» ?_
   | refine Me hr.hd (by rfl) (tx.z _ (by kernel_rfl)) ?_
   | refine Ma (by rfl) (by rfl) (tx.z _ (by kernel_rfl)) ?_ ?_
   | refine LR (by rfl) (tx.z _ (by kernel_rfl)) ?_
   | refine Ho hr.hd (by rfl) (tx.z _ (by kernel_rfl)) ?_
   | refine kT (by rfl) (tx.z _ (by kernel_rfl)) ?_
   | refine cT hT hy hp (by assumption) hr ?_
   | refine Vm (n:="int") (kU _) (by rfl) (tx.z _ (by kernel_rfl)) (by rfl) (tx.z _ (by kernel_rfl)) PyProof.Rows.Boot.«int» ?_
   | refine Fo (by rfl) (tx.z _ (by kernel_rfl)) ?_
   | refine Kj hr.units ?_ ?_
   | refine LK ?_
   | refine Ki hr.hd (by rfl) (tx.z _ (by kernel_rfl)) (by rfl) (tx.z _ (by kernel_rfl)) ?_ ?_
   | refine Vm (n:="bool") (Vk _) (by rfl) (tx.z _ (by kernel_rfl)) (by rfl) (tx.z _ (by kernel_rfl)) PyProof.Rows.Boot.«bool» ?_
   | refine Vm (n:="str") (kX _) (by rfl) (tx.z _ (by kernel_rfl)) (by rfl) (tx.z _ (by kernel_rfl)) PyProof.Rows.Boot.«str» ?_
   | refine Fb hr.hd (by rfl) (tx.z _ (by kernel_rfl)) (by rfl) (tx.z _ (by kernel_rfl)) ?_
   | refine IX hr.hd (by rfl) (tx.z _ (by kernel_rfl)) (by rfl) (tx.z _ (by kernel_rfl)) ?_
   | refine Ia hr.hd (by rfl) (tx.z _ (by kernel_rfl)) ?_
   | refine HP (by rfl) (by rfl) (tx.z _ (by kernel_rfl)) ?_ ?_
   | refine mK (kE:=21) L hT hy hr (tx.z _ (by kernel_rfl)) (by kernel_rfl) (by kernel_rfl) ?_ ?_ (λ_ _ _ _ _ _ _ _ _ _ KB hy hE hr=> ?_)
   | refine L7 (n:="list") (m:="tuple") (Vl _) (uc _) (by rfl) (tx.z _ (by kernel_rfl)) (by rfl) (tx.z _ (by kernel_rfl)) PyProof.Rows.Boot.«list» (by rfl) (tx.z _ (by kernel_rfl)) PyProof.Rows.Boot.«tuple» ?_
   | refine E6 (by rfl) (tx.z _ (by kernel_rfl)) ?_
   | refine Fh hr.hd (by rfl) (tx.z _ (by kernel_rfl)) ?_
   | refine cZ hy (by assumption) hr ?_
   | refine cZ hy (U_weight_within _ KB) hr ?_)
  | (show Snd _ _ (.Subscript ..) _;first
   | refine Ca ?_ ?_
   | refine K0 ?_ ?_ ?_)
  | (show ua _ _ _ _;first
   | refine wG GW (xV hr.units) ?_ ?_ (ZY _)
   | refine IU ?_
   | refine wG L0 Hj ?_ ?_ (ZY _)
   | refine wG GX (xW hr.units) ?_ ?_ (ZY _)
   | refine wG IR GZ ?_ ?_ (ZY _)
   | refine wG Wc jU ?_ ?_ (ZY _)
   | refine wG LA (kO hr.units) ?_ ?_ (by rfl)
   | refine wG Vg (xY hr.units) ?_ ?_ (by rfl)
   | refine wG HH kP ?_ ?_ (ZY _)
   | refine kR Wc Wc jU jU ?_ ?_ ?_
   | refine wG GY xX ?_ ?_ (ZY _)
   | refine wG Vh xZ ?_ ?_ (ZY _)
   | refine F3 ?_
   | refine Y9.t ?_)
  | (show Snd _ _ (.BinOp ..) _;first
   | refine IZ ?_ ?_
   | refine FZ ?_ ?_
   | refine Lz ?_ ?_
   | refine Ir ?_ ?_
   | refine Dg ?_ ?_
   | refine GV ?_ ?_
   | refine EI ?_ ?_)
  | (show uP _ _ _ _ _;first
   | refine Ft (by rfl) (tx.z _ (by kernel_rfl)) ?_
   | refine L6 (by rfl) (tx.z _ (by kernel_rfl)) ?_ ?_
   | refine ED (by rfl) (tx.z _ (by kernel_rfl)) ?_ ?_
   | refine Ko (by rfl) (tx.z _ (by kernel_rfl)) ?_
   | refine Fp (by rfl) (tx.z _ (by kernel_rfl)) ?_
   | refine Hb (by rfl) (tx.z _ (by kernel_rfl)) ?_
   | exact Ld
   | refine FL ?_)
  | (show Snd _ _ (.BoolOp ..) _;first
   | refine Hg ?_ ?_
   | refine Cm ?_ ?_
   | refine LF ?_)
  | (show Wg _ _ _ _;first
   | exact LN
   | refine LX ?_)
  | (show Snd _ _ (.Compare ..) _;first
   | refine yD GW (xV hr.units) ?_ ?_ (ZY _)
   | refine kQ Wc Wc jU jU ?_ ?_ ?_
   | refine yD Wc jU ?_ ?_ (ZY _)
   | refine yD Vg (xY hr.units) ?_ ?_ (by rfl)
   | refine Vi Wc Wc Wc jU jU jU ?_ ?_ ?_ ?_
   | refine yD GY xX ?_ ?_ (ZY _)
   | refine yD GX (xW hr.units) ?_ ?_ (ZY _)
   | refine yD Vh xZ ?_ ?_ (ZY _))
  | (show Snd _ _ (.List ..) _;first
   | refine HF ?_)
  | (show Snd _ _ (.ListComp ..) _;first
   | refine X9 (Dy hy (by kernel_rfl) (by kernel_rfl) (by rfl) ?_ (λ_ hy _ _ _ _ _ _=> ?_) (λ_ hy _ _ _ _ _ _ _ hp=> ?_))
   | refine X9 (EA hy (by kernel_rfl) (by kernel_rfl) (by rfl) ?_ (λ_ hy _ _ _ _ _ _=> ?_) (λ_ hy _ _ _ _ _ _ _ hp=> ?_)))
  | (show Snd _ _ (.Tuple ..) _;first
   | refine Fk ?_)
  | (show Y9 _ _ _ _;first
   | refine Do ?_ ?_
   | refine Ll ?_ ?_
   | refine LQ ?_
   | refine LW ?_)
  | (show rV _ _ _ _;first
   | exact X7 nd (by rfl) (.inl (by rfl))
   | exact YS (by rfl) nd (by rfl) (by rfl) (.inl (by rfl)) (.inl (by rfl))
   | exact X7 nd (by rfl) (.inr (by rfl)))
  | (show kY _ _ _ _;first
   | refine Fs ?_
   | exact HD)
  | (show Snd _ _ (.UnaryOp ..) _;first
   | refine FH ?_
   | refine Ls ?_)
  | (show Snd _ _ (.IfExp ..) _;first
   | refine C8 ?_ ?_ ?_)
  )
local macro_rules | `(tactic| kd_all)=> `(tactic| (intro cdv A outer s H E Y hy hE hr nd hp;repeat' gp_on))
theorem IK:qP Z "_law_cell" 2 1 (oP 2 sI):=by
 refine mJ tx.C_1o ["_law_script","_law_k"] λ_=> ?_
 kd_all
theorem Dj (_:qP Z "_law_cell" 2 1 c_1o):qP Z "_law_pick" 3 2 (oP 4 (El c_1o)):=by
 refine mJ tx.C_3 ["_law_script","_law_k","_law_many","_law_drawn"] λ_=> ?_
 kd_all
theorem IW (_:qP Z "_law_pick" 3 2 c_3):qP Z "_law_word_of" 2 3 (oP 3 (Ak c_3)):=by
 refine mJ tx.C_15 ["_law_script","_law_at","_law_letters"] λ_=> ?_
 kd_all
theorem L1 (_:qP Z "_law_pick" 3 2 c_3)(_:qP Z "_law_word_of" 2 3 c_15):qP Z "_law_leaf_kind" 2 4 (oP 6 (tI c_3 c_15)):=by
 refine mJ tx.C_18 ["_law_script","_law_at","_law_low","_law_words","_law_k","_law_word"] λ_=> ?_
 kd_all
theorem CL {j:Nat}(a:4<=j)(_:qP Z "_law_pick" 3 2 c_3)(_:qP Z "_law_leaf_kind" 2 4 c_18)(_:qP Z "_law_kind" 3 j c_l):qP Z "_law_kind" 3 (j+1) (oP 6 (AV c_3 c_18 c_l)):=by
 refine mJ tx.C_l ["_law_script","_law_at","_law_deep","_law_way","_law_some","_law_low"] λ_=> ?_
 kd_all
theorem Cf:qP Z "_law_rows_of" 1 1 (oP 5 Ba):=by
 refine mJ tx.C_m ["_law_lists","_law_made","_law_some","_law_longer","_law_ahead"] λ_=> ?_
 kd_all
theorem Bl {j:Nat}(a:1<=j)(_:qP Z "_law_all" 1 j c_8)(_:qP Z "_law_rows_of" 1 1 c_m):qP Z "_law_all" 1 (j+1) (oP 3 (nA c_8 c_m)):=by
 refine mJ tx.C_8 ["_law_kind_here","_law_made","_law_size_here"] λ_=> ?_
 kd_all
theorem Cj {j:Nat}(a:9<=j)(_:qP Z "_law_all" 1 9 c_8)(_:qP Z "_law_size" 1 j c_i):qP Z "_law_size" 1 (j+1) (oP 5 (nU c_8 c_i)):=by
 refine mJ tx.C_i ["_law_kind_here","_law_sizes","_law_made","_law_size_here","_law_inner"] λ_=> ?_
 kd_all
theorem LU (_:qP Z "_law_kind" 3 12 c_l)(_:qP Z "_law_size" 1 17 c_i):qP Z "_law_small" 3 18 (oP 5 (Al c_l c_i)):=by
 refine mJ tx.C_1h ["_law_script","_law_at","_law_most","_law_kind_here","_law_k"] λ_=> ?_
 kd_all
theorem BQ {j:Nat}(a:2<=j)(_:qP Z "_law_pick" 3 2 c_3)(_:qP Z "_law_rule" 3 j c_p):qP Z "_law_rule" 3 (j+1) (oP 6 (AI c_3 c_p)):=by
 refine mJ tx.C_p ["_law_script","_law_at","_law_deep","_law_way","_law_one","_law_low"] λ_=> ?_
 kd_all
theorem Bn:qP Z "is_whole" 1 1 (oP 1 Eo):=by
 refine mJ tx.C_f ["thing"] λ_=> ?_
 kd_all
theorem E1 (_:qP Z "is_whole" 1 1 c_f):qP Z "is_bound" 1 2 (oP 1 (C5 c_f)):=by
 refine mJ tx.C_1j ["thing"] λ_=> ?_
 kd_all
theorem Co:qP Z "is_word" 1 1 (oP 1 Ej):=by
 refine mJ tx.C_z ["thing"] λ_=> ?_
 kd_all
theorem Cw {j:Nat}(a:2<=j)(_:qP Z "is_word" 1 1 c_z)(_:qP Z "is_rule_within" 2 j c_r)(_:qP Z "is_bound" 1 2 c_1j):qP Z "is_rule_within" 2 (j+1) (oP 2 (Ao c_z c_r c_1j)):=by
 refine mJ tx.C_r ["thing","levels"] λ_=> ?_
 kd_all
theorem Cg (_:qP Z "is_rule_within" 2 10 c_r):qP Z "is_rule" 1 11 (oP 1 (DN c_r)):=by
 refine mJ tx.C_d ["thing"] λ_=> ?_
 kd_all
theorem Cv (_:qP Z "is_rule" 1 11 c_d):qP Z "need_rule" 1 12 (oP 1 (A7 c_d)):=by
 refine mJ tx.C_6 ["rule"] λ_=> ?_
 kd_all
theorem EL (_:qP Z "is_whole" 1 1 c_f):qP Z "is_span" 4 2 (oP 4 (pV c_f)):=by
 refine mJ tx.C_1r ["low","high","least","most"] λ_=> ?_
 kd_all
theorem B5:qP Z "is_tuple_of" 3 1 (oP 3 DS):=by
 refine mJ tx.C_h ["thing","least","most"] λ_=> ?_
 kd_all
theorem Lc (_:qP Z "is_whole" 1 1 c_f)(_:qP Z "is_tuple_of" 3 1 c_h)(_:qP Z "is_word" 1 1 c_z):qP Z "is_choice" 1 2 (oP 1 (AM c_f c_h c_z)):=by
 refine mJ tx.C_1c ["thing"] λ_=> ?_
 kd_all
theorem Hl (_:qP Z "is_tuple_of" 3 1 c_h)(_:qP Z "is_choice" 1 2 c_1c):qP Z "are_choices" 1 3 (oP 2 (sZ c_h c_1c)):=by
 refine mJ tx.C_1a ["thing","words"] λ_=> ?_
 kd_all
theorem BR {j:Nat}(a:3<=j)(_:qP Z "is_span" 4 2 c_1r)(_:qP Z "is_kind_within" 2 j c_b)(_:qP Z "are_choices" 1 3 c_1a)(_:qP Z "are_kinds_within" 2 j c_1z):qP Z "is_kind_within" 2 (j+1) (oP 2 (tZ c_1r c_b c_1a c_1z)):=by
 refine mJ tx.C_b ["thing","levels"] λ_=> ?_
 kd_all
theorem Lr {j:Nat}(a:3<=j)(_:qP Z "is_tuple_of" 3 1 c_h)(_:qP Z "is_kind_within" 2 j c_b):qP Z "are_kinds_within" 2 (j+1) (oP 2 (A9 c_h c_b)):=by
 refine mJ tx.C_1z ["thing","levels"] λ_=> ?_
 kd_all
theorem BH (_:qP Z "is_kind_within" 2 23 c_b):qP Z "is_kind" 1 24 (oP 1 (Av c_b)):=by
 refine mJ tx.C_5 ["thing"] λ_=> ?_
 kd_all
theorem EU (_:qP Z "is_kind" 1 24 c_5):qP Z "need_kind" 1 25 (oP 1 (Ag c_5)):=by
 refine mJ tx.C_10 ["kind"] λ_=> ?_
 kd_all
theorem Br {j:Nat}(a:0<=j)(_:qP Z "count_of_parts" 1 j c_13)(_:qP Z "count_shorter" 2 j c_v):qP Z "count_of" 1 (j+1) (oP 1 (AK c_13 c_v)):=by
 refine mJ tx.C_2 ["kind"] λ_=> ?_
 kd_all
theorem HQ {j:Nat}(a:0<=j)(_:qP Z "count_of" 1 j c_2):qP Z "count_of_parts" 1 (j+1) (oP 3 (pZ c_2)):=by
 refine mJ tx.C_13 ["kinds","count","kind"] λ_=> ?_
 kd_all
theorem Cs {j:Nat}(a:0<=j)(_:qP Z "count_of_parts" 1 j c_13):qP Z "count_shorter" 2 (j+1) (oP 2 (sD c_13)):=by
 refine mJ tx.C_v ["kind","length"] λ_=> ?_
 kd_all
theorem sf:qP Z "words_of_pick" 1 1 (oP 1 tF):=by
 refine mJ tx.C_c ["kind"] λ_=> ?_
 kd_all
theorem BC {j:Nat}(a:20<=j)(_:qP Z "words_of_pick" 1 1 c_c)(_:qP Z "many_at" 2 j c_1y)(_:qP Z "parts_at" 2 j c_16):qP Z "worth_at" 2 (j+1) (oP 2 (A2 c_c c_1y c_16)):=by
 refine mJ tx.C_k ["kind","number"] λ_=> ?_
 kd_all
theorem EV {j:Nat}(a:20<=j)(_:qP Z "count_shorter" 2 20 c_v)(_:qP Z "parts_at" 2 j c_16):qP Z "many_at" 2 (j+1) (oP 3 (rO c_v c_16)):=by
 refine mJ tx.C_1y ["kind","number","length"] λ_=> ?_
 kd_all
theorem Fw {j:Nat}(a:20<=j)(_:qP Z "count_of" 1 20 c_2)(_:qP Z "worth_at" 2 j c_k):qP Z "parts_at" 2 (j+1) (oP 6 (rY c_2 c_k)):=by
 refine mJ tx.C_16 ["kinds","number","parts","rest","kind","count"] λ_=> ?_
 kd_all
theorem DD (_:qP Z "need_kind" 1 25 c_10)(_:qP Z "count_of" 1 20 c_2)(_:qP Z "worth_at" 2 40 c_k):qP Z "all_worths" 1 41 (oP 2 (AX c_10 c_2 c_k)):=by
 refine mJ tx.C_w ["kind","count"] λ_=> ?_
 kd_all
theorem Db {j:Nat}(a:0<=j)(_:qP Z "leaves_of" 1 j c_o):qP Z "leaves_of" 1 (j+1) (oP 3 (Ah c_o)):=by
 refine mJ tx.C_o ["worth","leaves","part"] λ_=> ?_
 kd_all
theorem Lg (_:qP Z "is_whole" 1 1 c_f)(_:qP Z "leaves_of" 1 8 c_o):qP Z "numbers_in" 1 9 (oP 1 (CU c_f c_o)):=by
 refine mJ tx.C_1i ["worth"] λ_=> ?_
 kd_all
theorem HX:qP Z "parts_of" 1 1 (oP 1 sW):=by
 refine mJ tx.C_1q ["worth"] λ_=> ?_
 kd_all
theorem Hy:qP Z "are_rising" 1 1 (oP 1 C4):=by
 refine mJ tx.C_1u ["numbers"] λ_=> ?_
 kd_all
theorem LY:qP Z "are_unlike" 1 1 (oP 1 DK):=by
 refine mJ tx.C_1v ["parts"] λ_=> ?_
 kd_all
theorem EW (_:qP Z "parts_of" 1 1 c_1q)(_:qP Z "leaves_of" 1 8 c_o)(_:qP Z "numbers_in" 1 9 c_1i)(_:qP Z "are_rising" 1 1 c_1u)(_:qP Z "are_unlike" 1 1 c_1v):qP Z "is_single_kept" 2 10 (oP 2 (tV c_1q c_o c_1i c_1u c_1v)):=by
 refine mJ tx.C_19 ["rule","worth"] λ_=> ?_
 kd_all
theorem BP {j:Nat}(a:10<=j)(_:qP Z "is_kept" 2 j c_4)(_:qP Z "is_single_kept" 2 10 c_19):qP Z "is_kept" 2 (j+1) (oP 2 (An c_4 c_19)):=by
 refine mJ tx.C_4 ["rule","worth"] λ_=> ?_
 kd_all
theorem sQ:qP Z "nearest_to_nought" 1 1 (oP 1 tY):=by
 refine mJ tx.C_s ["kind"] λ_=> ?_
 kd_all
theorem pU {j:Nat}(a:1<=j)(_:qP Z "words_of_pick" 1 1 c_c)(_:qP Z "nearest_to_nought" 1 1 c_s)(_:qP Z "weight_of_parts" 2 j c_12):qP Z "weight_within" 2 (j+1) (oP 2 (pp c_c c_s c_12)):=by
 refine mJ tx.C_7 ["kind","worth"] λ_=> ?_
 kd_all
theorem Ep {j:Nat}(a:1<=j)(_:qP Z "weight_within" 2 j c_7):qP Z "weight_of_parts" 2 (j+1) (oP 2 (As c_7)):=by
 refine mJ tx.C_12 ["kinds","parts"] λ_=> ?_
 kd_all
theorem LS (d:FT Z.K Z.mg "least_breaking" (mI 62) ["kind","rule"] Pt)(a:Z.base.BuiltinsAt Z.mg Pt)(_:qP Z "all_worths" 1 41 c_w)(_:qP Z "need_rule" 1 12 c_6)(_:qP Z "is_kept" 2 18 c_4)(U_weight_within:∀b,Z.K.In b->qP { Z with base:=b } "weight_within" 2 21 c_7):qT Z "least_breaking" 2 42 (oP 3 (Ad c_w c_6 c_4 c_7)) Pt (n8 "least_breaking"):=by
 refine L9 d a ["kind","rule","breaking"] λ_=> ?_;intro c A outer s H E Y L hT hy hE hr nd hp
 repeat' gp_on
theorem CY (_:qP Z "need_rule" 1 12 c_6):qP Z "need_rules" 1 13 (oP 2 (AJ c_6)):=by
 refine mJ tx.C_x ["rules","rule"] λ_=> ?_
 kd_all
theorem Lb (_:qP Z "is_kept" 2 18 c_4):qP Z "way_of" 2 19 (oP 2 (BA c_4)):=by
 refine mJ tx.C_20 ["rules","worth"] λ_=> ?_
 kd_all
theorem C9 {j:Nat}(a:0<=j)(_:qP Z "_law_leaves" 1 j c_q):qP Z "_law_leaves" 1 (j+1) (oP 3 (AB c_q)):=by
 refine mJ tx.C_q ["_law_worth","_law_made","_law_part"] λ_=> ?_
 kd_all
theorem CJ {j:Nat}(a:8<=j)(_:qP Z "_law_leaves" 1 8 c_q)(_:qP Z "_law_keeps" 2 j c_a):qP Z "_law_keeps" 2 (j+1) (oP 7 (Aq c_q c_a)):=by
 refine mJ tx.C_a ["_law_rule_here","_law_worth","_law_numbers","_law_parts","_law_total","_law_number","_law_some"] λ_=> ?_
 kd_all
theorem Il:qP Z "greatest_divisor" 2 1 (oP 3 Ax):=by
 refine mJ tx.C_1f ["one","other","rest"] λ_=> ?_
 kd_all
theorem Ck (_:qP Z "greatest_divisor" 2 1 c_1f):qP Z "fraction" 2 2 (oP 3 (tQ c_1f)):=by
 refine mJ tx.C_u ["up","down","divisor"] λ_=> ?_
 kd_all
theorem LI (_:qP Z "fraction" 2 2 c_u):qP Z "plus" 2 3 (oP 2 (Au c_u)):=by
 refine mJ tx.C_1l ["one","other"] λ_=> ?_
 kd_all
theorem BN (_:qP Z "plus" 2 3 c_1l):qP Z "together" 1 4 (oP 3 (AU c_1l)):=by
 refine mJ tx.C_n ["fractions","total","each"] λ_=> ?_
 kd_all
theorem Ij (_:qP Z "fraction" 2 2 c_u):qP Z "share_of_word" 2 3 (oP 3 (Cy c_u)):=by
 refine mJ tx.C_1n ["kind","word","weights"] λ_=> ?_
 kd_all
 refine QQ.go (by assumption) λ_ _ _ _ C F=>Ky (i:=2) (j:=1) (by decide) hy F hr (by omega) (by rfl) C.m C.F.kp C.b nd (by rfl) (.inl (by rfl)) (by rfl) (tx.z _ (by kernel_rfl)) (by rfl) (tx.z _ (by kernel_rfl)) (pv 2) (pv 1) ?_ (pi' :=pv 2)
 repeat' gp_on
theorem Bg (_:qP Z "fraction" 2 2 c_u):qP Z "times" 2 3 (oP 2 (tP c_u)):=by
 refine mJ tx.C_y ["one","other"] λ_=> ?_
 kd_all
theorem B6 {j:Nat}(a:20<=j)(_:qP Z "count_of" 1 20 c_2)(_:qP Z "times" 2 3 c_y)(_:qP Z "share_of_word" 2 3 c_1n)(_:qP Z "share_of_parts" 2 j c_1t):qP Z "share_within" 2 (j+1) (oP 3 (ph c_2 c_y c_1n c_1t)):=by
 refine mJ tx.C_j ["kind","worth","one_length"] λ_=> ?_
 kd_all
theorem HJ {j:Nat}(a:20<=j)(_:qP Z "times" 2 3 c_y)(_:qP Z "share_within" 2 j c_j):qP Z "share_of_parts" 2 (j+1) (oP 5 (Ay c_y c_j)):=by
 refine mJ tx.C_1t ["kinds","parts","share","kind","part"] λ_=> ?_
 kd_all
theorem LC (_:qP Z "together" 1 4 c_n)(_:qP Z "share_within" 2 40 c_j):qP Z "shares_together" 2 41 (oP 2 (Bx c_n c_j)):=by
 refine mJ tx.C_1m ["kind","worths"] λ_=> ?_
 kd_all
theorem F2 (_:qP Z "shares_together" 2 41 c_1m)(_:qP Z "need_rules" 1 13 c_x)(_:QQ "worths_by_ways" mT 42 (rm c_worths_by_ways) Z ):qP Z "tally" 2 43 (oP 3 (AR c_1m c_x c_worths_by_ways)):=by
 refine mJ tx.C_11 ["kind","rules","ways"] λ_=> ?_
 kd_all
theorem Cu {j:Nat}(a:1<=j)(_:qP Z "is_whole" 1 1 c_f)(_:qP Z "is_tuple_of" 3 1 c_h)(_:qP Z "words_of_pick" 1 1 c_c)(_:qP Z "have_parts" 2 j c_1w):qP Z "has_worth" 2 (j+1) (oP 2 (oh c_f c_h c_c c_1w)):=by
 refine mJ tx.C_g ["kind","thing"] λ_=> ?_
 kd_all
theorem Ip {j:Nat}(a:1<=j)(_:qP Z "has_worth" 2 j c_g):qP Z "have_parts" 2 (j+1) (oP 2 (tq c_g)):=by
 refine mJ tx.C_1w ["kinds","parts"] λ_=> ?_
 kd_all
theorem F8 (_:qP Z "need_kind" 1 25 c_10)(_:qP Z "has_worth" 2 21 c_g):qP Z "is_worth" 2 26 (oP 2 (A3 c_10 c_g)):=by
 refine mJ tx.C_1p ["kind","thing"] λ_=> ?_
 kd_all
theorem BO (_:qP Z "is_worth" 2 26 c_1p):qP Z "need_worth" 2 27 (oP 2 (AW c_1p)):=by
 refine mJ tx.C_t ["kind","worth"] λ_=> ?_
 kd_all
theorem C0 (_:qP Z "need_worth" 2 27 c_t)(_:qP Z "weight_within" 2 21 c_7):qP Z "weight" 2 28 (oP 2 (A4 c_t c_7)):=by
 refine mJ tx.C_1 ["kind","worth"] λ_=> ?_
 kd_all
theorem Fv (_:qP Z "nearest_to_nought" 1 1 c_s):qP Z "number_less" 2 2 (oP 3 (sX c_s)):=by
 refine mJ tx.C_1b ["kind","number","nearest"] λ_=> ?_
 kd_all
theorem Hq (_:qP Z "words_of_pick" 1 1 c_c):qP Z "word_less" 2 2 (oP 4 (Aj c_c)):=by
 refine mJ tx.C_1d ["kind","word","words","place"] λ_=> ?_
 kd_all
theorem DI:qP Z "shorter" 2 1 (oP 2 A6):=by
 refine mJ tx.C_9 ["kind","worth"] λ_=> ?_
 kd_all
theorem Bi {j:Nat}(a:2<=j)(_:qP Z "number_less" 2 2 c_1b)(_:qP Z "word_less" 2 2 c_1d)(_:qP Z "shorter" 2 1 c_9)(_:qP Z "parts_less" 2 j c_1x):qP Z "one_step_less" 2 (j+1) (oP 2 (o6 c_1b c_1d c_9 c_1x)):=by
 refine mJ tx.C_e ["kind","worth"] λ_=> ?_
 kd_all
theorem L8 {j:Nat}(a:2<=j)(_:qP Z "one_step_less" 2 j c_e):qP Z "parts_less" 2 (j+1) (oP 6 (Af c_e)):=by
 refine mJ tx.C_1x ["kinds","parts","told","place","part","less"] λ_=> ?_
 kd_all
theorem Ly (_:qP Z "is_kept" 2 18 c_4)(_:qP Z "one_step_less" 2 22 c_e):qP Z "breaking_less" 3 23 (oP 3 (C6 c_4 c_e)):=by
 refine mJ tx.C_14 ["kind","worth","rule"] λ_=> ?_
 kd_all
theorem LG (_:qP Z "need_worth" 2 27 c_t)(_:qP Z "need_rule" 1 12 c_6)(_:qP Z "is_kept" 2 18 c_4)(_:qP Z "breaking_less" 3 23 c_14):qP Z "led_down" 3 28 (oP 5 (Ar c_t c_6 c_4 c_14)):=by
 refine mJ tx.C_1e ["kind","worth","rule","told","following"] λ_=> ?_
 kd_all
theorem Hk (_:qP Z "need_worth" 2 27 c_t)(_:qP Z "one_step_less" 2 22 c_e):qP Z "lesser" 2 28 (oP 2 (A1 c_t c_e)):=by
 refine mJ tx.C_1k ["kind","worth"] λ_=> ?_
 kd_all
theorem F9 (_:qP Z "all_worths" 1 41 c_w)(_:qP Z "need_rule" 1 12 c_6)(_:qP Z "is_kept" 2 18 c_4):qP Z "keepers" 2 42 (oP 2 (AA c_w c_6 c_4)):=by
 refine mJ tx.C_1s ["kind","rule"] λ_=> ?_
 kd_all
theorem Fu (_:qP Z "is_kept" 2 18 c_4)(_:qP Z "keepers" 2 42 c_1s)(_:qP Z "need_rules" 1 13 c_x):qP Z "implies" 3 43 (oP 3 (AQ c_4 c_1s c_x)):=by
 refine mJ tx.C_17 ["kind","one","other"] λ_=> ?_
 kd_all
theorem Bk {f:Addr}{a:FuncData}(C:Fn Z.K Z.mg "law" (mI 91) ["_law_script"] f a)(_:qP Z "_law_pick" 3 2 c_3)(_:qP Z "_law_small" 3 18 c_1h)(_:qP Z "_law_rule" 3 10 c_p)(_:qP Z "_law_keeps" 2 16 c_a)(_:qP Z "implies" 3 43 c_17)(_:qP Z "tally" 2 43 c_11)(_:qP Z "parted" 2 43 c_parted)(_:qP Z "weight" 2 28 c_1)(_:qP Z "lesser" 2 28 c_1k)(_:qP Z "led_down" 3 28 c_1e)(_:qT Z "least_breaking" 2 42 c_1g Pt (n8 "least_breaking")):wD Z.P Z.w Z.K Z.mg Z.base (nc Z.P Z.w) 44 f a ["_law_script"] (qN Z.cl 1 (oP 13 (AF c_3 c_1h c_p c_a c_17 c_11 c_parted c_1 c_1k c_1e c_1g)) Pt (n8 "least_breaking")):=by
 refine BE C ["_law_script","_law_kind_here","_law_one","_law_other","_law_least","_law_some","_law_worths","_law_lightest","_law_k","_law_worth","_law_way","_law_heavy","_law_later"] ?_;intro cdv A outer s H E Y hT hy hE hr nd hp
 repeat' gp_on
end
section
variable {Z:Zz}{Pt:Addr}(tx:Tx Z.K Z.mg)
include tx
theorem Jm:qP Z "weight_within" 2 21 (oU 20):=by
 have d:qP Z "words_of_pick" 1 1 nK:=sf tx;have e:qP Z "nearest_to_nought" 1 1 oG:=sQ tx;have a:∀n:Nat,qP Z "weight_within" 2 (1+n) (nV n 0)/\qP Z "weight_of_parts" 2 (1+n) (nV n 1):=by
  intro n
  induction n with
  | zero=>exact⟨nh tx.C_7,nh tx.C_12⟩
  | succ n g=>exact⟨pU tx (aE _ _) d e g.2,Ep tx (aE _ _) g.1⟩
 have c:qP Z "weight_within" 2 21 (oU 20):=(a 20).1;have f:qP Z "weight_of_parts" 2 21 (re 20):=(a 20).2;exact c
theorem EF (tp:FT Z.K Z.mg "least_breaking" (mI 62) ["kind","rule"] Pt)(hBT:Z.base.BuiltinsAt Z.mg Pt){f:Addr}{fd:FuncData}(C:Fn Z.K Z.mg "law" (mI 91) ["_law_script"] f fd):wD Z.P Z.w Z.K Z.mg Z.base (nc Z.P Z.w) 44 f fd ["_law_script"] (qN Z.cl 1 oV Pt (n8 "least_breaking")):=by
 have U_weight_within:∀b,Z.K.In b->qP { Z with base:=b } "weight_within" 2 21 (oU 20):=λb hb=>Jm (Z:={ Z with base:=b }) tx;have O_1o:qP Z "_law_cell" 2 1 rH:=IK tx;have g:qP Z "_law_pick" 3 2 nk:=Dj tx O_1o;have B:qP Z "_law_word_of" 2 3 Gc:=IW tx g;have M:qP Z "_law_leaf_kind" 2 4 rg:=L1 tx g B;have R_l:∀n:Nat,qP Z "_law_kind" 3 (4+n) (oz n 0):=by
  intro n
  induction n with
  | zero=>exact nh tx.C_l
  | succ n c=>exact CL tx (aE _ _) g M c
 have O_l:qP Z "_law_kind" 3 12 (oQ 8):=(R_l 8);have O_m:qP Z "_law_rows_of" 1 1 nq:=Cf tx;have R_8:∀n:Nat,qP Z "_law_all" 1 (1+n) (pM n 0):=by
  intro n
  induction n with
  | zero=>exact nh tx.C_8
  | succ n c=>exact Bl tx (aE _ _) c O_m
 have O_8:qP Z "_law_all" 1 9 (ot 8):=(R_8 8);have R_i:∀n:Nat,qP Z "_law_size" 1 (9+n) (A8 n 0):=by
  intro n
  induction n with
  | zero=>exact nh tx.C_i
  | succ n c=>exact Cj tx (aE _ _) O_8 c
 have O_i:qP Z "_law_size" 1 17 (sK 8):=(R_i 8);have O_1h:qP Z "_law_small" 3 18 t7:=LU tx O_l O_i;have R_p:∀n:Nat,qP Z "_law_rule" 3 (2+n) (oK n 0):=by
  intro n
  induction n with
  | zero=>exact nh tx.C_p
  | succ n c=>exact BQ tx (aE _ _) g c
 have O_p:qP Z "_law_rule" 3 10 (Ea 8):=(R_p 8);have i:qP Z "is_whole" 1 1 nT:=Bn tx;have O_1j:qP Z "is_bound" 1 2 At:=E1 tx i;have O_z:qP Z "is_word" 1 1 pC:=Co tx;have R_r:∀n:Nat,qP Z "is_rule_within" 2 (2+n) (pX n 0):=by
  intro n
  induction n with
  | zero=>exact nh tx.C_r
  | succ n c=>exact Cw tx (aE _ _) O_z c O_1j
 have O_r:qP Z "is_rule_within" 2 10 (Eb 8):=(R_r 8);have O_d:qP Z "is_rule" 1 11 BJ:=Cg tx O_r;have j:qP Z "need_rule" 1 12 oJ:=Cv tx O_d;have O_1r:qP Z "is_span" 4 2 tu:=EL tx i;have l:qP Z "is_tuple_of" 3 1 nP:=B5 tx;have F:qP Z "is_choice" 1 2 sV:=Lc tx i l O_z;have X:qP Z "are_choices" 1 3 pW:=Hl tx l F;have R_b:∀n:Nat,qP Z "is_kind_within" 2 (3+n) (nF n 0)/\qP Z "are_kinds_within" 2 (3+n) (nF n 1):=by
  intro n
  induction n with
  | zero=>exact⟨nh tx.C_b,nh tx.C_1z⟩
  | succ n c=>exact⟨BR tx (aE _ _) O_1r c.1 X c.2,Lr tx (aE _ _) l c.1⟩
 have O_b:qP Z "is_kind_within" 2 23 (Bf 20):=(R_b 20).1;have O_1z:qP Z "are_kinds_within" 2 23 (DG 20):=(R_b 20).2;have O_5:qP Z "is_kind" 1 24 tE:=BH tx O_b;have o:qP Z "need_kind" 1 25 Ai:=EU tx O_5;have p:∀n:Nat,qP Z "count_of" 1 (0+n) (nS n 0)/\qP Z "count_of_parts" 1 (0+n) (nS n 1)/\qP Z "count_shorter" 2 (0+n) (nS n 2):=by
  intro n
  induction n with
  | zero=>exact⟨nh tx.C_2,nh tx.C_13,nh tx.C_v⟩
  | succ n c=>exact⟨Br tx (aE _ _) c.2.1 c.2.2,HQ tx (aE _ _) c.1,Cs tx (aE _ _) c.2.1⟩
 have r:qP Z "count_of" 1 20 (o4 20):=(p 20).1;have O_13:qP Z "count_of_parts" 1 20 (DE 20):=(p 20).2.1;have O_v:qP Z "count_shorter" 2 20 (pJ 20):=(p 20).2.2;have k:qP Z "words_of_pick" 1 1 nK:=sf tx;have x:∀n:Nat,qP Z "worth_at" 2 (20+n) (nZ n 0)/\qP Z "many_at" 2 (20+n) (nZ n 1)/\qP Z "parts_at" 2 (20+n) (nZ n 2):=by
  intro n
  induction n with
  | zero=>exact⟨nh tx.C_k,nh tx.C_1y,nh tx.C_16⟩
  | succ n c=>exact⟨BC tx (aE _ _) k c.2.1 c.2.2,EV tx (aE _ _) O_v c.2.2,Fw tx (aE _ _) r c.1⟩
 have O_k:qP Z "worth_at" 2 40 (su 20):=(x 20).1;have O_1y:qP Z "many_at" 2 40 (Bq 20):=(x 20).2.1;have O_16:qP Z "parts_at" 2 40 (Dl 20):=(x 20).2.2;have y:qP Z "all_worths" 1 41 oZ:=DD tx o r O_k;have R_o:∀n:Nat,qP Z "leaves_of" 1 (0+n) (sU n 0):=by
  intro n
  induction n with
  | zero=>exact nh tx.C_o
  | succ n c=>exact Db tx (aE _ _) c
 have O_o:qP Z "leaves_of" 1 8 (pK 8):=(R_o 8);have O_1i:qP Z "numbers_in" 1 9 tT:=Lg tx i O_o;have O_1q:qP Z "parts_of" 1 1 tM:=HX tx;have O_1u:qP Z "are_rising" 1 1 B4:=Hy tx;have O_1v:qP Z "are_unlike" 1 1 BD:=LY tx;have O_19:qP Z "is_single_kept" 2 10 rZ:=EW tx O_1q O_o O_1i O_1u O_1v;have R_4:∀n:Nat,qP Z "is_kept" 2 (10+n) (oo n 0):=by
  intro n
  induction n with
  | zero=>exact nh tx.C_4
  | succ n c=>exact BP tx (aE _ _) c O_19
 have e:qP Z "is_kept" 2 18 (n5 8):=(R_4 8);have I:qP Z "nearest_to_nought" 1 1 oG:=sQ tx;have S:∀n:Nat,qP Z "weight_within" 2 (1+n) (nV n 0)/\qP Z "weight_of_parts" 2 (1+n) (nV n 1):=by
  intro n
  induction n with
  | zero=>exact⟨nh tx.C_7,nh tx.C_12⟩
  | succ n c=>exact⟨pU tx (aE _ _) k I c.2,Ep tx (aE _ _) c.1⟩
 have O_7:qP Z "weight_within" 2 21 (oU 20):=(S 20).1;have O_12:qP Z "weight_of_parts" 2 21 (re 20):=(S 20).2;have U:qT Z "least_breaking" 2 42 CK Pt (n8 "least_breaking"):=LS tx tp hBT y j e U_weight_within;have v:qP Z "need_rules" 1 13 pB:=CY tx j;have O_20:qP Z "way_of" 2 19 Az:=Lb tx e;have a:QQ "worths_by_ways" mT 42 (rm zP) Z:=Ci tx.C_worths_by_ways y O_20 (by refine⟨rfl,rfl,rfl, ?_,rfl, ?_, ?_⟩ <;> decide+kernel) rfl rfl rfl rfl rfl rfl rfl (by rfl) (by rfl)
 have d:qP Z "parted" 2 43 J6:=Ht (BY tx.C_parted v a (tx.z _ (by kernel_rfl)) (by refine⟨rfl,rfl,rfl, ?_,rfl, ?_, ?_⟩ <;> decide+kernel) rfl rfl rfl rfl rfl rfl (by rfl))
 have R_q:∀n:Nat,qP Z "_law_leaves" 1 (0+n) (rT n 0):=by
  intro n
  induction n with
  | zero=>exact nh tx.C_q
  | succ n c=>exact C9 tx (aE _ _) c
 have O_q:qP Z "_law_leaves" 1 8 (sC 8):=(R_q 8);have R_a:∀n:Nat,qP Z "_law_keeps" 2 (8+n) (nC n 0):=by
  intro n
  induction n with
  | zero=>exact nh tx.C_a
  | succ n c=>exact CJ tx (aE _ _) O_q c
 have O_a:qP Z "_law_keeps" 2 16 (pH 8):=(R_a 8);have D:qP Z "greatest_divisor" 2 1 tR:=Il tx;have q:qP Z "fraction" 2 2 rW:=Ck tx D;have J:qP Z "plus" 2 3 tK:=LI tx q;have O_n:qP Z "together" 1 4 Bh:=BN tx J;have O:qP Z "share_of_word" 2 3 AY:=Ij tx q;have O_y:qP Z "times" 2 3 oX:=Bg tx q;have R_j:∀n:Nat,qP Z "share_within" 2 (20+n) (n6 n 0)/\qP Z "share_of_parts" 2 (20+n) (n6 n 1):=by
  intro n
  induction n with
  | zero=>exact⟨nh tx.C_j,nh tx.C_1t⟩
  | succ n c=>exact⟨B6 tx (aE _ _) r O_y O c.2,HJ tx (aE _ _) O_y c.1⟩
 have O_j:qP Z "share_within" 2 40 (AZ 20):=(R_j 20).1;have O_1t:qP Z "share_of_parts" 2 40 (BZ 20):=(R_j 20).2;have N:qP Z "shares_together" 2 41 AE:=LC tx O_n O_j;have O_11:qP Z "tally" 2 43 sk:=F2 tx N v a;have R_g:∀n:Nat,qP Z "has_worth" 2 (1+n) (og n 0)/\qP Z "have_parts" 2 (1+n) (og n 1):=by
  intro n
  induction n with
  | zero=>exact⟨nh tx.C_g,nh tx.C_1w⟩
  | succ n c=>exact⟨Cu tx (aE _ _) i l k c.2,Ip tx (aE _ _) c.1⟩
 have O_g:qP Z "has_worth" 2 21 (Ey 20):=(R_g 20).1;have O_1w:qP Z "have_parts" 2 21 (CZ 20):=(R_g 20).2;have G:qP Z "is_worth" 2 26 CO:=F8 tx o O_g;have u:qP Z "need_worth" 2 27 sv:=BO tx G;have O_1:qP Z "weight" 2 28 oF:=C0 tx u O_7;have O_1b:qP Z "number_less" 2 2 rQ:=Fv tx I;have O_1d:qP Z "word_less" 2 2 sA:=Hq tx k;have O_9:qP Z "shorter" 2 1 rK:=DI tx;have Q:∀n:Nat,qP Z "one_step_less" 2 (2+n) (n9 n 0)/\qP Z "parts_less" 2 (2+n) (n9 n 1):=by
  intro n
  induction n with
  | zero=>exact⟨nh tx.C_e,nh tx.C_1x⟩
  | succ n c=>exact⟨Bi tx (aE _ _) O_1b O_1d O_9 c.2,L8 tx (aE _ _) c.1⟩
 have O_e:qP Z "one_step_less" 2 22 (AC 20):=(Q 20).1;have O_1x:qP Z "parts_less" 2 22 (Dq 20):=(Q 20).2;have O_14:qP Z "breaking_less" 3 23 Ge:=Ly tx e O_e;have O_1e:qP Z "led_down" 3 28 rP:=LG tx u j e O_14;have O_1k:qP Z "lesser" 2 28 AO:=Hk tx u O_e;have O_1s:qP Z "keepers" 2 42 Cd:=F9 tx y j e;have O_17:qP Z "implies" 3 43 Gf:=Fu tx e O_1s v;exact Bk tx C g O_1h O_p O_a O_17 O_11 d O_1 O_1k O_1e U
end
theorem lz {c:List Value}{n:Nat}(h:c.length=n+1):∃a t,c=a :: t/\t.length=n:=by
 cases c with
 | nil=>cases h
 | cons a t=>exact⟨a,t,rfl,Nat.succ.inj h⟩
theorem lz1 {e:FuncData}{d:Str}(c:List Value)(f:c.length=1)(h:∀a,bindArgs e ⟨[a],[]⟩=pure ([d].zip [a])):bindArgs e ⟨c,[]⟩=pure ([d].zip c):=by
 obtain⟨a,_,rfl,g⟩:=lz f;obtain rfl:=bK.mp g;exact h a
theorem lz2 {g:FuncData}{f e:Str}(d:List Value)(i:d.length=2)(h:∀c a,bindArgs g ⟨[c,a],[]⟩=pure ([f,e].zip [c,a])):bindArgs g ⟨d,[]⟩=pure ([f,e].zip d):=by
 obtain⟨c,_,rfl,k⟩:=lz i;obtain⟨a,_,rfl,j⟩:=lz k;obtain rfl:=bK.mp j;exact h c a
theorem lz3 {j:FuncData}{g f i:Str}(e:List Value)(k:e.length=3)(h:∀c a d,bindArgs j ⟨[c,a,d],[]⟩=pure ([g,f,i].zip [c,a,d])):bindArgs j ⟨e,[]⟩=pure ([g,f,i].zip e):=by
 obtain⟨c,_,rfl,p⟩:=lz k;obtain⟨a,_,rfl,o⟩:=lz p;obtain⟨d,_,rfl,l⟩:=lz o;obtain rfl:=bK.mp l;exact h c a d
theorem lz4 {k:FuncData}{l i j g:Str}(f:List Value)(q:f.length=4)(h:∀c e d a,bindArgs k ⟨[c,e,d,a],[]⟩=pure ([l,i,j,g].zip [c,e,d,a])):bindArgs k ⟨f,[]⟩=pure ([l,i,j,g].zip f):=by
 obtain⟨c,_,rfl,u⟩:=lz q;obtain⟨e,_,rfl,p⟩:=lz u;obtain⟨d,_,rfl,r⟩:=lz p;obtain⟨a,_,rfl,o⟩:=lz r;obtain rfl:=bK.mp o;exact h c e d a
theorem fn1 {K:ai}{h:Heap}{i:Str->Option Value}{f:Addr}{o a:Option Addr}{p:Array (Option Value)}{q kV c d cd ct:Value}{x:Str}{st:Stmt}{j:List Str}(X:K.In h)(G:h.Ns mainGlobals i)(e:PySem.W.nsIn K mainGlobals x=some (some (.ref f)))(l:K.lookup f=some ⟨q,o,.func (cx x x (jc st) (Z1 st) (zf st) .none kV c d a cd ct),p⟩)(g:h9 K cd x=true)(k:d0 K (.ref f)=true)
  (r:∀F:Fun K x x st f (cx x x (jc st) (Z1 st) (zf st) .none kV c d a cd ct),L2.Binds K (cx x x (jc st) (Z1 st) (zf st) .none kV c d a cd ct) j []):Fn K i x st j f (cx x x (jc st) (Z1 st) (zf st) .none kV c d a cd ct):=
 have F:=GP (st:=st) l g k
 ⟨F,r F,PySem.W.mg_of X G e⟩
theorem zs_of {K:ai}{h:Heap}{c:Str->Option Value}{a:List Str}(X:K.In h)(G:h.Ns mainGlobals c)(hz:(a.all λx=>PySem.W.nsIn K mainGlobals x == some none)=true):∀x,a.contains x=true->c x=none:=λx d=>PySem.W.mg_none_of X G (beq_iff_eq.mp (aJ.mp hz x (List.contains_iff_mem.mp d)))
noncomputable abbrev Tx' {K:ai}{h:Heap}(_:K.In h)(mg:Str->Option Value):Prop:=Tx K mg
def vW (K:ai):Bool:=K.all λp=> !(p.2.cls == Value.type "list")
theorem G4 {K:ai}(h:vW K=true){a:Addr}{o:Obj}(e:K.lookup a=some o)(c:o.cls=Value.type "list"):False:=by
 have i:(a,o)∈K:=by
  clear h
  induction K with
  | nil=>cases e
  | cons p r g=>
   obtain⟨b,u⟩:=p
   by_cases f:a=b
   ·subst f;have d :some u=some o:=by simpa[aQ] using e
    cases d;exact aa
   ·have d :r.lookup a=some o:=by rw[aQ,(beq_eq_false_iff_ne.mpr f)]at e;exact e
    exact a9 _ (g d)
 have:=aJ.mp h _ i;rw[c]at this;simp at this
noncomputable def C3 (o:Obj):Option Addr:=match o.data with
 | .fields vs=>(match (vs[11]? :Option Value) with | some (.ref P)=>some P | _=>none)
 | _=>none
structure Iw (K:ai) (c P:Addr) (o:Obj):Prop where
 t:K.lookup c=some o
 u:C3 o=some P
 h:fF K c P=true
 n:K.lookup P=none
abbrev TP {K:ai}{h:Heap}(_:K.In h)(mg:Str->Option Value):Prop:=∃f fd c Pt o,Fn K mg "least_breaking" (mI 62) ["kind","rule"] f fd/\fd.code= .ref c/\Iw K c Pt o/\h.get? Pt=some (f8 #[])
theorem fin_ {l:PySem.W.OpenLaw}{w:World}{K:ai}{h:Heap}{d:Str->Option Value}{p:Addr}(X:K.In h)(G:h.Ns mainGlobals d)(g:d "law"=some (.ref p))(tx:Tx K d)(u:TP X d):∃(j:FuncData) (c a:Addr),(∀(s:Shared) (v:Value),BindsTo s j ⟨[v],[]⟩ [("_law_script",v)])/\h.get? a=some (f8 #[])/\K.lookup a=none/\fF K c a=true/\∀base:Heap,K.In base->base.BuiltinsAt d a->wD l.prog w K d base (nc l.prog w) 44 p j ["_law_script"] (qN (λ_=> .none) 1 oV a (n8 "least_breaking")):=by
 obtain⟨f,j,C⟩:=tx.C_0;have e:=g.symm.trans C.m;cases e;obtain⟨O,N,kV,r,M,J,cdv,ct,I,rfl,lk,x⟩:=C.F.ex;obtain⟨q,k,c,a,o,y,D,tk,B⟩:=u;exact⟨_,c,a,λs v=> .of_eq rfl,B,tk.n,tk.h,λbase KB i=>EF (Z:=⟨l.prog,w,K,d,base,(λ_=> .none)⟩) tx ⟨q,k,c,y,D,tk.h⟩ i C⟩
theorem HW {cl:Nat->Value}{H:Hp}{a e:Addr}{o:Obj}{q:Str}{c:List Int}(f:oV [.fz (c.map T.int)]= .ok (.bl true))(h:H a=some (.frz o (.lst (c.map V.int))))(g:H e=some (.tbl #[] q)):qN cl 1 oV e q [.ref a] H (λv _=>v= .bl true) λ_ _ _=>False:=by
 have d:∀c:List Int,zy H (c.map V.int) (c.map T.int):=λc=>by
  induction c with
  | nil=>exact .nil
  | cons n r i=>exact .cons (.int n) i
 refine⟨g,H,[.fz (c.map T.int)],rfl,zo.refl H,.cons (.fz h (d c)) .nil, ?_⟩;rw[f];intro v j _ r;cases r;rfl
theorem walk {l:PySem.W.OpenLaw}{q:Program}{i:List Str}{XP:(Str->Option Value)->Heap->Prop}{B:World->Heap->Prop}{d:DefRec}{K:Params->ai}{ts:List Addr}(hn:l.most=some 63)(v:d.params.defaults=[])
  (J:∀j:List Int,j.length<=63->oV [.fz (j.map T.int)]= .ok (.bl true)) (N:∀p,vW (K p)=true)
  (I:∀(w:World) (h:Heap),B w h->(K w.params).In h/\∀P∈ts,h.get? P=some (f8 #[]))
  (F:∀(w:World) (r:Str->Option Value) (y:Addr) (h:Heap),(K w.params).In h->h.Ns mainGlobals r->r d.name=some (.ref y)->(∀P∈ts,h.get? P=some (f8 #[]))->
   ∃(C:FuncData) (c g:Addr),(∀(s:Shared) (u:Value),BindsTo s C ⟨[u],[]⟩ [("_law_script",u)])/\h.get? g=some (f8 #[])/\(K w.params).lookup g=none/\fF (K w.params) c g=true/\∀base:Heap,(K w.params).In base->base.BuiltinsAt r g->wD l.prog w (K w.params) r base (nc l.prog w) 44 y C ["_law_script"] (qN (λ_=> .none) 1 oV g (n8 "least_breaking"))):
  PySem.W.WalkO q i XP B l.row.toRowW d [] (λf vs=>mr f vs):=
 L2.walk_ofT (n:=63) (k:=44) (x:="_law_script") (nm:=(n8 "least_breaking")) (CX:=λw=>(nc l.prog w)) (sp:=λw g=>qN (λ_=> .none) 1 oV g (n8 "least_breaking")) hn (by decide) v ⟨rfl,by decide,by decide,rfl⟩ I (λw a o e c=>G4 (N w.params) e c) F (λw H a g o j D G M=>HW (J j D) G M) λ_ _ _ _ _ ⟨_,_,_,_,_,_,_,z⟩=>z
end G
namespace PySem.W.Fast
noncomputable def tw6970750725548343675:=0
noncomputable def tw10206847381149678011:=0
noncomputable def tw5597380060343546072:=0
noncomputable def tw5224712439095934265:=0
noncomputable def tw776031242379868571:=0
noncomputable def tw15417455171492772630:=0
noncomputable def tw5648165833424906084:=0
noncomputable def tw9176046932421380045:=0
noncomputable def tw11468161876939469022:=0
noncomputable def tw12662484841124853906:=0
noncomputable def tw1192320641891740642:=0
noncomputable def tw15388375126671652065:=0
noncomputable def tw6943523274935034381:=0
noncomputable def tw11366444077929603277:=0
noncomputable def tw18306740812126784430:=0
noncomputable def tw929730712413503088:=0
noncomputable def tw6796291643178047310:=0
noncomputable def tw18034317756985332498:=0
noncomputable def tw10868061250066285606:=0
noncomputable def tw10699458975562852511:=0
noncomputable def tw9445833177946964792:=0
noncomputable def tw11031891510473965101:=0
noncomputable def tw7181007753153449502:=0
noncomputable def tw7915300910806009648:=0
noncomputable def tw15016377046931059417:=0
noncomputable def tw231890199748236240:=0
noncomputable def tw1728420057431668451:=0
noncomputable def tw5897324003649536046:=0
noncomputable def tw12285285194301703917:=0
noncomputable def tw14501741048544141541:=0
noncomputable def tw3120627994461634934:=0
noncomputable def tw5296312573540666503:=0
noncomputable def tw17522037397103529871:=0
noncomputable def tw9439728422282216369:=0
noncomputable def tw6417905917928769816:=0
noncomputable def tw2339574672853420743:=0
noncomputable def tw15620746577513953698:=0
noncomputable def tw8104119414696804296:=0
noncomputable def tw4676247605515381262:=0
noncomputable def tw8456665149634954336:=0
noncomputable def tw16638475199512078848:=0
noncomputable def tw13888999759493922473:=0
noncomputable def tw5010554962555809633:=0
noncomputable def tw10882799790840797790:=0
noncomputable def tw3527365356570659665:=0
noncomputable def tw6325253533449232836:=0
noncomputable def tw1368841009224565330:=0
noncomputable def tw7959793365112183849:=0
noncomputable def tw1408423736608848422:=0
noncomputable def tw11612575395341568579:=0
noncomputable def tw778967085719880485:=0
noncomputable def tw8716424133148210473:=0
noncomputable def tw3290072482083039396:=0
noncomputable def tw7048111747937964217:=0
noncomputable def tw11631709812145806487:=0
noncomputable def tw18099405031621892932:=0
noncomputable def tw18166644055926840464:=0
noncomputable def tw10107169513384833113:=0
noncomputable def tw2539213747655367156:=0
noncomputable def tw3035014280835986086:=0
noncomputable def tw14126067813957346822:=0
noncomputable def tw1847796592056875931:=0
noncomputable def tw15140761042916426116:=0
noncomputable def tw3938477802620432658:=0
noncomputable def tw11818120442123677328:=0
noncomputable def tw14409532339550025180:=0
noncomputable def tw12279253197236889213:=0
noncomputable def tw9100914541733388209:=0
noncomputable def tw4571613966109897382:=0
noncomputable def tw3093345700334702692:=0
noncomputable def tw11052780274510285569:=0
noncomputable def tw7893144994601657493:=0
noncomputable def tw17798112810189542200:=0
noncomputable def tw7331830131406960406:=0
noncomputable def tw10251556470008437217:=0
noncomputable def tw9407268159355403721:=0
noncomputable def tw14209072297788843616:=0
noncomputable def tw11436459705461899673:=0
noncomputable def tw11493489357251757276:=0
noncomputable def tw8442226240589286504:=0
noncomputable def tw1825735978640587457:=0
noncomputable def tw8303636243201812814:=0
noncomputable def tw2646809219266910686:=0
noncomputable def tw9857975767272118233:=0
noncomputable def tw15548039982004678166:=0
noncomputable def tw9078431181506902276:=0
noncomputable def tw5956235568161478628:=0
noncomputable def tw4990622157467650009:=0
noncomputable def tw8187416990614243837:=0
noncomputable def tw15020660655000852400:=0
noncomputable def tw4348855110991621451:=0
noncomputable def tw303817743097531361:=0
noncomputable def tw8276523616241404447:=0
noncomputable def tw16966044799106028804:=0
noncomputable def tw10703011545413092631:=0
noncomputable def tw1002591808537349334:=0
noncomputable def tw6142017784703936815:=0
noncomputable def tw689081762211536638:=0
noncomputable def tw7858262253452777607:=0
noncomputable def tw2649215045345425841:=0
noncomputable def tw1183587346355997038:=0
noncomputable def tw15142833025019116822:=0
noncomputable def tw13400892641869801678:=0
noncomputable def tw10177110949219444779:=0
noncomputable def tw15727916225809980720:=0
noncomputable def tw9882862403270471597:=0
noncomputable def tw7304709703665558277:=0
noncomputable def tw571843307572614273:=0
noncomputable def tw11849645302067296374:=0
noncomputable def tw3455079278241128788:=0
noncomputable def tw3232797755678534199:=0
noncomputable def tw18275045277640117039:=0
noncomputable def tw9577421921056492385:=0
noncomputable def tw7686511556362030502:=0
noncomputable def tw14420223107271644647:=0
noncomputable def tw13624412396957353689:=0
noncomputable def tw4102264145899162569:=0
noncomputable def tw7267853792159916074:=0
noncomputable def tw13730747998130187448:=0
noncomputable def tw6440949696085650301:=0
noncomputable def tw10217778985939393088:=0
noncomputable def tw2664284803956092942:=0
noncomputable def tw14251809489911137869:=0
noncomputable def tw3486963826353894319:=0
noncomputable def tw2148298593503796826:=0
noncomputable def tw8607235127718775730:=0
noncomputable def tw15015662609479749158:=0
noncomputable def tw16899256488943226637:=0
noncomputable def tw177921613964717244:=0
noncomputable def tw12640474632354541623:=0
noncomputable def tw14989056083441261938:=0
noncomputable def tw7868721087556677056:=0
noncomputable def tw12125240192363125714:=0
noncomputable def tw15204982103869579808:=0
noncomputable def tw6984288277911119168:=0
noncomputable def tw14399063000165410884:=0
noncomputable def tw17340426250882828777:=0
noncomputable def tw8853832559332560427:=0
noncomputable def tw11844618589794704680:=0
noncomputable def tw16286871254584252409:=0
noncomputable def tw8630027534336193571:=0
noncomputable def tw8181252193142241046:=0
noncomputable def tw8671231024733157585:=0
noncomputable def tw3340090246447061038:=0
noncomputable def tw4641382520125678880:=0
noncomputable def tw11627073220500100662:=0
noncomputable def tw1786887722883101588:=0
noncomputable def tw4128314530925821958:=0
noncomputable def tw8221163959232728912:=0
noncomputable def tw16326315977592204907:=0
noncomputable def tw14035953590959012355:=0
noncomputable def tw16846790838360775459:=0
noncomputable def tw4596168233659650312:=0
noncomputable def tw7857772364738253181:=0
noncomputable def tw2355575798717084791:=0
noncomputable def tw3080058235960195790:=0
noncomputable def tw4596389030320278344:=0
noncomputable def tw16322299808352333700:=0
noncomputable def tw1891661835144322338:=0
noncomputable def tw2832676465037545867:=0
noncomputable def tw563514272387848046:=0
noncomputable def tw12301172724134500192:=0
noncomputable def tw74469590540716865:=0
noncomputable def tw15221444906281600230:=0
noncomputable def tw17175880321675310204:=0
noncomputable def tw16198875626185460395:=0
noncomputable def tw14112496953839433575:=0
noncomputable def tw8267111584936284883:=0
noncomputable def tw16576062510215427218:=0
noncomputable def tw3683066556219633368:=0
noncomputable def tw2745688632977711235:=0
noncomputable def tw14345130976068540435:=0
noncomputable def tw17164033651339900016:=0
noncomputable def tw10521055026891352650:=0
noncomputable def tw5895937013685486165:=0
noncomputable def tw2961140403902287494:=0
noncomputable def tw6770210970288208063:=0
noncomputable def tw12043775717501159098:=0
noncomputable def tw3134597375212106068:=0
noncomputable def tw11884217199583940122:=0
noncomputable def tw9726914839005166525:=0
noncomputable def tw2185399563930566557:=0
noncomputable def tw9460365021138494778:=0
noncomputable def tw1247050621020231878:=0
noncomputable def tw617443378180354594:=0
noncomputable def tw15007577257910576779:=0
noncomputable def tw5454279906115236991:=0
noncomputable def tw12213064771995980818:=0
noncomputable def tw9823748316263348937:=0
noncomputable def tw9956662530177463527:=0
noncomputable def tw459146948069753175:=0
noncomputable def tw6237928343866489299:=0
noncomputable def tw7984280065707542507:=0
noncomputable def tw17041616931645089249:=0
noncomputable def tw15986432922087483850:=0
noncomputable def tw9470336651779694769:=0
noncomputable def tw2135479669730593573:=0
noncomputable def tw3795902863784884798:=0
noncomputable def tw3913896486376390051:=0
noncomputable def tw10600055144261679478:=0
noncomputable def tw3522922971256253055:=0
noncomputable def tw4731703879575022429:=0
noncomputable def tw8640184103763491560:=0
noncomputable def tw7650725181317120938:=0
noncomputable def tw13479254500211838520:=0
noncomputable def tw14885067459386536312:=0
noncomputable def tw17542281622305692479:=0
noncomputable def tw15537038410505812887:=0
noncomputable def tw3867568152204534089:=0
noncomputable def tw12091271723692024683:=0
noncomputable def tw17966277444551555794:=0
noncomputable def tw8887833320023704260:=0
noncomputable def tw12275535772314034094:=0
noncomputable def tw8208438013649936195:=0
noncomputable def tw11622572777682075828:=0
noncomputable def tw2514405507782942846:=0
noncomputable def tw16750836428967782479:=0
noncomputable def tw15808859196314991620:=0
noncomputable def tw6707969646824461767:=0
noncomputable def tw6578810271636653643:=0
noncomputable def tw6014254052252300350:=0
noncomputable def tw10899588270001607538:=0
noncomputable def tw10484807337383137032:=0
noncomputable def tw5570386701519373579:=0
noncomputable def tw685215403345888600:=0
noncomputable def tw1187881926524441852:=0
noncomputable def tw11262171931583530692:=0
noncomputable def tw9748695076151149535:=0
noncomputable def tw958482216593976630:=0
noncomputable def tw12894508755329427835:=0
noncomputable def tw7752368686592783271:=0
end PySem.W.Fast
open PySem PySem.W PyProof.Rows
set_option maxRecDepth 100000 in
set_option maxHeartbeats 0 in
theorem PySem.Challenge.cw_worthkinds_k54_whole_least_and_tallies_holds : PySem.Challenge.rw_worthkinds_k54_whole_least_and_tallies.Holds := by
 w_on; o_law; k_head; (case hw=>w_witness2)
 k_fill
 refine G.walk (l:=PySem.Challenge.rw_worthkinds_k54_whole_least_and_tallies) rfl rfl G.law_ok ?nl (fun w h Y=>⟨PySem.W.km_in_of Y,PySem.W.km_tabs_of Y⟩) ?F
 case nl=>intro p; kernel_rfl
 case F=>
  intro w mg fa h KX G0 hmg hT
  have tx:G.Tx' KX mg:=by
   constructor
   all_goals first
    | (refine' ⟨_,_,G.fn1 KX G0 ?e ?l ?g ?k (fun F=>F.binds fun _ _ _ _ _ _ us hl=>by first | exact G.lz1 us hl fun _=>rfl | exact G.lz2 us hl fun _ _=>rfl | exact G.lz3 us hl fun _ _ _=>rfl | exact G.lz4 us hl fun _ _ _ _=>rfl)⟩; (case e | l | g | k=>k_is))
    | exact ⟨_,PySem.W.mg_of KX G0 (by k_is),_,rfl⟩
    | exact G.zs_of KX G0 (by kernel_rfl)
  have tp:G.TP KX mg:=by
   refine' ⟨_,_,_,_,_,G.fn1 KX G0 ?e ?l ?g ?k (fun F=>F.binds fun _ _ _ _ _ _ us hl=>by first | exact G.lz1 us hl fun _=>rfl | exact G.lz2 us hl fun _ _=>rfl | exact G.lz3 us hl fun _ _ _=>rfl | exact G.lz4 us hl fun _ _ _ _=>rfl),rfl,⟨?t, ?u, ?h, ?n⟩, ?m⟩; (case e | l | g | k | t=>k_is); (case u=>exact rfl); (case h | n=>kernel_rfl); (case m=>exact hT _ (by decide))
  refine' G.fin_ KX G0 hmg tx tp
