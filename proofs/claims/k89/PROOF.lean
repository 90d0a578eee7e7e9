import PyProof.Rows.All
import Wide.All
import OpenK.AllK
import Wide.FinOn
import Lean
import PyProof.EqAt
import PyProof.EqKinds
import PyProof.TupleCall
import PyProof.NeKinds
import PyProof.WalksEnum
import PyProof.StrWalks
import PyProof.ExcAttrAll.ValueError
import PyProof.ZipIter
import KE.KRevIter
import PyProof.ListNew
import PyProof.WalksMore
import PyProof.ReprLoop
import PyProof.FactsAll.list
import PyProof.CollectIter
import PyProof.TupleOfGen
import PyProof.Draws
import PyProof.EnumMake
import PyProof.SeqI3
import KE.KMinBuiltin
import PyProof.SetRoads
import PyProof.CollectWalk
import KE.KDictSum
import PyProof.AttrMiss
import PyProof.IsiH_tuple
import KE.KDictOf
import PyProof.FitsBits
import PyProof.SliceList
import PyProof.InstFacts
import PyProof.Rows.StrNews2
import PyProof.StrBlockH
import PyProof.CallStr
import KE.KIntText
import PyProof.Rows.RuleB_pow
import KE.KSortTup
import PyProof.ReprRoads
import KE.KLam
import PyProof.MaxThree
import PyProof.DictRoadsH
import PyProof.FactsAll.dict
import PyProof.DictItems
import PyProof.DictValues
import PySem.Challenge.RW_worthkinds_k89_whole_told_lists
open PySem renaming wpAny_bind->a8,wpAny_pure->aa,wpAny_newObj_type->aJ,wpAny_call_entry->aL,wpAny_setField_rec->aO,wpAny_callSpecial?_slot->aW,wpAny_field->b9,codeAny_builtin->bc,wpAny_holding->bi,wpAny_truthy_bool->bp,mem_of_lookup->br,wpAny_of_eq->bz,wpAny_setState_of->bA,plainId_quiet->bI,wpAny_seqItems->bQ,sizeLine_eq->bV,wpAny_Call_Name_kw->bW,wpAny_specialOf->b_,wpAny_isInstance->c6,codeAny_mono->ci,wpAny_attempt->cj,wpAny_pyIter_list->cn,wpAny_dictEntries->cu,wpAny_rule->cx,wpAny_mono->cG,wpAny_pyIter_tuple->cH,wpAny_passesOwn->cL,wpAny_typeOf->cO,wpAny_pyIter_slot->cP,wpAny_ite_split->dj,wpAny_dictEpoch->dq,wpAny_letGo->dC,wpAny_fieldsOf->dE,wpAny_tryCatch->dF,call_meets->fP,evalArgs_none->iQ,seqSlot_of->lR,call->mj
open PySem.Heap renaming get?_push_of_some->a9,get?_push_size->ae,lt_size->ao,SameBut->aQ,size_push->be,get?_update_other->bo,get?_update_self->bT,ExtBut->fg,get?_update_ne->iT,IsTuple->ly
open List renaming mem_cons_of_mem->ab,mem_cons_self->ac,length_map->af,mem_cons->ag,getElem?_eq_getElem->ak,replicate->aq,length_cons->ar,mem_singleton->av,getElem?_map->aw,length_append->ay,map_cons->aA,getElem?_set_ne->aC,size_toArray->aF,lookup_cons->aG,mem_map->aH,length_singleton->aI,getElem?_eq_some_iff->aK,getElem?_eq_none->aN,getElem?_append_right->aR,all_eq_true->aS,not_mem_nil->aT,getElem?_append_left->aU,getElem?_replicate->aV,length_replicate->aZ,range->ba,append_nil->bb,map_map->bg,mem_append_right->bh,getElem?_set_self->bj,map_replicate->bq,length_range->bJ,flatMap_cons->bK,mem_range->bN,length_set->bP,length_nil->bR,append_assoc->bU,map_nil->c9,replicate_succ->cb,mem_append->ce,pairwise_cons->cg,eq_of_mem_replicate->ck,ext_getElem?->cq,nil_append->cy,map_append->cz,length_reverse->cA,getD_eq_getElem?_getD->cI,drop_eq_getElem_cons->cJ,mem_of_getElem?->cN,reverse_cons->cQ,map_congr_left->cV,length_eq_zero_iff->cX,range_succ_eq_map->di,find?_cons->dk,mem_append_left->dB,mem_iff_getElem->dG,getElem_inj->dI,length_take->dJ,mem_flatMap->dL,pairwise_iff_getElem->dO,filterMap_cons->dP,getElem?_range->dQ,nodup_cons->eA,of_mem_zip->eB,prefix_refl->eZ,drop_length->e_,all_cons->f9,sum_cons->ff,mem_filter->fv,mem_filterMap->fK,foldl->fO,length_eraseIdx_of_lt->fS,flatten_cons->fY,range'->fZ,length_drop->h_,getElem_mem->i7,any_eq_true->i8,cons_append->i9,take_of_length_le->im,range_succ->ix,length_zip->iy,getElem?_reverse->iA,length->iE,drop_zero->iG,getElem?_range'->iH,reverse_reverse->iM,mergeSort_perm->iU,any_cons->iV,map_inj_right->l7,zip_cons_cons->l8,length_zipIdx->la,all_map->lq,nodup_append->lF,le_antisymm->lW,getElem_map->lX,map_reverse->lZ,not_lt->m3,forIn_cons->m7
open Nat renaming le_refl->ah,le_add_right->am,ne_of_lt->au,le_trans->aB,lt_of_lt_of_le->aM,zero_le->aX,lt_irrefl->aY,lt_succ_of_lt->bx,lt_of_le_of_lt->bC,mul_le_mul->bH,pow_le_pow_right->c7,ne_of_gt->c8,le_succ->cC,one_mul->cD,lt_succ_self->cF,le_of_succ_le->cR,le_mul_of_pos_right->de,mul_pos->df,mul_comm->dh,mul_assoc->dw,mul_le_mul_right->dH,pow_succ->eV,add_mul->fk,pow_add->fu,add_le_add_left->fD,le_of_lt->fE,lt_trans->fH,zero_add->fI,pos_of_ne_zero->fR,le_succ_of_le->f_,gcd->g7,succ_mul->ig,mod_lt->io,pow_lt_pow_right->iO,eq_zero_or_pos->l5,not_lt->l6,add_comm->ll,le_of_eq->lE,lt_succ_of_le->lH,gcd_comm->lI,gcd_one_right->lJ,succ_ne_self->lT,not_lt_zero->md,min_eq_left->me,div_le_self->mi
open PySem.W renaming Frag->ai,kitOne->bO,kia_one->bX,fnOf->cB,kia_tup->cM,keepIn->cW,codeHdIn->dM,kitx_list->eI,kitAny->eO,tabObj->eW,codeIn->fM,cellsFrom_some->ie,instObj->iu,lookIn->iD,kitx_tuple->iX,kitx_none->lc,kitx_bool->lf,kitx_dict->lg,plainGet->lL,kitx_int->lM,kitx_str->lN
open Bool renaming and_eq_true->aj,false_ne_true->ax,false_eq_true->az,not_true->dY,or_eq_true->iw,true_and->iW,eq_iff_iff->mh
open PySem.Str renaming ofString->aD
open Option.some renaming inj->aE
open Array renaming length_toList->aP,getElem?_eq_getElem->bu,getElem?_eq_none->bw,getElem?_toList->dz,perm_iff_toList_perm->fT,append_assoc->fU,getD->iq,toList_push->lA
open PyProof.Rows renaming callWith_type1->a_,slot_tuple_getitem->bE
open Ne renaming symm->bf
open Int renaming toNat_natCast->bv,eq_ofNat_of_zero_le->db,natAbs_natCast->eD,natCast_mul->fy,le_trans->fG,fdiv_eq_ediv_of_nonneg->fL,natAbs_mul->iN,emod_lt_of_pos->l9,emod_nonneg->ma
open PySem.Heap.SameBut renaming update->bF
open PySem.F renaming slot_dict_itemiterator_next->bL,called_set->bM,slot_dict_valueiterator_next->bY,slot_bool_hash->cf,slot_tuple_getattribute->cK,plainAttrs_list->cY,slot_zip_next->dy,args_tuple_add_2->dS,slot_list_append->dW,type_list_append->dX,slot_dict_values->dZ,entry_tuple_add->eG,plainAttrs_dict->eH,slot_tuple_add->eJ,slot_tuple_iterator_next->eM,args_dict_valueiterator_next_1->eU,args_dict_itemiterator_next_1->eX,entry_dict_valueiterator_next->eY,plain_min_loop->f6,entry_dict_itemiterator_next->f7,slot_dict_itemiterator_iter->fj,slot_int_rmul->fx,plain_extend_loop->fW,type_dict_values->hU,slot_tuple_mul->i4,args_zip_next_1->i6,entry_min_loop->ia,slot_dict_values_iter->ib,entry_zip_next->il,slot_dict_items_iter->ir,slot_tuple_lt->iC,sub_list_frozenset->iI,called_tuple->iJ,args_object_init_2->iK,args_int_hash_1->lb,args_int_rmul_2->lm,slot_tuple_rmul->lu,entry_type_call->lw,plain_tuple_new->lz,slot_dict_items->lG,entry_int_hash->lK,slot_int_index->lP,entry_int_rmul->lQ,typeCall_set_1->lU,entry_set_init->lV,fills_int_mul->m4,slot_set_iter->m9
open PySem.Builtin.Dict_items renaming ownsTuple->bS,ownedTupleIsFree->d_,ownedTupleFields->e9,pairFromOwner->eT,newIterator->f8,dictOf->fX
open False renaming elim->bZ
open PySem.Obj renaming mapSeq->cS,data_mapFields->eC,mapFields->h9,isFreed_of_fields->iz,data_mapDictKeys->iL,cls_mapFields->lx
open PySem.Builtin.List renaming listSameRef->cT,listTooLong->dU,listExtendWith->fF
open PyProof.Rows.KeyOrd renaming klt_of_klt_of_kle->cU,kle_of_klt->eR
open PyProof.Rows.F renaming entry_set_update_loop->c_,plain_set_update_loop->i5
open PySem.AutoSeq1 renaming wpAny_loadPart'->d0
open PySem.SeqAt renaming EqAt->dg,RcNeAt->eL,RcAt->ii
open PySem.Shared renaming TypeIs->du,heap->l_
open PySem.Builtin.Dict renaming showsAll->dA,noArgs->iS
open PySem.SetTable renaming grown->dD,below->eQ
open PySem.Builtin.Slice renaming slicePlaces->dN,sliceAdjust->fV
open PySem.Paired renaming length->dR
open PySem.Calls renaming callWith_builtin->eK,Name_function_global->fJ,spliced_cons->iY,spliced_nil->lh
open PySem.Builtin.Frozenset renaming updateFrom->fA
open PySem.PassesOwn renaming never->fB
open PySem.Builtin.Tuple renaming tupleItemsOf->fN,tupleTooMany->fQ,tupleExact->hJ
open Option renaming isSome_iff_exists->g_,map->k_,getD_none->lO,map_some->m8
open Rat renaming num_mkRat->hV,den_mkRat->hW
open PySem.Builtin.Range renaming rangeSize->hZ
open PySem.Walks renaming list->ij
open PySem.Around renaming frames_deeper->iF,under_plain->j_
open PySem.Value renaming isStrOf_shape->iP
open PySem.Builtin.Int renaming intBits->iR
open PySem.SeqAt.EqAt renaming of_refs->iZ,same->m5
open PySem.Code renaming quiet_builtin->i_
open PySem.pickOrder renaming go->lC
open PySem.SetTable.below renaming go->lD
open PySem.WalksT renaming enumerate->lS
open Classical renaming skolem->lY
noncomputable section
set_option maxHeartbeats 4000000
set_option Elab.async false
set_option linter.all false
set_option compiler.extract_closed false
set_option maxRecDepth 100000
namespace L2
open PySem PySem.Spec PyProof.Rows
noncomputable abbrev mG:=Sum Bool Str
def vS:mG->Value->Bool
 | .inl k,.bool b=>b == k
 | .inl _,_=>false
 | .inr x,v=>Value.isStrOf x v
def B5 (w:World):mG->Int
 | .inl k=>hashInt (if k then 1 else 0)
 | .inr x=>hashStr w x
theorem zQ:∀{k:mG} {v:Value},vS k v=true->(∃(i:Bool) (t:Tok),k=Sum.inl i/\v=Value.bool i)\/(∃x t,k=Sum.inr x/\v=Value.str x t)
 | .inl i,v,h=>by
  cases v <;> first | exact .inl ⟨i,0,rfl,congrArg _ (eq_of_beq h)⟩ | cases h
 | .inr x,v,h=>by
  obtain⟨t,e⟩:=iP h;exact .inr ⟨x,t,rfl,e⟩
theorem Y9 (x:Str)(t:Tok):vS (.inr x) (.str x t)=true:=by simp[vS,Value.isStrOf]
theorem G7 (a b:Bool):decide ((Sum.inl a:mG)=Sum.inl b)=(a == b):=by
 by_cases e:a=b
 ·subst e;simp
 ·have h:¬ (Sum.inl a:mG)=Sum.inl b:=λq=>e (Sum.inl.inj q);rw[decide_eq_false h];exact(beq_eq_false_iff_ne.mpr e).symm
theorem G8 (a b:Str):decide ((Sum.inr a:mG)=Sum.inr b)=decide (a=b):=by
 by_cases e:a=b
 ·simp
 ·have h:¬ (Sum.inr a:mG)=Sum.inr b:=λq=>e (Sum.inr.inj q);rw[decide_eq_false h,decide_eq_false e]
theorem G9 (a:Bool)(b:Str):decide ((Sum.inl a:mG)=Sum.inr b)=false:=decide_eq_false (λq=>nomatch q)
theorem Ga (a:Str)(b:Bool):decide ((Sum.inr a:mG)=Sum.inl b)=false:=decide_eq_false (λq=>nomatch q)
theorem Jn {Q:Int->Shared->Prop}(h:Q (hashInt (if b then 1 else 0)) { s with toks:=s.toks+1 }):wpAny (model prog w) A (pyHash (.bool b)) Q E s:=by
 have hT:s.TypeIs (.bool b) "bool":=rfl;unfold pyHash;have a:[Value.bool b].any Value.onHeap=false:=rfl;refine a8 ?_;rw[cRoomFor,if_neg (by rw[a];exact ax)];refine aa ?_
 refine a8 (b_ hT cf.lookup ?_);show wpAny _ _ (if (some (Value.builtin "int.__hash__") == some Value.none)=true then _ else _) Q E s
 rw[if_neg (by rw[beq_builtin_none];exact ax)]
 refine a8 (b_ hT cf.lookup ?_);show wpAny _ _ (callSpecialIfBoundUnlessNone? (.bool b) "__hash__" _ >>= _) Q E s;refine a8 (wpAny_callSpecialIfBoundUnlessNone?_slot hT cf
  (aL cf hT lK
   (show wpAny _ _ (do ret (← mkInt (rawHash (if b then 1 else 0)))) _ _ s from by cases b <;> refine wpAny_ret_mkInt ?_ <;> exact aa h) (lb _)))
def zZ (prog:Program)(w:World):PySem.KeyKind prog w mG where
 is:=vS
 hash:=B5 w
 inj:=λv a b g d=>by
  rcases zQ g with ⟨i,t,rfl,rfl⟩ | ⟨x,t,rfl,rfl⟩
  ·rcases zQ d with ⟨j,u,rfl,e⟩ | ⟨y,u,rfl,e⟩
   ·injection e with e1;rw[e1]
   ·exact nomatch e
  ·rcases zQ d with ⟨j,u,rfl,e⟩ | ⟨y,u,rfl,e⟩
   ·exact nomatch e
   ·injection e with e1 _;rw[e1]
 byValue:=λk v h=>by
  rcases zQ h with ⟨i,t,rfl,rfl⟩ | ⟨x,t,rfl,rfl⟩ <;> rfl
 pyHash:=λc h=>by
  rcases zQ c with ⟨i,t,rfl,rfl⟩ | ⟨x,t,rfl,rfl⟩
  ·exact Jn h
  ·exact wpAny_pyHash_str h
 eqBool:=λl c h=>by
  rcases zQ l with ⟨i,t,rfl,rfl⟩ | ⟨x,t,rfl,rfl⟩
  ·rcases zQ c with ⟨j,u,rfl,rfl⟩ | ⟨y,u,rfl,rfl⟩
   ·rw[G7]at h;exact dg.bool_bool i j _ _ _ _ h
   ·rw[G9]at h;exact dg.bool_str i y u _ _ _ _ h
  ·rcases zQ c with ⟨j,u,rfl,rfl⟩ | ⟨y,u,rfl,rfl⟩
   ·rw[Ga]at h;exact dg.str_bool x t j _ _ _ _ h
   ·rw[G8]at h;exact wpAny_eqBool_str h
 «strs»:=λk x t v h=>by
  rcases zQ h with ⟨i,u,rfl,e⟩ | ⟨y,u,rfl,e⟩
  ·exact nomatch e
  ·injection e with e1 _;subst e1;cases v <;> rfl
theorem ja (prog:Program)(w:World)(x:Str)(t:Tok):(zZ prog w).is (.inr x) (.str x t)=true:=Y9 x t
end L2
namespace L2
open PySem PySem.Spec PyProof.Rows
inductive V where
 | non | bl (b:Bool) | int (i:Int) | str (x:Str) | byt (b:Array UInt8) | flt (b:UInt64) | ref (a:Addr) | ty (n:String)
 deriving DecidableEq
noncomputable def RelV:V->Value->Prop
 | .non,u=>u=Value.none
 | .bl b,u=>u=Value.bool b
 | .int i,u=>∃t,u=Value.int i t
 | .str x,u=>∃t,u=Value.str x t
 | .byt b,u=>∃t,u=Value.bytes b t
 | .flt b,u=>∃t,u=Value.float b t
 | .ref a,u=>u=Value.ref a
 | .ty n,u=>u=Value.type n
abbrev Vals:List V->List Value->Prop:=Paired RelV
theorem Vals.length (r:Vals xs us):xs.length=us.length:=dR r
theorem Vals.get:∀{a:List V} {c:List Value} {i:Nat} {x:V},Vals a c->a[i]? =some x->∃u,c[i]? =some u/\RelV x u
 | _,_,_,_,.nil,e=>by simp at e
 | _,_,0,_,.cons r _,e=>by simp at e;subst e;exact⟨_,rfl,r⟩
 | _,_,i+1,x,.cons _ t,e=>by
  obtain⟨u,d,g⟩:=Vals.get t (by simpa using e)
  exact⟨u,by simpa using d,g⟩
theorem Vals.append:∀{d a:List V} {e c:List Value},Vals d e->Vals a c->Vals (d++a) (e++c)
 | _,_,_,_,.nil,s=>s
 | _,_,_,_,.cons r t,s=> .cons r (Vals.append t s)
theorem Vals.take:∀{c:List V} {a:List Value} (n:Nat),Vals c a->Vals (c.take n) (a.take n)
 | _,_,0,_=> .nil
 | _,_,_+1,.nil=> .nil
 | _,_,n+1,.cons r t=> .cons r (Vals.take n t)
theorem Vals.drop:∀{c:List V} {a:List Value} (n:Nat),Vals c a->Vals (c.drop n) (a.drop n)
 | _,_,0,r=>r
 | _,_,_+1,.nil=> .nil
 | _,_,n+1,.cons _ t=>Vals.drop n t
def sM:Option V->Option Value->Prop
 | some v,some u=>RelV v u
 | none,none=>True
 | _,_=>False
def KV {a:Type}:List (a×V)->List (a×Value)->Prop:=Paired λ(p:a×V) (q:a×Value)=>p.1=q.1/\RelV p.2 q.2
def kV:mG->V
 | .inl i=> .bl i
 | .inr x=> .str x
inductive HO where
 | lst (xs:List V)
 | tup (xs:List V)
 | dK (kvs:List (mG×V)) | dT (kvs:List (List mG×Addr×V))
 | set (S:Int->Bool) (n:Nat)
 | ins (C dx:Addr) (fs:List (Str×V))
 | own (x:Addr)
 | xd (fs:List (Str×V))
 | met (f x:Addr)
 | rng (lo hi:Int)
 | frz (o:Obj) (u:HO)
 | tbl (ps:Array Value) (q:Str)
 | ext (φ:Heap->Prop)
noncomputable abbrev Hp:=Addr->Option HO
def ml (H:Hp)(a:Addr)(o:HO):Hp:=λb=>if b=a then some o else H b
theorem zh:ml H a o a=some o:=by unfold ml;rw[if_pos rfl]
theorem zg (h:b ≠ a):ml H a o b=H b:=by unfold ml;rw[if_neg h]
theorem Ya {H:Hp}{a b:Addr}{o u:HO}(h:H a=some o)(h' :H b=some u)(d:o ≠ u):a ≠ b:=by
 intro e;subst e;rw[h]at h';exact d (aE h')
theorem zC {H:Hp}{a b:Addr}{o:HO}(h:H a=some o)(h' :H b=none):a ≠ b:=by
 intro e;subst e;rw[h]at h';cases h'
noncomputable def ITN (h:Heap)(a:Addr)(c:Array Value):Prop:=IsTup h a c/\((∃i t,c[0]? =some (Value.int i t))\/∃o,h.get? a=some o/\o.dict=none)
theorem ITN.new (h:Heap)(a:Array Value):ITN (h.push { cls:= .type "tuple",data:= .seq a }) h.objs.size a:=⟨IsTup.new h a,.inr ⟨_,ae _ rfl,rfl⟩⟩
section
variable (P:Program)(w:World)
def zK (H:Hp)(h:Heap)(a:Addr):HO->Prop
 | .lst g=>g.length<=sizeLine/\∃(d:List Value) (n:Nat),Vals g d/\h.get? a=some { cls:= .type "list",data:= .seq d.toArray n }
 | .tup g=>g.length<=sizeLine/\∃d:List Value,Vals g d/\ITN h a d.toArray
 | .dK kvs=>kvs.length<=sizeLine/\(a == sysModules)=false/\∃vs,KV kvs vs/\h.DictOf (zZ P w) a vs
 | .dT kvs=>kvs.length<=sizeLine/\(a == sysModules)=false/\∃g:List (List mG×Addr×Value),
   Paired (λ(p:List mG×Addr×V) (q:List mG×Addr×Value)=>p.1=q.1/\H q.2.1=some (.tup (p.1.map kV))/\RelV p.2.2 q.2.2/\p.2.1=q.2.1) kvs g/\
   ∃o B ep,h.get? a=some o/\o.ExactDict/\o.data= .dict B ep/\B.toList=g.map (entryOfKey (tupleKind (zZ P w)))/\(g.map (·.1)).Nodup
 | .set S n=>h.SetOf (intKind P w) a S n
 | .ins C j fs=>H j=some (.own a)/\fs.length<=1000/\j ≠ a/\h.get? a=some (iu C j)/\
   ∃i,h.Ns1 j i/\(∀f,sM (fs.lookup f) (i f))/\PySem.Within i (fs.map (·.1))
 | .own _=>∃o,h.get? a=some o
 | .xd fs=>∃i,h.Ns1 a i/\∀f,sM (fs.lookup f) (i f)
 | .rng lo hi=>∃t u v,h.get? a=some { cls:= .type "range",data:= .fields #[.int lo t,.int hi u,.int 1 v] }
 | .frz o u=>h.get? a=some o/\zK H h a u
 | .tbl k q=>∃e:Array Value,h.get? a=some { cls:= .none,data:= .fields (k++e) }/\TriplesOk (k++e).toList/\∀p D,codeAmong p (k++e).toList=some D->∃c F vs t,D= .ref c/\H c=some (.frz F (.own c))/\F.data= .fields vs/\vs[1]? =some (.str q t)
 | .met f x=>h.get? a=some (PySem.W.methodObj (.ref f) (.ref x))
 | .ext l=>l h/\(∃o,h.get? a=some o)/\∀r y:Heap,l r->(∀o,r.get? a=some o->y.get? a=some o)->l y
def HOk (H:Hp)(h:Heap):Prop:=∀a o,H a=some o->zK P w H h a o
end
section
variable {P:Program}{w:World}{H H' :Hp}{h h' :Heap}{a:Addr}{o:HO}
theorem zK.lt (x:zK P w H h a o):a < h.objs.size:=by
 cases o with
 | lst c=>obtain⟨_,_,_,_,e⟩:=x;exact ao e
 | tup c=>obtain⟨_,_,_,p,_⟩:=x;exact p.lt
 | dK kvs=>obtain⟨_,_,_,_,o,_,_,e,_⟩:=x;exact ao e
 | dT kvs=>obtain⟨_,_,_,_,o,_,_,e,_⟩:=x;exact ao e
 | set S n=>obtain⟨o,_,_,_,e,_⟩:=x;exact ao e
 | ins C g fs=>obtain⟨_,_,_,e,_⟩:=x;exact ao e
 | own y=>obtain⟨_,e⟩:=x;exact ao e
 | xd fs=>obtain⟨_,⟨_,_,_,e,_⟩,_⟩:=x;exact ao e
 | rng lo hi=>obtain⟨_,_,_,e⟩:=x;exact ao e
 | frz ob u=>obtain⟨e,_⟩:=x;exact ao e
 | tbl d q=>obtain⟨_,e,_⟩:=x;exact ao e
 | met f y=>exact ao (x)
 | ext i=>obtain⟨_,⟨_,e⟩,_⟩:=x;exact ao e
theorem Paired.mapP {e g:Type}{F G:e->g->Prop}:∀{c:List e} {d:List g},Paired F c d->(∀a b,F a b->G a b)->Paired G c d
 | _,_,.nil,_=> .nil
 | _,_,.cons r t,f=> .cons (f _ _ r) (Paired.mapP t f)
theorem zK.stay (x:zK P w H h a o)(k:∀b u,(b=a\/H b=some (.own a))->h.get? b=some u->h'.get? b=some u)
  (Q:∀b,H b=some (.own a)->H' b=some (.own a)) (G:∀b j,H b=some (.tup j)->H' b=some (.tup j)) (J:∀b o u,H b=some (.frz o u)->H' b=some (.frz o u):=by exact λ_ _ _ q=>q):zK P w H' h' a o:=by
 induction o with
 | lst j=>obtain⟨z,i,n,r,e⟩:=x;exact⟨z,i,n,r,k _ _ (.inl rfl) e⟩
 | tup j=>obtain⟨z,i,r,⟨ob,e,c⟩,q⟩:=x;exact⟨z,i,r,⟨ob,k _ _ (.inl rfl) e,c⟩,q.imp id λ⟨N,l,F⟩=>⟨N,k _ _ (.inl rfl) l,F⟩⟩
 | dK kvs=>obtain⟨z,y,vs,r,ob,g,ep,e,c⟩:=x;exact⟨z,y,vs,r,ob,g,ep,k _ _ (.inl rfl) e,c⟩
 | dT kvs=>
  obtain⟨z,y,j,r,ob,g,ep,e,c⟩:=x;exact⟨z,y,j,Paired.mapP r λp q z=>⟨z.1,G _ _ z.2.1,z.2.2⟩,ob,g,ep,k _ _ (.inl rfl) e,c⟩
 | set S n=>obtain⟨ob,g,ep,t,e,c⟩:=x;exact⟨ob,g,ep,t,k _ _ (.inl rfl) e,c⟩
 | ins C X fs=>
  obtain⟨d,z,I,e,D,⟨B,g,ep,l,c⟩,r⟩:=x;exact⟨Q _ d,z,I,k _ _ (.inl rfl) e,D,⟨B,g,ep,k _ _ (.inr d) l,c⟩,r⟩
 | own y=>obtain⟨ob,e⟩:=x;exact⟨ob,k _ _ (.inl rfl) e⟩
 | xd fs=>obtain⟨D,⟨B,g,ep,e,c⟩,r⟩:=x;exact⟨D,⟨B,g,ep,k _ _ (.inl rfl) e,c⟩,r⟩
 | rng lo hi=>obtain⟨t,u,v,e⟩:=x;exact⟨t,u,v,k _ _ (.inl rfl) e⟩
 | frz ob u M=>obtain⟨e,q⟩:=x;exact⟨k _ _ (.inl rfl) e,M q⟩
 | tbl U q=>
  obtain⟨m,e,tr,al⟩:=x;exact⟨m,k a _ (.inl rfl) e,tr,λp O z=>let ⟨c,oc,vs,t,e1,l,e3⟩:=al p O z;⟨c,oc,vs,t,e1,J _ _ _ l,e3⟩⟩
 | met f y=>
  have e:=x;exact k a _ (.inl rfl) e
 | ext Z=>obtain⟨p,⟨o,e⟩,st⟩:=x;exact⟨st _ _ p λo q=>k _ _ (.inl rfl) q,⟨o,k _ _ (.inl rfl) e⟩,st⟩
theorem HOk.lt (x:HOk P w H h)(e:H a=some o):a < h.objs.size:=(x a o e).lt
theorem HOk.fresh (x:HOk P w H h)(e:h.objs.size<=a):H a=none:=by
 cases q:H a with
 | none=>rfl
 | some u=>exact absurd (aM (x.lt q) e) (aY _)
theorem HOk.kept (x:HOk P w H h)(k:∀b u,h.get? b=some u->h'.get? b=some u):HOk P w H h' :=λa o e=>
 (x a o e).stay (λb u _ q=>k b u q) (λ_ q=>q) λ_ _ q=>q
theorem HOk.laid (x:HOk P w H h)(k:∀b u,h.get? b=some u->h'.get? b=some u)(hp:h.objs.size<=a)(new:zK P w (ml H a o) h' a o):HOk P w (ml H a o) h' :=λb u e=>by
 have hn:=x.fresh hp
 by_cases d:b=a
 ·subst d;rw[zh]at e;cases e;exact new
 ·rw[zg d]at e;exact(x b u e).stay (λc v _ q=>k c v q) (λc q=>by rw[zg (zC q hn)];exact q) (λc g q=>by rw[zg (zC q hn)];exact q) λc o u q=>by rw[zg (zC q hn)];exact q
end
def Rd (H:Hp)(a:Addr)(u:HO):Prop:=H a=some u\/∃o,H a=some (.frz o u)
theorem Rd.ok (r:Rd H a u)(x:HOk P w H h):zK P w H h a u:=by
 rcases r with r | ⟨o,r⟩
 ·exact x a u r
 ·obtain⟨_,q⟩:=x a _ r;exact q
noncomputable def sj:Option HO->Prop
 | some (.lst _)=>True
 | some (.dK _)=>True
 | some (.dT _)=>True
 | some (.set _ _)=>True
 | some (.ins _ _ _)=>True
 | some (.ext _)=>True
 | _=>False
section
theorem HOk.write (ok:HOk P w H h)(g:sj (H x))(D:e=x\/H e=some (.own x))(k:∀b u,b ≠ e->h.get? b=some u->h'.get? b=some u)(B:∃u,h'.get? e=some u)
  (new:zK P w (ml H x o') h' x o'):HOk P w (ml H x o') h' :=λb u q=>by
 have d:∀c y,H c=some (.own y)->c ≠ x:=λc y r z=>by subst z;rw[r]at g;exact g
 have i:∀c l,H c=some (.tup l)->c ≠ x:=λc l r z=>by subst z;rw[r]at g;exact g
 by_cases j:b=x
 ·subst j;rw[zh]at q;cases q;exact new
 ·rw[zg j]at q
  by_cases a:b=e
  ·have C :H b=some (.own x):=by
    rcases D with z | z
    ·exact absurd (a.trans z) j
    ·rw[a];exact z
   rw[q]at C;cases C;obtain⟨v,F⟩:=B;exact⟨v,by rw[a];exact F⟩
  ·refine(ok b u q).stay (λc v p r=>k c v ?_ r) (λc r=>by rw[zg (d c b r)];exact r) (λc l r=>by rw[zg (i c l r)];exact r) λc o u r=>by rw[zg (λz=>by subst z;rw[r]at g;exact g)];exact r
   rcases p with rfl | p
   ·exact a
   ·rintro rfl
    rcases D with z | z
    ·exact d c b p z
    ·rw[p]at z;cases z;exact j rfl
end
structure Un (fs ex:List Addr) (H H' :Hp) (h h' :Heap):Prop where
 keep:∀b o,h.get? b=some o->H b=none->b ∉ fs->b ∉ ex->h'.get? b=some o
 slot:∀b o,h.get? b=some o->H b=none->b∈fs->b ∉ ex->∃sl,h'.get? b=some { o with slots:=sl }
 free:∀b o,h.get? b=some o->H b=none->b ∉ ex->H' b=none
 there:∀b o,h.get? b=some o->b ∉ ex->∃o',h'.get? b=some o'
 tups:∀b xs,H b=some (.tup xs)->H' b=some (.tup xs)
 frzs:∀b o u,H b=some (.frz o u)->H' b=some (.frz o u)
 tbls:∀b ps q,H b=some (.tbl ps q)->H' b=some (.tbl ps q)
section
variable {fs fs' ex ex' :List Addr}{H H1 H2:Hp}{h h1 h2 h' :Heap}{a x e:Addr}{o:HO}
theorem Un.any (u:Un fs ex H H1 h h1)(q:h.get? b=some ob)(n:H b=none)(d:b ∉ ex):∃sl,h1.get? b=some { ob with slots:=sl }:=by
 by_cases c:b∈fs
 ·exact u.slot b ob q n c d
 ·exact⟨ob.slots,u.keep b ob q n c d⟩
theorem Un.kept (k:∀b u,h.get? b=some u->h'.get? b=some u):Un fs ex H H h h' :=
 ⟨λb ob q _ _ _=>k b ob q,λb ob q _ _ _=>⟨ob.slots,k b ob q⟩,λ_ _ _ n _=>n,λb ob q _=>⟨ob,k b ob q⟩,λ_ _ q=>q,λ_ _ _ q=>q,λ_ _ _ q=>q⟩
theorem Un.refl:Un fs ex H H h h:=Un.kept λ_ _ q=>q
theorem Un.laid (k:∀b u,h.get? b=some u->h'.get? b=some u)(hp:h.objs.size<=a)(hn:H a=none):Un fs ex H (ml H a o) h h' where
 keep:=λb u q _ _ _=>k b u q
 slot:=λb u q _ _ _=>⟨u.slots,k b u q⟩
 free:=λb u q n _=>by rw[zg (au (aM (ao q) hp))];exact n
 there:=λb u q _=>⟨u,k b u q⟩
 tups:=λb c q=>by rw[zg (zC q hn)];exact q
 frzs:=λb u c q=>by rw[zg (zC q hn)];exact q
 tbls:=λb d q e=>by rw[zg (zC e hn)];exact e
theorem Un.write (d:sj (H x))(v:e=x\/H e=some (.own x))(k:∀b u,b ≠ e->h.get? b=some u->h'.get? b=some u)(g:∃u,h'.get? e=some u):Un fs ex H (ml H x o) h h' :=by
 have l:∀b,H b=none->b ≠ x:=λb n z=>by subst z;rw[n]at d;exact d
 have j:∀b,H b=none->b ≠ e:=λb n z=>by
  subst z;rcases v with r | r
  ·exact l b n r
  ·rw[n]at r;cases r
 have i:∀b u,H b=some u->¬ sj (some u)->b ≠ x:=λb u q nm z=>by subst z;rw[q]at d;exact nm d
 refine⟨λb u q n _ _=>k b u (j b n) q,λb u q n _ _=>⟨u.slots,k b u (j b n) q⟩,λb u q n _=>by rw[zg (l b n)];exact n,λb u q _=> ?_,
  λb p q=>by rw[zg (i b _ q λz=>z)];exact q,λb u p q=>by rw[zg (i b _ q λz=>z)];exact q,λb w q e=>by rw[zg (i b _ e λz=>z)];exact e⟩
 by_cases c:b=e
 ·subst c;exact g
 ·exact⟨u,k b u c q⟩
end
def tK (h:Heap)(H:Hp):List Addr:=(ba h.objs.size).filter λa=>(H a).isSome
def gG (h:Heap)(H:Hp):Heap:=PySem.W.hideAll h (tK h H)
theorem Yb (h:Heap)(H:Hp):(gG h H).objs.size=h.objs.size:=PySem.W.hideAll_size _ _
theorem wJ (e:h.get? b=some o)(n:H b=none):(gG h H).get? b=some o:=
 PySem.W.hideAll_get _ e λa=>by
  have q:=(fv.mp a).2;rw[n]at q;simp at q
theorem Xp (e:(gG h H).get? b=some o):h.get? b=some o/\H b=none:=by
 have a :=PySem.W.of_hideAll _ e;refine⟨a, ?_⟩;cases q:H b with
 | none=>rfl
 | some x=>
  have c:b∈tK h H:=fv.mpr ⟨bN.mpr (ao a),by simp[q]⟩
  have z:(gG h H).get? b=none:=PySem.W.hideAll_none _ c;rw[z]at e;cases e
end L2
namespace L2
open PySem PySem.Spec PyProof.Rows
structure Mod (K:ai) (mg:Str->Option Value) (base:Heap):Prop where
 kin:K.In base
 glob:base.Ns mainGlobals mg
 blt:∃mb,base.Ns builtinsNs mb/\∀x:Str,x ≠ "__name__"->mb x=bootBuiltins x
 nolimit:base.NoLimit
structure Cx where
 prog:Program
 w:World
 K:ai
 mg:Str->Option Value
 base:Heap
 A:Around
 N:List Str
 s₀:Shared
 H₀:Hp
 env:Env
 outer:List Env
 stack:List Env
 ex:List Addr
 fn:Str->Bool
 calm:Bool
 pn:List (Addr×Obj)
 xe:Value->Shared->Prop
noncomputable def mQ (l:List Env):List Addr:=l.filterMap (·.frame)
abbrev Cx.fs (X:Cx):List Addr:=mQ X.outer
noncomputable def pH (a:Scope)(x:Str):Prop:=a.names.lookup x=some .local\/a.names.lookup x=some .cell\/a.names.lookup x=some .free
noncomputable def Loc (a:Scope)(x:Str):Prop:=a.names.lookup x=some .local\/a.names.lookup x=some .cell
noncomputable def Bx (env:Env)(h:Heap)(m:Str->Option Value)(x:Str)(u:Value):Prop:=
 (env.kindOf x=some .local/\m x=some u)\/((env.kindOf x=some .cell\/env.kindOf x=some .free)/\∃c,env.cells.lookup x=some c/\h.IsCell c (some u))
structure Cx.Ok (X:Cx):Prop where
 mod:Mod X.K X.mg X.base
 kind:X.env.scope.kind= .function
 glob:X.env.globals=mainGlobals
 blt:X.env.builtins=builtinsNs
 above:X.s₀.heap.objs.size<=X.env.locals
 inj:∀x y c,X.env.cells.lookup x=some c->X.env.cells.lookup y=some c->x=y
 has:∀x,(X.env.kindOf x=some .cell\/X.env.kindOf x=some .free)->∃c,X.env.cells.lookup x=some c
 cab:∀x c,X.fn x=true->X.env.cells.lookup x=some c->X.s₀.heap.objs.size<=c
 hd:X.calm=true->X.A.handled=none
 frames:X.A.frames=some X.stack
 stk:X.stack=X.outer\/(X.stack=X.env :: X.outer/\X.env.frame=some X.env.locals)
 exf:∀b∈X.ex,b ≠ X.env.locals/\∀x c,X.env.cells.lookup x=some c->c ≠ b
 bs:∀b o,X.base.get? b=some o->X.s₀.heap.get? b=some o/\X.H₀ b=none
 bsz:X.base.objs.size<=X.s₀.heap.objs.size
 noex:∀b o,X.base.get? b=some o->b ∉ X.ex
 exfs:∀b∈X.ex,b ∉ X.fs
 funs:X.s₀.heap.FunFrames X.base X.outer
 frf:∀b∈X.fs,X.H₀ b=none
structure Inv (X:Cx) (pins:List (Addr×Obj)) (σ:List (Option V)) (H:Hp) (s:Shared):Prop where
 ok:X.Ok
 os:s.os=X.s₀.os
 bare:AllBare s.gens
 base:Un X.fs X.ex X.H₀ H X.s₀.heap s.heap
 loc:∃m,s.heap.Ns X.env.locals m/\∀(i:Nat) (x:Str) (v:V),X.N[i]? =some x->σ[i]? =some (some v)->pH X.env.scope x->∃u,RelV v u/\Bx X.env s.heap m x u
 cell:∀x c,X.env.cells.lookup x=some c->∃v,s.heap.IsCell c v
 free:H X.env.locals=none
 freeC:∀x c,X.env.cells.lookup x=some c->H c=none
 pin:∀p∈X.pn++pins,s.heap.get? p.1=some p.2/\H p.1=none/\p.1 ≠ X.env.locals/\p.1 ∉ X.fs/\∀v,p.2.data ≠ .cell v
 hok:HOk X.prog X.w H s.heap
 len:σ.length=X.N.length
section
variable {X:Cx}{pins:List (Addr×Obj)}{σ:List (Option V)}{H H' :Hp}{s:Shared}{h' :Heap}
theorem Cx.Ok.nofr (ok:X.Ok){b:Addr}{o:Obj}(e:X.base.get? b=some o):b ∉ X.fs:=λa=>by
 have:=(ok.funs.mem a).1;rw[e]at this;cases this
theorem Inv.bs (I:Inv X pins σ H s):∀b o,X.base.get? b=some o->s.heap.get? b=some o/\H b=none:=λb o e=>
 ⟨I.base.keep b o (I.ok.bs b o e).1 (I.ok.bs b o e).2 (I.ok.nofr e) (I.ok.noex b o e),I.base.free b o (I.ok.bs b o e).1 (I.ok.bs b o e).2 (I.ok.noex b o e)⟩
theorem Inv.bk (I:Inv X pins σ H s):∀b o,X.base.get? b=some o->s.heap.get? b=some o:=λb o e=>(I.bs b o e).1
theorem Inv.mod (I:Inv X pins σ H s):Mod X.K X.mg X.base:=I.ok.mod
theorem Inv.kIn (I:Inv X pins σ H s):X.K.In s.heap:=I.ok.mod.kin.keeps I.bk
theorem Inv.lt (I:Inv X pins σ H s):X.env.locals < s.heap.objs.size:=let ⟨_,hn,_⟩:=I.loc;hn.lt
theorem Inv.sz (I:Inv X pins σ H s):X.s₀.heap.objs.size<=s.heap.objs.size:=aB I.ok.above (fE I.lt)
theorem Inv.nofs (I:Inv X pins σ H s)(h:s.heap.objs.size<=a):a ∉ X.fs:=λd=>by
 obtain⟨_,o,c,_⟩:=I.ok.funs.mem d;exact absurd (aM (ao c) (aB I.sz h)) (aY _)
theorem Inv.cne (I:Inv X pins σ H s):∀x c,X.env.cells.lookup x=some c->c ≠ X.env.locals:=λx c e z=>by
 obtain⟨v,o,g,hd⟩:=I.cell x c e;obtain⟨m,⟨j,i,ep,d,a,_⟩,_⟩:=I.loc;rw[z,d]at g;cases g;rw[a]at hd;cases hd
theorem Inv.funs (I:Inv X pins σ H s):s.heap.FunFrames X.base X.outer:=by
 have all:∀(l:List Env),(∀b∈mQ l,b∈X.fs)->X.s₀.heap.FunFrames X.base l->s.heap.FunFrames X.base l:=by
  intro l
  induction l with
  | nil=>intro _ _;trivial
  | cons env r j=>
   intro g p;obtain⟨i,⟨L,o,c,hn,k,hd⟩,hr⟩:=p;have d:=g L (by unfold mQ;rw[dP,c];exact ac)
   obtain⟨sl,e⟩:=I.base.slot L o k (I.ok.frf L d) d λz=>I.ok.exfs L z d;exact⟨i,⟨L,_,c,hn,e,hd⟩,j (λb a=>g b (by unfold mQ;rw[dP,c];exact ab _ a)) hr⟩
 exact all _ (λ_ a=>a) I.ok.funs
theorem Inv.stack (I:Inv X pins σ H s):s.heap.FunFrames X.base X.stack:=by
 rcases I.ok.stk with e | ⟨e,a⟩
 ·rw[e];exact I.funs
 ·rw[e];obtain⟨m,hn,_⟩:=I.loc;refine .cons (by rw[I.ok.kind];decide) a hn ?_ I.funs
  exact Heap.get?_none_of_le (aB I.ok.bsz I.ok.above)
theorem Inv.stkSub (I:Inv X pins σ H s):∀b∈mQ X.stack,b∈X.env.locals :: X.fs:=λb a=>by
 rcases I.ok.stk with e | ⟨e,c⟩
 ·rw[e]at a;exact ab _ a
 ·rw[e]at a;unfold mQ at a;rw[dP,c]at a;exact a
theorem Inv.stkFree (I:Inv X pins σ H s):∀b∈mQ X.stack,H b=none:=λb a=>by
 rcases ag.mp (I.stkSub b a) with e | a
 ·rw[e];exact I.free
 ·obtain⟨_,o,c,_⟩:=I.ok.funs.mem a;exact I.base.free b o c (I.ok.frf b a) λz=>I.ok.exfs b z a
theorem Inv.step {g' :Array GenState}{t' :Nat}{d' :Drawn}{ch:List Addr}(I:Inv X pins σ H s)
  (g:∀b∈ch,(b∈X.ex\/X.s₀.heap.objs.size<=b)/\b ≠ X.env.locals/\(∀x c,X.env.cells.lookup x=some c->c ≠ b)/\∀p∈X.pn++pins,p.1 ≠ b)
  (keep:∀b o,b ≠ X.env.locals->b ∉ X.fs->b ∉ ch->s.heap.get? b=some o->H b=none->h'.get? b=some o)
  (B:∀b o,b ≠ X.env.locals->b∈X.fs->b ∉ ch->s.heap.get? b=some o->H b=none->∃sl,h'.get? b=some { o with slots:=sl }) (free:∀b o,b ∉ ch->s.heap.get? b=some o->H b=none->H' b=none)
  (G:∀b o,b ∉ ch->s.heap.get? b=some o->∃Q,h'.get? b=some Q)
  (O:∀b C,H b=some (.tup C)->H' b=some (.tup C)) (M:∀b o u,H b=some (.frz o u)->H' b=some (.frz o u)) (N:∀b P q,H b=some (.tbl P q)->H' b=some (.tbl P q))
  (ns:∀m,s.heap.Ns X.env.locals m->h'.Ns X.env.locals m) (U:HOk X.prog X.w H' h') (hg:AllBare g'):
  Inv X pins σ H' { s with heap:=h',gens:=g',drawn:=d',toks:=t' }:=by
 have S:∀b o,X.s₀.heap.get? b=some o->b ≠ X.env.locals:=λb o e=>au (aM (ao e) I.ok.above);have nA:∀b o,X.s₀.heap.get? b=some o->b ∉ X.ex->b ∉ ch:=λb o e a D=>by
  rcases(g b D).1 with z | z
  ·exact a z
  ·exact absurd (aM (ao e) z) (aY _)
 have j:∀x c,X.env.cells.lookup x=some c->∀v,s.heap.IsCell c v->h'.IsCell c v:=λx c e v ⟨o,J,hd⟩=>by
  have y:=λz=>(g c z).2.2.1 x c e rfl
  by_cases hc:c∈X.fs
  ·obtain⟨sl,q⟩:=B c o (I.cne x c e) hc y J (I.freeC x c e);exact⟨_,q,hd⟩
  ·exact⟨o,keep c o (I.cne x c e) hc y J (I.freeC x c e),hd⟩
 refine⟨I.ok,I.os,hg,⟨λb o e n D a=> ?_,λb o e n D a=> ?_,λb o e n a=> ?_,λb o e a=> ?_,λb C e=>O b C (I.base.tups b C e),λb o C e=>M b o C (I.base.frzs b o C e),λb P q e=>N b P q (I.base.tbls b P q e)⟩, ?_,λx c e=> ?_, ?_,λx c e=> ?_,λp hp=> ?_,U,I.len⟩
 ·exact keep b o (S b o e) D (nA b o e a) (I.base.keep b o e n D a) (I.base.free b o e n a)
 ·obtain⟨sl,F⟩:=I.base.slot b o e n D a;obtain⟨sl',Z⟩:=B b _ (S b o e) D (nA b o e a) F (I.base.free b o e n a);exact⟨sl',Z⟩
 ·obtain⟨Q,F⟩:=I.base.there b o e a;exact free b Q (nA b o e a) F (I.base.free b o e n a)
 ·obtain⟨Q,F⟩:=I.base.there b o e a;exact G b Q (nA b o e a) F
 ·obtain⟨m,hn,hl⟩:=I.loc;refine⟨m,ns m hn,λi x v F Z e3=> ?_⟩;obtain⟨u,r,l⟩:=hl i x v F Z e3;refine⟨u,r, ?_⟩;rcases l with l | ⟨k,c,e,z⟩
  ·exact .inl l
  ·exact .inr ⟨k,c,e,j x c e _ z⟩
 ·obtain⟨v,z⟩:=I.cell x c e;exact⟨v,j x c e v z⟩
 ·obtain⟨m,⟨o,_,_,J,_⟩,_⟩:=I.loc;exact free _ o (λz=>(g _ z).2.1 rfl) J I.free
 ·obtain⟨v,o,J,hd⟩:=I.cell x c e;exact free c o (λz=>(g c z).2.2.1 x c e rfl) J (I.freeC x c e)
 ·obtain⟨e,n,ne,nf,d⟩:=I.pin p hp;have y:=λz=>(g p.1 z).2.2.2 p hp rfl;exact⟨keep p.1 p.2 ne nf y e n,free p.1 p.2 y e n,ne,nf,d⟩
theorem Inv.un {t' :Nat}(I:Inv X pins σ H s)(u:Un X.fs [] H H' s.heap h')(d:HOk X.prog X.w H' h'):Inv X pins σ H' { s with heap:=h',toks:=t' }:=by
 obtain⟨m,⟨o,p,ep,i,r⟩,_⟩:=id I.loc;obtain⟨sl,k⟩:=u.any i I.free (by simp)
 exact I.step (ch:=[]) (λ_ z=>nomatch z) (λb o _ c _ e n=>u.keep b o e n c (by simp)) (λb o _ c _ e n=>u.slot b o e n c (by simp)) (λb o _ e n=>u.free b o e n (by simp)) (λb o _ e=>u.there b o e (by simp)) u.tups u.frzs u.tbls (λq l=>by
  obtain⟨v,es',g,a,j⟩:=l;rw[i]at a;cases a;exact⟨_,es',g,k,j⟩) d I.bare
theorem Inv.call {l :Array GenState}{t' :Nat}{v :Drawn}{ch:List Addr}(I:Inv X pins σ H s)(u:Un (mQ X.stack) ch H H' s.heap h')(i:HOk X.prog X.w H' h')(B:AllBare l)
  (d:∀b∈ch,(b∈X.ex\/X.s₀.heap.objs.size<=b)/\b ≠ X.env.locals/\(∀x c,X.env.cells.lookup x=some c->c ≠ b)/\∀p∈X.pn++pins,p.1 ≠ b):
  Inv X pins σ H' { s with heap:=h',gens:=l,drawn:=v,toks:=t' }:=by
 obtain⟨m,⟨o,F,ep,q,r⟩,_⟩:=id I.loc;obtain⟨sl,j⟩:=u.any q I.free λz=>(d _ z).2.1 rfl;exact I.step d (λb o j y a e n=>u.keep b o e n (λz=>(ag.mp (I.stkSub b z)).elim j y) a) (λb o _ _ a e n=>u.any e n a) (λb o a e n=>u.free b o e n a) (λb o a e=>u.there b o e a) u.tups u.frzs u.tbls (λG D=>by
  obtain⟨J,es',k,g,C⟩:=D;rw[q]at g;cases g;exact⟨_,es',k,j,C⟩) i B
theorem Inv.turned {t' :Nat}{it:Addr}(I:Inv X pins σ H s)(k:∀b o,b ≠ it->s.heap.get? b=some o->h'.get? b=some o)(hn:H it=none)(g:it ≠ X.env.locals)
  (y:it∈X.ex\/X.s₀.heap.objs.size<=it) (C:∀x c,X.env.cells.lookup x=some c->c ≠ it) (w:∀p∈X.pn++pins,p.1 ≠ it):Inv X pins σ H { s with heap:=h',toks:=t' }:=by
 have d:∀b u,H b=some u->b ≠ it:=λb u e z=>by rw[z,hn]at e;cases e
 refine I.step (ch:=[it]) (λb i=> ?_) (λb o _ _ a e _=>k b o (λz=>a (by simp[z])) e) (λb o _ _ a e _=>⟨o.slots,k b o (λz=>a (by simp[z])) e⟩) (λ_ _ _ _ n=>n)
  (λb o a e=>⟨o,k b o (λz=>a (by simp[z])) e⟩) (λ_ _ e=>e) (λ_ _ _ e=>e) (λ_ _ _ e=>e) (λm B=> ?_) (λb u e=> ?_) I.bare
 ·have e:=by simpa using i
  subst e;exact⟨y,g,C,w⟩
 ·obtain⟨o,j,ep,l,r⟩:=B;exact⟨o,j,ep,k _ o (bf g) l,r⟩
 ·refine(I.hok b u e).stay (λc v a q=>k c v ?_ q) (λ_ q=>q) λ_ _ q=>q;rcases a with z | z
  ·rw[z];exact d b u e
  ·exact d c _ z
theorem Inv.tok (I:Inv X pins σ H s)(t:Nat):Inv X pins σ H { s with toks:=t }:=I.un Un.refl I.hok
theorem Inv.kept (I:Inv X pins σ H s)(k:∀b u,s.heap.get? b=some u->h'.get? b=some u):Inv X pins σ H { s with heap:=h',toks:=t' }:=I.un (Un.kept k) (I.hok.kept k)
theorem Inv.laid (I:Inv X pins σ H s)(k:∀b u,s.heap.get? b=some u->h'.get? b=some u)(hp:s.heap.objs.size<=a)(new:zK X.prog X.w (ml H a o) h' a o):
  Inv X pins σ (ml H a o) { s with heap:=h',toks:=t' }:=I.un (Un.laid k hp (I.hok.fresh hp)) (I.hok.laid k hp new)
theorem Inv.write (I:Inv X pins σ H s)(d:sj (H x))(c:e=x\/H e=some (.own x))(k:∀b u,b ≠ e->s.heap.get? b=some u->h'.get? b=some u)(a:∃u,h'.get? e=some u)
  (new:zK X.prog X.w (ml H x o) h' x o):Inv X pins σ (ml H x o) { s with heap:=h',toks:=t' }:=I.un (Un.write d c k a) (I.hok.write d c k a new)
theorem Inv.pins_of (I:Inv X pins σ H s)(h:∀p∈pins',s.heap.get? p.1=some p.2/\H p.1=none/\p.1 ≠ X.env.locals/\p.1 ∉ X.fs/\∀v,p.2.data ≠ .cell v):Inv X pins' σ H s:=
 ⟨I.ok,I.os,I.bare,I.base,I.loc,I.cell,I.free,I.freeC,λp hp=>(ce.mp hp).elim (λz=>I.pin p (dB _ z)) (h p),I.hok,I.len⟩
theorem U1 {N:List Str}(e:N.Nodup){i j:Nat}{x:Str}(a:N[i]? =some x)(b:N[j]? =some x):i=j:=by
 obtain⟨g,d⟩:=aK.mp a;obtain⟨k,c⟩:=aK.mp b;exact(dI e).mp (d.trans c.symm)
theorem Wl {M:Model}{A:Around}{E:Value->Shared->Prop}{i:Nat}{x:Str}{v:V}{u:Value}{Q:Unit->Shared->Prop}(I:Inv X pins σ H s)(hN:X.N.Nodup)(hi:X.N[i]? =some x)(D:Loc X.env.scope x)(r:RelV v u)
  (h:∀s',Inv X pins (σ.set i (some v)) H s' ->(∃a,aQ a s.heap s'.heap/\(a=X.env.locals\/X.env.cells.lookup x=some a))->Q () s') (hf:X.fn x=true\/X.env.scope.names.lookup x=some .local:=by first | exact .inl rfl | exact .inr rfl | assumption):wpAny M A (storeName X.env x u) Q E s:=by
 obtain⟨m,hn,hl⟩:=id I.loc;have hcls:(X.env.scope.kind == .class || (X.env.scope.kind == .module && X.env.locals != X.env.globals))=false:=by rw[I.ok.kind];rfl
 have O:i < σ.length:=by rw[I.len];exact(aK.mp hi).1
 have cne:=I.cne;have l:∀{a:Addr} {h' :Heap},(∃o,s.heap.get? a=some o/\H a=none)->aQ a _ h' ->HOk _ X.w H h' :=λ{a h'} ha g b ob e=>by
  obtain⟨_,_,F⟩:=ha;refine(I.hok b ob e).stay (λc w' C q=>(g.2 c ?_).trans q) (λ_ q=>q) λ_ _ q=>q
  rintro rfl
  rcases C with rfl | C
  ·rw[F]at e;cases e
  ·rw[F]at C;cases C
 rcases D with J | J
 ·refine wpAny_storeName_local J hn (λh' hn' g=> ?_) hcls;obtain⟨oL,_,_,hoL,_⟩:=id hn;refine h _ ⟨I.ok,I.os,I.bare,⟨λb o e n S D=> ?_,λb o e n S D=> ?_,I.base.free,λb o e D=> ?_,I.base.tups,I.base.frzs,I.base.tbls⟩,⟨_,hn',λj y v' B G e3=> ?_⟩,λy c e=> ?_,I.free,I.freeC,λp hp=> ?_,l ⟨oL,hoL,I.free⟩ g,by simpa using I.len⟩ ⟨_,g,.inl rfl⟩
  ·exact(g.2 b (au (aM (ao e) I.ok.above))).trans (I.base.keep b o e n S D)
  ·obtain⟨sl,B⟩:=I.base.slot b o e n S D;exact⟨sl,(g.2 b (au (aM (ao e) I.ok.above))).trans B⟩
  ·obtain⟨o',B⟩:=I.base.there b o e D;exact⟨o',(g.2 b (au (aM (ao e) I.ok.above))).trans B⟩
  ·by_cases U:j=i
   ·subst U;rw[hi]at B;cases B;rw[bj O]at G;cases G;exact⟨u,r,.inl ⟨J,by simp⟩⟩
   ·rw[aC (bf U)]at G;obtain⟨u',r',q⟩:=hl j y v' B G e3;refine⟨u',r', ?_⟩;rcases q with ⟨k,e⟩ | ⟨k,c,e,z⟩
    ·refine .inl ⟨k, ?_⟩;have:y ≠ x:=λe=>U (U1 hN B (e ▸ hi));simp[this,e]
    ·exact .inr ⟨k,c,e,z.sameBut g (cne y c e)⟩
  ·obtain⟨w',z⟩:=I.cell y c e;exact⟨w',z.sameBut g (cne y c e)⟩
  ·obtain⟨e,n,ne,nf,d⟩:=I.pin p hp;exact⟨(g.2 p.1 ne).trans e,n,ne,nf,d⟩
 ·have P:X.fn x=true:=by
   rcases hf with z | z
   ·exact z
   ·rw[z]at J;cases J
  obtain⟨c,C⟩:=I.ok.has x (.inl J);obtain⟨w',z⟩:=I.cell x c C;refine wpAny_storeName_cell I.ok.kind J C z (λh' Z g=> ?_);obtain⟨oc,hoc,hocd⟩:=id z;refine h _ ⟨I.ok,I.os,I.bare,⟨λb o e n S D=> ?_,λb o e n S D=> ?_,I.base.free,λb o e D=> ?_,I.base.tups,I.base.frzs,I.base.tbls⟩,⟨m,hn.sameBut g (bf (cne x c C)),λj y v' B G e3=> ?_⟩,λy c' e=> ?_,I.free,I.freeC,λp hp=> ?_,l ⟨oc,hoc,I.freeC x c C⟩ g,by simpa using I.len⟩ ⟨c,g,.inr C⟩
  ·exact(g.2 b (au (aM (ao e) (I.ok.cab x c P C)))).trans (I.base.keep b o e n S D)
  ·obtain⟨sl,B⟩:=I.base.slot b o e n S D;exact⟨sl,(g.2 b (au (aM (ao e) (I.ok.cab x c P C)))).trans B⟩
  ·obtain⟨o',B⟩:=I.base.there b o e D;exact⟨o',(g.2 b (au (aM (ao e) (I.ok.cab x c P C)))).trans B⟩
  ·by_cases U:j=i
   ·subst U;rw[hi]at B;cases B;rw[bj O]at G;cases G;exact⟨u,r,.inr ⟨.inl J,c,C,Z⟩⟩
   ·rw[aC (bf U)]at G;obtain⟨u',r',q⟩:=hl j y v' B G e3;refine⟨u',r', ?_⟩;rcases q with q | ⟨k,c',e,z'⟩
    ·exact .inl q
    ·refine .inr ⟨k,c',e,z'.sameBut g ?_⟩
     rintro rfl
     exact U (U1 hN B (I.ok.inj _ _ _ e C ▸ hi))
  ·by_cases hcc:c' =c
   ·subst hcc;exact⟨_,Z⟩
   ·obtain⟨w2,z2⟩:=I.cell y c' e;exact⟨w2,z2.sameBut g hcc⟩
  ·obtain⟨e,n,ne,nf,d⟩:=I.pin p hp;refine⟨(g.2 p.1 ?_).trans e,n,ne,nf,d⟩;intro q;rw[q,hoc]at e;have q' :=aE e;exact d w' (by rw[← q'];exact hocd)
theorem U2 {Q:Unit->Shared->Prop}(I:Inv X pins σ H s)(e:X.N.Nodup)(hi:X.N[i]? =some x)(d:Loc X.env.scope x)(r:RelV v u)
  (h:∀a,Inv X pins (σ.set i (some v)) H a ->Q () a) (g:X.fn x=true\/X.env.scope.names.lookup x=some .local:=by first | exact .inl rfl | exact .inr rfl | assumption):wpAny M A (storeName X.env x u) Q E s:=
 Wl I e hi d r (λa c _=>h a c) g
theorem Inv.call' (I:Inv X pins σ H s)(i:s'.os=s.os)(u:Un (mQ X.stack) ch H H' s.heap s'.heap)(d:HOk X.prog X.w H' s'.heap)(g:AllBare s'.gens)
  (a:∀b∈ch,(b∈X.ex\/X.s₀.heap.objs.size<=b)/\b ≠ X.env.locals/\(∀x c,X.env.cells.lookup x=some c->c ≠ b)/\∀p∈X.pn++pins,p.1 ≠ b):Inv X pins σ H' s' :=by
 obtain⟨h',k,j,t',l⟩:=s';have e:=i;subst e;exact I.call u d g a
end
abbrev XK:=Value->Option Addr->Hp->Prop
noncomputable abbrev St:=List (Option V)
abbrev VK:=V->Hp->Prop
abbrev TE:=St->Hp->VK->Prop
abbrev TT:=St->Hp->(Bool->Hp->Prop)->Prop
abbrev TA:=St->Hp->(List V->Hp->Prop)->Prop
structure xw where
 nx:St->Hp->Prop
 rt:VK
 bk:St->Hp->Prop:=λ_ _=>False
 ct:St->Hp->Prop:=λ_ _=>False
abbrev TS:=xw->St->Hp->Prop
def EP (X:Cx)(a:List (Addr×Obj))(e:St)(Q:VK)(u:Value)(d :Shared):Prop:=∃v c,Inv X a e c d /\RelV v u/\Q v c
def TP (X:Cx)(a:List (Addr×Obj))(e:St)(Q:Bool->Hp->Prop)(b:Bool)(d :Shared):Prop:=∃c,Inv X a e c d /\Q b c
def AP (X:Cx)(a:List (Addr×Obj))(g:St)(Q:List V->Hp->Prop)(e:List Value)(d :Shared):Prop:=∃vs c,Inv X a g c d /\Vals vs e/\Q vs c
def SP (X:Cx)(a:List (Addr×Obj))(D:xw)(f:Flow)(d :Shared):Prop:=
 match f with
 | .next=>∃σ' c,Inv X a σ' c d /\D.nx σ' c
 | .brk=>∃σ' c,Inv X a σ' c d /\D.bk σ' c
 | .cont=>∃σ' c,Inv X a σ' c d /\D.ct σ' c
 | .ret u=>∃v σ' c,Inv X a σ' c d /\RelV v u/\D.rt v c
def PE (X:Cx)(e:Expr)(t:TE):Prop:=
 ∀(a:List (Addr×Obj)) (s:Shared) (c:St) (H:Hp) (Q:VK),Inv X a c H s->t c H Q->wpAny (model X.prog X.w) X.A (eval e X.env) (EP X a c Q) X.xe s
def PT (X:Cx)(e:Expr)(t:TT):Prop:=
 ∀(a:List (Addr×Obj)) (s:Shared) (c:St) (H:Hp) (Q:Bool->Hp->Prop),Inv X a c H s->t c H Q->wpAny (model X.prog X.w) X.A (isTrue e X.env (eval e X.env)) (TP X a c Q) X.xe s
def PW (X:Cx)(e:Expr)(t:TT):Prop:=
 ∀(c:Sem Value) (a:List (Addr×Obj)) (s:Shared) (d:St) (H:Hp) (Q:Bool->Hp->Prop),Inv X a d H s->t d H Q->wpAny (model X.prog X.w) X.A (isTrue e X.env c) (TP X a d Q) X.xe s
theorem PW.pt (h:PW X e t):PT X e t:=h _
def PA (X:Cx)(d:List Expr)(t:TA):Prop:=
 ∀(pos:Pos) (a:List _) (s:Shared) (c:St) (H:Hp) (Q:List V->Hp->Prop),Inv X a c H s->t c H Q->wpAny (model X.prog X.w) X.A (spliced (backTo pos (starEach d X.env))) (AP X a c Q) X.xe s
def PS (X:Cx)(st:Stmt)(t:TS):Prop:=
 ∀(a:List (Addr×Obj)) (s:Shared) (c:St) (H:Hp) (D:xw),Inv X a c H s->t D c H->wpAny (model X.prog X.w) X.A (exec st X.env) (SP X a D) X.xe s
def PSs (X:Cx)(st:List Stmt)(t:TS):Prop:=
 ∀(a:List (Addr×Obj)) (s:Shared) (c:St) (H:Hp) (D:xw),Inv X a c H s->t D c H->wpAny (model X.prog X.w) X.A (execs st X.env) (SP X a D) X.xe s
theorem mo {d:Type}{t:Sem d}{Q c :d->Shared->Prop}(h:wpAny M A t Q E s)(e:∀a s,Q a s->c a s):wpAny M A t c E s:=cG h e λ_ _ x=>x
end L2
namespace L2
open PySem PySem.Spec PyProof.Rows
section
theorem bin (p:PE X a ta)(k:PE X b tb){R:V->V->Hp->Prop}(I:Inv X pins σ H s)(h:ta σ H λx i=>tb σ i λy c=>R x y c)
  {j:Type} {Q:j->Shared->Prop} {f:Value->Value->Sem j}
  (r:∀v u g x y c,Inv X pins σ c g->RelV x v->RelV y u->R x y c->wpAny (model X.prog X.w) X.A (f v u) Q X.xe g):
  wpAny (model X.prog X.w) X.A (eval a X.env) (λv e=>wpAny (model X.prog X.w) X.A (eval b X.env) (λu d=>wpAny (model X.prog X.w) X.A (f v u) Q X.xe d) X.xe e) X.xe s:=by
 refine mo (p _ s σ H _ I h) λv C ⟨x,i,q,o,B⟩=> ?_;refine mo (k _ C σ i _ q B) λu g ⟨y,c,D,F,l⟩=> ?_;exact r v u g x y c D o F l
def Jo (i:Nat):TE:=λa H Q=>∃v,a[i]? =some (some v)/\Q v H
def tC (v:V):TE:=λ_ H Q=>Q v H
theorem ZN (p:X.N[i]? =some x)(q:pH X.env.scope x)(hd:(x == ("__debug__":Str))=false:=by decide)(j:(x == ("__classdict__":Str))=false:=by decide):PE X (.Name x pos) (Jo i):=by
 intro k s B H Q I h;obtain⟨v,e,h⟩:=h;obtain⟨m,hn,y⟩:=I.loc;obtain⟨u,r,l⟩:=y i x v p e q;have g:EP X _ B Q u s:=⟨v,H,I,r,h⟩;rcases l with ⟨d,w⟩ | ⟨d,c,o,a⟩
 ·exact wpAny_Name (wpAny_loadName_local I.ok.kind d hn w g) hd
 ·rcases d with d | d
  ·exact wpAny_Name (wpAny_loadName_cell I.ok.kind d o a g) hd
  ·exact wpAny_Name (wpAny_loadName_free I.ok.kind d o a g j) hd
theorem xx {i j pos}:PE X (.Constant (.int i) j pos) (tC (.int i)):=λ_ _ _ H _ I h=>wpAny_Constant_int ⟨.int i,H,I.tok _,⟨_,rfl⟩,h⟩
theorem Gb {b j pos}:PE X (.Constant (.bool b) j pos) (tC (.bl b)):=λ_ _ _ H _ I h=>Constant_bool ⟨.bl b,H,I,rfl,h⟩
theorem Yc {x j pos}:PE X (.Constant (.str x) j pos) (tC (.str x)):=λ_ _ _ H _ I h=>Calls.Constant_str ⟨.str x,H,I.tok _,⟨_,rfl⟩,h⟩
noncomputable def Gl (X:Cx)(x:Str):Prop:=X.env.kindOf x=some .globalImplicit
theorem wK (I:Inv X pins σ H s)(c:Gl X x)(a:X.mg x=some u)(h:Q u s)
  (hd:(x == ("__debug__":Str))=false:=by decide):wpAny (model X.prog X.w) X.A (eval (.Name x pos) X.env) Q E s:=
 fJ I.ok.kind c (Calls.loadGlobal_global (by rw[I.ok.glob];exact I.mod.glob.keeps I.bk) a h) hd
theorem ZJ (I:Inv X pins σ H s)(c:Gl X x)(a:X.mg x=none)(g:bootBuiltins x=some u)(h:Q u s)
  (hn:x ≠ "__name__":=by decide) (hd:(x == ("__debug__":Str))=false:=by decide):wpAny (model X.prog X.w) X.A (eval (.Name x pos) X.env) Q E s:=by
 obtain⟨i,d,e⟩:=I.mod.blt;exact fJ I.ok.kind c (Calls.loadGlobal_builtin (by rw[I.ok.glob];exact I.mod.glob.keeps I.bk) a (by rw[I.ok.blt];exact d.keeps I.bk) ((e x hn).trans g) h) hd
theorem Xq (c:Gl X x)(a:X.mg x=some u)(r:RelV v u)(hd:(x == ("__debug__":Str))=false:=by decide):PE X (.Name x pos) (tC v):=
 λ_ _ _ H _ I h=>wK I c a ⟨v,H,I,r,h⟩ hd
theorem wL (c:Gl X x)(a:X.mg x=none)(d:bootBuiltins x=some u)(r:RelV v u)(hn:x ≠ "__name__":=by decide)(hd:(x == ("__debug__":Str))=false:=by decide):PE X (.Name x pos) (tC v):=
 λ_ _ _ H _ I h=>ZJ I c a d ⟨v,H,I,r,h⟩ hn hd
variable {tA tB' :TT}{rest:List Expr}
def A2 (t u:TT):TT:=λd H Q=>t d H λc a=>if c=true then u d a Q else Q false a
def DI (t u:TT):TT:=λd H Q=>t d H λc a=>if c=true then Q true a else u d a Q
def Bj (t:TT):TT:=λd H Q=>t d H λc a=>Q (!c) a
theorem Xr (g:PT X a tA):PW X (.BoolOp .And [a] pos) tA:=by
 intro k d s i H Q I h;refine isTrue_and (mo (g _ s i H Q I h) λc j e=> ?_);cases c with
 | true=>exact isTrue_and_nil e
 | false=>exact e
theorem Gc (g:PT X a tA):PW X (.BoolOp .Or [a] pos) tA:=by
 intro k d s i H Q I h;refine isTrue_or (mo (g _ s i H Q I h) λc j e=> ?_);cases c with
 | false=>exact isTrue_or_nil e
 | true=>exact e
theorem Ge (o:PT X a tA)(k:PW X (.BoolOp .And (b :: rest) pos) tB'):PW X (.BoolOp .And (a :: b :: rest) pos) (A2 tA tB'):=by
 intro l d s j H Q I h;refine isTrue_and (mo (o _ s j H _ I h) λc p ⟨i,e,g⟩=> ?_);cases c with
 | true=>exact k l _ p j i Q e g
 | false=>exact⟨i,e,g⟩
theorem FQ (o:PT X a tA)(k:PW X (.BoolOp .Or (b :: rest) pos) tB'):PW X (.BoolOp .Or (a :: b :: rest) pos) (DI tA tB'):=by
 intro l d s j H Q I h;refine isTrue_or (mo (o _ s j H _ I h) λc p ⟨i,e,g⟩=> ?_);cases c with
 | true=>exact⟨i,e,g⟩
 | false=>exact k l _ p j i Q e g
theorem xy (g:PT X a tA):PT X (.UnaryOp .Not a pos) (Bj tA):=by
 intro d s i H Q I h;exact isTrue_not (g _ s i H (λc e=>Q _ e) I h)
def Hm (e tb:TE):TE:=λd H Q=>e d H λx a=>∃c,x= .bl c/\if c=true then tb d a Q else Q (.bl false) a
def BL (e tb:TE):TE:=λd H Q=>e d H λx a=>∃c,x= .bl c/\if c=true then Q (.bl true) a else tb d a Q
def DV (a:TE):TE:=λe H Q=>a e H λx d=>∃c,x= .bl c/\Q (.bl (!c)) d
theorem Gf {op}(h:PE X a t):PE X (.BoolOp op [a] pos) t:=λc s e H Q I d=>BoolOp_one (h _ s e H Q I d)
theorem Gg (o:PE X a ta)(k:PE X (.BoolOp .And (b :: rest) pos) tb):PE X (.BoolOp .And (a :: b :: rest) pos) (Hm ta tb):=by
 intro e s j H Q I h;refine BoolOp_and (mo (o _ s j H _ I h) λv p ⟨x,i,g,l,d⟩=> ?_);obtain⟨c,rfl,d⟩:=d;cases l;refine bp ?_;cases c with
 | true=>exact k _ p j i Q g d
 | false=>exact⟨.bl _,i,g,rfl,d⟩
theorem E9 (o:PE X a ta)(k:PE X (.BoolOp .Or (b :: rest) pos) tb):PE X (.BoolOp .Or (a :: b :: rest) pos) (BL ta tb):=by
 intro e s j H Q I h;refine BoolOp_or (mo (o _ s j H _ I h) λv p ⟨x,i,g,l,d⟩=> ?_);obtain⟨c,rfl,d⟩:=d;cases l;refine bp ?_;cases c with
 | false=>exact k _ p j i Q g d
 | true=>exact⟨.bl _,i,g,rfl,d⟩
theorem Gh (i:PE X a ta):PE X (.UnaryOp .Not a pos) (DV ta):=by
 intro e s l H Q I h;refine UnaryOp_ (mo (i _ s l H _ I h) λv o ⟨x,k,j,g,d⟩=> ?_);obtain⟨c,rfl,d⟩:=d;cases g;exact not_of (bp ⟨.bl _,k,j,rfl,d⟩)
def Dq (t:TT)(e tb:TE):TE:=λa H Q=>t a H λc d=>if c=true then e a d Q else tb a d Q
theorem vT (p:PT X c tA)(q:PE X a ta)(o:PE X b tb):PE X (.IfExp c a b pos) (Dq tA ta tb):=by
 intro k s e H Q I h;refine wpAny_IfExp (mo (p _ s e H _ I h) λd i ⟨j,l,g⟩=> ?_);cases d with
 | true=>exact q _ i e j Q l g
 | false=>exact o _ i e j Q l g
end
end L2
namespace L2
open PySem PySem.Spec PyProof.Rows
def SqL (K:ai)(H:Hp)(a:Addr)(d:List V):Prop:=
 Rd H a (.lst d)\/
  ∃(o:Obj) (c:Array Value) (n:Nat),K.lookup a=some o/\o.cls= .type "list"/\o.dict=none/\o.data= .seq c n/\c.size<=sizeLine/\Vals d c.toList
def SqT (K:ai)(H:Hp)(a:Addr)(d:List V):Prop:=
 Rd H a (.tup d)\/
  ∃(o:Obj) (c:Array Value) (n:Nat),K.lookup a=some o/\o.cls= .type "tuple"/\o.data= .seq c n/\c.size<=sizeLine/\Vals d c.toList
noncomputable def Be:Value->Option V
 | .none=>some .non
 | .bool b=>some (.bl b)
 | .int i _=>some (.int i)
 | .str x _=>some (.str x)
 | .bytes b _=>some (.byt b)
 | .float b _=>some (.flt b)
 | .ref a=>some (.ref a)
 | .type n=>some (.ty n)
 | _=>none
theorem RelV.abs (r:RelV x u):Be u=some x:=by
 cases x with
 | non=>cases r;rfl
 | bl _=>cases r;rfl
 | int _=>obtain⟨t,rfl⟩:=r;rfl
 | str _=>obtain⟨t,rfl⟩:=r;rfl
 | byt _=>obtain⟨t,rfl⟩:=r;rfl
 | flt _=>obtain⟨t,rfl⟩:=r;rfl
 | ref _=>cases r;rfl
 | ty _=>cases r;rfl
theorem RelV.inj (r:RelV x u)(q:RelV y u):x=y:=aE (r.abs.symm.trans q.abs)
theorem Vals.inj:∀{c a:List V} {d:List Value},Vals c d->Vals a d->c=a
 | _,_,_,.nil,.nil=>rfl
 | _,_,_,.cons r t,.cons e t' =>by rw[r.inj e,Vals.inj t t']
section
variable {X:Cx}{pins:List (Addr×Obj)}{σ:St}{H:Hp}{s:Shared}{a:Addr}{xs ys:List V}
theorem SqL.of {K:ai}(h:H a=some (.lst xs)):SqL K H a xs:= .inl (.inl h)
theorem SqT.of {K:ai}(h:H a=some (.tup xs)):SqT K H a xs:= .inl (.inl h)
theorem Inv.list (I:Inv X pins σ H s)(h:SqL X.K H a xs):∃c:List Value,Vals xs c/\PlainL s.heap a c.toArray/\xs.length<=sizeLine:=by
 rcases h with h | ⟨o,c,n,g,d,hd,i,hz,r⟩
 ·obtain⟨z,c,n,r,e⟩:=h.ok I.hok;exact⟨c,r,⟨_,n,e,rfl,rfl,rfl⟩,z⟩
 ·refine⟨c.toList,r,⟨o,n,I.kIn a o g,d,hd,by simpa using i⟩, ?_⟩
  have e:=r.length;simp only[aP]at e;omega
theorem Inv.tuple (I:Inv X pins σ H s)(h:SqT X.K H a xs):∃c:List Value,Vals xs c/\IsTup s.heap a c.toArray/\xs.length<=sizeLine:=by
 rcases h with h | ⟨o,c,n,g,d,i,hz,r⟩
 ·obtain⟨z,c,r,p,_⟩:=h.ok I.hok;exact⟨c,r,p,z⟩
 ·refine⟨c.toList,r,⟨o,I.kIn a o g,d,n,by simpa using i⟩, ?_⟩
  have e:=r.length;simp only[aP]at e;omega
theorem Inv.list_inj (I:Inv X pins σ H s)(h:SqL X.K H a xs)(h' :SqL X.K H a ys):xs=ys:=by
 obtain⟨k,r,⟨o,n,e,_,_,d⟩,_⟩:=I.list h;obtain⟨g,j,⟨p,l,i,_,_,c⟩,_⟩:=I.list h';rw[e]at i;cases i;rw[d]at c;injection c with d1 _;have:=by simpa using congrArg Array.toList d1
 subst this;exact r.inj j
theorem Inv.tuple_inj (I:Inv X pins σ H s)(h:SqT X.K H a xs)(h' :SqT X.K H a ys):xs=ys:=by
 obtain⟨k,r,⟨o,e,_,n,d⟩,_⟩:=I.tuple h;obtain⟨g,j,⟨p,i,_,l,c⟩,_⟩:=I.tuple h';rw[e]at i;cases i;rw[d]at c;injection c with d1 _;have:=by simpa using congrArg Array.toList d1
 subst this;exact r.inj j
end
noncomputable abbrev Cx.wish (X:Cx)(E:Value->Shared->Prop):Cx:={ X with xe:=E }
abbrev Cx.nox (X:Cx):Cx:=X.wish λ_ _=>False
theorem Cx.Ok.wish {X:Cx}(ok:X.Ok)(E:Value->Shared->Prop):(X.wish E).Ok:=
 ⟨ok.mod,ok.kind,ok.glob,ok.blt,ok.above,ok.inj,ok.has,ok.cab,ok.hd,ok.frames,ok.stk,ok.exf,ok.bs,ok.bsz,ok.noex,ok.exfs,ok.funs,ok.frf⟩
theorem Cx.Ok.unwish {X:Cx}{E:Value->Shared->Prop}(ok:(X.wish E).Ok):X.Ok:=
 ⟨ok.mod,ok.kind,ok.glob,ok.blt,ok.above,ok.inj,ok.has,ok.cab,ok.hd,ok.frames,ok.stk,ok.exf,ok.bs,ok.bsz,ok.noex,ok.exfs,ok.funs,ok.frf⟩
section
variable {X:Cx}{pins:List (Addr×Obj)}{σ:St}{H:Hp}{s:Shared}{E:Value->Shared->Prop}
theorem Inv.wish (I:Inv X pins σ H s)(E:Value->Shared->Prop):Inv (X.wish E) pins σ H s:=⟨I.ok.wish E,I.os,I.bare,I.base,I.loc,I.cell,I.free,I.freeC,I.pin,I.hok,I.len⟩
theorem Inv.unwish (I:Inv (X.wish E) pins σ H s):Inv X pins σ H s:=⟨I.ok.unwish,I.os,I.bare,I.base,I.loc,I.cell,I.free,I.freeC,I.pin,I.hok,I.len⟩
theorem SP.unwish {D:xw}{f:Flow}(h:SP (X.wish E) pins D f s'):SP X pins D f s' :=by
 cases f with
 | next=>obtain⟨σ',a,I,q⟩:=h;exact⟨σ',a,I.unwish,q⟩
 | brk=>obtain⟨σ',a,I,q⟩:=h;exact⟨σ',a,I.unwish,q⟩
 | cont=>obtain⟨σ',a,I,q⟩:=h;exact⟨σ',a,I.unwish,q⟩
 | ret u=>obtain⟨v,σ',a,I,r,q⟩:=h;exact⟨v,σ',a,I.unwish,r,q⟩
theorem PSs.nox {st:List Stmt}{t:TS}(h:PSs X.nox st t):PSs X st t:=λpins s σ H D I a=>
 cG (h _ s σ H D (I.wish _) a) (λ_ _ q=>q.unwish) λ_ _ z=>bZ z
end
section
variable {X:Cx}{st:Stmt}{rest:List Stmt}{t u:TS}{e:Expr}{te:TE}{pos:Pos}
def FV:TS:=λD a H=>D.nx a H
def BZ (t u:TS):TS:=λD a H=>t { D with nx:=u D } a H
theorem Yd:PSs X [] FV:=λ_ _ a H _ I h=>wpAny_execs_nil ⟨a,H,I,h⟩
theorem Za (i:PS X st t)(k:PSs X rest u):PSs X (st :: rest) (BZ t u):=by
 intro a s g H D I h;refine wpAny_execs_cons (mo (i _ s g H _ I h) λf d q=> ?_);cases f with
 | next=>
  obtain⟨σ',j,c,q⟩:=q;exact k _ d σ' j D c q
 | ret v=>exact q
 | brk=>exact q
 | cont=>exact q
theorem ZO (d:PS X st t):PSs X [st] t:=by
 intro a s c H D I h;refine wpAny_execs_cons (mo (d _ s c H D I h) λf g q=> ?_);cases f with
 | next=>exact wpAny_execs_nil q
 | ret v=>exact q
 | brk=>exact q
 | cont=>exact q
theorem Inv.quiet (I:Inv X pins σ H s):interactive X.env=false:=by simp[interactive,I.ok.kind]
def DR (te:TE):TS:=λD a H=>te a H λ_ c=>D.nx a c
theorem jD (j:PE X e te)(k:swapsWith e none pos.line X.env=pure false:=by rfl):PS X (.Expr e pos) (DR te):=by
 intro a s c H D I h;exact wpAny_Expr_any (mo (j _ s c H _ I h) λv o ⟨x,i,d,l,g⟩=>⟨c,i,d,g⟩) I.quiet k
def A6 (te:TE):TS:=λD a H=>te a H D.rt
theorem jo (k:PE X e te):PS X (.Return (some e) pos) (A6 te):=by
 intro a s c H D I h;exact wpAny_Return_some (mo (k _ s c H _ I h) λv l ⟨x,i,j,g,d⟩=>⟨x,c,i,j,g,d⟩)
def BN (c:TT)(t u:TS):TS:=λD a H=>c a H λb d=>if b=true then t D a d else u D a d
theorem Gi (q:PT X c tc)(r:PSs X a t)(p:PSs X b u):PS X (.If c a b pos) (BN tc t u):=by
 intro l s g H D I h;refine wpAny_If (mo (q _ s g H _ I h) λd j ⟨k,o,i⟩=> ?_);cases d with
 | true=>exact r _ j g k D o i
 | false=>exact p _ j g k D o i
end
abbrev TG:=V->St->Hp->(St->Hp->Prop)->Prop
abbrev o9:=List V->St->Hp->(St->Hp->Prop)->Prop
def PG (X:Cx)(a:Expr)(t:TG):Prop:=
 ∀(c:List (Addr×Obj)) (s:Shared) (e:St) (H:Hp) (v:V) (u:Value) (Q:St->Hp->Prop),Inv X c e H s->RelV v u->t v e H Q->
  wpAny (model X.prog X.w) X.A (assign a X.env u) (λ_ g =>∃σ' d,Inv X c σ' d g /\Q σ' d) X.xe s
def sT (X:Cx)(ts:List Expr)(t:o9):Prop:=
 ∀(a:List (Addr×Obj)) (s:Shared) (e:St) (H:Hp) (vs:List V) (d:List Value) (Q:St->Hp->Prop),Inv X a e H s->Vals vs d->t vs e H Q->
  wpAny (model X.prog X.w) X.A (assignInOrder ((assignEach ts X.env).map (·.2)) d) (λ_ g =>∃σ' c,Inv X a σ' c g /\Q σ' c) X.xe s
section
def JX (i:Nat):TG:=λv a H Q=>Q (a.set i (some v)) H
theorem ZP (c:X.N.Nodup)(hi:X.N[i]? =some x)(g:Loc X.env.scope x)(d:X.fn x=true\/X.env.scope.names.lookup x=some .local:=by first | exact .inl rfl | exact .inr rfl | assumption):PG X (.Name x pos) (JX i):=by
 intro a s k H v u Q I r h;exact wpAny_assign_Name (U2 I c hi g r (λj e =>⟨_,H,e,h⟩) d)
def Bt:o9:=λvs a H Q=>vs=[]/\Q a H
def Ye (t:TG)(u:o9):o9:=λvs c H Q=>∃v r,vs=v :: r/\t v c H λσ' a =>u r σ' a Q
theorem Yf:sT X [] Bt:=by
 intro a s c H vs d Q I r h;obtain⟨e,h⟩:=h;exact assignInOrder_nil ⟨c,H,I,h⟩
theorem Ja {u:o9}(l:PG X e t)(p:sT X es u)
  (q:(assignEach (e :: es) X.env).map (·.2)=assign e X.env :: (assignEach es X.env).map (·.2):=by rfl):sT X (e :: es) (Ye t u):=by
 intro c s w H vs y Q I r h;obtain⟨v,x,j,h⟩:=h;subst j;cases r with
 | cons r d=>
  rw[q];refine assignInOrder_cons (mo (l _ s w H _ _ _ I r h) λ_ k ⟨a,o,g,i⟩=> ?_);exact p _ k a o _ _ Q g d i
def AH (K:ai)(n:Nat)(t:o9):TG:=λv d H Q=>∃a c,v= .ref a/\SqT K H a c/\c.length=n/\t c d H Q
theorem xz {t:o9}(y:X.calm=true)(h:sT X es t)
  (hn:(assignEach es X.env).length=n:=by rfl) (c:(assignEach es X.env).findIdx? (·.1)=none:=by rfl):PG X (.Tuple es k pos) (AH X.K n t):=by
 intro i s j H v u Q I r d;obtain⟨a,l,w,B,D,d⟩:=d;subst w;cases r;obtain⟨C,g,p,hz⟩:=I.tuple B;refine assign_Tuple_tuple (I.ok.hd y) p (by simp[hn,← D,g.length]) c λh' x=> ?_
 have q:Inv X _ j H { s with heap:=h' }:=I.kept λb o e=>x b o (au (ao e)) e;exact h _ _ j H l _ Q q (by simpa using g) d
def Bn (te:TE)(g:TG):TS:=λD a H=>te a H λx c=>g x a c D.nx
theorem jP (d:X.N.Nodup)(hi:X.N[i]? =some x)(l:Loc X.env.scope x)(q:PE X e te)(r:swapsWith e (some (.Name x pos')) pos.line X.env=pure false:=by rfl)(j:X.fn x=true\/X.env.scope.names.lookup x=some .local:=by first | exact .inl rfl | exact .inr rfl | assumption):
  PS X (.Assign [.Name x pos'] e pos) (Bn te (JX i)):=by
 intro a s u H D I h;refine wpAny_Assign_Name (mo (q _ s u H _ I h) λv B ⟨y,p,g,c,k⟩=> ?_) r;exact U2 g d hi l c (λw o=>⟨_,p,o,k⟩) j
end
section
def Gj (c:TT)(tb:TS):TS:=λD a H=>∃W:Nat->St->Hp->Prop,(∃m,W m a H)/\∀m a H,W m a H->
 c a H λb d=>if b=true then ∃N:St->Hp->Prop,(∀σ' e,N σ' e ->∃g,g < m/\W g σ' e)/\tb { D with nx:=N,ct:=N,bk:=D.nx } a d else D.nx a d
theorem vU (hp:PassesOwn (model X.prog X.w) X.A X.env X.xe)(F:PT X c tc)(M:PSs X body tb):PS X (.While c body [] pos) (Gj tc tb):=by
 intro r s J H D I h;obtain⟨W,⟨G,w0⟩,e⟩:=h;refine wpAny_While (codeAny_whileLoop (λn O =>∃σ' p,Inv X _ σ' p O /\W n σ' p) ?_ G ⟨J,H,I,w0⟩)
 rintro n P ⟨d,q,C,w1⟩
 refine cL hp (mo (F _ P d q _ C (e n d q w1)) λb B ⟨u,y,g⟩=> ?_);cases b with
 | true=>
  obtain⟨N,x,g⟩:=g;refine cL hp (mo (M _ B d u _ y g) λf Q i=> ?_);cases f with
  | next=>
   obtain⟨a,H3,j,o⟩:=i;obtain⟨k,l,w3⟩:=x a H3 o;exact⟨k,l,a,H3,j,w3⟩
  | cont=>
   obtain⟨a,H3,j,o⟩:=i;obtain⟨k,l,w3⟩:=x a H3 o;exact⟨k,l,a,H3,j,w3⟩
  | brk=>exact i
  | ret v=>exact i
 | false=>
  exact wpAny_execs_nil ⟨d,u,y,g⟩
end
structure It where
 go:Nat->Hp->Prop
 yld:Nat->Hp->V->Hp->Prop
 stop:Nat->Hp->Prop
def JY (X:Cx)(a:List (Addr×Obj))(H:Hp)(b:Addr):Prop:=
 H b=none/\b ≠ X.env.locals/\b ∉ X.fs/\(b∈X.ex\/X.s₀.heap.objs.size<=b)/\(∀x c,X.env.cells.lookup x=some c->c ≠ b)/\∀p∈X.pn++a,p.1 ≠ b
theorem Inv.fpOk (I:Inv X pins σ H s)(a:s.heap.objs.size<=b)(hn:H' b=none):JY X pins H' b:=by
 refine⟨hn,c8 (aM I.lt a),I.nofs a,.inr (aB I.sz a),λx c e z=> ?_,λp hp z=> ?_⟩
 ·obtain⟨v,q⟩:=I.cell x c e;exact absurd (aM q.lt (by rw[z];exact a)) (aY _)
 ·exact absurd (aM (ao (I.pin p hp).1) (by rw[z];exact a)) (aY _)
structure U3 (P:Program) (w:World) (K:ai) (tg:Expr) (J:It) (fp:List Addr) (it:Addr) (tn:Nat->Heap->Prop):Prop where
 mem:it∈fp
 obj:∀i h,tn i h->∀b∈fp,∃o,h.get? b=some o/\∀v,o.data ≠ .cell v
 keep:∀i h h',tn i h->(∀b∈fp,∀o,h.get? b=some o->h'.get? b=some o)->tn i h'
 item:∀(X:Cx),X.prog=P->X.w=w->X.K=K->X.calm=true->∀(i:Nat) (pins:List (Addr×Obj)) (s:Shared) (σ:St) (H:Hp) (E:Value->Shared->Prop),Inv X pins σ H s->(∀b∈fp,JY X pins H b)->tn i s.heap->J.go i H->
  wpAny (model P w) X.A (pyNext (.ref it)) (λr s1=>∃u,r=some u/\
   wpAny (model P w) X.A (letOwnedTupleGo tg (.ref it) u) (λ_ s2=>∃x H',Inv X pins σ H' s2/\RelV x u/\J.yld i H x H' /\tn (i+1) s2.heap/\∀b∈fp,H' b=none) E s1) E s
 done:∀(X:Cx),X.prog=P->X.w=w->X.K=K->X.calm=true->∀(i:Nat) (pins:List (Addr×Obj)) (s:Shared) (σ:St) (H:Hp) (E:Value->Shared->Prop),Inv X pins σ H s->(∀b∈fp,JY X pins H b)->tn i s.heap->J.stop i H->
  wpAny (model P w) X.A (pyNext (.ref it)) (λr s1=>r=none/\Inv X pins σ H s1) E s
 self:∀(A:Around) (i:Nat) (s:Shared) (Q:Value->Shared->Prop) (E:Value->Shared->Prop),tn i s.heap->Q (.ref it) s->wpAny (model P w) A (pyIter (.ref it)) Q E s
abbrev TI:=St->Hp->(It->Hp->Prop)->Prop
def Df (X:Cx)(a:List (Addr×Obj))(j:St)(i:Expr)(R:It->Hp->Prop)(c:Value)(e:Shared):Prop:=
 ∃(it:Addr) (fp:List Addr) (g:Nat->Heap->Prop) (J:It) (d :Hp),c= .ref it/\Inv X a j d e/\U3 X.prog X.w X.K i J fp it g/\g 0 e.heap/\(∀b∈fp,JY X a d b)/\R J d
def PI (X:Cx)(g iter:Expr)(d:TI):Prop:=
 ∀(a:List (Addr×Obj)) (s:Shared) (c:St) (H:Hp) (R:It->Hp->Prop),Inv X a c H s->d c H R->
  wpAny (model X.prog X.w) X.A (eval iter X.env) (λv e=>wpAny (model X.prog X.w) X.A (pyIter v) (Df X a c g R) X.xe e) X.xe s
theorem yi {Q:Unit->Shared->Prop}(c:s.heap.get? it=some o)(d:o.cls= .type n)(hd:o.data= .fields vs)
  (hn:["enumerate","zip","dict_itemiterator","dict_reverseitemiterator","odict_iterator","itertools.zip_longest","itertools.pairwise"].contains n=false) (a:Q () s):wpAny M A (letOwnedTupleGo tg (.ref it) u) Q E s:=by
 cases tg <;> first
  | exact aa a
  | (cases u <;> first
    | exact aa a
    | (refine a8 (wpAny_load c ?_);rw[d,hd];show wpAny M A (if (["enumerate","zip","dict_itemiterator","dict_reverseitemiterator","odict_iterator","itertools.zip_longest","itertools.pairwise"].contains n && vs[0]? == some _)=true then _ else _) Q E s;rw[if_neg (by intro h;rw[hn]at h;cases h)];exact aa a))
def tj (K:ai)(a:Addr):It:=
 ⟨λi H=>∃c x,SqL K H a c/\c[i]? =some x,λi H x d =>d =H/\∀c,SqL K H a c->c[i]? =some x,λi H=>∃c,SqL K H a c/\c.length<=i⟩
def AF (K:ai)(a:Addr):It:=
 ⟨λi H=>∃c x,SqT K H a c/\c[i]? =some x,λi H x d =>d =H/\∀c,SqT K H a c->c[i]? =some x,λi H=>∃c,SqT K H a c/\c.length<=i⟩
noncomputable def ro (lo:Int)(n:Nat):It:=⟨λi _=>i < n,λi H x a =>a =H/\x= .int (lo+i),λi _=>n<=i⟩
theorem Wm {P:Program}{w:World}{K:ai}{tg:Expr}(a it:Addr):U3 P w K tg (tj K a) [it] it (λi h=>h.IsListIter it a i) where
 mem:=by simp
 obj:=λi h st b j=>by
  have e:b=it:=by simpa using j
  subst e;obtain⟨o,e,c,d⟩:=st;exact⟨o,e,λv z=>by rw[d]at z;cases z⟩
 keep:=λi h h' st k=>st.at λo e=>k it (by simp) o e
 item:=by
  intro X N F G U i g s Z H E I q st O;subst N F G;obtain⟨xs,x,r,S⟩:=O;obtain⟨M,B,p,hz⟩:=I.list r;obtain⟨u,hu,ru⟩:=B.get S;obtain⟨D,J,f2,y,C,Q⟩:=q it (by simp)
  refine wpAny_pyNext_list_item st p.isList (x:=u) (by simpa using hu) λh' l sb=> ?_
  have I1:Inv X g Z H { s with heap:=h' }:=I.turned (t' :=s.toks) (λb o j e=>(sb.2 b j).trans e) D J y C Q;obtain⟨o,e,c,d⟩:=id l;exact⟨u,rfl,yi (s:={ s with heap:=h' }) e c d (by decide) ⟨x,H,I1,ru,⟨rfl,λys hy=>by rw[I.list_inj hy r];exact S⟩,l,λb j=>(q b j).1⟩⟩
 done:=by
  intro X N F G U i g s Z H E I q st O;subst N F G;obtain⟨xs,r,S⟩:=O;obtain⟨M,B,p,hz⟩:=I.list r;obtain⟨D,J,f2,y,C,Q⟩:=q it (by simp)
  have hl:=B.length;exact wpAny_pyNext_list_end (I.ok.hd U) st p.isList (by simp;omega) λh' eb=>⟨rfl,I.turned (t' :=s.toks) (λb o j e=>eb b o j e) D J y C Q⟩
 self:=λ_ _ _ _ _ st h=>wpAny_pyIter_listiter st h
theorem wc {P:Program}{w:World}{K:ai}{tg:Expr}(a it:Addr):U3 P w K tg (AF K a) [it] it (λi h=>h.IsTupleIter it a i) where
 mem:=by simp
 obj:=λi h st b l=>by
  have e:b=it:=by simpa using l
  subst e;obtain⟨o,e,c,d⟩:=st;exact⟨o,e,λv z=>by rw[d]at z;cases z⟩
 keep:=λi h h' st k=>st.at λo e=>k it (by simp) o e
 item:=by
  intro X N G J U i g s Z H E I r st O;subst N G J;obtain⟨xs,x,y,S⟩:=O;obtain⟨j,C,p,hz⟩:=I.tuple y;obtain⟨u,hu,ru⟩:=C.get S;obtain⟨F,M,f2,B,D,Q⟩:=r it (by simp)
  refine wpAny_pyNext_tuple_item st (show s.heap.IsTuple a j.toArray from p) (x:=u) (by simpa using hu) λh' q sb=> ?_
  have I1:Inv X g Z H { s with heap:=h' }:=I.turned (t' :=s.toks) (λb o l e=>(sb.2 b l).trans e) F M B D Q;obtain⟨o,e,c,d⟩:=id q;exact⟨u,rfl,yi (s:={ s with heap:=h' }) e c d (by decide) ⟨x,H,I1,ru,⟨rfl,λys hy=>by rw[I.tuple_inj hy y];exact S⟩,q,λb l=>(r b l).1⟩⟩
 done:=by
  intro X N G J U i g s Z H E I r st O;subst N G J;obtain⟨xs,y,S⟩:=O;obtain⟨j,C,p,hz⟩:=I.tuple y;obtain⟨F,M,f2,B,D,Q⟩:=r it (by simp)
  have hl:=C.length;exact wpAny_pyNext_tuple_end (I.ok.hd U) st (show s.heap.IsTuple a j.toArray from p) (by simp;omega) λh' eb=>⟨rfl,I.turned (t' :=s.toks) (λb o l e=>eb b o l e) F M B D Q⟩
 self:=λ_ _ _ _ _ st h=>wpAny_pyIter_tupleiter st h
theorem yj {P:Program}{w:World}{K:ai}{G:Expr}(it:Addr)(lo:Int)(n:Nat):U3 P w K G (ro lo n) [it] it (λi h=>IsRangeIter h it (lo+(i:Nat)*1) ((n:Int) - (i:Nat)) 1) where
 mem:=by simp
 obj:=λi h st b c=>by
  have e:b=it:=by simpa using c
  subst e;exact⟨_,st,λv z=>by
   have J :Data.fields _=Data.cell v:=z;cases J⟩
 keep:=λi h h' st k=>k it (by simp) _ st
 item:=by
  intro X y p r u i a s D H E I g st B;subst y p r;obtain⟨q,x,M,j,l,C⟩:=g it (by simp)
  have W:=Walks.range (prog:=X.prog) (w:=X.w) (I.ok.hd u) it lo 1 n;refine W.item i s _ _ B st λv h' tk O d N=> ?_;obtain⟨t,rfl⟩:=O;have F:Inv X a D H { s with heap:=h',toks:=tk }:=I.turned (λb o c e=>N b o (by simpa using c) e) q x j l C
  refine⟨_,rfl,yi (s:={ s with heap:=h',toks:=tk }) (n:="range_iterator") d rfl rfl (by decide) ⟨.int (lo+i),H,F,⟨t, ?_⟩,⟨rfl,rfl⟩,d,λb c=>(g b c).1⟩⟩
  rw[Int.mul_one]
 done:=by
  intro X y p r u i a s D H E I g st B;subst y p r;obtain⟨q,x,M,j,l,C⟩:=g it (by simp)
  exact wpAny_pyNext_range_end (I.ok.hd u) st (by have:n<=i:=B;omega) λh' Q=>⟨rfl,I.turned (t' :=s.toks) (λb o c e=>Q b o c e) q x j l C⟩
 self:=λ_ _ _ _ _ st h=>wpAny_pyIter_rangeiter st h
end L2
namespace L2
open PySem PySem.Spec PyProof.Rows
section
theorem U4 {a:List (Addr×Obj)}{d:St}{H:Hp}{s:Shared}{R:It->Hp->Prop}{E:Value->Shared->Prop}{lo hi:Int}{t u v:Tok}{tk:Nat}(I:Inv X a d H s)(l: -(2 ^ 62)<=lo)(p:lo < 2 ^ 62)(k: -(2 ^ 62)<=hi)(r:hi < 2 ^ 62)
  (q:R (ro lo (hi - lo).toNat) H):wpAny (model X.prog X.w) X.A (pyIter (.ref s.heap.objs.size)) (Df X a d tg R) E { s with heap:=s.heap.push { cls:= .type "range",data:= .fields #[.int lo t,.int hi u,.int 1 v] },toks:=tk }:=by
 refine wpAny_pyIter_range (IsRange.new ..) (small_one l p k r) ?_;have c:Inv X _ d H { s with heap:=s.heap.push { cls:= .type "range",data:= .fields #[.int lo t,.int hi u,.int 1 v] },toks:=tk }:=I.kept λb o e=>a9 _ e;refine⟨(s.heap.push _).objs.size,[(s.heap.push _).objs.size],_,_,H,rfl,
  c.kept λb o e=>a9 _ e,yj _ lo _, ?_,λb g=> ?_,q⟩
 ·have j:lo+((0:Nat))*1=lo:=by simp
  have i:(((hi - lo).toNat):Int) - ((0:Nat))=hZ lo hi 1:=by rw[rangeSize_one];split <;> omega
  rw[j,i];exact ae _ rfl
 ·have e:b=(s.heap.push { cls:= .type "range",data:= .fields #[.int lo t,.int hi u,.int 1 v] }).objs.size:=by simpa using g
  subst e;exact c.fpOk (ah _) (c.hok.fresh (ah _))
def FL (a:TA):TI:=λd H R=>a d H λvs c=>∃j:Int,vs=[.int j]/\ -(2 ^ 62)<=j/\j < 2 ^ 62/\R (ro 0 j.toNat) c
def DZ (c:TA):TI:=λd H R=>c d H λvs a=>∃i j:Int,vs=[.int i,.int j]/\(-(2 ^ 62)<=i/\i < 2 ^ 62/\ -(2 ^ 62)<=j/\j < 2 ^ 62)/\R (ro i (j - i).toNat) a
theorem Yg {a:Expr}{g:TA}{p pos:Pos}(o:Gl X "range")(w:X.mg "range"=none)(u:PA X [a] g)(x:starEach [a] X.env=[(false,eval a X.env)]:=by rfl):PI X tg (.Call (.Name "range" p) [a] [] pos) (FL g):=by
 intro d s y H R I h;refine Call_ (ZJ I o w boot_range (a_ (mo (u pos _ s y H _ I h) λD B ⟨vs,C,v,l,c⟩=> ?_) x rfl));obtain⟨j,e,c,k,q⟩:=c;subst e;cases l with
 | cons r i=>
  cases i;obtain⟨t,rfl⟩:=r;exact call_range_1 (U4 v (by omega) (by omega) c k (by simpa using q))
theorem Yh (x:Gl X "range")(D:X.mg "range"=none)(y:PA X [a,b] ta)(F:starEach [a,b] X.env=[(false,eval a X.env),(false,eval b X.env)]:=by rfl)(c:starEach [b] X.env=[(false,eval b X.env)]:=by rfl):
  PI X tg (.Call (.Name "range" p) [a,b] [] pos) (DZ ta):=by
 intro k s u H R I h;refine Call_ (ZJ I x D boot_range (a_ (mo (y pos _ s u H _ I h) λM J ⟨vs,G,l,w,d⟩=> ?_) (by rw[F,c]) (by rw[c];rfl)))
 obtain⟨i,j,e,⟨d,v,C,o⟩,q⟩:=d;subst e;cases w with
 | cons r g=>
  cases g with
  | cons B g=>
   cases g;obtain⟨t,rfl⟩:=r;obtain⟨t',rfl⟩:=B;exact call_range_2 (U4 l d v C o q)
def BS (j:TI)(g:TG)(tb:TS):TS:=λD a H=>j a H λJ l=>∃W:Nat->Nat->St->Hp->Prop,(∃m,W 0 m a l)/\∀i m a H,W i m a H->
 (J.stop i H/\D.nx a H)\/(J.go i H/\∃N:St->Hp->Prop,(∀σ' c,N σ' c ->∃e,e < m/\W (i+1) e σ' c)/\∀x c,J.yld i H x c ->g x a c λd k=>tb { D with nx:=N,ct:=N,bk:=D.nx } d k)
noncomputable def U5 (fp:List Addr)(h:Heap):List (Addr×Obj):=fp.filterMap λb=>(h.get? b).map λo=>(b,o)
theorem j0 (a:b∈fp)(e:h.get? b=some o):(b,o)∈U5 fp h:=fK.mpr ⟨b,a,by rw[e];rfl⟩
theorem Yi {p:Addr×Obj}(hp:p∈U5 fp h):p.1∈fp/\h.get? p.1=some p.2:=by
 obtain⟨b,a,e⟩:=fK.mp hp;cases q:h.get? b with
 | none=>rw[q]at e;cases e
 | some o=>
  rw[q]at e;have c :=aE e;subst c;exact⟨a,q⟩
theorem Inv.pinned (I:Inv X pins σ H s)(g:∀b∈fp,JY X pins H b)(i:∀b∈fp,∃o,s.heap.get? b=some o/\∀v,o.data ≠ .cell v):Inv X (pins++U5 fp s.heap) σ H s:=
 I.pins_of λp hp=>(ce.mp hp).elim (λz=>I.pin p (bh _ z)) λz=>by
  obtain⟨a,e⟩:=Yi z;obtain⟨j,l,k,_⟩:=g p.1 a;obtain⟨o,c,d⟩:=i p.1 a;rw[e]at c;cases c;exact⟨e,j,l,k,d⟩
theorem Inv.unpinned (I:Inv X (pins++pl) σ H s):Inv X pins σ H s:=I.pins_of λp hp=>I.pin p (bh _ (dB _ hp))
theorem xA (hp:PassesOwn (model X.prog X.w) X.A X.env X.xe)(hc:X.calm=true)(hi:PI X tg iter wi)(hg:PG X tg g)(k:PSs X body tb)
  (hs:∀x,foldedSetIterable iter X.env x=pure x:=by intro _;rfl):PS X (.For tg iter body [] pos) (BS wi g tb):=by
 intro P s σ H D I h;refine wpAny_For (mo (hi _ s σ H _ I h) λv s1 h1=>mo h1 λitv s2 h2=> ?_) hs;obtain⟨it,fp,tn,J,H2,e,I2,T,nj,Z,W,⟨m0,w0⟩,F⟩:=h2;subst e;have p:∀{q :Hp},(∀b∈fp,q b=none)->∀b∈fp,JY X _ q b:=λhn b k=>⟨hn b k,(Z b k).2⟩;refine codeAny_forLoop_any (λn s' =>∃i σ' q,Inv X _ σ' q s' /\tn i s'.heap/\(∀b∈fp,q b=none)/\W i n σ' q) ?_ m0 ⟨0,σ,H2,I2,nj,λb k=>(Z b k).1,w0⟩
 rintro n s3 ⟨i,l,H3,I3,M,G,w3⟩
 rcases F i n l H3 w3 with ⟨C,qn⟩ | ⟨go,N,hN,step⟩
 ·refine cL hp (mo (T.done X rfl rfl rfl hc i _ s3 l H3 _ I3 (p G) M C) λr s4 ⟨hr,I4⟩=> ?_);subst hr;exact wpAny_execs_nil ⟨l,H3,I4,qn⟩
 ·refine cL hp (mo (T.item X rfl rfl rfl hc i _ s3 l H3 _ I3 (p G) M go) λr s4 ⟨u,hr,h4⟩=> ?_);subst hr;refine cL hp (mo h4 λ_ s5 ⟨x,H5,I5,r5,y5,B,U⟩=> ?_);have Q :=I5.pinned (p U) (T.obj _ _ B);refine cL hp (mo (hg _ s5 l H5 x u _ Q r5 (step x H5 y5)) λ_ s6 ⟨S,H6,I6,q6⟩=> ?_);refine cL hp (mo (k _ s6 S H6 _ I6 q6) λf s7 y=> ?_);have again:∀{a:St} {c:Hp},Inv X (P++U5 fp _) a c s7->N a c->∃m,m < n/\∃i σ' q,Inv X _ σ' q s7/\tn i _/\(∀b∈fp,q b=none)/\W i m σ' q :=λ{a c} j O=>by
   obtain⟨m',hm,w7⟩:=hN a c O;refine⟨m',hm,i+1,a,c,j.unpinned,T.keep _ _ _ B λb k o e=>(j.pin _ (bh _ (bh _ (j0 k e)))).1,λb k=> ?_,w7⟩;obtain⟨o,e,d⟩:=T.obj _ _ B b k;exact(j.pin _ (bh _ (bh _ (j0 k e)))).2.1
  cases f with
  | next=>obtain⟨a,c,j,O⟩:=y;exact again j O
  | cont=>obtain⟨a,c,j,O⟩:=y;exact again j O
  | brk=>obtain⟨a,c,j,y⟩:=y;exact⟨a,c,j.unpinned,y⟩
  | ret v=>obtain⟨x7,a,c,j,r7,y⟩:=y;exact⟨x7,a,c,j.unpinned,r7,y⟩
end
end L2
namespace L2
open PySem PySem.Spec PyProof.Rows
abbrev R2:=V->V->Hp->VK->Prop
def mL (X:Cx)(f:Value->Value->Sem Value)(r:R2):Prop:=
 ∀(a:List (Addr×Obj)) (s:Shared) (c:St) (H:Hp) (x y:V) (v u:Value) (Q:VK),Inv X a c H s->RelV x v->RelV y u->r x y H Q->
  wpAny (model X.prog X.w) X.A (f v u) (EP X a c Q) X.xe s
def Bq (X:Cx)(f:Value->Sem Value)(r:V->Hp->VK->Prop):Prop:=
 ∀(a:List (Addr×Obj)) (s:Shared) (c:St) (H:Hp) (x:V) (v:Value) (Q:VK),Inv X a c H s->RelV x v->r x H Q->
  wpAny (model X.prog X.w) X.A (f v) (EP X a c Q) X.xe s
def Z4 (X:Cx)(f:Value)(r:List V->Hp->VK->Prop):Prop:=
 ∀(a:List (Addr×Obj)) (s:Shared) (e:St) (H:Hp) (c:List V) (d:List Value) (Q:VK),Inv X a e H s->Vals c d->r c H Q->
  wpAny (model X.prog X.w) X.A (call f d) (EP X a e Q) X.xe s
def BI (X:Cx)(r:V->Hp->(Bool->Hp->Prop)->Prop):Prop:=
 ∀(a:List _) (s:Shared) (c:St) (H:Hp) (x:V) (v:Value) (Q:Bool->Hp->Prop),Inv X a c H s->RelV x v->r x H Q->
  wpAny (model X.prog X.w) X.A (truthy v) (TP X a c Q) X.xe s
def Ai (r:R2)(d tb:TE):TE:=λa H Q=>d a H λx c=>tb a c λy e=>r x y e Q
def Fp (r:V->Hp->VK->Prop)(a:TE):TE:=λd H Q=>a d H λx c=>r x c Q
def rI (C:Int->Int->Prop)(g:Int->Int->V):R2:=λx y H Q=>∃i j,x= .int i/\y= .int j/\C i j/\Q (g i j) H
def o8 (g:Int->Int->V):R2:=λx y H Q=>∃i j,x= .int i/\y= .int j/\Q (g i j) H
def rU (g:Int->V):V->Hp->VK->Prop:=λx H Q=>∃i,x= .int i/\Q (g i) H
section
theorem Ch (o:PE X a ta)(j:PE X b tb){R:V->V->Hp->Prop}(I:Inv X pins σ H s)
  (h:ta σ H λx i=>tb σ i λy c=>R x y c) {Q:Value->Shared->Prop} {f:Value->Value->Sem Value}
  (q:∀v u g x y c,Inv X pins σ c g->RelV x v->RelV y u->R x y c->wpAny (model X.prog X.w) X.A (f v u) Q X.xe g):
  wpAny (model X.prog X.w) X.A (eval a X.env) (λv e=>wpAny (model X.prog X.w) X.A (eval b X.env) (λu d=>wpAny (model X.prog X.w) X.A (f v u) Q X.xe d) X.xe e) X.xe s:=by
 refine mo (o _ s σ H _ I h) λv B ⟨x,i,p,l,r⟩=> ?_;refine mo (j _ B σ i _ p r) λu g ⟨y,c,C,D,k⟩=> ?_;exact q v u g x y c C l D k
theorem D1 (k:mL X (binaryOp op) r)(i:PE X a ta)(d:PE X b tb):PE X (.BinOp a op b pos) (Ai r ta tb):=by
 intro c s p H Q I h;exact wpAny_BinOp (Ch i d I h λv u e x y g o j l q=>k _ e p g x y v u Q o j l q)
theorem Ew {op:UnaryOp}{r:V->Hp->VK->Prop}(j:Bq X (unaryOp op) r)(g:PE X a ta):PE X (.UnaryOp op a pos) (Fp r ta):=by
 intro c s d H Q I h;exact UnaryOp_ (mo (g _ s d H _ I h) λv l ⟨x,o,i,e,k⟩=>j _ l d o x v Q i e k)
theorem rO {f:Value->Value->Sem Value}{C:Int->Int->Prop}{g:Int->Int->Int}
  (rule:∀(i j:Int) (t u:Tok) (s:Shared) (Q:Value->Shared->Prop) (E:Value->Shared->Prop),C i j->Q (.int (g i j) s.toks) { s with toks:=s.toks+1 }->wpAny (model X.prog X.w) X.A (f (.int i t) (.int j u)) Q E s):
  mL X f (rI C λi j=> .int (g i j)):=by
 intro a s k H x y v u Q I c d h;obtain⟨i,j,rfl,rfl,e,q⟩:=h;obtain⟨t,rfl⟩:=c;obtain⟨t',rfl⟩:=d;exact rule i j t t' s _ _ e ⟨.int _,H,I.tok _,⟨_,rfl⟩,q⟩
theorem sr {f:Value->Value->Sem Value}{g:Int->Int->Int}
  (rule:∀(i j:Int) (t u:Tok) (s:Shared) (Q:Value->Shared->Prop) (E:Value->Shared->Prop),Q (.int (g i j) s.toks) { s with toks:=s.toks+1 }->wpAny (model X.prog X.w) X.A (f (.int i t) (.int j u)) Q E s):
  mL X f (o8 λi j=> .int (g i j)):=by
 intro a s e H x y v u Q I c d h;obtain⟨i,j,rfl,rfl,q⟩:=h;obtain⟨t,rfl⟩:=c;obtain⟨t',rfl⟩:=d;exact rule i j t t' s _ _ ⟨.int _,H,I.tok _,⟨_,rfl⟩,q⟩
theorem BH {f:Value->Value->Sem Value}{g:Int->Int->Bool}
  (rule:∀(i j:Int) (t u:Tok) (s:Shared) (Q:Value->Shared->Prop) (E:Value->Shared->Prop),Q (.bool (g i j)) s->wpAny (model X.prog X.w) X.A (f (.int i t) (.int j u)) Q E s):
  mL X f (o8 λi j=> .bl (g i j)):=by
 intro a s e H x y v u Q I c d h;obtain⟨i,j,rfl,rfl,q⟩:=h;obtain⟨t,rfl⟩:=c;obtain⟨t',rfl⟩:=d;exact rule i j t t' s _ _ ⟨.bl _,H,I,rfl,q⟩
noncomputable def AT (i j:Int):Prop:=0 < j/\j < 1073741824
noncomputable def uq (i j:Int):Prop:=(-(2 ^ 64) < i/\i < 2 ^ 64)\/(-(2 ^ 64) < j/\j < 2 ^ 64)
theorem uq.ok (h:uq i j):IntMulOk i j:=by
 rcases h with ⟨a,c⟩ | ⟨a,c⟩
 ·exact .of_left (intBits_le_64 a c)
 ·exact .of_right (intBits_le_64 a c)
theorem Gk:mL X (binaryOp .Add) (o8 λi j=> .int (i+j)):=sr λ_ _ _ _ _ _ _ q=>add_int q
theorem Gm:mL X (binaryOp .Sub) (o8 λi j=> .int (i - j)):=sr λ_ _ _ _ _ _ _ q=>sub_int q
theorem Gn:mL X (binaryOp .Mult) (rI uq λi j=> .int (i*j)):=rO λ_ _ _ _ _ _ _ a q=>mul_int q a.ok
theorem Xs:mL X (binaryOp .FloorDiv) (rI AT λi j=> .int (i / j)):=rO λi j _ _ _ _ _ a q=>by
 have d:=a.1;have c:=a.2;exact floordiv_int (by omega) (by rw[fL i (by omega)];exact q) (.inl (PyProof.noPylong_small (by omega)))
theorem Go:mL X (binaryOp .Mod) (rI (λ_ j=>0 < j) λi j=> .int (i % j)):=rO λi j _ _ _ _ _ a q=>by
 exact mod_int' (by omega) (by rw[Int.fmod_eq_emod_of_nonneg i (by omega)];exact q)
theorem EC {f:Value->Sem Value}{g:Int->Int}
  (rule:∀(i:Int) (t:Tok) (s:Shared) (Q:Value->Shared->Prop) (E:Value->Shared->Prop),Q (.int (g i) s.toks) { s with toks:=s.toks+1 }->wpAny (model X.prog X.w) X.A (f (.int i t)) Q E s):
  Bq X f (rU λi=> .int (g i)):=by
 intro a s d H x v Q I c h;obtain⟨i,rfl,q⟩:=h;obtain⟨t,rfl⟩:=c;exact rule i t s _ _ ⟨.int _,H,I.tok _,⟨_,rfl⟩,q⟩
theorem Gp:Bq X (unaryOp .USub) (rU λi=> .int (-i)):=EC λ_ _ _ _ _ q=>neg_int q
theorem Yj:mL X (binaryOp .Add) (λx y H Q=>∃i k,x= .int i/\y= .bl k/\Q (.int (i+b2i k)) H):=by
 intro a s e H x y v u Q I c d h;obtain⟨i,k,rfl,rfl,q⟩:=h;obtain⟨t,rfl⟩:=c;cases d;exact add_int_bool ⟨.int _,H,I.tok _,⟨_,rfl⟩,q⟩
end
section
theorem EK:mL X (compareOp .Lt) (o8 λi j=> .bl (decide (i < j))):=BH λ_ _ _ _ _ _ _ q=>lt_int q
theorem DX:mL X (compareOp .LtE) (o8 λi j=> .bl (decide (i<=j))):=BH λ_ _ _ _ _ _ _ q=>le_int q
theorem DS:mL X (compareOp .Gt) (o8 λi j=> .bl (decide (j < i))):=BH λ_ _ _ _ _ _ _ q=>gt_int q
theorem Jp (b:Expr)(h:op ≠ .In:=by decide)(d:op ≠ .NotIn:=by decide):behindInMarks op b=false:=by
 have c:(op == CmpOp.In)=false:=by cases op <;> first | rfl | exact absurd rfl h
 have a:(op == CmpOp.NotIn)=false:=by cases op <;> first | rfl | exact absurd rfl d
 cases b <;> simp[behindInMarks,c,a]
theorem Yk (k:mL X (compareOp op) r)(i:PE X a ta)(d:PE X b tb)(o:behindInMarks op b=false):PE X (.Compare a [op] [b] pos) (Ai r ta tb):=by
 intro c s w H Q I h;exact wpAny_Compare1 (Ch i d I h λv u e x y g p j l q=>k _ e w g x y v u Q p j l q) o
def Gq (t:TE):TT:=λc H Q=>t c H λx a =>∃k,x= .bl k/\Q k a
theorem Xt (F:mL X (compareOp op) r)(D:PE X a ta)(p:PE X b tb)(M:behindInMarks op b=false):PT X (.Compare a [op] [b] pos) (Gq (Ai r ta tb)):=by
 intro g s d H Q I h;refine wpAny_isTrue_Compare1 (mo (D _ s d H _ I h) λv N ⟨x,o,j,w,l⟩=>mo (p _ N d o _ j l) λu i ⟨y,C,O,P,q⟩=>
  mo (F _ i d C x y v u _ O w P q) λc S ⟨z,H3,B,J,k,e,G⟩=> ?_) M
 subst e;cases J;exact bp ⟨H3,B,G⟩
def xB (r g :R2)(j tb tc:TE):TE:=λa H Q=>j a H λx i=>tb a i λy c=>r x y c λz H3=>∃k,z= .bl k/\
 (if k=true then tc a H3 λe d=>g y e d Q else Q (.bl false) H3)
theorem vV (ho:mL X (compareOp op) r)(i :mL X (compareOp op') r')(ha:PE X a ta)(P:PE X b tb)(M:PE X c tc)
  (hm:lastMarks [op,op'] [b,c]=false:=by with_unfolding_all rfl):PE X (.Compare a [op,op'] [b,c] pos) (xB r r' ta tb tc):=by
 intro l s g H Q I h;refine Compare_chain (mo (ha _ s g H _ I h) λv s1 ⟨x,N,w,U,F⟩=>chain_link (mo (P _ s1 g N _ w F) λu q ⟨y,Z,I2,p,S⟩=>
  mo (ho _ q g Z x y v u _ I2 U p S) λd O ⟨z,H3,j,r3,k,e,o⟩=> ?_)) hm
 subst e;cases r3;refine bp ?_;cases k with
 | false=>exact ite_ff ⟨.bl _,H3,j,rfl,o⟩
 | true=>exact ite_tt (chain_last (mo (M _ O g H3 _ j o) λw' C ⟨D,B,J,r4,G⟩=>i _ C g B y D u w' Q J p r4 G))
theorem vW (ho:mL X (compareOp op) r)(i :mL X (compareOp op') r')(ha:PE X a ta)(Z:PE X b tb)(O:PE X c tc)
  (hm:lastMarks [op,op'] [b,c]=false:=by with_unfolding_all rfl):PT X (.Compare a [op,op'] [b,c] pos) (Gq (xB r r' ta tb tc)):=by
 intro l s g H Q I h;refine isTrue_chain (mo (ha _ s g H _ I h) λv s1 ⟨x,P,B,r1,J⟩=>test_link (mo (Z _ s1 g P _ B J) λu q ⟨y,H2,I2,p,q2⟩=>
  mo (ho _ q g H2 x y v u _ I2 r1 p q2) λd U ⟨z,H3,j,r3,k,e,o⟩=> ?_)) hm
 subst e;cases r3;refine bp ?_;cases k with
 | false=>
  obtain⟨k',S,q'⟩:=o;cases S;exact ite_ff ⟨H3,j,q'⟩
 | true=>
  refine ite_tt (test_last (mo (O _ U g H3 _ j o) λw' D ⟨G,C,N,r4,M⟩=>mo (i _ D g C y G u w' _ N p r4 M) λd' s5 ⟨z2,F,I5,w,k2,e2,q5⟩=> ?_));subst e2;cases w;exact bp ⟨F,I5,q5⟩
def rm (K:ai)(x:V)(H:Hp)(k:Bool):Prop:=
 match x with
 | .non=>k=false
 | .bl b=>k=b
 | .int i=>k=(i != 0)
 | .str y=>y.length<=sizeLine/\k=((y.length:Int) != 0)
 | .byt y=>y.size<=sizeLine/\k=((y.size:Int) != 0)
 | .ref p=>(∃a,SqL K H p a/\k= !a.isEmpty)\/(∃a,SqT K H p a/\k= !a.isEmpty)\/∃kvs,H p=some (.dK kvs)/\k= !kvs.isEmpty
 | _=>False
theorem yk {a:Type}{kvs:List (a×V)}{vs:List (a×Value)}(r:KV kvs vs):(!vs.isEmpty)= !kvs.isEmpty:=by
 cases r <;> rfl
theorem wd (r:Vals xs its):(!its.toArray.isEmpty)= !xs.isEmpty:=by
 cases r <;> simp
theorem Wn:(sizeLine:Nat) < 2 ^ 63:=by decide
theorem Gr:BI X (λx H Q=>∃k,rm X.K x H k/\Q k H):=by
 intro l s w H x v Q I d h;obtain⟨k,e,q⟩:=h;have B:=bV;cases x with
 | non=>
  cases d;have a :k=false:=e;subst a;exact truthy_none ⟨H,I,q⟩
 | bl b=>
  cases d;have a :k=b:=e;subst a;exact bp ⟨H,I,q⟩
 | int i=>
  obtain⟨t,rfl⟩:=d;have a :k=(i != 0):=e;subst a;exact PySem.P.truthy_int ⟨H,I,q⟩
 | str y=>
  obtain⟨t,rfl⟩:=d;obtain⟨hy,a⟩:y.length<=sizeLine/\k=((y.length:Int) != 0):=e;subst a;exact PySem.P.truthy_str (by omega) ⟨H,I.tok _,q⟩
 | byt y=>
  obtain⟨t,rfl⟩:=d;obtain⟨hy,a⟩:y.size<=sizeLine/\k=((y.size:Int) != 0):=e;subst a;exact PySem.W.truthy_bytes (by omega) ⟨H,I.tok _,q⟩
 | ref p=>
  cases d;have a :=e;rcases a with ⟨o,g,a⟩ | ⟨o,g,a⟩ | ⟨kvs,g,a⟩
  ·subst a;obtain⟨j,r,pl,hz⟩:=I.list g;have c:=r.length;exact wpAny_truthy_list pl.isList (by simp only[aF];omega) ⟨H,I.tok _,by rw[wd r];exact q⟩
  ·subst a;obtain⟨j,r,pl,hz⟩:=I.tuple g;have c:=r.length;exact truthy_tuple pl (by simp only[aF];omega) ⟨H,I.tok _,by rw[wd r];exact q⟩
  ·subst a;obtain⟨hz,u,vs,r,m⟩:kvs.length<=sizeLine/\(p == sysModules)=false/\∃vs,KV kvs vs/\s.heap.DictOf _ p vs:=I.hok p _ g;have c:=dR r;exact wpAny_truthy_dict u m (by omega) ⟨H,I.tok _,by rw[yk r];exact q⟩
 | _=>exact(e).elim
theorem U6 (j:PE X a ta)(r:∀c,isTrue a X.env c=(do let v ← c;standAt a.pos;holding [v] (truthy v))):
  PT X a (λd H Q=>ta d H λx g =>∃k,rm X.K x g k/\Q k g):=by
 intro e s d H Q I h;exact isTrue_plain (mo (j _ s d H _ I h) λv p ⟨x,q,l,i,o⟩=>Gr _ p d q x v Q l i o) (r _)
theorem yl:mL X (binaryOp .Add) (λx y H Q=>∃i j,x= .str i/\y= .str j/\i.length+j.length<=sizeLine/\Q (.str (i++j)) H):=by
 intro a s e H x y v u Q I c d h;obtain⟨i,j,rfl,rfl,hz,q⟩:=h;obtain⟨t,rfl⟩:=c;obtain⟨t',rfl⟩:=d;exact add_str (λt' tk=>⟨.str _,H,I.tok _,⟨_,rfl⟩,q⟩) hz
theorem Ze (r:Vals [x] us):∃u,us=[u]/\RelV x u:=by
 cases r with
 | cons c a=>cases a;exact⟨_,rfl,c⟩
theorem ym (r:Vals [x,y] us):∃u a,us=[u,a]/\RelV x u/\RelV y a :=by
 cases r with
 | cons d e=>
  cases e with
  | cons c g=>cases g;exact⟨_,_,rfl,d,c⟩
theorem vX:Z4 X (.builtin "abs") (λa H Q=>∃i,a=[.int i]/\Q (.int (if i < 0 then -i else i)) H):=by
 intro c s e H a d Q I r h;obtain⟨i,rfl,q⟩:=h;obtain⟨u,rfl,t,rfl⟩:=Ze r;exact call_abs_int λu tk=>⟨.int _,H,I.tok _,⟨_,rfl⟩,q⟩
theorem Yl (e:X.calm=true):Z4 X (.builtin "min") (λc H Q=>∃i j,c=[.int i,.int j]/\Q (.int (if j < i then j else i)) H):=by
 intro d s o H c l Q I r h;obtain⟨i,j,rfl,q⟩:=h;obtain⟨u,g,rfl,⟨t,rfl⟩,⟨t',rfl⟩⟩:=ym r;refine min_two_ints (I.ok.hd e) λh' tk k=>⟨_,H,I.kept k, ?_,q⟩
 by_cases a:j < i
 ·rw[if_pos a,if_pos a];exact⟨_,rfl⟩
 ·rw[if_neg a,if_neg a];exact⟨_,rfl⟩
theorem Ym:Z4 X (.type "int") (λa H Q=>(∃i,a=[.int i]/\Q (.int i) H)\/∃k,a=[.bl k]/\Q (.int (if k then 1 else 0)) H):=by
 intro c s g H a e Q I r h;rcases h with ⟨i,rfl,q⟩ | ⟨k,rfl,q⟩
 ·obtain⟨u,rfl,t,rfl⟩:=Ze r;exact call_int_int ⟨.int i,H,I,⟨_,rfl⟩,q⟩
 ·obtain⟨u,rfl,d⟩:=Ze r;cases d;exact call_int_bool ⟨.int _,H,I.tok _,⟨_,rfl⟩,q⟩
end
end L2
namespace L2
open PySem PySem.Spec PyProof.Rows
structure z2F (h:Heap) (x dx C:Addr) (mA:Str->Option Value):Prop where
 obj:h.get? x=some (iu C dx)
 ns:h.Ns1 dx mA
 ne:dx ≠ x
theorem Yn {h:Heap}{i:Addr}{j:Str->Option Value}(n:h.Ns1 i j):∃g,h.get? i=some g/\∀name,iD name g=some (j name):=by
 obtain⟨o,d,ep,l,hd,k,_,r⟩:=n;refine⟨o,l,λname=> ?_⟩;have e:=r name;unfold nsFind findBy at e;rw[← Array.find?_toList]at e;unfold iD;rw[hd];dsimp only;split
 ·rename_i y q;rw[q]at e;exact congrArg _ e
 ·rename_i q;rw[q]at e;have a:d.toList.any (·.refKey)=false:=by
   rw[List.any_eq_false];intro y hy;obtain⟨z,t,c⟩:=k y (Array.mem_toList_iff.mp hy);simp[DictEntry.refKey,c]
  have p :¬ d.toList.any (·.refKey)=true:=by rw[a];exact ax
  rw[if_neg p];exact congrArg _ e
theorem z2F.look (I:z2F h x dx C mA):∃a,PySem.W.InstAt h x (iu C dx) C (some a)/\∀name,iD name a=some (mA name):=
 let ⟨a,ho,hl⟩:=Yn I.ns
 ⟨a,⟨I.obj,rfl,rfl,ho⟩,hl⟩
section
theorem Xu (g:HOk P w H h)(e:H a=some (.ins C dx fs)):∃c,z2F h a dx C c/\(∀f,sM (fs.lookup f) (c f))/\PySem.Within c (fs.map (·.1))/\fs.length<=1000/\H dx=some (.own a):=by
 obtain⟨d,z,i,ob,c,n,r,q⟩:=(show zK P w H h a _ from g a _ e);exact⟨c,⟨ob,n,i⟩,r,q,z,d⟩
end
structure Cls (K:ai) (C:Addr):Prop where
 pg:lL K C Str.empty=true
 hd:PySem.W.hasDictIn K C=true
 po:PySem.W.plainOver K C=true
 sa:PySem.W.findIn K (.ref C) "__setattr__"=some (some (.builtin "object.__setattr__"))
theorem Cls.get {K:ai}{C:Addr}(c:Cls K C)(f:Str):lL K C f=true:=c.pg
section
end
section
end
section
inductive yn (K:ai) (H:Hp):V->Value->Prop where
 | non:yn K H .non (.type "NoneType")
 | bl (x:Bool):yn K H (.bl x) (.type "bool")
 | int (i:Int):yn K H (.int i) (.type "int")
 | str (x:Str):yn K H (.str x) (.type "str")
 | flt (x:UInt64):yn K H (.flt x) (.type "float")
 | lst {a:Addr} {xs:List V} (e:H a=some (.lst xs)):yn K H (.ref a) (.type "list")
 | frz {a:Addr} {o:Obj} {xs:List V} (e:H a=some (.frz o (.lst xs))):yn K H (.ref a) (.type "list")
 | tup {a:Addr} {xs:List V} (e:H a=some (.tup xs)):yn K H (.ref a) (.type "tuple")
 | dK {a:Addr} {kvs:List (mG×V)} (e:H a=some (.dK kvs)):yn K H (.ref a) (.type "dict")
 | dT {a:Addr} {kvs:List (List mG×Addr×V)} (e:H a=some (.dT kvs)):yn K H (.ref a) (.type "dict")
 | ins {a C dx:Addr} {fs:List (Str×V)} (e:H a=some (.ins C dx fs)) (cl:Cls K C) (ha:PySem.W.findIn K (.ref C) "__class__"=some (some (.builtin "object.__class__")))
   (hn:PySem.W.specialIn K (.builtin "object.__class__") "__get__"=some (some (.builtin "getset_descriptor.__get__"))) (htk:PySem.W.takesIn K (.builtin "object.__class__")=some true)
   (hm:PySem.W.mroIn K C (.type "object")=some true):yn K H (.ref a) (.ref C)
theorem Yo (I:Inv X pins σ H s)(g:RelV x u)(F:yn X.K H x t)(e:bO X.K t c=some b)(h:∀tk,Q (.bool b) { s with toks:=tk }):
  wpAny (model X.prog X.w) A (call (.builtin "isinstance") [u,c]) Q E s:=by
 cases F with
 | non=>cases (g);exact bX lc I.kIn True.intro e (λz=>nomatch z) h
 | bl y=>cases (g);exact bX lf I.kIn True.intro e (λz=>nomatch z) h
 | int i=>obtain⟨t,q⟩:=(g);cases q;exact bX lM I.kIn True.intro e (λz=>nomatch z) h
 | str y=>obtain⟨t,q⟩:=(g);cases q;exact bX lN I.kIn True.intro e (λz=>nomatch z) h
 | flt y=>obtain⟨t,q⟩:=(g);cases q;exact bX PySem.W.kitx_float I.kIn True.intro e (λz=>nomatch z) h
 | @lst a r d=>
  cases (g);obtain⟨_,_,n,_,j⟩:=(show zK _ X.w H _ a _ from I.hok a _ d);exact bX eI I.kIn ⟨_,j,rfl⟩ e (λz=>nomatch z) h
 | @frz a ob r d=>
  cases (g);obtain⟨_,_,_,n,_,j⟩:=(show zK _ X.w H _ a _ from I.hok a _ d);exact bX eI I.kIn ⟨_,j,rfl⟩ e (λz=>nomatch z) h
 | @tup a r d=>
  cases (g);obtain⟨_,_,_,p,_⟩:=(show zK _ X.w H _ a _ from I.hok a _ d);obtain⟨o,j,k,_⟩:=p;exact bX iX I.kIn ⟨o,j,k⟩ e (λz=>nomatch z) h
 | @dK a kvs d=>
  cases (g);obtain⟨_,_,vs,_,p⟩:=(show zK _ X.w H _ a _ from I.hok a _ d);obtain⟨o,v,ep,j,k,_⟩:=p;exact bX lg I.kIn ⟨o,j,k.1⟩ e (λz=>nomatch z) h
 | @dT a kvs d=>
  cases (g);obtain⟨_,_,r,_,o,v,ep,j,k,_⟩:=(show zK _ X.w H _ a _ from I.hok a _ d);exact bX lg I.kIn ⟨o,j,k.1⟩ e (λz=>nomatch z) h
 | @ins a C M fs d cl B hn l D=>
  cases (g);obtain⟨N,O,_⟩:=Xu I.hok d;obtain⟨G,J,_⟩:=O.look;exact bX (PySem.W.kitx_own (cl.get _) cl.hd B hn l D) I.kIn J e (λz=>nomatch z) h
end
end L2
namespace L2
open PySem PySem.Spec PyProof.Rows
structure ZF (k:Nat) (A:Around):Prop where
 hd:A.handled=none
 dp:A.depth+3*k+5 < recursionLimit
 un:A.units+16*k+200 < cLine
 gd:A.guards=some []
theorem ZF.mono (r:ZF k A)(h:j<=k):ZF j A:=⟨r.hd,by have:=r.dp;omega,by have:=r.un;omega,r.gd⟩
theorem ZF.deeper (r:ZF (k+1) A)(env:Env):ZF k (A.deeper env):=
 ⟨r.hd,by have:=r.dp;show A.depth+1+3*k+5 < _;omega,by have:=r.un;show A.units+3+16*k+200 < _;omega,r.gd⟩
theorem ZF.depth (r:ZF k A):A.depth < recursionLimit:=by have:=r.dp;omega
theorem ZF.units (r:ZF k A):A.units+64 < cLine:=by have:=r.un;omega
def rg:TA:=λ_ H Q=>Q [] H
def Gs (e:TE)(tr:TA):TA:=λa H Q=>e a H λx d=>tr a d λc g=>Q (x :: c) g
section
theorem zw:PA X [] rg:=λ_ _ _ _ H Q I h=>lh ⟨[],H,I,.nil,h⟩
theorem zi (k:PE X e te)(hr:PA X es t)(w:starEach (e :: es) X.env=(false,eval e X.env) :: starEach es X.env:=by rfl):PA X (e :: es) (Gs te t):=by
 intro pos a s c H Q I h;rw[w];refine iY (mo (k _ s c H _ I h) λu p ⟨x,r,l,g,o⟩=> ?_);exact mo (hr pos _ p c r _ l o) λB y ⟨i,j,q,v,d⟩=>⟨x :: i,j,q,.cons g v,d⟩
def A9 (t:TA):TE:=λd H Q=>t d H λa c=>a.length<=sizeLine/\∀p,c p=none->Q (.ref p) (ml c p (.tup a))
def BR (t:TA):TE:=λd H Q=>t d H λa c=>a.length<=sizeLine/\∀p,c p=none->Q (.ref p) (ml c p (.lst a))
theorem xC {x1}(h:PA X es t):PE X (.Tuple es x1 pos) (A9 t):=by
 intro a s k H Q I g;refine wpAny_Tuple_spliced (mo (h pos _ s k H _ I g) λj o ⟨l,i,c,r,z,q⟩=>⟨by rw[← r.length];exact z, ?_⟩)
 have d:=c.hok.fresh (ah _);refine⟨.ref _,ml i _ _,c.laid (λb u e=>a9 _ e) (ah _) ?_,rfl,q _ d⟩;exact⟨z,j,r,⟨_,ae _ rfl,rfl,_,rfl⟩,.inr ⟨_,ae _ rfl,rfl⟩⟩
theorem Yp (h:PA X es t):PE X (.List es pos) (BR t):=by
 intro a s k H Q I g;refine wpAny_List_spliced (mo (h pos _ s k H _ I g) λj o ⟨l,i,c,r,z,q⟩=>⟨by rw[← r.length];exact z, ?_⟩)
 have d:=c.hok.fresh (ah _);refine⟨.ref _,ml i _ _,c.laid (λb u e=>a9 _ e) (ah _) ?_,rfl,q _ d⟩;exact⟨z,j,0,r,ae _ rfl⟩
end
abbrev Sp:=List V->Hp->VK->XK->Prop
abbrev nP:=List Env->Hp->Shared->XK->Value->Shared->Prop
structure vJ (P:Program) (w:World) (K:ai) (mg:Str->Option Value) (base:Heap) (A:Around) (outer:List Env) (s:Shared) (H:Hp):Prop where
 frames:A.frames=some outer
 mod:Mod K mg base
 bs:∀b o,base.get? b=some o->s.heap.get? b=some o/\H b=none
 bsz:base.objs.size<=s.heap.objs.size
 funs:s.heap.FunFrames base outer
 frf:∀b∈mQ outer,H b=none
 hok:HOk P w H s.heap
 bare:AllBare s.gens
def CE (outer:List Env)(P:Program)(w:World)(H:Hp)(s:Shared)(Q:VK)(u:Value)(a :Shared):Prop:=
 ∃v c,a.os=s.os/\AllBare a.gens/\Un (mQ outer) [] H c s.heap a.heap/\HOk P w c a.heap/\RelV v u/\Q v c
def CR (CX:nP)(outer:List Env)(P:Program)(w:World)(H:Hp)(s:Shared)(Q:VK)(E:XK)(r:Result)(a :Shared):Prop:=
 match r with
 | .ok (.ret u)=>CE outer P w H s Q u a
 | .ok _=>False
 | .error e=>CX outer H s E e a
structure JW (P:Program) (w:World) (K:ai) (mg:Str->Option Value) (base:Heap) (CX:nP) (k:Nat) (f:Addr) (fd:FuncData) (ps:List Str) (sp:Sp):Prop where
 len:∀vs H Q E,sp vs H Q E->vs.length=ps.length
 run:∀(A:Around) (outer:List Env) (s:Shared) (H:Hp) (args:Args) (us:List Value) (vs:List V) (Q:VK) (E:XK),ZF k A->vJ P w K mg base A outer s H->BindsTo s fd args (ps.zip us)->Vals vs us->sp vs H Q E->
  codeAny (model P w) A (.call (.ref f) args) (CR CX outer P w H s Q E) s
section
theorem Inv.env0 (I:Inv X pins σ H s):vJ X.prog X.w X.K X.mg X.base X.A X.stack s H:=
 ⟨I.ok.frames,I.ok.mod,I.bs,aB I.ok.bsz I.sz,I.stack,I.stkFree,I.hok,I.bare⟩
theorem Inv.after (I:Inv X pins σ H s)(h:CE X.stack X.prog X.w H s Q u s'):EP X pins σ Q u s' :=by
 obtain⟨v,i,os,a,un,e,r,q⟩:=h;obtain⟨j,g,d,t,c⟩:=s';obtain rfl:c =s.os:=os;exact⟨v,i,I.call un e a (λb z=>absurd z (by simp)),r,q⟩
end
def E1 (sp:Sp)(a:List V)(E:XK)(t:TA):TE:=λd H Q=>t d H λvs c=>sp (vs++a) c Q E
noncomputable def Binds (K:ai)(e:FuncData)(d:List Str)(c:List Value):Prop:=
 ∀(s:Shared) (a:List Value),K.In s.heap->(a++c).length=d.length->BindsTo s e ⟨a,[]⟩ (d.zip (a++c))
theorem Binds.all {K:ai}{d:FuncData}{c:List Str}(h:∀a:List Value,a.length=c.length->bindArgs d ⟨a,[]⟩=pure (c.zip a)):Binds K d c []:=λs a _ e=>by
 rw[bb]at e ⊢;exact .of_eq (h a e)
def ZB (CX:nP)(X:Cx)(E:XK):Prop:=∀(a:List (Addr×Obj)) (d:St) (H:Hp) (s:Shared) (e:Value) (c :Shared),Inv X a d H s->CX X.stack H s E e c ->X.xe e c
section
theorem Gu (F:JW X.prog X.w X.K X.mg X.base CX k f fd ps sp)(hr:ZF k X.A)(d:Binds X.K fd ps ds)(hd:Vals dvs ds)(j:ZB CX X E)
  (I:Inv X pins σ H s) (r:Vals vs us) (h:sp (vs++dvs) H Q E):wpAny (model X.prog X.w) X.A (call (.ref f) us) (EP X pins σ Q) X.xe s:=by
 have c:=r.append hd;have l:(us++ds).length=ps.length:=by rw[← c.length];exact F.len _ _ _ _ h
 refine wpAny_call (ci (F.run X.A _ s H _ _ _ Q E hr I.env0 (d s us I.kIn l) c h) λr i a=> ?_);cases r with
 | error e=>exact j _ σ H s e i I a
 | ok g=>
  cases g with
  | ret u=>exact I.after a
  | next=>exact bZ a
  | brk=>exact bZ a
  | cont=>exact bZ a
theorem Zv (F:JW X.prog X.w X.K X.mg X.base CX k f fd ps sp)(hr:ZF k X.A)(l:Gl X x)(v:X.mg x=some (.ref f))(j:cW X.K (.ref f)=true)(i:Binds X.K fd ps ds)(hd:Vals dvs ds)(u:ZB CX X E)
  (o:PA X (e :: es) t) (a:(x == ("__debug__":Str))=false:=by decide) (y:starEach (e :: es) X.env=(false,eval e X.env) :: starEach es X.env:=by rfl) (c:(backTo pos (starEach es X.env)).any (·.1)=false:=by rfl):
  PE X (.Call (.Name x p) (e :: es) [] pos) (E1 sp dvs E t):=by
 intro d s B H Q I h;refine bW (wK I l v ?_ a);refine PySem.W.callWith_K I.ok.mod.kin j (mo (o pos _ s B H _ I h) λG C ⟨vs,D,g,r,q⟩=>⟨g.kIn, ?_⟩) y c;exact Gu F hr i hd u g r q
end
def PK (X:Cx)(c:List Keyword)(t:TA):Prop:=
 ∀(pos:Pos) (a:List (Addr×Obj)) (s:Shared) (d:St) (H:Hp) (Q:List V->Hp->Prop),Inv X a d H s->t d H Q->wpAny (model X.prog X.w) X.A (evalAll ((backToKw pos (keywordEach c X.env)).map (·.2))) (AP X a d Q) X.xe s
section
variable {kws:List Keyword}{nm:Option Str}
theorem Gv:PK X [] rg:=λ_ _ _ _ H Q I h=>wpAny_evalAll_nil ⟨[],H,I,.nil,h⟩
theorem Xv (k:PE X e te)(hr:PK X kws t):PK X (⟨nm,e,kpos⟩ :: kws) (Gs te t):=by
 intro pos a s c H Q I h;refine wpAny_evalAll_cons (a8 (mo (k _ s c H _ I h) λu p ⟨x,r,l,g,o⟩=>a8 (wpAny_standAt (aa ?_))));exact mo (hr pos _ p c r _ l o) λy w ⟨i,j,q,v,d⟩=>⟨x :: i,j,q,.cons g v,d⟩
variable {g:List Value->List Value->List Value}{gV:List V->List V->List V}
end
structure ZQ (N P:List Str) (sc:Scope):Prop where
 kind:sc.kind= .function
 co:sc.isCoroutine=false
 gen:sc.isGenerator=false
 nd:N.Nodup
 pre:N.take P.length=P
 par:∀x∈P,sc.names.lookup x=some .local\/sc.names.lookup x=some .cell
 nofree:∀y∈sc.names,y.2 ≠ .free
theorem Wo {kindOf:Str->Option NameKind}{x:Str}:∀{binds:List (Str×Value)} {m:Str->Option Value},(∀v,(x,v) ∉ binds)->bindL kindOf binds m x=m x
 | [],_,_=>rfl
 | (n,v) :: r,m,h=>by
  unfold bindL;rw[Wo λw a=>h w (ab _ a)];split
  ·have:x ≠ n:=by rintro rfl;exact h v ac
   simp[this]
  ·rfl
theorem Wp {kindOf:Str->Option NameKind}{x:Str}:∀{binds:List (Str×Value)} {m:Str->Option Value},(∀v,(x,v) ∉ binds)->bindC kindOf binds m x=m x
 | [],_,_=>rfl
 | (n,v) :: r,m,h=>by
  unfold bindC;rw[Wp λw a=>h w (ab _ a)];split
  ·rfl
  ·have:x ≠ n:=by rintro rfl;exact h v ac
   simp[this]
theorem Wq {kindOf:Str->Option NameKind}{x:Str}{v:Value}:∀{P:List Str} {vs:List Value} {i:Nat} {m:Str->Option Value},P.Nodup->P[i]? =some x->vs[i]? =some v->kindOf x=some .local->
  bindL kindOf (P.zip vs) m x=some v
 | [],_,_,_,_,h,_,_=>by simp at h
 | _ :: _,[],_,_,_,_,h,_=>by simp at h
 | p :: P,w :: vs,0,m,nd,a,c,d=>by
  simp at a c;subst a;subst c;show bindL _ ((p,w) :: P.zip vs) m p=_;unfold bindL;rw[Wo λv e=>(eA.mp nd).1 (eB e).1,if_pos d];simp
 | p :: P,w :: vs,i+1,m,nd,a,c,d=>by
  show bindL _ ((p,w) :: P.zip vs) m x=_;exact Wq (eA.mp nd).2 (by simpa using a) (by simpa using c) d
theorem Wr {kindOf:Str->Option NameKind}{x:Str}{v:Value}:∀{P:List Str} {vs:List Value} {i:Nat} {m:Str->Option Value},P.Nodup->P[i]? =some x->vs[i]? =some v->kindOf x ≠ some .local->
  bindC kindOf (P.zip vs) m x=some v
 | [],_,_,_,_,h,_,_=>by simp at h
 | _ :: _,[],_,_,_,_,h,_=>by simp at h
 | p :: P,w :: vs,0,m,nd,a,c,d=>by
  simp at a c;subst a;subst c;show bindC _ ((p,w) :: P.zip vs) m p=_;unfold bindC;rw[Wp λv e=>(eA.mp nd).1 (eB e).1,if_neg d];simp
 | p :: P,w :: vs,i+1,m,nd,a,c,d=>by
  show bindC _ ((p,w) :: P.zip vs) m x=_;exact Wr (eA.mp nd).2 (by simpa using a) (by simpa using c) d
def start (N:List Str)(vs:List V):St:=vs.map some++aq (N.length - vs.length) none
def ZC (CX:nP)(P:Program)(w:World)(K:ai)(mg:Str->Option Value)(base:Heap)(N:List Str)(a:Str)(scope:Scope)(f:Addr)(cd:Value)(A:Around)(outer:List Env)(s:Shared)(H:Hp)(E:XK):Cx where
 prog:=P
 w:=w
 K:=K
 mg:=mg
 base:=base
 A:=A.deeper (envOfC a scope s.heap.objs.size f cd)
 N:=N
 s₀:=s
 H₀:=H
 env:=envOfC a scope s.heap.objs.size f cd
 outer:=outer
 stack:=envOfC a scope s.heap.objs.size f cd :: outer
 ex:=[]
 calm:=true
 fn:=λ_=>true
 pn:=[]
 xe:=λe d =>wpAny (model P w) (A.deeper (envOfC a scope s.heap.objs.size f cd)) (leaving (envOfC a scope s.heap.objs.size f cd) e) (λ_ c =>CX outer H s E e c) (λg c =>CX outer H s E g c) d
theorem U7 {a:Scope}{n:Nat}{x:Str}(h:a.names.lookup x=some .cell):∃c,(cellsFrom n a.names []).lookup x=some c:=by
 have q:=ie _ n [] (.inl h);exact g_.mp q
theorem Yq {CX:nP}{P:Program}{w:World}{K:ai}{D:Str->Option Value}{base:Heap}{N o:List Str}{d:Str}{scope:Scope}{f:Addr}{cd:Value}{A:Around}{outer:List Env}{s I:Shared}{H:Hp}{E:XK}{F:List Value}{vs:List V}
  (S:ZQ N o scope) (hd:A.handled=none) (j:vJ P w K D base A outer s H) (X:vs.length=o.length) (r:Vals vs F)
  (x:InCallC s s.heap.objs.size (bindL (envOfC d scope s.heap.objs.size f cd).kindOf (o.zip F) λ_=>none) (cellsFrom (s.heap.objs.size+1) scope.names []) (bindC (envOfC d scope s.heap.objs.size f cd).kindOf (o.zip F) λ_=>none) I):
  Inv (ZC CX P w K D base N d scope f cd A outer s H E) [] (start N vs) H I:=by
 have M:=by have:=congrArg iE S.pre;rw[dJ]at this;omega
 obtain⟨C,tk,rfl,G⟩:=x.done;have l:∀b,b ∉ (ZC CX P w K D base N d scope f cd A outer s H E).ex:=λb z=>absurd (show b∈([]:List _) from z) (by simp)
 refine⟨⟨j.mod,S.kind,rfl,rfl,ah _,λy z c C g=> ?_,λy hy=> ?_,λy c _ h=> ?_,λ_=>hd,iF j.frames,.inr ⟨rfl,rfl⟩,λb z=>absurd z (l b),j.bs,j.bsz,λb _ _=>l b,λb z=>absurd z (l b),j.funs,j.frf⟩,
  rfl,j.bare,Un.kept G,⟨_,x.toInCall.ns,λi y v C g U=> ?_⟩,λy c h=>⟨_,x.cell y c h⟩,j.hok.fresh (ah _),λy c h=> ?_,λp hp=>absurd (show p∈([]:List _) from hp) (by simp),j.hok.kept G, ?_⟩
 ·exact name_of_addr x.apart (br C) (br g)
 ·rcases hy with hy | hy
  ·exact U7 hy
  ·exact absurd rfl (S.nofree _ (br hy))
 ·exact fE (x.above y c (br h))
 ·have hi:i < vs.length:=by
   unfold start at g
   by_cases hi:i < vs.length
   ·exact hi
   ·rw[aR (by simpa using hi)]at g
    rw[aV]at g;split at g <;> cases g
  have O:vs[i]? =some v:=by
   unfold start at g;rw[aU (by simpa using hi),aw]at g
   cases e:vs[i]? with
   | none=>rw[e]at g;cases g
   | some a=>rw[e]at g;cases g;rfl
  obtain⟨u,J,Q⟩:=r.get O;have hp:o[i]? =some y:=by
   rw[← S.pre,List.getElem?_take_of_lt (by omega)];exact C
  have B:o.Nodup:=by rw[← S.pre];exact S.nd.sublist (List.take_sublist _ _)
  refine⟨u,Q, ?_⟩;rcases S.par y (cN hp) with k | k
  ·exact .inl ⟨k,Wq B hp J k⟩
  ·obtain⟨c,e⟩:=U7 k;refine .inr ⟨.inl k,c,e, ?_⟩;have q:=x.cell y c e;rw[Wr B hp J (by show scope.names.lookup y ≠ _;rw[k];decide)]at q
   exact q
 ·exact j.hok.fresh (fE (x.above y c (br h)))
 ·unfold start;show _=N.length;rw[ay,af,aZ];omega
theorem Xw {CX:nP}{P:Program}{w:World}{K:ai}{C:Str->Option Value}{base:Heap}{k:Nat}{f:Addr}{name a:Str}{params:Arguments}{body:List Stmt}{scope:Scope}{X kV B pm cdv ct oc:Value}{Z od:Option Addr}
  {O:Array (Option Value)} {N D:List Str} {sp:Sp} (lk:K.lookup f=some ⟨oc,od,.func (cB name a params body scope X kV B pm Z cdv ct),O⟩) (M:fM K cdv a=true) (S:ZQ N D scope)
  (len:∀vs H Q E,sp vs H Q E->vs.length=D.length)
  (d:∀(A:Around) (outer:List Env) (s:Shared) (H:Hp) (vs:List V) (Q:VK) (E:XK),ZF k (A.deeper (envOfC a scope s.heap.objs.size f cdv))->sp vs H Q E->
   ∃t,PSs (ZC CX P w K C base N a scope f cdv A outer s H E) body t/\t { nx:=λ_ c =>Q .non c,rt:=Q } (start N vs) H):
  JW P w K C base CX (k+1) f (cB name a params body scope X kV B pm Z cdv ct) D sp:=by
 refine⟨len,λA outer s H args us vs Q E hr j hb r l=> ?_⟩;have hl:=len _ _ _ _ l;have KX:=j.mod.kin.keeps λb o e=>(j.bs b o e).1;have F:=j.mod.nolimit.keeps λb o e=>(j.bs b o e).1;have g:∀y∈D.zip us,scope.names.lookup y.1=some _\/(scope.names.lookup y.1=some _/\((cellsFrom (s.heap.objs.size+1) _ []).lookup y.1).isSome=true):=λ⟨n,v⟩ hy=>by
  rcases S.par n (eB hy).1 with q | q
  ·exact .inl q
  ·exact .inr ⟨q,ie _ _ _ (.inl q)⟩
 refine codeAny_call_function hr.depth (KX _ _ lk) rfl S.co S.gen rfl (PySem.W.codeRec_of KX M) (hb _ _ _ _ ?_);refine wpAny_newFunctionEnv_cells S.kind g λenv he s1 x=> ?_;subst he;refine⟨F.keeps x.toInCall.keep,codeAny_func ?_⟩;obtain⟨t,ht,hq⟩:=d A _ s H vs Q E (hr.deeper _) l;have I:Inv (ZC CX P w K C _ N _ _ f cdv A _ s H E) [] _ H s1:=Yq S hr.hd j hl r x;refine cG (ht [] s1 _ H _ I hq) (λfl G i=> ?_) λe G i=>i;have p:∀{σ' :St} {c :Hp} {v:V} {u:Value},Inv (ZC CX P w K C base N a scope f cdv A outer s H E) [] σ' c G ->RelV v u->Q v c ->CE _ P w H s Q u G :=
  λ{σ' c v u} J U q=>⟨v,c,J.os,J.bare,J.base,J.hok,U,q⟩
 cases fl with
 | ret u=>
  obtain⟨v,σ',c,J,U,q⟩:=i;exact p J U q
 | next=>
  obtain⟨σ',c,J,q⟩:=i;exact p (v:=V.non) J rfl q
 | brk=>
  obtain⟨_,_,_,q⟩:=i;exact bZ q
 | cont=>
  obtain⟨_,_,_,q⟩:=i;exact bZ q
end L2
namespace L2
open PySem PySem.Spec PyProof.Rows
section
variable {X:Cx}{x:Str}{p pos:Pos}{e:Expr}{es:List Expr}{t:TA}{id T:String}{r:List V->Hp->VK->Prop}
def CK (r:List V->Hp->VK->Prop)(t:TA):TE:=λc H Q=>t c H λvs a=>r vs a Q
theorem Zl (w:Z4 X (.builtin id) r)(j:Gl X x)(u:X.mg x=none)(o:bootBuiltins x=some (.builtin id))(l:PA X (e :: es) t)(hn:x ≠ "__name__":=by decide)(a:(x == ("__debug__":Str))=false:=by decide)
  (C:starEach (e :: es) X.env=(false,eval e X.env) :: starEach es X.env:=by rfl) (c:(backTo pos (starEach es X.env)).any (·.1)=false:=by rfl):PE X (.Call (.Name x p) (e :: es) [] pos) (CK r t):=by
 intro d s g H Q I h;refine bW (ZJ I j u o ?_ hn a);exact PyProof.Rows.callWith_builtin1 (mo (l pos _ s g H _ I h) λB v ⟨vs,y,k,i,q⟩=>w _ v g y vs B Q k i q) C c
theorem Zf (w:Z4 X (.type T) r)(j:Gl X x)(u:X.mg x=none)(o:bootBuiltins x=some (.type T))(l:PA X (e :: es) t)(hn:x ≠ "__name__":=by decide)(a:(x == ("__debug__":Str))=false:=by decide)
  (C:starEach (e :: es) X.env=(false,eval e X.env) :: starEach es X.env:=by rfl) (c:(backTo pos (starEach es X.env)).any (·.1)=false:=by rfl):PE X (.Call (.Name x p) (e :: es) [] pos) (CK r t):=by
 intro d s g H Q I h;refine bW (ZJ I j u o ?_ hn a);exact a_ (mo (l pos _ s g H _ I h) λB v ⟨vs,y,k,i,q⟩=>w _ v g y vs B Q k i q) C c
end
end L2
namespace HT
open PySem PyProof.Rows
section
open PySem.SeqAt
open PySem.AutoSeq1 (wpAny_loadPart')
open PySem.MeetsSeq PySem.MeetsSeq2 PySem.MeetsSeq3
end
section
theorem cat_tup (r:IsTup s.heap t vs.toArray)(q:IsTup s.heap b ws.toArray)(p:vs ≠ [])
  (v:ws=[]->Q (.ref t) s) (x:ws ≠ []->Q (.ref s.heap.objs.size) { s with heap:=s.heap.push { cls:= .type "tuple",data:= .seq (vs++ws).toArray } })
  (hsz:vs.length+ws.length<=sizeLine):wpAny (model prog w) A (binaryOp .Add (.ref t) (.ref b)) Q E s:=by
 obtain⟨⟨cls,dd,data,sl⟩,g,u,n,hd⟩:=id r;obtain⟨⟨o,c,data2,d⟩,a,j,l,k⟩:=id q;subst u hd j k;have e:vs.toArray++ws.toArray=(vs++ws).toArray:=by simp
 by_cases i:ws=[]
 ·exact concat_meets ⟨_,g,rfl⟩ ⟨_,a,rfl⟩ noFill_tuple_add seq_tuple_add eJ eG (dS _ _)
   (tuple_addW1 t b _ _ n l dd c sl d (by simpa using p) (by simp[i])) ⟨g,a,v i⟩
 ·refine concat_meets ⟨_,g,rfl⟩ ⟨_,a,rfl⟩ noFill_tuple_add seq_tuple_add eJ eG (dS _ _)
   (tuple_addW2 t b _ _ n l dd c sl d (by simpa using p) (by simpa using i) (by exact hsz)) ⟨g,a, ?_⟩
  rw[e];exact x i
noncomputable def sIx (n d:Nat):Option Int->Nat
 | none=>d
 | some v=>if v < 0 then (v+(n:Int)).toNat else min v.toNat n
theorem sIx_none (n d:Nat):sIx n d none=d:=rfl
theorem sIx_nat (n d k:Nat):sIx n d (some (k:Int))=min k n:=by
 show (if (k) < 0 then ((k:Int)+(n)).toNat else min _ n)=min k n
 rw[if_neg (by omega),bv]
theorem Yr (v:Int)(n d:Nat):(if v < 0 then max (v+(n:Int)) 0 else min v (n:Int))=((sIx n d (some v):Nat):Int):=by
 show (if v < 0 then max _ 0 else min v (n))=(((if v < 0 then (v+(n)).toNat else min _ n):Nat):Int)
 by_cases a:v < 0
 ·simp only[if_pos a];omega
 ·simp only[if_neg a];omega
theorem yo (lo hi:Option Int)(n:Nat):fV lo hi 1 (n:Int)=(((sIx n 0 lo:Nat):Int),((sIx n n hi:Nat):Int)):=by
 refine Prod.ext ?_ ?_
 ·cases lo with
  | none=>rfl
  | some v=>exact Yr v n 0
 ·cases hi with
  | none=>rfl
  | some v=>exact Yr v n n
theorem yq (i j:Nat):dN (i:Int) (j:Int) 1=j - i:=by
 unfold dN;split <;> omega
theorem wf {o:Option Int}{Q:Option Int->Shared->Prop}(p:IsPart v o)(h:Q o s):wpAny (model prog w) A (Builtin.Slice.slicePartIndex v) Q E s:=by
 cases p with
 | none=>exact slicePart_none h
 | int i t=>exact slicePart_int h
theorem sliceApplied_gen {lo hi:Option Int}{Q:Int×Int×Nat->Shared->Prop}(g:s.heap.IsSliceOf sl vl vu .none)(pl:IsPart vl lo)(d:IsPart vu hi)
  (h:Q (((sIx n 0 lo:Nat):Int),1,sIx n n hi - sIx n 0 lo) s):wpAny (model prog w) A (Builtin.Slice.sliceApplied (.ref sl) (pure (n:Int))) Q E s:=by
 obtain⟨os,a,e,c⟩:=id g;refine a8 (a8 (b9 a c rfl (a8 (b9 a c rfl (a8 (b9 a c rfl (aa ?_)))))));refine a8 (slicePart_none ?_);refine a8 (wf pl (a8 (wf d (a8 (aa ?_)))));show wpAny _ _ (match fV lo hi 1 _ with | (lo,hi)=>pure (lo,(1:Int),dN lo hi 1)) _ _ s
 rw[yo lo hi n];show wpAny _ _ (pure _) _ _ s;rw[yq];exact aa h
theorem vY (a:Array Value)(i k:Nat):((ba k).filterMap λ(m:Nat)=>a[((i:Int)+(m:Int)*1).toNat]?).toArray=((a.toList.drop i).take k).toArray:=by
 have e:(λ(m:Nat)=>a[((i:Int)+(m)*1).toNat]?)=λm=>a[i+m]? :=by
  funext m
  have:((i:Int)+(m)*1).toNat=i+m:=by omega
  rw[this]
 rw[e];have:=pick_run a i k;rw[List.filterMap_map]at this;have c:((λx=>a[x]?) ∘ λx=>i+x)=λm=>a[i+m]? :=rfl;rw[c]at this;rw[this]
theorem getItem_tuple_cut {lo hi:Option Int}(c:IsTup s.heap t items)(j:s.heap.IsSliceOf sl vl vu .none)(pl:IsPart vl lo)(k:IsPart vu hi)
  (o:¬ (sIx items.size 0 lo=0/\sIx items.size items.size hi=items.size))
  (h:Q (.ref s.heap.objs.size) { s with heap:=s.heap.push { cls:= .type "tuple",data:= .seq ((items.toList.drop (sIx items.size 0 lo)).take (sIx items.size items.size hi - sIx items.size 0 lo)).toArray } })
  (hsz:items.size<=sizeLine):wpAny (model prog w) A (getItem (.ref t) (.ref sl)) Q E s:=by
 have a:sizeOk (.seq ((items.toList.drop (sIx items.size 0 lo)).take (sIx items.size items.size hi - sIx items.size 0 lo)).toArray):=by
  show ((items.toList.drop _).take _).toArray.size<=sizeLine;rw[aF,dJ,h_,aP];omega
 obtain⟨os,d,e,l⟩:=id j;have i:s.TypeIs (.ref sl) _:=⟨os,d,e⟩;unfold getItem
 try with_reducible refine bi ?_
 refine a8 (wpAny_sequenceKey c.typeIs (by decide) ?_)
 refine a8 (aW c.typeIs bE
  (aL bE c.typeIs entry_tuple_getitem ?_ (args_tuple_getitem _ _)))
 show wpAny _ _ (fN _ >>= _) _ _ s;refine a8 (tupleItemsOf_ c ?_);refine a8 (cO i ?_);refine a8 (sliceApplied_gen j pl k ?_);have g:¬ ((((sIx items.size 0 lo):Int) == 0 && (1:Int) == 1 && (sIx items.size items.size hi - sIx items.size 0 lo) == items.size)=true):=by
  intro q;rw[aj,aj]at q;have r:=eq_of_beq q.1.1;have p:=eq_of_beq q.2;exact o ⟨by omega,by omega⟩
 show wpAny _ _ (if (((sIx _ 0 lo:Nat):Int) == 0 && (1) == 1 && (sIx _ _ hi - sIx _ 0 lo) == items.size)=true then _ else _) _ _ s
 rw[if_neg g,vY]
 first
  | exact a8 (aJ (aa ⟨_,rfl,aa h⟩) a)
  | exact a8 _
  | exact a8 _
  | exact a8 _
end
end HT
namespace L2
open PySem PySem.Spec PyProof.Rows
abbrev TO:=St->Hp->(Option Int->Hp->Prop)->Prop
def PO (X:Cx)(e:Option Expr)(t:TO):Prop:=
 ∀(a:List (Addr×Obj)) (s:Shared) (c:St) (H:Hp) (Q:Option Int->Hp->Prop),Inv X a c H s->t c H Q->
  wpAny (model X.prog X.w) X.A (evalPart e X.env) (λu g =>∃o d,Inv X a c d g /\IsPart u o/\Q o d) X.xe s
def Xx:TO:=λ_ H Q=>Q none H
def Hq (t:TE):TO:=λc H Q=>t c H λx a=>∃i,x= .int i/\Q (some i) a
section
variable {X:Cx}{e:Expr}{te:TE}{lo hi:Option Expr}{tl th:TO}{pos p2:Pos}
theorem Xy:PO X none Xx:=by
 intro a s c H Q I h;exact aa ⟨none,H,I,.none,h⟩
theorem Xz (h:PE X e te):PO X (some e) (Hq te):=by
 intro a s l H Q I j;refine mo (h _ s l H _ I j) λu o ⟨x,k,d,c,g⟩=> ?_;obtain⟨i,rfl,q⟩:=g;obtain⟨t,rfl⟩:=c;exact⟨some i,k,d,.int i t,q⟩
def SlR (X:Cx)(r:V->Option Int->Option Int->Hp->VK->Prop):Prop:=
 ∀(a:List (Addr×Obj)) (s:Shared) (d:St) (H:Hp) (x:V) (v vl c:Value) (lo hi:Option Int) (sl:Addr) (Q:VK),Inv X a d H s->RelV x v->s.heap.IsSliceOf sl vl c .none->IsPart vl lo->IsPart c hi->r x lo hi H Q->
  ∃T id,typeLookup (.type T) "__getitem__"=pure (some (.builtin id))/\s.TypeIs v T/\wpAny (model X.prog X.w) X.A (getItem v (.ref sl)) (EP X a d Q) X.xe s
theorem SlR.or {r i :V->Option Int->Option Int->Hp->VK->Prop}(h:SlR X r)(h' :SlR X i):SlR X (λx lo hi H Q=>r x lo hi H Q\/i x lo hi H Q):=by
 intro d s k H x v vl c lo hi sl Q I g j pl a q;rcases q with q | q
 ·exact h _ s k H x v vl c lo hi sl Q I g j pl a q
 ·exact h' _ s k H x v vl c lo hi sl Q I g j pl a q
def EU (r:V->Option Int->Option Int->Hp->VK->Prop)(te:TE)(tl th:TO):TE:=λa H Q=>te a H λx c=>tl a c λl d=>th a d λu H3=>r x l u H3 Q
theorem vZ {r:V->Option Int->Option Int->Hp->VK->Prop}(hr:SlR X r)(y:PE X e te)(B:PO X lo tl)(S:PO X hi th):PE X (.Subscript e (.Slice lo hi none p2) pos) (EU r te tl th):=by
 intro g s a H Q I h;refine Subscript_ (mo (y _ s a H _ I h) λv O ⟨x,w,k,J,o⟩=> ?_);refine wpAny_Slice (mo (B _ O a w _ k o) λvl i ⟨l,M,P,pl,C⟩=>mo (S _ i a M _ P C) λc d ⟨u,H3,F,D,N⟩=> ?_);refine aa ?_;have p:Inv X _ a H3 { d with heap:=d.heap.push { cls:= .type "slice",data:= .fields #[vl,c,.none] } }:=F.kept λb ob q=>a9 _ q;obtain⟨T,id,hT,j,G⟩:=hr _ _ a H3 x v vl c l u _ Q p J (Heap.IsSliceOf.new ..) pl D N;exact tail_any j hT G (by with_unfolding_all rfl)
noncomputable def gH (a:List V)(lo hi:Option Int):List V:=(a.drop (HT.sIx a.length 0 lo)).take (HT.sIx a.length a.length hi - HT.sIx a.length 0 lo)
theorem Jq (a:List V)(lo hi:Option Int):(gH a lo hi).length<=a.length:=by
 unfold gH;rw[dJ,h_];omega
def AU (K:ai):V->Option Int->Option Int->Hp->VK->Prop:=λx lo hi H Q=>∃a c,x= .ref a/\SqT K H a c/\
 ¬ (HT.sIx c.length 0 lo=0/\HT.sIx c.length c.length hi=c.length)/\∀p,H p=none->Q (.ref p) (ml H p (.tup (gH c lo hi)))
theorem Gw:SlR X (AU X.K):=by
 intro j s y H x v vl w lo hi sl Q I o k pl l h;obtain⟨a,i,rfl,p,u,q⟩:=h;cases o;obtain⟨d,r,g,hz⟩:=I.tuple p;have c:d.toArray.size=i.length:=by exact r.length.symm
 refine⟨"tuple",_,bE.lookup,g.typeIs, ?_⟩;refine HT.getItem_tuple_cut g k pl l (by rw[c];exact u) ?_ (by rw[c];exact hz)
 rw[c];refine⟨.ref _,_,I.laid (λb ob q=>a9 _ q) (ah _) ?_,rfl,q _ (I.hok.fresh (ah _))⟩;exact⟨aB (Jq i lo hi) hz,_,(r.drop _).take _,ITN.new _ _⟩
def Fw (K:ai):R2:=λx y H Q=>∃a b d c,x= .ref a/\y= .ref b/\SqT K H a d/\SqT K H b c/\d ≠ []/\d.length+c.length<=sizeLine/\
 (c=[]->Q (.ref a) H)/\(c ≠ []->∀p,H p=none->Q (.ref p) (ml H p (.tup (d++c))))
theorem Vals.nil_iff (r:Vals xs us):us=[]↔xs=[]:=by
 cases r with
 | nil=>simp
 | cons _ _=>simp
theorem XA:mL X (binaryOp .Add) (Fw X.K):=by
 intro g s G H x y v u Q I j B h;obtain⟨a,b,J,F,rfl,rfl,r,o,C,hz,k,p⟩:=h;cases j;cases B;obtain⟨l,d,D,_⟩:=I.tuple r;obtain⟨i,c,p2,_⟩:=I.tuple o;refine HT.cat_tup D p2 (λz=>C (d.nil_iff.mp z)) (λz=>⟨.ref a,H,I,rfl,k (c.nil_iff.mp z)⟩) (λz=> ?_) (by rw[← d.length,← c.length];exact hz)
 refine⟨.ref _,_,I.laid (λb ob q=>a9 _ q) (ah _) ?_,rfl,p (λw=>z (c.nil_iff.mpr w)) _ (I.hok.fresh (ah _))⟩;exact⟨by rw[ay];exact hz,_,d.append c,ITN.new _ _⟩
end
end L2
namespace L2
open PySem PySem.Spec PyProof.Rows
noncomputable def oX (n:Nat)(i:Int):Option Nat:=if 0<=i then (if i < n then some i.toNat else none) else if -(n:Int)<=i then some (i+n).toNat else none
def mZ {a:Type}(c:List a)(i:Int):Option a:=(oX c.length i).bind λj=>c[j]?
theorem XB (h:oX n i=some j):seqIndex? i n=some j/\j < n/\ -(n:Int)<=i/\i < n:=by
 unfold oX at h
 by_cases c:0<=i
 ·rw[if_pos c]at h
  by_cases a:i < n
  ·rw[if_pos a]at h;have e:=aE h;exact⟨by rw[seqIndex_of c a,e],by omega,by omega,a⟩
  ·rw[if_neg a]at h;cases h
 ·rw[if_neg c]at h
  by_cases a: -(n)<=i
  ·rw[if_pos a]at h;have e:=aE h;exact⟨by rw[seqIndex_neg (by omega) a,e],by omega,a,by omega⟩
  ·rw[if_neg a]at h;cases h
theorem uv {c:Type}{a:List c}{v:c}(h:mZ a i=some v):∃j,seqIndex? i a.length=some j/\a[j]? =some v/\j < a.length/\ -(a.length:Int)<=i/\i < a.length:=by
 unfold mZ at h;cases e:oX _ i with
 | none=>rw[e]at h;cases h
 | some j=>
  rw[e]at h;obtain⟨g,k,d,l⟩:=XB e;exact⟨j,g,h,k,d,l⟩
theorem jb {c:Type}{a:List c}{j:Nat}{v:c}(h:a[j]? =some v):mZ a (j:Int)=some v:=by
 have d:=(aK.mp h).1;have e:oX a.length (j)=some j:=by
  unfold oX;rw[if_pos (by omega),if_pos (by omega)];simp
 unfold mZ;rw[e];exact h
noncomputable def Ys (b:Expr):Prop:=∀o i,subscripted b false o i=operate [o,i] (getItem o i)
def IxR (X:Cx)(r:R2):Prop:=
 ∀(d a:Expr) (c:List (Addr×Obj)) (s:Shared) (e:St) (H:Hp) (x y:V) (v u:Value) (Q:VK),Inv X c e H s->RelV x v->RelV y u->r x y H Q->
  subscripted a false v u=operate [v,u] (getItem v u)->wpAny (model X.prog X.w) X.A (subscriptTail d a v u) (EP X c e Q) X.xe s
def pC (X:Cx)(id:String)(r:V->List V->Hp->VK->Prop):Prop:=
 ∀(a:List (Addr×Obj)) (s:Shared) (e:St) (H:Hp) (x:V) (c:List V) (v:Value) (d:List Value) (Q:VK),Inv X a e H s->RelV x v->Vals c d->r x c H Q->
  wpAny (model X.prog X.w) X.A (call (.builtin id) (v :: d)) (EP X a e Q) X.xe s
section
variable {X:Cx}{a b:Expr}{ta tb:TE}{pos:Pos}
theorem IxR.or (h:IxR X r)(h' :IxR X r'):IxR X (λx y H Q=>r x y H Q\/r' x y H Q):=by
 intro c d e s k H x y v u Q I g i q j;rcases q with q | q
 ·exact h _ _ _ s k H x y v u Q I g i q j
 ·exact h' _ _ _ s k H x y v u Q I g i q j
theorem XF (hr:IxR X r)(i:PE X a ta)(d:PE X b tb)(o:Ys b):PE X (.Subscript a b pos) (Ai r ta tb):=by
 intro c s p H Q I h;exact Subscript_ (Ch i d I h λv u e x y g l j k q=>hr a b _ e p g x y v u Q l j k q (o _ _))
def rA (K:ai):R2:=λx y H Q=>∃p c i v,x= .ref p/\y= .int i/\SqL K H p c/\mZ c i=some v/\Q v H
def r9 (K:ai):R2:=λx y H Q=>∃p c i v,x= .ref p/\y= .int i/\SqT K H p c/\mZ c i=some v/\Q v H
def rY:R2:=λx y H Q=>∃z i c,x= .str z/\y= .int i/\z.length<=sizeLine/\mZ z.cps.toList i=some c/\Q (.str ⟨#[c]⟩) H
theorem XG:IxR X (rA X.K):=by
 intro l e D s U H x y v u Q I J Z h F;obtain⟨p,xs,i,z,rfl,rfl,M,P,q⟩:=h;cases J;obtain⟨t,rfl⟩:=Z;obtain⟨k,r,pl,hz⟩:=I.list M;obtain⟨j,d,N,h3,O,G⟩:=uv P;obtain⟨w,C,g⟩:=r.get N;have S:=r.length;have hn:=Wn;have c:EP X _ U Q w s:=⟨z,H,I,g,q⟩
 by_cases B:0<=i
 ·have o:=by
   rw[seqIndex_of B G]at d;exact aE d
  exact item_listR pl.isList B (by omega) (by rw[o];simpa using C) c F
 ·have o:(i+(k.toArray.size)).toNat=j:=by
   rw[seqIndex_neg (by omega) O]at d
   rw[aF,← S];exact aE d
  exact subscriptTail_builtinR pl.isList.typeIs slot_list_getitem.lookup
   (wpAny_getItem_list_neg pl.isList (by omega) (by rw[aF] <;> omega) (by omega) (by rw[o];simpa using C) ⟨rfl,c⟩) F
theorem Gx:IxR X (r9 X.K):=by
 intro e c k s M H x y v u Q I o N h O;obtain⟨p,Z,i,z,rfl,rfl,C,G,q⟩:=h;cases o;obtain⟨t,rfl⟩:=N;obtain⟨F,r,pl,hz⟩:=I.tuple C;obtain⟨j,B,D,S,U,P⟩:=uv G;obtain⟨w,l,d⟩:=r.get D;have J:=r.length;have hn:=Wn;have g:EP X _ M Q w s:=⟨z,H,I,d,q⟩;exact subscriptTail_builtinR pl.typeIs slot_tuple_getitem.lookup
  (getItem_tuple pl (by omega) (by omega) (by rw[aF,← J];exact B) (by simpa using l) ⟨rfl,g⟩) O
theorem Gy:IxR X rY:=by
 intro e d k s M H x y v u Q I o F h G;obtain⟨z,i,c,rfl,rfl,hz,w,q⟩:=h;obtain⟨t,rfl⟩:=o;obtain⟨t',rfl⟩:=F;obtain⟨j,g,p,J,r,l⟩:=uv w;have B:z.cps.toList.length=z.length:=by simp[Str.length]
 rw[B]at g r l;have hn:=Wn;exact tail_any (typeIs_str s z t) slot_str_getitem.lookup (getItem_str (by
  have D:decide (i < -(2 ^ 63))=false:=decide_eq_false (by omega)
  have C:decide (i ≥ 2 ^ 63)=false:=decide_eq_false (by omega)
  rw[D,C,Bool.or_false]) (by rw[g];simpa using p) ⟨.str _,H,I.tok _,⟨_,rfl⟩,q⟩) G
def E3 (K:ai):R2:=λx y H Q=>rA K x y H Q\/r9 K x y H Q\/rY x y H Q
theorem xD:IxR X (E3 X.K):=XG.or (Gx.or Gy)
theorem Ws (lo hi:Option Int)(n:Nat):(sliceBounds lo hi none n).1=((HT.sIx n 0 lo:Nat):Int)/\(sliceBounds lo hi none n).2.1=((HT.sIx n n hi:Nat):Int)/\(sliceBounds lo hi none n).2.2=1:=by
 refine⟨?_, ?_,rfl⟩
 ·cases lo with
  | none=>simp[sliceBounds,HT.sIx]
  | some i=>
   simp only[sliceBounds,HT.sIx,lO,show (1) > 0 by decide,if_true]
   by_cases h:i < 0
   ·simp only[h,if_true] <;> omega
   ·simp only[h,if_false] <;> omega
 ·cases hi with
  | none=>simp[sliceBounds,HT.sIx]
  | some i=>
   simp only[sliceBounds,HT.sIx,lO,show (1) > 0 by decide,if_true]
   by_cases h:i < 0
   ·simp only[h,if_true] <;> omega
   ·simp only[h,if_false] <;> omega
theorem wM (c:List Value)(lo hi:Option Int):slicePick c.toArray lo hi none=((c.drop (HT.sIx c.length 0 lo)).take (HT.sIx c.length c.length hi - HT.sIx c.length 0 lo)).toArray:=by
 obtain⟨e,g,d⟩:=Ws lo hi _;unfold slicePick;rw[e,g,d];simp only[sliceRange_one,pick_run,aF] <;> rfl
def Co (K:ai):V->Option Int->Option Int->Hp->VK->Prop:=λx lo hi H Q=>∃a c,x= .ref a/\SqL K H a c/\∀p,H p=none->Q (.ref p) (ml H p (.lst (gH c lo hi)))
theorem XH:SlR X (Co X.K):=by
 intro e s u H x v vl p lo hi sl Q I k g pl i h;obtain⟨a,j,rfl,l,q⟩:=h;cases k;obtain⟨o,r,d,hz⟩:=I.list l;have c:=r.length;refine⟨"list",_,slot_list_getitem.lookup,d.isList.typeIs, ?_⟩;refine wpAny_getItem_list_slice d.isList g pl i .none (by simp) ?_ (by rw[aF] <;> omega)
 rw[wM,← c];refine⟨.ref _,_,I.laid (λb ob q=>a9 _ q) (ah _) ?_,rfl,q _ (I.hok.fresh (ah _))⟩;exact⟨aB (Jq j lo hi) hz,_,0,(r.drop _).take _,ae _ rfl⟩
theorem Wt:Z4 X (.builtin "len") (λj H Q=>∃p e,j=[.ref p]/\(SqL X.K H p e\/SqT X.K H p e)/\Q (.int e.length) H):=by
 intro k s v H j o Q I r h;obtain⟨p,e,rfl,d,q⟩:=h;obtain⟨u,rfl,l⟩:=Ze r;cases l;have hn:=Wn;rcases d with d | d
 ·obtain⟨i,g,pl,hz⟩:=I.list d;have c:=g.length;exact Calls.call_len_list pl.isList (by simp only[aF] <;> omega) ⟨.int _,H,I.tok _,⟨s.toks+1,by rw[aF,c]⟩,q⟩
 ·obtain⟨i,g,pl,hz⟩:=I.tuple d;have c:=g.length;exact len_tuple pl (by simp only[aF] <;> omega) ⟨.int _,H,I.tok _,⟨s.toks+1,by rw[aF,c]⟩,q⟩
theorem Wu:Z4 X (.builtin "len") (λc H Q=>∃z,c=[.str z]/\z.length<=sizeLine/\Q (.int z.length) H):=by
 intro d s g H c e Q I r h;obtain⟨z,rfl,hz,q⟩:=h;obtain⟨u,rfl,t,rfl⟩:=Ze r;have hn:=Wn;exact len_str (by omega) ⟨.int _,H,I.tok _,⟨_,rfl⟩,q⟩
theorem Z4.or {r d :List V->Hp->VK->Prop}(h:Z4 X f r)(h' :Z4 X f d):Z4 X f (λc H Q=>r c H Q\/d c H Q):=by
 intro e s j H c g Q I i q;rcases q with q | q
 ·exact h _ s j H c g Q I i q
 ·exact h' _ s j H c g Q I i q
theorem jQ:Z4 X (.type "list") (λy H Q=>∃p d,y=[.ref p]/\(SqL X.K H p d\/SqT X.K H p d)/\∀l,H l=none->Q (.ref l) (ml H l (.lst d))):=by
 intro B s F H y G Q I r h;obtain⟨p,d,rfl,i,q⟩:=h;obtain⟨u,rfl,D⟩:=Ze r;cases D;have j:∀(c:List _),Vals d c->d.length<=sizeLine->∀(h' :Heap) (c' :Nat),(∀b C,s.heap.get? b=some C ->h'.get? b=some C)->
   h'.get? _=some _->EP X _ F Q _ { s with heap:=h' }:=λc g hz h' c' kp e=>
  ⟨.ref _,_,I.laid kp (ah _) (show zK _ X.w _ h' _ (.lst d) from ⟨hz,c,c',g,e⟩),rfl,q _ (I.hok.fresh (ah _))⟩
 rcases i with i | i
 ·obtain⟨c,g,pl,hz⟩:=I.list i;have k:=g.length;obtain⟨o,x,v,n,hd⟩:=pl.isList;exact call_list_seq p (.inl rfl) x v hd (λh' c' kp e=>j c g hz h' c' kp e) (by simp only[aF] <;> omega)
 ·obtain⟨c,g,pl,hz⟩:=I.tuple i;have k:=g.length;obtain⟨o,x,v,n,hd⟩:=pl;exact call_list_seq p (.inr rfl) x v hd (λh' c' kp e=>j c g hz h' c' kp e) (by simp only[aF] <;> omega)
theorem wN:Z4 X (.type "tuple") (λj H Q=>∃p c,j=[.ref p]/\((SqL X.K H p c/\∀l,H l=none->Q (.ref l) (ml H l (.tup c)))\/(SqT X.K H p c/\Q (.ref p) H))):=by
 intro k s y H j D Q I r h;obtain⟨p,c,rfl,h⟩:=h;obtain⟨u,rfl,B⟩:=Ze r;cases B;rcases h with ⟨i,q⟩ | ⟨i,q⟩
 ·obtain⟨d,g,pl,hz⟩:=I.list i;have x:=g.length;refine call_tuple_list pl.isList (λh' kp=> ?_) (by simp only[aF] <;> omega)
  have v:Inv X _ y H { s with heap:=h' }:=I.kept kp;have C:Inv X _ y (ml H _ (.tup c)) { s with heap:=h'.push _ }:=
   v.laid (λb o e=>a9 _ e) (ah _) (show zK _ X.w _ _ _ _ from ⟨hz,d,g,ITN.new _ _⟩)
  exact⟨.ref _,_,C,rfl,q _ (v.hok.fresh (ah _))⟩
 ·obtain⟨d,g,pl,hz⟩:=I.tuple i;exact call_tuple_same pl ⟨.ref p,H,I,rfl,q⟩
def Cm (K:ai)(T:String)(x:V)(H:Hp):Prop:=match x with
 | .str _=>T="str"
 | .int _=>T="int"
 | .ref p=>(T="list"/\∃c,SqL K H p c)\/(T="tuple"/\∃o,K.lookup p=some o/\o.cls= .type "tuple"/\o.dict=none)\/
   (T="dict"/\((∃kvs,H p=some (.dK kvs))\/∃kvs,H p=some (.dT kvs)))\/(T="set"/\∃S n,H p=some (.set S n))
 | _=>False
theorem xE (I:Inv X pins σ H s)(r:RelV x v)(g:Cm X.K T x H):
  s.TypeIs v T/\∀a,v= .ref a->∃ob,s.heap.get? a=some ob/\ob.dict=none:=by
 cases x with
 | str z=>
  obtain⟨t,rfl⟩:=r;cases (g);exact⟨typeIs_str s z t,λ_ e=>nomatch e⟩
 | int i=>
  obtain⟨t,rfl⟩:=r;cases (g);exact⟨typeIs_int s i t,λ_ e=>nomatch e⟩
 | ref p=>
  cases r;rcases g with ⟨rfl,u,l⟩ | ⟨rfl,o,d,k,hd⟩ | ⟨rfl,d⟩ | ⟨rfl,S,n,d⟩
  ·obtain⟨q,_,pl,_⟩:=I.list l;refine⟨pl.isList.typeIs,λa e=> ?_⟩;cases e;obtain⟨o,n,e,c,hd,_⟩:=pl;exact⟨o,e,hd⟩
  ·refine⟨⟨o,I.kIn p o d,k⟩,λa e=> ?_⟩;cases e;exact⟨o,I.kIn _ o d,hd⟩
  ·have z:∃o,s.heap.get? p=some o/\o.ExactDict:=by
    rcases d with ⟨kvs,d⟩ | ⟨kvs,d⟩
    ·obtain⟨_,_,_,_,o,_,_,e,ex,_⟩:=I.hok p _ d;exact⟨o,e,ex⟩
    ·obtain⟨_,_,_,_,o,_,_,e,ex,_⟩:=I.hok p _ d;exact⟨o,e,ex⟩
   obtain⟨o,e,ex⟩:=z;refine⟨⟨o,e,ex.1⟩,λa j=> ?_⟩;cases j;exact⟨o,e,ex.2.1⟩
  ·obtain⟨o,_,_,_,e,ex,_⟩:=I.hok p _ d;refine⟨⟨o,e,ex.1⟩,λa j=> ?_⟩;cases j;exact⟨o,e,ex.2.1⟩
 | _=>exact bZ g
def By (K:ai)(T:String)(r:V->List V->Hp->VK->Prop)(d:TE):TE:=λe H Q=>d e H λx c=>Cm K T x c/\r x [] c Q
def DE (K:ai)(T:String)(r:V->List V->Hp->VK->Prop)(i:TE)(t:TA):TE:=λd H Q=>i d H λx c=>Cm K T x c/\t d c λe g=>r x e g Q
variable {o e:Expr}{es:List Expr}{to:TE}{t:TA}{name:Str}{apos cpos:Pos}{T id:String}{r:V->List V->Hp->VK->Prop}
theorem xF (q:PlainAttrs T)(g:Slot T name id)(i:typeOf (.builtin id)=pure (.type "method_descriptor"))(y:pC X id r)(u:PE X o to)
  (c:attributeBase o name X.env (eval o X.env)=eval o X.env:=by rfl) (d:(apos.endLine == cpos.line)=true:=by rfl):PE X (.Call (.Attribute o name apos) [] [] cpos) (By X.K T r to):=by
 intro k s p H Q I h;refine wpAny_Call_method0_late c d (mo (u _ s p H _ I h) λv B ⟨x,F,l,j,C,w⟩=> ?_);obtain⟨D,G⟩:=xE l j C;exact⟨T,id,q,g,i,D,G,eK rfl (iQ (y _ B p F x [] v [] Q l j .nil w))⟩
theorem yr (y:PlainAttrs T)(i:Slot T name id)(k:typeOf (.builtin id)=pure (.type "method_descriptor"))(P:pC X id r)(O:PE X o to)(N:PA X (e :: es) t)
  (g:attributeBase o name X.env (eval o X.env)=eval o X.env:=by rfl)
  (j:((backTo cpos (starEach (e :: es) X.env)).all (λx=> !x.1) && (backToKw cpos (keywordEach [] X.env)).all (λx=>x.1.isSome)
   && decide ((e :: es).length+([]:List Keyword).length+(if ([]:List Keyword).isEmpty then 0 else 1) < 30))=true:=by rfl)
  (d:(apos.endLine == cpos.line)=true:=by rfl) (hs:starEach (e :: es) X.env=(false,eval e X.env) :: starEach es X.env:=by rfl) (c:(backTo cpos (starEach es X.env)).any (·.1)=false:=by rfl):
  PE X (.Call (.Attribute o name apos) (e :: es) [] cpos) (DE X.K T r to t):=by
 intro w s l H Q I h;refine wpAny_Call_method_late g j d rfl (mo (O _ s l H _ I h) λv S ⟨x,F,p,q,U,C⟩=> ?_);obtain⟨D,G⟩:=xE p q U;refine⟨T,id,y,i,k,D,G, ?_⟩;have u:=N cpos _ S l F _ p C;rw[hs]at u ⊢;refine eK (by show (false || (backTo _ _).any _)=false;rw[c] <;> rfl) (Calls.evalArgs_plain ?_)
 exact mo u λus B ⟨vs,M,Z,r2,J⟩=>P _ B l M x vs v us Q Z q r2 J
end
end L2
namespace L2
open PySem PySem.Spec PyProof.Rows
def CU (X:Cx)(id:String)(r:V->List V->Hp->VK->Prop):Prop:=
 ∀(a:List (Addr×Obj)) (s:Shared) (e:St) (H:Hp) (x:V) (c:List V) (v:Value) (d:List Value) (Q:VK),Inv X a e H s->RelV x v->Vals c d->r x c H Q->
  wpAny (model X.prog X.w) X.A (call (.builtin id) (v :: d)) (EP X a e Q) X.xe s
theorem Vals.one:∀{x:V} {a:List Value},Vals [x] a->∃u,a=[u]/\RelV x u
 | _,_,.cons r .nil=>⟨_,rfl,r⟩
theorem Vals.rep (h:Vals xs us):∀k:Nat,Vals (aq k xs).flatten (aq k us).flatten
 | 0=> .nil
 | k+1=>by
  exact Vals.append h (Vals.rep h k)
theorem jp (a:List Value):∀(k:Nat) (acc:List Value),
  fO (λg c=>g++c) acc.toArray (aq k a.toArray)=(acc++(aq k a).flatten).toArray
 | 0,acc=>by simp
 | k+1,acc=>by
  have e:acc.toArray++a.toArray=(acc++a).toArray:=by simp
  have d:(acc++a)++(aq k a).flatten=acc++(aq (k+1) a).flatten:=by
   rw[cb,fY,bU]
  rw[← d,← jp a k _,← e,cb,List.foldl_cons]
section
theorem Inv.lset {c a :List Value}{n:Nat}{f:Array Value->Array Value}{t' :Nat}(I:Inv X pins σ H s)(g:H l=some (.lst xs))
  (e:s.heap.get? l=some { cls:= .type "list",data:= .seq c.toArray n }) (i:f c.toArray=a.toArray) (j:Vals ys a) (hz:ys.length<=sizeLine):
  Inv X pins σ (ml H l (.lst ys)) { s with heap:=s.heap.update l (cS f),toks:=t' }:=by
 have q:=PySem.IsL.update e f;rw[i]at q;refine I.write (by rw[g];exact trivial) (.inl rfl) (λo u d k=>(bo _ _ (bf d)).trans k) ⟨_,q⟩ ?_
 exact⟨hz,a,_,j,q⟩
theorem Inv.lnew (I:Inv X pins σ H s)(a:Vals ys its)(hz:ys.length<=sizeLine):
  Inv X pins σ (ml H s.heap.objs.size (.lst ys)) { s with heap:=s.heap.push { cls:= .type "list",data:= .seq its.toArray },toks:=t' }:=
 I.laid (λ_ _ q=>a9 _ q) (ah _) ⟨hz,its,0,a,ae _ rfl⟩
theorem Inv.fresh (I:Inv X pins σ H s):H s.heap.objs.size=none:=I.hok.fresh (ah _)
theorem Inv.lstM (I:Inv X pins σ H s)(c:H l=some (.lst xs)):xs.length<=sizeLine/\∃(a:List Value) (n:Nat),Vals xs a/\xs.length=a.length/\s.heap.get? l=some { cls:= .type "list",data:= .seq a.toArray n }:=by
 obtain⟨z,a,n,r,e⟩:=I.hok l _ c;exact⟨z,a,n,r,r.length,e⟩
theorem U8 (h:n<=sizeLine):dU n=false:=by
 exact decide_eq_false (by omega)
end
section
variable {X:Cx}
def XI:V->List V->Hp->VK->Prop:=λx vs H Q=>∃l a y,x= .ref l/\vs=[y]/\H l=some (.lst a)/\a.length < sizeLine/\Q .non (ml H l (.lst (a++[y])))
theorem jq:CU X "list.append" XI:=by
 intro c s w H x vs v o Q I d j h;obtain⟨l,k,y,rfl,rfl,a,hz,q⟩:=h;cases d;obtain⟨u,rfl,g⟩:=j.one;obtain⟨z,i,n,r,p,e⟩:=I.lstM a;refine fP F.slot_list_append ⟨_,e,rfl⟩ F.entry_list_append (F.args_list_append_2 _ _) (PySem.list_append l _ n u (by rw[aF];omega)) ⟨e, ?_⟩
 refine⟨.non,_,I.lset a e (by simp) (r.append (.cons g .nil)) ?_,rfl,q⟩
 rw[ay,aI];omega
def XJ:V->List V->Hp->VK->Prop:=λx vs H Q=>∃l b a c,x= .ref l/\vs=[.ref b]/\H l=some (.lst a)/\H b=some (.lst c)/\a.length+c.length<=sizeLine/\Q .non (ml H l (.lst (a++c)))
theorem Yt:CU X "list.extend" XJ:=by
 intro i s M H x vs v O Q I j C h;obtain⟨l,b,N,G,rfl,rfl,g,w,hz,q⟩:=h;cases j;obtain⟨u,rfl,B⟩:=C.one;cases B;obtain⟨z,c,n,r,J,e⟩:=I.lstM g;obtain⟨D,a,o,y,k,p⟩:=I.lstM w;have hsz:c.toArray.size+a.toArray.size<=sizeLine:=by rw[aF,aF];omega
 have d:¬ (!c.toArray.isEmpty && dU (c.toArray.size+a.toArray.size))=true:=by
  rw[U8 hsz,Bool.and_false];exact ax
 refine fP F.slot_list_extend ⟨_,e,rfl⟩ F.entry_list_extend (F.args_list_extend_2 _ _)
  (AutoSeq1.list_extend_list_list_0 l _ n b _ o d (by omega) (by omega)) ⟨e,p, ?_⟩
 refine⟨.non,_,I.lset g e (by simp) (r.append y) ?_,rfl,q⟩
 rw[ay];omega
def BB:R2:=λx y H Q=>∃l b a c,x= .ref l/\y= .ref b/\H l=some (.lst a)/\H b=some (.lst c)/\a.length+c.length<=sizeLine/\∀p,H p=none->Q (.ref p) (ml H p (.lst (a++c)))
theorem Gz:mL X (binaryOp .Add) BB:=by
 intro d s G H x y v u Q I i w h;obtain⟨l,b,M,D,rfl,rfl,o,p,hz,q⟩:=h;cases i;cases w;obtain⟨z,c,n,r,F,e⟩:=I.lstM o;obtain⟨C,a,J,B,j,k⟩:=I.lstM p;refine PySem.P.add_list e k ?_ (by rw[aF,aF];omega)
 have g:c.toArray++a.toArray=(c++a).toArray:=by simp
 rw[g];exact⟨.ref _,_,I.lnew (r.append B) (by rw[ay];omega),rfl,q _ I.fresh⟩
def AW:R2:=λx y H Q=>∃l k a,x= .ref l/\y= .int k/\H l=some (.lst a)/\ -(2 ^ 63)<=k/\k < 2 ^ 63/\a.length*k.toNat<=sizeLine/\
 ∀p,H p=none->Q (.ref p) (ml H p (.lst (aq k.toNat a).flatten))
theorem jE {c:Type}(a:List c)(k:Nat):(aq k a).flatten.length=k*a.length:=by
 induction k with
 | zero=>simp
 | succ k d=>rw[cb,fY,ay,d,ig,ll]
theorem GA:mL X (binaryOp .Mult) AW:=by
 intro B s S H x y v u Q I C P h;obtain⟨l,k,U,rfl,rfl,N,G,J,hz,q⟩:=h;cases C;obtain⟨t,rfl⟩:=P;obtain⟨z,c,n,r,M,e⟩:=I.lstM N;have o:c.toArray.size*k.toNat<=sizeLine:=by rw[aF,← M];exact hz
 have j:¬ c.toArray.size*k.toNat > (2 ^ 63 - 1) / 8:=by
  have:(sizeLine)<=(2 ^ 63 - 1) / 8:=by decide
  omega
 have g:¬ (!Builtin.List.listFitsIndex k)=true:=by
  rw[fitsIndex_both G J];exact ax
 have d:¬ dU (c.toArray.size*k.toNat)=true:=by
  rw[U8 o];exact ax
 have i:fO (λp w=>p++w) #[] (aq (if c.toArray.isEmpty=true then 0 else k.toNat) c.toArray)=(aq k.toNat c).flatten.toArray:=by
  have D:∀m,fO (λp w=>p++w) #[] _=(aq m c).flatten.toArray:=λm=>by
   have:=jp c m [];exact this
  rw[D];cases c with
  | nil=>simp
  | cons a Z =>rw[if_neg (by simp)]
 refine wpAny_binaryOp_repeat_ref (by decide) ⟨_,e,rfl⟩ (λO =>typeIs_int O k t) noFill_list_mul m4 fx repeat_list lP.lookup
  (fP fx (typeIs_int s k t) lQ (lm _ _) (int___rmul___int_list k t l _ n)
   ⟨e,rfl,⟨_,e,rfl⟩,fP F.slot_list_mul ⟨_,e,rfl⟩ F.entry_list_mul (F.args_list_mul_2 _ _) (AutoListH.list___mul___list_int_3 l _ n k t g j d) ⟨e, ?_⟩⟩)
 rw[i];exact⟨.ref _,_,I.lnew (r.rep _) (by rw[jE,dh];exact hz),rfl,q _ I.fresh⟩
end
section
end
section
end
end L2
namespace Att
open PySem PySem.W PySem.Calls PyProof.Rows
theorem Jr {P:Params}:∀(c:List Int) (vs:List Value),WellAll P h vs (c.map WData.int)->IntsAre vs c:=by
 intro c
 induction c with
 | nil=>
  intro vs w;cases w;exact .nil
 | cons n c d=>
  intro vs w;cases w with
  | cons a b=>
   cases a;exact .cons _ _ (d _ b)
theorem Yu {l:OpenLaw}(hn:l.most=some n){P:Params}{args:List WData}
  (c:l.row.toRowW.claim.pre args=true) (o:WellAll P h vals args):
  ∃a vs e,vals=[Value.ref a]/\args=[WData.list (e.map WData.int)]/\h.get? a=some { cls:= .type "list",data:= .seq vs.toArray }/\IntsAre vs e/\e.length<=n:=by
 have p:=(pre_splitW c).1;have w:=(pre_splitW c).2;obtain⟨d,r,rfl,x,y⟩:=hasAllW_cons p;obtain rfl:=hasAllW_nil y;obtain⟨C,rfl,v⟩:=hasW_list x;obtain⟨e,rfl⟩:=items_int v;have i:e.length<=n:=by
  have k:=by
   have k:=(holds_andW w).1;rw[hn]at k;exact k
  have j:=condW_of k (w_not (w_lt w_lit (w_len_list (w_arg rfl))));rw[af]at j;refine Nat.le_of_not_lt λq=> ?_;have B :(n) < ((e.length):Int):=by omega
  first
   | (rw[decide_eq_true B]at j;exact absurd j (by decide))
   | (simp at j)
 cases o with
 | cons w1 w2=>
  cases w2;cases w1 with
  | list u g=>exact⟨_,_,e,rfl,rfl,u,Jr e _ g,i⟩
theorem Yv (l:OpenLaw)(args:List WData):l.row.toRowW.claim.post args (.bool true) args=true:=
 postW_of
  (show WShape.has [] _ _=true by first | rfl | decide | simp[WShape.has,WShape.arms,WShape.armsAll])
  (show (WTm.eq _ _).value [] _=some _ from w_eq_bool (w_res rfl) w_lit) rfl
theorem attach_call {l:OpenLaw}{XP:(Str->Option Value)->Heap->Prop}{N:World->Heap->Prop}{d:DefRec}
  (hn:l.most=some n) (C:d.params.defaults=[])
  (call:∀(w:World) (s₀ c:Shared) (v B:Str->Option Value) (j:Addr) (o:Obj) (pm cd e:Value) (a:Addr) (vs:List Value) (u:List Int),
   Ground q loose [] XP w s₀ v B c.heap->N w c.heap->
   c.heap.get? j=some o->o.data= .func (docDef d.name d.params d.body d.scope pm cd e)->c.heap.CodeRec cd d.name->v d.name=some (.ref j)->
   c.heap.get? a=some { cls:= .type "list",data:= .seq vs.toArray }->IntsAre vs u->u.length<=n->c.gens= #[]->
   codeAny (model l.prog w) callerA (.call (.ref j) ⟨[.ref a],[]⟩) (λr x =>r= .ok (.ret (.bool true))/\OldK c.heap x.heap/\x.os=c.os/\AllBare x.gens) c):
  WalkO q loose XP N l.row.toRowW d [] (λf vs=>mj f vs):=by
 intro w s₀ c v B G Y j o pm cd e dV kV ho hd F I D Z args M as i J X y U;obtain rfl:dV= .none:=Dflts.none I C;obtain rfl:kV= .none:=Dflts.noKw I;obtain⟨a,vs,u,rfl,rfl,k,g,p⟩:=Yu hn i y;refine enter_call (ci (call w _ _ v B j o pm cd e a vs u G Y ho (fd_plain hd) F D k g p Z) λr x P=> ?_);obtain⟨rfl,Q,O,S⟩:=P;exact⟨.inl ⟨.bool _,.bool _,[],rfl,λ_=>rfl,.bool _,Yv l _,λ_=>⟨List.Pairwise.nil,λ_ hm=>(nomatch hm)⟩⟩,Q,O,S⟩
end Att
namespace L2
open PySem PySem.Spec PyProof.Rows
theorem Wv:∀{vs:List Value} {a:List Int},IntsAre vs a->Vals (a.map V.int) vs
 | _,_,.nil=> .nil
 | _,_,.cons n t h=> .cons ⟨t,rfl⟩ (Wv h)
end L2
namespace L2
open PySem PySem.Spec PyProof.Rows
end L2
namespace L2
open PySem PySem.Spec PyProof.Rows
noncomputable def ZR (s:Stmt):Arguments:=match s with
 | .FunctionDef _ a _ _ _ _ _ _ _ _=>a
 | _=>{ posonlyargs:=[],args:=[],vararg:=none,kwonlyargs:=[],kw_defaults:=[],kwarg:=none,defaults:=[] }
noncomputable def zR (s:Stmt):List Stmt:=match s with
 | .FunctionDef _ _ b _ _ _ _ _ _ _=>b
 | _=>[]
noncomputable def ze (s:Stmt):Scope:=match s with
 | .FunctionDef _ _ _ _ _ _ a _ _ _=>a
 | _=>{ kind:= .function,names:=[],isGenerator:=false,isCoroutine:=false }
abbrev mJ:nP:=λ_ _ _ _ _ _=>False
structure Fun (K:ai) (x qual:Str) (st:Stmt) (f:Addr) (fd:FuncData):Prop where
 ex:∃(oc:Value) (od:Option Addr) (kV doc pm:Value) (an:Option Addr) (cdv ct:Value) (osl:Array (Option Value)),
  fd=cB x qual (ZR st) (zR st) (ze st) .none kV doc pm an cdv ct/\K.lookup f=some ⟨oc,od,.func fd,osl⟩/\fM K cdv qual=true
 kp:cW K (.ref f)=true
section
variable {P:Program}{w:World}{K:ai}{mg:Str->Option Value}{base:Heap}
theorem Fun.ok {x a:Str}{st:Stmt}{f:Addr}{i:FuncData}{N e:List Str}{k:Nat}{sp:Sp}(F:Fun K x a st f i)(S:ZQ N e (ze st))(len:∀vs H Q E,sp vs H Q E->vs.length=e.length)
  (c:∀(cdv:Value) (A:Around) (outer:List Env) (s:Shared) (H:Hp) (vs:List V) (Q:VK) (E:XK),ZF k (A.deeper (envOfC a (ze st) s.heap.objs.size f cdv))->sp vs H Q E->
   ∃t,PSs (ZC mJ P w K mg base N a (ze st) f cdv A outer s H E).nox (zR st) t/\t { nx:=λ_ o =>Q .non o,rt:=Q } (start N vs) H):JW P w K mg base mJ (k+1) f i e sp:=by
 obtain⟨v,u,kV,p,pm,r,cdv,ct,j,rfl,l,g⟩:=F.ex;refine Xw l g S len λA outer s H vs Q E hr d=> ?_;obtain⟨t,h,q⟩:=c cdv A _ s H vs Q E hr d;exact⟨t,h.nox,q⟩
theorem Fun.binds {x a:Str}{st:Stmt}{f:Addr}{i:FuncData}{d:List Str}(F:Fun K x a st f i)
  (h:∀(kV c pm:Value) (e:Option Addr) (cdv ct:Value) (g:List Value),g.length=d.length->bindArgs (cB x a (ZR st) (zR st) (ze st) .none kV c pm e cdv ct) ⟨g,[]⟩=pure (d.zip g)):Binds K i d []:=by
 obtain⟨p,l,kV,c,pm,e,cdv,ct,j,rfl,o,k⟩:=F.ex;exact .all (h kV c pm e cdv ct)
theorem GB {x a:Str}{st:Stmt}{f:Addr}{j:Value}{i g:Option Addr}{e:Array (Option Value)}{kV d pm cdv ct:Value}(l:K.lookup f=some ⟨j,i,.func (cB x a (ZR st) (zR st) (ze st) .none kV d pm g cdv ct),e⟩)
  (c:fM K cdv a=true) (k:cW K (.ref f)=true):Fun K x a st f (cB x a (ZR st) (zR st) (ze st) .none kV d pm g cdv ct):=⟨⟨j,i,kV,d,pm,g,cdv,ct,e,rfl,l,c⟩,k⟩
end
section
theorem pv (i:Nat)(c:X.N[i]? =some x:=by rfl)(d:pH X.env.scope x:=by first | exact Or.inl rfl | exact Or.inr (Or.inl rfl) | exact Or.inr (Or.inr rfl))(hd:(x == ("__debug__":Str))=false:=by decide)
  (a:(x == ("__classdict__":Str))=false:=by decide):PE X (.Name x pos) (Jo i):=ZN c d hd a
end
def zj (H a :Hp):Prop:=∀b o,H b=some o->a b=some o
theorem zj.refl (H:Hp):zj H H:=λ_ _ h=>h
theorem zj.trans (a:zj H H1)(b:zj H1 H2):zj H H2:=λc o h=>b c o (a c o h)
theorem zj.free (e:zj H H')(h:H' l=Option.none):H l=Option.none:=by
 cases q:H l with
 | none=>rfl
 | some o=>
  rw[e l o q]at h;cases h
end L2
namespace L2
open PySem PySem.Spec PyProof.Rows PySem.W
theorem U9 (h:env.frame=some L):mQ (env :: outer)=L :: mQ outer:=by
 unfold mQ;rw[dP,h]
structure z1M (P:Program) (w:World) (outer:List Env) (H:Hp) (s s' :Shared) (ea:Addr) (cls a0:Value) (B:Heap) (H' :Hp):Prop where
 os:s'.os=s.os
 bare:AllBare s'.gens
 fly:Heap.FlyingW B outer ea cls a0 s'.heap
 hok:HOk P w H' B
 un:Un (mQ outer) [] H H' s.heap s'.heap
 inB:∀b o,s.heap.get? b=some o->b ∉ mQ outer->(H b=none->B.get? b=some o)/\∃o',B.get? b=some o'
def mN (P:Program)(w:World):nP:=λouter H s E e d =>∃a cls g B c,e= .ref a/\z1M P w outer H s d a cls g B c /\E cls none c
section
variable {X:Cx}{pins:List (Addr×Obj)}{σ:St}{H H' :Hp}{s s' :Shared}{ea:Addr}{cls a0:Value}{B:Heap}{h' h'' :Heap}
theorem Inv.frNf (I:Inv X pins σ H s):∀b∈mQ X.stack,H b=none/\∃o,s.heap.get? b=some o/\∀vs,o.data ≠ .fields vs:=λb a=>⟨I.stkFree b a,(I.stack.mem a).2⟩
theorem Inv.old (I:Inv X pins σ H s)(d:X.stack=X.env :: X.outer)(c:X.env.frame=some X.env.locals)(e:X.s₀.heap.get? b=some o)(a:b ∉ mQ X.outer):b ∉ mQ X.stack:=by
 rw[d,U9 c];intro z;rcases ag.mp z with z | z
 ·exact absurd (aM (ao e) I.ok.above) (by rw[z];exact aY _)
 ·exact a z
theorem Yw {X:Cx}(d:X.stack=X.env :: X.outer)(c:X.env.frame=some X.env.locals){b:Addr}(a:b∈mQ X.outer):b∈mQ X.stack:=by
 rw[d,U9 c];exact ab _ a
theorem z1M.out (I:Inv X pins σ H s)(l:X.stack=X.env :: X.outer)(i:X.env.frame=some X.env.locals)(hex:X.ex=[])(L:z1M X.prog X.w X.stack H s s' ea cls a0 B H')
  (p:Heap.FlyingW B X.outer ea cls a0 h') (sl:s'.heap.UpToSlots h'):z1M X.prog X.w X.outer X.H₀ X.s₀ { s' with heap:=h' } ea cls a0 B H' where
 os:=L.os.trans I.os
 bare:=L.bare
 fly:=p
 hok:=L.hok
 inB:=λb o e a=>by
  have nx:b ∉ X.ex:=by rw[hex];simp
  obtain⟨g,c⟩:=I.base.there b o e nx;have j :=I.old l i e a;exact⟨λn=>(L.inB b o (I.base.keep b o e n a nx) j).1 (I.base.free b o e n nx),(L.inB b g c j).2⟩
 un:=by
  have nx:∀b,b ∉ X.ex:=λb=>by rw[hex];simp
  have d:∀b o,X.s₀.heap.get? b=some o->X.H₀ b=none->b∈mQ X.outer->∃sl,h'.get? b=some { o with slots:=sl }:=λb o e n a=>by
   obtain⟨u,c⟩:=I.base.slot b o e n a (nx b);have D:=I.base.free b o e n (nx b);obtain⟨M,J⟩:=L.un.slot b _ c D (Yw l i a) (by simp)
   obtain⟨_,N,v,C⟩:=I.frNf b (Yw l i a);rw[c]at v;cases v;obtain⟨r,F⟩:=sl b _ J C;exact⟨r,F⟩
  refine⟨λb o e n a _=> ?_,λb o e n a _=>d b o e n a,λb o e n _=> ?_,λb o e _=> ?_,λb k e=>L.un.tups b k (I.base.tups b k e),λb o k e=>L.un.frzs b o k (I.base.frzs b o k e),λb x q e=>L.un.tbls b x q (I.base.tbls b x q e)⟩
  ·exact p.1 b o ((L.inB b o (I.base.keep b o e n a (nx b)) (I.old l i e a)).1 (I.base.free b o e n (nx b)))
  ·obtain⟨g,c⟩:=I.base.there b o e (nx b);exact L.un.free b g c (I.base.free b o e n (nx b)) (by simp)
  ·by_cases a:b∈mQ X.outer
   ·obtain⟨u,c⟩:=d b o e (I.ok.frf b a) a;exact⟨_,c⟩
   ·obtain⟨g,c⟩:=I.base.there b o e (nx b);obtain⟨y,G⟩:=(L.inB b g c (I.old l i e a)).2;exact⟨y,p.1 b y G⟩
end
section
variable {P:Program}{w:World}{K:Frag}{mg:Str->Option Value}{base:Heap}{N:List Str}{qual:Str}{scope:Scope}{f:Addr}{cd:Value}{A:Around}{outer:List Env}{s:Shared}{H:Hp}{E:XK}
theorem GC:ZB (mN P w) (ZC (mN P w) P w K mg base N qual scope f cd A outer s H E) E:=by
 intro a p o l e k I ⟨d,cls,i,B,g,j,L,hE⟩;subst j;exact wpAny_leaves_onW I.ok.frames rfl L.fly λh' c sl=>⟨d,cls,i,B,g,rfl,L.out I rfl rfl rfl c sl,hE⟩
end
end L2
namespace L2
open PySem PySem.Spec PyProof.Rows PySem.W
noncomputable def A8 (cls:Value)(a:Addr)(h:Heap):Prop:=∃o,h.get? a=some o/\o.cls=cls
section
end
end L2
namespace L2
open PySem PySem.Spec PyProof.Rows PySem.W
section
end
end L2
namespace PySem
open PySem.W
section
end
end PySem
namespace L2
open PySem PySem.Spec PyProof.Rows PySem.W
section
def GD (X:Cx)(E:XK):Prop:=∀(d:List (Addr×Obj)) (j:St) (H:Hp) (s:Shared) (e:Value) (g :Shared) (C:Addr) (m:Str->Option Value) (i :Value->Shared->Prop) (a:Env),Inv X d j H s->s.heap.Ns C m->H C=none->X.s₀.heap.objs.size<=C->C ∉ mQ X.stack->a.frame=X.env.frame->mN X.prog X.w X.stack H s E e g ->
 wpAny (model X.prog X.w) X.A (noteFrame e a) (λ_ c =>∃m,c.heap.Ns C m/\∀h',aQ C c.heap h' ->∀env:Env,env.locals=C->wpAny (model X.prog X.w) X.A (passOn "comprehension.variables-let-go" e env:Sem Value) (λ_ _=>False) X.xe { c with heap:=h' }) i g
theorem j1 (h:E=λ_ _ _=>False):GD X E:=λa i H s e d C m g c I _ _ _ _ _ ⟨_,_,_,_,_,_,_,z⟩=>by subst h;exact z.elim
end
end L2
namespace L2
open PySem PySem.Spec PyProof.Rows
theorem PE.imp (h:PE X e t)(i:∀a H Q,t' a H Q->t a H Q):PE X e t' :=λc s a H Q I q=>h _ s a H Q I (i a H Q q)
theorem PT.imp (h:PT X e t)(i:∀a H Q,t' a H Q->t a H Q):PT X e t' :=λc s a H Q I q=>h _ s a H Q I (i a H Q q)
theorem PA.imp (h:PA X e t)(i:∀a H Q,t' a H Q->t a H Q):PA X e t' :=λpos c s a H Q I q=>h pos _ s a H Q I (i a H Q q)
theorem PS.imp (h:PS X e t)(i:∀D a H,t' D a H->t D a H):PS X e t' :=λc s a H D I q=>h _ s a H D I (i D a H q)
theorem PSs.imp (h:PSs X e t)(i:∀D a H,t' D a H->t D a H):PSs X e t' :=λc s a H D I q=>h _ s a H D I (i D a H q)
end L2
namespace PV
open PySem
noncomputable def Ww:Expr->Bool
 | .Starred _ _=>false
 | _=>true
theorem zo (h:Ww e=true):starEach (e :: rest) env=(false,eval e env) :: starEach rest env:=by
 cases e <;> first | rfl | cases h
theorem nj (h:Ww a=true)(h' :Ww b=true):starEach [a,b] env=[(false,eval a env),(false,eval b env)]:=by
 rw[zo h,zo h'];rfl
theorem mD (h:Ww a=true):starEach [a] env=[(false,eval a env)]:=by
 rw[zo h];rfl
theorem zL {pos:Pos}{env:Env}:∀{a:List Expr},a.all Ww=true->((backTo pos (starEach a env)).any λx=>x.fst)=false
 | [],_=>rfl
 | e :: a,h=>by
  rw[f9,aj]at h;rw[zo h.1];have:=zL (pos:=pos) (env:=env) h.2;show (false || ((backTo pos _).any λx=>x.fst))=false
  rw[this];rfl
open PySem PySem.Spec PyProof.Rows L2
noncomputable abbrev Sg:=L2.St
inductive T where
 | non | bl (b:Bool) | int (i:Int) | str (x:Str) | tup (xs:List T) | lst (xs:List T) | fz (xs:List T)
inductive R (α:Type) where
 | ok (a:α) | ex (c:Nat) | bad
noncomputable def R.bind {e d:Type}(r:R e)(f:e->R d):R d:=match r with
 | .ok a=>f a
 | .ex c=> .ex c
 | .bad=> .bad
mutual
inductive Rep (H:Hp):V->T->Prop where
 | non:Rep H .non .non
 | bl (b:Bool):Rep H (.bl b) (.bl b)
 | int (i:Int):Rep H (.int i) (.int i)
 | str (x:Str):Rep H (.str x) (.str x)
 | tup {a:Addr} {xs:List V} {ts:List T}:H a=some (.tup xs)->zr H xs ts->Rep H (.ref a) (.tup ts)
 | lst {a:Addr} {xs:List V} {ts:List T}:H a=some (.lst xs)->zr H xs ts->Rep H (.ref a) (.lst ts)
 | fz {a:Addr} {o:Obj} {xs:List V} {ts:List T}:H a=some (.frz o (.lst xs))->zr H xs ts->Rep H (.ref a) (.fz ts)
inductive zr (H:Hp):List V->List T->Prop where
 | nil:zr H [] []
 | cons {v:V} {t:T} {vs:List V} {ts:List T}:Rep H v t->zr H vs ts->zr H (v :: vs) (t :: ts)
end
mutual
theorem Rep.mono {H a :Hp}(s:zj H a):∀{v:V} {t:T},Rep H v t->Rep a v t
 | _,_,.non=> .non
 | _,_,.bl b=> .bl b
 | _,_,.int i=> .int i
 | _,_,.str x=> .str x
 | _,_,.tup h r=> .tup (s _ _ h) (zr.mono s r)
 | _,_,.lst h r=> .lst (s _ _ h) (zr.mono s r)
 | _,_,.fz h r=> .fz (s _ _ h) (zr.mono s r)
theorem zr.mono {H a :Hp}(s:zj H a):∀{v:List V} {t:List T},zr H v t->zr a v t
 | _,_,.nil=> .nil
 | _,_,.cons h r=> .cons (Rep.mono s h) (zr.mono s r)
end
theorem zr.length {H:Hp}:∀{vs:List V} {ts:List T},zr H vs ts->vs.length=ts.length
 | _,_,.nil=>rfl
 | _,_,.cons _ r=>congrArg _ (zr.length r)
theorem zr.get {H:Hp}:∀{vs:List V} {ts:List T} {i:Nat} {t:T},zr H vs ts->ts[i]? =some t->∃v,vs[i]? =some v/\Rep H v t
 | _,_,_,_,.nil,e=>by simp at e
 | _,_,0,_,.cons r _,e=>by simp at e;subst e;exact⟨_,rfl,r⟩
 | _,_,i+1,t,.cons _ q,e=>by
  obtain⟨v,a,c⟩:=zr.get q (by simpa using e)
  exact⟨v,by simpa using a,c⟩
theorem zr.getV {H:Hp}:∀{vs:List V} {ts:List T} {i:Nat} {v:V},zr H vs ts->vs[i]? =some v->∃t,ts[i]? =some t/\Rep H v t
 | _,_,_,_,.nil,e=>by simp at e
 | _,_,0,_,.cons r _,e=>by simp at e;subst e;exact⟨_,rfl,r⟩
 | _,_,i+1,v,.cons _ q,e=>by
  obtain⟨t,a,c⟩:=zr.getV q (by simpa using e)
  exact⟨t,by simpa using a,c⟩
theorem zr.append {H:Hp}:∀{vs a:List V} {ts c:List T},zr H vs ts->zr H a c->zr H (vs++a) (ts++c)
 | _,_,_,_,.nil,q=>q
 | _,_,_,_,.cons r t,q=> .cons r (zr.append t q)
theorem zr.take {H:Hp}:∀{vs:List V} {ts:List T} (n:Nat),zr H vs ts->zr H (vs.take n) (ts.take n)
 | _,_,0,_=> .nil
 | _,_,_+1,.nil=> .nil
 | _,_,n+1,.cons r t=> .cons r (zr.take n t)
theorem zr.drop {H:Hp}:∀{vs:List V} {ts:List T} (n:Nat),zr H vs ts->zr H (vs.drop n) (ts.drop n)
 | _,_,0,r=>r
 | _,_,_+1,.nil=> .nil
 | _,_,n+1,.cons _ t=>zr.drop n t
theorem zr.rep {H:Hp}{vs:List V}{ts:List T}(h:zr H vs ts):∀n:Nat,zr H (aq n vs).flatten (aq n ts).flatten
 | 0=> .nil
 | n+1=>by
  exact h.append (zr.rep h n)
theorem zr.nil_iff (h:zr H vs ts):vs=[]↔ts=[]:=by
 cases h <;> simp
def zv (B H a :Hp):Hp:=λb=>match H b with
 | none=>a b
 | some _=>B b
theorem zF (h:H b=none):zv B H H' b=H' b:=by unfold zv;rw[h]
theorem zE (h:H b=some o):zv B H H' b=B b:=by unfold zv;rw[h]
theorem zv.ge (s:zj B H)(a :zj H H'):zj B (zv B H H'):=λb o h=>by
 rw[zE (s b o h)];exact h
theorem zv.le (s:zj B H)(a :zj H H'):zj (zv B H H') H' :=λb o h=>by
 cases q:H b with
 | none=>rw[zF q]at h;exact h
 | some u=>rw[zE q]at h;exact a b o (s b o h)
theorem zv.self (B H:Hp)(s:zj B H):zv B H H=B:=by
 funext b
 cases q:H b with
 | none=>
  rw[zF q,q];cases z:B b with
  | none=>rfl
  | some o=>rw[s b o z]at q;cases q
 | some u=>rw[zE q]
theorem zv.trans (c:zj H H1)(a:zj H1 H2):zv (zv B H H1) H1 H2=zv B H H2:=by
 funext b
 cases q:H b with
 | none=>
  rw[zF q];cases z:H1 b with
  | none=>rw[zF z]
  | some o=>rw[zE z,zF q,z,a b o z]
 | some u=>rw[zE q,zE (c b u q),zE q]
inductive Fd where
 | tv (t:T) | tl (ts:List T)
noncomputable abbrev Ob:=Nat×List (Str×Fd)
noncomputable def B6:List Str:=["kind","remaining","done","undone","first","last","answered"]
def BP (vs:List (Str×V)):Prop:=∀f,f ∉ B6->vs.lookup f=none
inductive Sl where
 | un | vl (t:T) | ow (ts:List T) | xc (c:Nat) | ob (k n:Nat) | oc (k:Nat) (fs:List (Str×Fd)) | st (os:List Ob)
noncomputable def Sl.isS:Sl->Bool
 | .ob _ _=>true
 | .st _=>true
 | _=>false
noncomputable def Sl.isO:Sl->Bool
 | .ob _ _=>true
 | .oc _ _=>true
 | .st _=>true
 | _=>false
noncomputable abbrev En:=List Sl
structure Fx where
 B0:Hp
 H0:Hp
 E:XK
 cl:Nat->Value
 as:List Addr
def tF (ρ:En)(c:Sg)(l:Addr):Prop:=∀(j:Nat) (a:List T),ρ[j]? =some (Sl.ow a)->c[j]? ≠ some (some (V.ref l))
def Fl (Y:Fx)(B:Hp)(ρ:En)(c:Sg)(H:Hp)(o:Addr->Prop)(v:V):Fd->Prop
 | .tv t=>Rep B v t
 | .tl ts=>∃l a,v= .ref l/\B l=none/\Y.H0 l=none/\H l=some (.lst a)/\zr B a ts/\tF ρ c l/\o l
def FsO (B H:Hp)(vs:List (Str×V))(fs:List (Str×Fd)):Prop:=∀(m:Nat) (f:Str) (d:Fd),fs[m]? =some (f,d)->∃v,vs[m]? =some (f,v)/\match d with
 | .tv t=>Rep B v t
 | .tl ts=>∃l a,v= .ref l/\H l=some (.lst a)/\zr B a ts
theorem FsO.mono {B i H g :Hp}{vs:List (Str×V)}{fs:List (Str×Fd)}(h:FsO B H vs fs)(s:zj B i)(k :zj H g):FsO i g vs fs:=λm f d e=>by
 obtain⟨v,o,r⟩:=h m f d e;refine⟨v,o, ?_⟩;cases d with
 | tv t=>exact Rep.mono s r
 | tl ts=>obtain⟨l,j,a,b,c⟩:=r;exact⟨l,j,a,k _ _ b,c.mono s⟩
structure StI (Y:Fx) (B:Hp) (ρ:En) (σ:Sg) (H:Hp) (as:List Addr) (O:Addr->Option (Nat×Nat)):Prop where
 pre:Y.as <+:as
 len:∀(i:Nat) (os:List Ob),ρ[i]? =some (Sl.st os)->as.length=os.length
 one:∀(i j:Nat) (os os' :List Ob),ρ[i]? =some (Sl.st os)->ρ[j]? =some (Sl.st os')->i=j
 ob:∀(i k n:Nat),ρ[i]? =some (Sl.ob k n)->∃a C dx vs,as[n]? =some a/\σ[i]? =some (some (V.ref a))/\Y.cl k= .ref C/\H a=some (.ins C dx vs)/\B a=none/\Y.H0 a=none/\BP vs
 oc:∀(i k:Nat) (fs:List (Str×Fd)),ρ[i]? =some (Sl.oc k fs)->∃a C dx vs,σ[i]? =some (some (V.ref a))/\Y.cl k= .ref C/\Y.H0 a=some (.ins C dx vs)/\BP vs/\FsO B Y.H0 vs fs
 st:∀(i:Nat) (os:List Ob),ρ[i]? =some (Sl.st os)->∀(n k:Nat) (fs:List (Str×Fd)),os[n]? =some (k,fs)->∃a C dx vs,as[n]? =some a/\Y.cl k= .ref C/\H a=some (.ins C dx vs)/\B a=none/\Y.H0 a=none/\O a=some (n,0)/\(vs.length=fs.length/\BP vs)/\
  ∀(m:Nat) (f:Str) (d:Fd),fs[m]? =some (f,d)->∃v,vs[m]? =some (f,v)/\Fl Y B ρ σ H (λl=>O l=some (n,m+1)) v d
structure SI (Y:Fx) (B:Hp) (ρ:En) (σ:Sg) (H:Hp):Prop where
 s0:zj Y.B0 Y.H0
 sH:zj Y.H0 H
 sB:zj B H
 old:∀b o,Y.H0 b=some o->B b=Y.B0 b
 len:ρ.length=σ.length
 vl:∀(i:Nat) (t:T),ρ[i]? =some (Sl.vl t)->∃v:V,σ[i]? =some (some v)/\Rep B v t
 ow:∀(i:Nat) (ts:List T),ρ[i]? =some (Sl.ow ts)->∃(a:Addr) (xs:List V),σ[i]? =some (some (V.ref a))/\B a=none/\Y.H0 a=none/\H a=some (.lst xs)/\zr B xs ts/\
  ∀(j:Nat) (us:List T),j ≠ i->ρ[j]? =some (Sl.ow us)->σ[j]? ≠ some (some (V.ref a))
 xc:∀(i:Nat) (c:Nat),ρ[i]? =some (Sl.xc c)->∃a:Addr,σ[i]? =some (some (V.ref a))/\B a=some (.ext (A8 (Y.cl c) a))
 st:∃as O,StI Y B ρ σ H as O
theorem StI.on {Y Y' :Fx}{B U :Hp}{ρ g :En}{M σ' :Sg}{H H' :Hp}{as:List Addr}{O:Addr->Option (Nat×Nat)}(x:StI Y B ρ M H as O)(p:∀(i:Nat) (s:Sl),s.isO=true->g[i]? =some s->ρ[i]? =some s/\σ'[i]? =M[i]?)(X:zj B U)(S:Y'.cl=Y.cl)(hA:Y'.as=Y.as)(Z:zj Y.H0 Y'.H0)
  (P:∀b o,H b=some o->B b=none->Y.H0 b=none->((∃C c vs,o= .ins C c vs)\/tF ρ M b)->H' b=some o/\U b=none/\Y'.H0 b=none/\(tF ρ M b->tF g σ' b)):StI Y' U g σ' H' as O where
 pre:=by rw[hA];exact x.pre
 len:=λi os h=>x.len i os (p i _ rfl h).1
 one:=λi j os Q G u=>x.one i j os Q (p i _ rfl G).1 (p j _ rfl u).1
 ob:=λi k n h=>by
  obtain⟨G,u⟩:=p i _ rfl h;obtain⟨a,C,c,vs,J,w,y,I,r,N⟩:=x.ob i k n G;obtain⟨D,F,q,_⟩:=P a _ I r N.1 (.inl ⟨_,_,_,rfl⟩);rw[u,S];exact⟨a,C,c,vs,J,w,y,D,F,q,N.2⟩
 oc:=λi k fs h=>by
  obtain⟨G,u⟩:=p i _ rfl h;obtain⟨a,C,c,vs,J,w,y,I,r⟩:=x.oc i k fs G;rw[u,S];exact⟨a,C,c,vs,J,w,Z _ _ y,I,r.mono X Z⟩
 st:=λi os h n k fs e=>by
  obtain⟨a,C,c,vs,J,w,y,I,r,N,e7,e8⟩:=x.st i os (p i _ rfl h).1 n k fs e;obtain⟨D,F,q,_⟩:=P a _ y I r (.inl ⟨_,_,_,rfl⟩);refine⟨a,C,c,vs,J,by rw[S];exact w,D,F,q,N,e7,λm f d z=> ?_⟩
  obtain⟨v,z1,z2⟩:=e8 m f d z;refine⟨v,z1, ?_⟩;cases d with
  | tv t=>exact Rep.mono X z2
  | tl ts=>
   obtain⟨l,xs,p1,p2,p3,p4,p5,p6,p7⟩:=z2;obtain⟨D,F,q,g4⟩:=P l _ p4 p2 p3 (.inr p6);exact⟨l,xs,p1,F,q,D,p5.mono X,g4 p6,p7⟩
theorem StI.no (h:∀(i:Nat) (s:Sl),s.isO=true->ρ[i]? ≠ some s):∃a O,StI Y B ρ σ H a O:=⟨Y.as,λ_=>none,eZ _,λi os e=>(h i _ rfl e).elim,λi j os c e=>(h i _ rfl e).elim,λi k n e=>(h i _ rfl e).elim,λi k fs e=>(h i _ rfl e).elim,λi os e=>(h i _ rfl e).elim⟩
theorem SI.grow {Y:Fx}{B:Hp}{ρ:En}{k:Sg}{H j :Hp}(I:SI Y B ρ k H)(s:zj H j):SI Y (zv B H j) ρ k j where
 s0:=I.s0
 sH:=I.sH.trans s
 sB:=zv.le I.sB s
 old:=λb o h=>by rw[zE (I.sH b o h)];exact I.old b o h
 len:=I.len
 vl:=λi t h=>let ⟨v,e,r⟩:=I.vl i t h;⟨v,e,r.mono (zv.ge I.sB s)⟩
 ow:=λi ts h=>let ⟨a,xs,e,b,g,hh,r,d⟩:=I.ow i ts h;⟨a,xs,e,by rw[zE hh];exact b,g,s _ _ hh,r.mono (zv.ge I.sB s),d⟩
 xc:=λi c h=>let ⟨a,e,r⟩:=I.xc i c h;⟨a,e,zv.ge I.sB s a _ r⟩
 st:=let ⟨as,O,x⟩:=I.st;⟨as,O,x.on (λ_ _ _ h=>⟨h,rfl⟩) (zv.ge I.sB s) rfl rfl (zj.refl _) λb o h l g _=>⟨s _ _ h,by rw[zE h];exact l,g,id⟩⟩
def XP (Y:Fx)(B:Hp)(c:Nat):Prop:=∀(d:Option Addr) (a :Hp),zj Y.H0 a ->zj B a ->Y.E (Y.cl c) d a
def Po {g i:Type}(Y:Fx)(e:Hp->Hp->i->g->Prop)(B H:Hp)(r:R g)(Q:i->Hp->Prop):Prop:=match r with
 | .ok a=>∀b d,zj H d ->e (zv B H d) d b a->Q b d
 | .ex c=>XP Y B c
 | .bad=>False
abbrev rC:Hp->Hp->V->T->Prop:=λB _ v t=>Rep B v t
abbrev rB:Hp->Hp->V->T->Prop:=λ_ H v t=>Rep H v t
abbrev Dp:Hp->Hp->List V->List T->Prop:=λB _ v t=>zr B v t
abbrev rE {α:Type}:Hp->Hp->α->α->Prop:=λ_ _ a b=>a=b
def tS {c d:Type}(Y:Fx)(a:Hp->Hp->d->c->Prop)(f:En->R c)(ρ:En):Sg->Hp->(d->Hp->Prop)->Prop:=λe H Q=>∃B,SI Y B ρ e H/\Po Y a B H (f ρ) Q
structure Snd (X:Cx) (Y:Fx) (e:Expr) (f:En->R T):Prop where
 mk ::
 go:∀ρ,PE X e (tS Y rC f ρ)
instance {X:Cx}{Y:Fx}{e:Expr}{f:En->R T}:CoeFun (Snd X Y e f) λ_=>∀ρ,PE X e (tS Y rC f ρ):=⟨Snd.go⟩
structure jc (X:Cx) (Y:Fx) (e:Expr) (f:En->R T):Prop where
 mk ::
 go:∀ρ,PE X e (tS Y rB f ρ)
instance {X:Cx}{Y:Fx}{e:Expr}{f:En->R T}:CoeFun (jc X Y e f) λ_=>∀ρ,PE X e (tS Y rB f ρ):=⟨jc.go⟩
structure Wx (X:Cx) (Y:Fx) (e:Expr) (f:En->R Bool):Prop where
 mk ::
 go:∀ρ,PT X e (tS Y rE f ρ)
instance {X:Cx}{Y:Fx}{e:Expr}{f:En->R Bool}:CoeFun (Wx X Y e f) λ_=>∀ρ,PT X e (tS Y rE f ρ):=⟨Wx.go⟩
structure ur (X:Cx) (Y:Fx) (es:List Expr) (f:En->R (List T)):Prop where
 mk ::
 go:∀ρ,PA X es (tS Y Dp f ρ)
instance {X:Cx}{Y:Fx}{es:List Expr}{f:En->R (List T)}:CoeFun (ur X Y es f) λ_=>∀ρ,PA X es (tS Y Dp f ρ):=⟨ur.go⟩
theorem step {p l v o :Type}{j:Hp->Hp->v->p->Prop}{i :Hp->Hp->o ->l ->Prop}{f:En->R p}{k:p->R l}{Q:o ->Hp->Prop}{K:v->Hp->Prop}
  (I:SI Y B ρ σ H) (h:Po Y i B H ((f ρ).bind k) Q)
  (n:∀a b g,f ρ= .ok a->zj H g->j (zv B H g) g b a->SI Y (zv B H g) ρ σ g->Po Y i (zv B H g) g (k a) Q->K b g):tS Y j f ρ σ H K:=by
 refine⟨B,I, ?_⟩;cases e:f ρ with
 | bad=>rw[e]at h;exact h
 | ex c=>rw[e]at h;exact h
 | ok a=>
  rw[e]at h;intro b g s r;refine n a b g e s r (I.grow s) ?_;have h' :Po Y _ B H (k a) Q:=h;revert h';cases k a with
  | bad=>exact λh' =>h'
  | ex c=>exact λh' d y C q =>h' d y C ((zv.ge I.sB s).trans q)
  | ok F =>exact λh' x w u D=>h' x w (s.trans u) (by rw[← zv.trans s u];exact D)
theorem ZA {e d:Type}{c:Hp->Hp->d->e->Prop}{a:e}{b:d}{Q:d->Hp->Prop}(I:SI Y B ρ σ H)(h:Po Y c B H (.ok a) Q)(r:c B H b a):Q b H:=h b H (zj.refl H) (by rw[zv.self B H I.sB];exact r)
theorem Snd.b {X:Cx}{Y:Fx}{e:Expr}{f:En->R T}(h:Snd X Y e f):jc X Y e f:= .mk λρ=>PE.imp (h ρ) λg H Q ⟨B,I,q⟩=>⟨B,I,by
 revert q;cases f ρ with
 | bad=>exact λq=>q
 | ex c=>exact λq=>q
 | ok a=>exact λq b d s r=>q b d s (r.mono (zv.le I.sB s))⟩
section
def vE (i:Nat):En->R T:=λρ=>match ρ[i]? with
 | some (.vl t)=> .ok t
 | _=> .bad
def vB (i:Nat):En->R T:=λρ=>match ρ[i]? with
 | some (.vl t)=> .ok t
 | some (.ow ts)=> .ok (.lst ts)
 | _=> .bad
def cE (t:T):En->R T:=λ_=> .ok t
theorem ED (i:Nat)(h:PE X (.Name x pos) (Jo i)):Snd X Y (.Name x pos) (vE i):= .mk λρ=>PE.imp h λc H Q ⟨B,I,q⟩=>by
 unfold vE at q;split at q
 ·rename_i t e;obtain⟨v,a,r⟩:=I.vl i t e;exact⟨v,a,ZA I q r⟩
 ·exact q.elim
theorem GE (i:Nat){x:Str}(h:PE X (.Name x pos) (Jo i)):jc X Y (.Name x pos) (vB i):= .mk λρ=>PE.imp h λj H Q ⟨B,I,q⟩=>by
 unfold vB at q;split at q
 ·rename_i t e;obtain⟨v,c,r⟩:=I.vl i t e;exact⟨v,c,ZA I q (r.mono I.sB)⟩
 ·rename_i ts e;obtain⟨a,g,c,_,_,d,r,_⟩:=I.ow i ts e;exact⟨.ref a,c,ZA I q (.lst d (r.mono I.sB))⟩
 ·exact q.elim
theorem Fh {i j}:Snd X Y (.Constant (.int i) j pos) (cE (.int i)):= .mk λρ=>PE.imp xx λa H Q ⟨B,I,q⟩=>ZA I q (.int i)
theorem AS {i j}:Snd X Y (.Constant (.bool i) j pos) (cE (.bl i)):= .mk λρ=>PE.imp Gb λa H Q ⟨B,I,q⟩=>ZA I q (.bl i)
theorem Ef {i j}:Snd X Y (.Constant (.str i) j pos) (cE (.str i)):= .mk λρ=>PE.imp Yc λa H Q ⟨B,I,q⟩=>ZA I q (.str i)
def zf:En->R (List T):=λ_=> .ok []
def za (f:En->R T)(g:En->R (List T)):En->R (List T):=λρ=>(f ρ).bind λt=>(g ρ).bind λts=> .ok (t :: ts)
theorem Dt:ur X Y [] zf:= .mk λρ=>PA.imp zw λa H Q ⟨B,I,q⟩=>ZA I q .nil
theorem GF {c:List Expr}{g:En->R (List T)}(h:Snd X Y a fa)(r:ur X Y c g)(o:starEach (a :: c) X.env=(false,eval a X.env) :: starEach c X.env:=by exact zo rfl):ur X Y (a :: c) (za fa g):= .mk λρ=>
 PA.imp (zi (h ρ) (r ρ) o) λy H Q ⟨B,I,q⟩=>step I q λt v x _ w j d k=>step d k λts vs u _ i p l e=>ZA l e (.cons (j.mono (zv.ge d.sB i)) p)
theorem zj.new (h:H p=none)(o:HO):zj H (ml H p o):=λb u q=>by rw[zg (zC q h)];exact q
theorem jd (h:H p=none)(o:HO):zv B H (ml H p o) p=some o:=by rw[zF h,zh]
noncomputable def mq:Nat:=16777216
theorem Zj (h:n<=mq):n<=sizeLine:=by exact h
def Zb (g:En->R (List T)):En->R T:=λρ=>(g ρ).bind λts=>if ts.length<=mq then .ok (.tup ts) else .bad
def jB (g:En->R (List T)):En->R T:=λρ=>(g ρ).bind λts=>if ts.length<=mq then .ok (.lst ts) else .bad
theorem XL {ρ:En}{c:Sg}{B H:Hp}{a:List V}{ts:List T}(I:SI Y B ρ c H)(r:zr B a ts){p:Addr}(h:H p=none):Rep (zv B H (ml H p (.tup a))) (.ref p) (.tup ts):=
 .tup (jd h _) (r.mono (zv.ge I.sB (zj.new h _)))
theorem XM {ρ:En}{c:Sg}{B H:Hp}{a:List V}{ts:List T}(I:SI Y B ρ c H)(r:zr B a ts){p:Addr}(h:H p=none):Rep (zv B H (ml H p (.lst a))) (.ref p) (.lst ts):=
 .lst (jd h _) (r.mono (zv.ge I.sB (zj.new h _)))
theorem FC {c:List Expr}{g:En->R (List T)}{x1}(h:ur X Y c g):Snd X Y (.Tuple c x1 pos) (Zb g):= .mk λρ=>PE.imp (xC (h ρ)) λl H Q ⟨B,I,q⟩=>
 step I q λts vs k _ j d i a=>by
  split at a
  ·rename_i e;refine⟨by rw[d.length];exact Zj e,λp hp=>a _ _ (zj.new hp _) (XL i d hp)⟩
  ·exact a.elim
theorem Ep {c:List Expr}{g:En->R (List T)}(h:ur X Y c g):Snd X Y (.List c pos) (jB g):= .mk λρ=>PE.imp (Yp (h ρ)) λl H Q ⟨B,I,q⟩=>
 step I q λts vs k _ j d i a=>by
  split at a
  ·rename_i e;refine⟨by rw[d.length];exact Zj e,λp hp=>a _ _ (zj.new hp _) (XM i d hp)⟩
  ·exact a.elim
end
end PV
namespace PV
open PySem PySem.Spec PyProof.Rows L2
noncomputable def nt (f:T->T->Option Bool):List T->List T->Option Bool
 | [],[]=>some true
 | [],_ :: _=>some false
 | _ :: _,[]=>some false
 | x :: d,y :: a=>match f x y with
  | none=>none
  | some b=>match nt f d a with
   | none=>none
   | some c=>some (b && c)
noncomputable def b2 (b:Bool):Int:=if b then 1 else 0
def mw:Nat->T->T->Option Bool
 | _,.non,.non=>some true
 | _,.bl a,.bl b=>some (a == b)
 | _,.bl a,.int j=>some (b2 a == j)
 | _,.int i,.bl b=>some (i == b2 b)
 | _,.int i,.int j=>some (i == j)
 | _,.str x,.str y=>some (x == y)
 | n+1,.tup d,.tup c=>nt (mw n) d c
 | n+1,.lst d,.lst c=>nt (mw n) d c
 | n+1,.fz d,.lst c=>nt (mw n) d c
 | n+1,.lst d,.fz c=>nt (mw n) d c
 | n+1,.fz d,.fz c=>nt (mw n) d c
 | 0,.tup _,.tup _=>none
 | 0,.lst _,.lst _=>none
 | 0,.fz _,.lst _=>none
 | 0,.lst _,.fz _=>none
 | 0,.fz _,.fz _=>none
 | _,.non,_=>some false
 | _,.bl _,_=>some false
 | _,.int _,_=>some false
 | _,.str _,_=>some false
 | _,.tup _,_=>some false
 | _,.lst _,_=>some false
 | _,.fz _,_=>some false
mutual
theorem Rep.fn {H:Hp}:∀{v:V} {t t' :T},Rep H v t->Rep H v t' ->t=t'
 | _,_,_,.non,.non=>rfl
 | _,_,_,.bl _,.bl _=>rfl
 | _,_,_,.int _,.int _=>rfl
 | _,_,_,.str _,.str _=>rfl
 | _,_,_,.tup h r,.tup h' a =>by
  rw[h]at h';cases h';rw[zr.fn r a]
 | _,_,_,.tup h r,.lst h' a =>by rw[h]at h';cases h'
 | _,_,_,.tup h r,.fz h' a =>by rw[h]at h';cases h'
 | _,_,_,.lst h r,.tup h' a =>by rw[h]at h';cases h'
 | _,_,_,.lst h r,.lst h' a =>by
  rw[h]at h';cases h';rw[zr.fn r a]
 | _,_,_,.lst h r,.fz h' a =>by rw[h]at h';cases h'
 | _,_,_,.fz h r,.tup h' a =>by rw[h]at h';cases h'
 | _,_,_,.fz h r,.lst h' a =>by rw[h]at h';cases h'
 | _,_,_,.fz h r,.fz h' a =>by
  rw[h]at h';cases h';rw[zr.fn r a]
theorem zr.fn {H:Hp}:∀{v:List V} {t t' :List T},zr H v t->zr H v t' ->t=t'
 | _,_,_,.nil,.nil=>rfl
 | _,_,_,.cons h r,.cons h' a =>by rw[Rep.fn h h',zr.fn r a]
end
theorem Zc {f:T->T->Option Bool}(i:∀x b,f x x=some b->b=true):∀(a:List T) (b:Bool),nt f a a=some b->b=true
 | [],b,h=>by
  have h' :=h;cases h';rfl
 | x :: a,b,h=>by
  unfold nt at h;cases e:f x x with
  | none=>rw[e]at h;cases h
  | some c=>
   rw[e]at h;cases g :nt f a a with
   | none=>rw[g]at h;cases h
   | some d=>
    rw[g]at h;cases h;rw[i x c e,Zc i a d g];rfl
theorem Z2:∀(n:Nat) (t:T) (b:Bool),mw n t t=some b->b=true
 | n,.non,b,h=>by unfold mw at h;cases h;rfl
 | n,.bl x,b,h=>by unfold mw at h;cases h;simp
 | n,.int x,b,h=>by unfold mw at h;cases h;simp
 | n,.str x,b,h=>by unfold mw at h;cases h;simp
 | 0,.tup x,b,h=>by cases h
 | 0,.lst x,b,h=>by cases h
 | 0,.fz x,b,h=>by cases h
 | n+1,.tup x,b,h=>by exact Zc (Z2 n) x b h
 | n+1,.lst x,b,h=>by exact Zc (Z2 n) x b h
 | n+1,.fz x,b,h=>by exact Zc (Z2 n) x b h
theorem Yx {f:T->T->Option Bool}:∀{a i:List T} {b:Bool},nt f a i=some b->
  ∃e:Nat->Bool,(∀j x y,a[j]? =some x->i[j]? =some y->f x y=some (e j))/\((ba (min a.length i.length)).all e && a.length == i.length)=b
 | [],[],b,h=>by
  have h' :=h;cases h';exact⟨λ_=>true,λj x y h=>by simp at h,by simp⟩
 | [],y :: i,b,h=>by
  have h' :=h;cases h';exact⟨λ_=>true,λj x y h=>by simp at h,by simp⟩
 | x :: a,[],b,h=>by
  have h' :=h;cases h';exact⟨λ_=>true,λj x y h h' =>by simp at h',by simp⟩
 | x :: a,y :: i,b,h=>by
  unfold nt at h;cases e:f x y with
  | none=>rw[e]at h;cases h
  | some c=>
   rw[e]at h;cases o :nt f a i with
   | none=>rw[o]at h;cases h
   | some d=>
    rw[o]at h;cases h;obtain⟨g,q,r⟩:=Yx o;refine⟨λj=>match j with | 0=>c | j+1=>g j,λj u v l k=> ?_, ?_⟩
    ·cases j with
     | zero=>simp at l k;subst l k;exact e
     | succ j=>exact q j u v (by simpa using l) (by simpa using k)
    ·have z:min (x :: a).length (y :: i).length=min a.length i.length+1:=by simp only[ar];omega
     rw[z,di,f9,lq];have p:((x :: a).length == (y :: i).length)=(a.length == i.length):=by simp
     rw[p,← r,Bool.and_assoc];rfl
section
theorem Zw (I:L2.Inv X pins σ H s)(h:H a=some (.tup xs))(r:zr H xs ts):∃c:List Value,Vals xs c/\s.heap.IsTuple a c.toArray/\ts.length=c.length/\xs.length<=sizeLine:=by
 obtain⟨c,d,p,z⟩:=I.tuple (SqT.of h);exact⟨c,d,p,by rw[← r.length];exact d.length,z⟩
theorem zH (I:L2.Inv X pins σ H s)(h:Rd H a (.lst xs))(r:zr H xs ts):∃c:List Value,Vals xs c/\s.heap.IsList a c.toArray/\ts.length=c.length/\xs.length<=sizeLine:=by
 obtain⟨c,d,p,z⟩:=I.list (.inl h);exact⟨c,d,p.isList,by rw[← r.length];exact d.length,z⟩
end
noncomputable abbrev o4 (A:Around)(s:Shared)(u u' :Value)(b:Bool):Prop:=dg A s u u' b/\ii A s u u' b/\eL A s u u' (!b)
section
theorem Yy {f:T->T->Option Bool}{e:Nat->Bool}(r:zr H xs ts)(N :zr H ys us)(v:Vals xs its)(o :Vals ys its')
  (F:∀(j:Nat) (x y:T),ts[j]? =some x->us[j]? =some y->f x y=some (e j))
  (C:∀(x y:T) (b:Bool) (p q:V) (u w:Value),f x y=some b->Rep H p x->Rep H q y->RelV p u->RelV q w->o4 A s u w b) (j:Nat) (k:j < its.toArray.size) (l:j < its'.toArray.size):
  dg A s its.toArray[j] its'.toArray[j] (e j):=by
 have P:=v.length;have Q:=o.length;have B:j < xs.length:=by simp at k;omega
 have i:j < ys.length:=by simp at l;omega
 obtain⟨t,M,rt⟩:=r.getV (ak B);obtain⟨t',a,g⟩:=N.getV (ak i);obtain⟨u,G,O⟩:=v.get (ak B);obtain⟨J,c,d⟩:=o.get (ak i);have D:=by
  have:its[j]? =some its.toArray[j]:=by simp at k ⊢
  rw[G]at this;exact(aE this).symm
 have I:=by
  have:its'[j]? =some its'.toArray[j]:=by simp at l ⊢
  rw[c]at this;exact(aE this).symm
 rw[D,I];exact(C t t' _ _ _ u J (F j t t' M a) rt g O d).1
theorem XN {A:Around}{a c:Addr}{D B:List V}{ts J:List T}{b:Bool}{f:T->T->Option Bool}(I:L2.Inv X pins σ H s)(M:A.units < cLine)(G:H a=some (.tup D))(k:H c=some (.tup B))(r:zr H D ts)(o :zr H B J)
  (C:nt f ts J=some b) (hr:∀x b,f x x=some b->b=true)
  (O:∀(x y:T) (b:Bool) (p q:V) (u w:Value),f x y=some b->Rep H p x->Rep H q y->RelV p u->RelV q w->o4 A.in1 s u w b):o4 A s (.ref a) (.ref c) b:=by
 obtain⟨i,v,p,l,_⟩:=Zw I G r;obtain⟨d,Q,F,S,_⟩:=Zw I k o;obtain⟨e,P,j⟩:=Yx C;have hp:=Yy r o v Q P O;have z:((ba (min i.toArray.size d.toArray.size)).all e && i.toArray.size == d.toArray.size)=b:=by
  rw[← j];simp[l,S]
 have R:=ii.tuples p F M hp;have N:=eL.tuples p F M hp;rw[z]at R;have N' :eL A s (.ref a) (.ref c) (!b):=by
  rw[← z];exact N
 refine⟨?_,R,N'⟩
 by_cases g:a=c
 ·subst g;rw[G]at k;cases k;have:=r.fn o;subst this;rw[Zc hr ts b C];exact m5 _
 ·exact iZ g R
theorem wO {A:Around}{a c:Addr}{Q O:List V}{ts G:List T}{b:Bool}{f:T->T->Option Bool}(I:L2.Inv X pins σ H s)(M:A.units < cLine)(F:Rd H a (.lst Q))(i:Rd H c (.lst O))(r:zr H Q ts)(U :zr H O G)
  (Z:nt f ts G=some b) (hr:∀x b,f x x=some b->b=true)
  (ih:∀(x y:T) (b:Bool) (p q:V) (u w:Value),f x y=some b->Rep H p x->Rep H q y->RelV p u->RelV q w->o4 A.in1 s u w b):o4 A s (.ref a) (.ref c) b:=by
 obtain⟨d,v,p,l,_⟩:=zH I F r;obtain⟨g,v',J,l',_⟩:=zH I i U;obtain⟨e,he,B⟩:=Yx Z;have hp:=Yy r U v v' he ih;have P:ii A s (.ref a) (.ref c) b/\eL A s (.ref a) (.ref c) (!b):=by
  by_cases D:d.toArray.size=g.toArray.size
  ·have z:(ba d.toArray.size).all e=b:=by
    rw[← B];have:ts.length=G.length:=by simp at D;omega
    rw[this];have k:d.toArray.size=G.length:=by simp;omega
    rw[k];simp
   have R:=ii.lists p J D M hp;have N:=eL.lists p J D M hp;rw[z]at R;refine⟨R, ?_⟩;rw[← z];exact N
  ·have C :(d.toArray.size != g.toArray.size)=true:=by simpa using D
   have z:b=false:=by
    rw[← B];have:¬ ts.length=G.length:=by simp at D;omega
    simp[this]
   subst z;exact⟨ii.lists_lengths p J C M,eL.lists_lengths p J C M⟩
 refine⟨?_,P.1,P.2⟩
 by_cases j:a=c
 ·subst j;have S:Q=O:=by
   rcases F with F | ⟨o,F⟩ <;> rcases i with i | ⟨o',i⟩ <;> (rw[F]at i;cases i) <;> rfl
  subst S;have:=r.fn U;subst this;rw[Zc hr ts b Z];exact m5 _
 ·exact iZ j P.1
end
section
variable {X:Cx}{pins:List (Addr×Obj)}{σ:Sg}{H:Hp}{s:Shared}
theorem Wy {A:Around}:A.in1.units=A.units+1:=rfl
set_option maxHeartbeats 2000000 in
theorem Yz (I:L2.Inv X pins σ H s):∀(A:Around),A.units < cLine->∀(x y:T) (b:Bool) (p q:V) (u w:Value),mw 0 x y=some b->Rep H p x->Rep H q y->RelV p u->RelV q w->o4 A s u w b:=by
 intro A F x y b p q u w h C l o e;have a :=F;cases C with
 | non=>
  obtain rfl:u=Value.none:=o;cases l with
  | non=>obtain rfl:w=Value.none:=e;unfold mw at h;cases h;exact⟨.same _,.none_none,.none_none⟩
  | bl c=>obtain rfl:w=Value.bool c:=e;unfold mw at h;cases h;exact⟨.none_bool _,.none_bool _,.none_bool _⟩
  | int c=>obtain⟨t,rfl⟩:=e;unfold mw at h;cases h;exact⟨.none_int _ _,.none_int _ _,.none_int _ _⟩
  | str c=>obtain⟨t,rfl⟩:=e;unfold mw at h;cases h;exact⟨.none_str _ _,.none_str _ _,.none_str _ _⟩
  | tup j k=>obtain rfl:w=Value.ref _:=e;unfold mw at h;cases h;obtain⟨i,_,p,_⟩:=Zw I j k;exact⟨.none_tuple p a,.none_tuple p a,.none_tuple p a⟩
  | lst j k=>obtain rfl:w=Value.ref _:=e;unfold mw at h;cases h;obtain⟨i,_,p,_⟩:=zH I (.inl j) k;exact⟨.none_list p a,.none_list p a,.none_list p a⟩
  | fz j k=>obtain rfl:w=Value.ref _:=e;unfold mw at h;cases h;obtain⟨i,_,p,_⟩:=zH I (.inr ⟨_,j⟩) k;exact⟨.none_list p a,.none_list p a,.none_list p a⟩
 | bl d=>
  obtain rfl:u=Value.bool d:=o;cases l with
  | non=>obtain rfl:w=Value.none:=e;unfold mw at h;cases h;exact⟨.bool_none _,.bool_none _,.bool_none _⟩
  | bl c=>obtain rfl:w=Value.bool c:=e;unfold mw at h;cases h;exact⟨.bool_bool _ _,.bool_bool _ _,.bool_bool _ _⟩
  | int c=>obtain⟨t,rfl⟩:=e;unfold mw at h;cases h;exact⟨.bool_int _ _ _,.bool_int _ _ _,.bool_int _ _ _⟩
  | str c=>obtain⟨t,rfl⟩:=e;unfold mw at h;cases h;exact⟨.bool_str _ _ _,.bool_str _ _ _,.bool_str _ _ _⟩
  | tup j k=>obtain rfl:w=Value.ref _:=e;unfold mw at h;cases h;obtain⟨i,_,p,_⟩:=Zw I j k;exact⟨.bool_tuple _ p a,.bool_tuple _ p a,.bool_tuple _ p a⟩
  | lst j k=>obtain rfl:w=Value.ref _:=e;unfold mw at h;cases h;obtain⟨i,_,p,_⟩:=zH I (.inl j) k;exact⟨.bool_list _ p a,.bool_list _ p a,.bool_list _ p a⟩
  | fz j k=>obtain rfl:w=Value.ref _:=e;unfold mw at h;cases h;obtain⟨i,_,p,_⟩:=zH I (.inr ⟨_,j⟩) k;exact⟨.bool_list _ p a,.bool_list _ p a,.bool_list _ p a⟩
 | int d=>
  obtain⟨D,rfl⟩:=o;cases l with
  | non=>obtain rfl:w=Value.none:=e;unfold mw at h;cases h;exact⟨.int_none _ _,.int_none _ _,.int_none _ _⟩
  | bl c=>obtain rfl:w=Value.bool c:=e;unfold mw at h;cases h;exact⟨.int_bool _ _ _,.int_bool _ _ _,.int_bool _ _ _⟩
  | int c=>obtain⟨t,rfl⟩:=e;unfold mw at h;cases h;exact⟨.int_int _ _ _ _,.int_int _ _ _ _,.int_int _ _ _ _⟩
  | str c=>obtain⟨t,rfl⟩:=e;unfold mw at h;cases h;exact⟨.int_str _ _ _ _,.int_str _ _ _ _,.int_str _ _ _ _⟩
  | tup j k=>obtain rfl:w=Value.ref _:=e;unfold mw at h;cases h;obtain⟨i,_,p,_⟩:=Zw I j k;exact⟨.int_tuple _ _ p a,.int_tuple _ _ p a,.int_tuple _ _ p a⟩
  | lst j k=>obtain rfl:w=Value.ref _:=e;unfold mw at h;cases h;obtain⟨i,_,p,_⟩:=zH I (.inl j) k;exact⟨.int_list _ _ p a,.int_list _ _ p a,.int_list _ _ p a⟩
  | fz j k=>obtain rfl:w=Value.ref _:=e;unfold mw at h;cases h;obtain⟨i,_,p,_⟩:=zH I (.inr ⟨_,j⟩) k;exact⟨.int_list _ _ p a,.int_list _ _ p a,.int_list _ _ p a⟩
 | str d=>
  obtain⟨D,rfl⟩:=o;cases l with
  | non=>obtain rfl:w=Value.none:=e;unfold mw at h;cases h;exact⟨.str_none _ _,.str_none _ _,.str_none _ _⟩
  | bl c=>obtain rfl:w=Value.bool c:=e;unfold mw at h;cases h;exact⟨.str_bool _ _ _,.str_bool _ _ _,.str_bool _ _ _⟩
  | int c=>obtain⟨t,rfl⟩:=e;unfold mw at h;cases h;exact⟨.str_int _ _ _ _,.str_int _ _ _ _,.str_int _ _ _ _⟩
  | str c=>obtain⟨t,rfl⟩:=e;unfold mw at h;cases h;exact⟨.str_str _ _ _ _,.str_str _ _ _ _,.str_str _ _ _ _⟩
  | tup j k=>obtain rfl:w=Value.ref _:=e;unfold mw at h;cases h;obtain⟨i,_,p,_⟩:=Zw I j k;exact⟨.str_tuple _ _ p a,.str_tuple _ _ p a,.str_tuple _ _ p a⟩
  | lst j k=>obtain rfl:w=Value.ref _:=e;unfold mw at h;cases h;obtain⟨i,_,p,_⟩:=zH I (.inl j) k;exact⟨.str_list _ _ p a,.str_list _ _ p a,.str_list _ _ p a⟩
  | fz j k=>obtain rfl:w=Value.ref _:=e;unfold mw at h;cases h;obtain⟨i,_,p,_⟩:=zH I (.inr ⟨_,j⟩) k;exact⟨.str_list _ _ p a,.str_list _ _ p a,.str_list _ _ p a⟩
 | tup r v=>
  obtain rfl:u=Value.ref _:=o;obtain⟨B,_,g,_⟩:=Zw I r v;cases l with
  | non=>obtain rfl:w=Value.none:=e;unfold mw at h;cases h;exact⟨.tuple_none g a,.tuple_none g a,.tuple_none g a⟩
  | bl c=>obtain rfl:w=Value.bool c:=e;unfold mw at h;cases h;exact⟨.tuple_bool _ g a,.tuple_bool _ g a,.tuple_bool _ g a⟩
  | int c=>obtain⟨t,rfl⟩:=e;unfold mw at h;cases h;exact⟨.tuple_int _ _ g a,.tuple_int _ _ g a,.tuple_int _ _ g a⟩
  | str c=>obtain⟨t,rfl⟩:=e;unfold mw at h;cases h;exact⟨.tuple_str _ _ g a,.tuple_str _ _ g a,.tuple_str _ _ g a⟩
  | tup j k=>unfold mw at h;cases h
  | lst j k=>obtain rfl:w=Value.ref _:=e;unfold mw at h;cases h;obtain⟨i,_,p,_⟩:=zH I (.inl j) k;exact⟨.tuple_list g p a,.tuple_list g p a,.tuple_list g p a⟩
  | fz j k=>obtain rfl:w=Value.ref _:=e;unfold mw at h;cases h;obtain⟨i,_,p,_⟩:=zH I (.inr ⟨_,j⟩) k;exact⟨.tuple_list g p a,.tuple_list g p a,.tuple_list g p a⟩
 | lst r v=>
  obtain rfl:u=Value.ref _:=o;obtain⟨B,_,g,_⟩:=zH I (.inl r) v;cases l with
  | non=>obtain rfl:w=Value.none:=e;unfold mw at h;cases h;exact⟨.list_none g a,.list_none g a,.list_none g a⟩
  | bl c=>obtain rfl:w=Value.bool c:=e;unfold mw at h;cases h;exact⟨.list_bool _ g a,.list_bool _ g a,.list_bool _ g a⟩
  | int c=>obtain⟨t,rfl⟩:=e;unfold mw at h;cases h;exact⟨.list_int _ _ g a,.list_int _ _ g a,.list_int _ _ g a⟩
  | str c=>obtain⟨t,rfl⟩:=e;unfold mw at h;cases h;exact⟨.list_str _ _ g a,.list_str _ _ g a,.list_str _ _ g a⟩
  | tup j k=>obtain rfl:w=Value.ref _:=e;unfold mw at h;cases h;obtain⟨i,_,p,_⟩:=Zw I j k;exact⟨.list_tuple g p a,.list_tuple g p a,.list_tuple g p a⟩
  | lst j k=>unfold mw at h;cases h
  | fz j k=>unfold mw at h;cases h
 | fz r v=>
  obtain rfl:u=Value.ref _:=o;obtain⟨B,_,g,_⟩:=zH I (.inr ⟨_,r⟩) v;cases l with
  | non=>obtain rfl:w=Value.none:=e;unfold mw at h;cases h;exact⟨.list_none g a,.list_none g a,.list_none g a⟩
  | bl c=>obtain rfl:w=Value.bool c:=e;unfold mw at h;cases h;exact⟨.list_bool _ g a,.list_bool _ g a,.list_bool _ g a⟩
  | int c=>obtain⟨t,rfl⟩:=e;unfold mw at h;cases h;exact⟨.list_int _ _ g a,.list_int _ _ g a,.list_int _ _ g a⟩
  | str c=>obtain⟨t,rfl⟩:=e;unfold mw at h;cases h;exact⟨.list_str _ _ g a,.list_str _ _ g a,.list_str _ _ g a⟩
  | tup j k=>obtain rfl:w=Value.ref _:=e;unfold mw at h;cases h;obtain⟨i,_,p,_⟩:=Zw I j k;exact⟨.list_tuple g p a,.list_tuple g p a,.list_tuple g p a⟩
  | lst j k=>unfold mw at h;cases h
  | fz j k=>unfold mw at h;cases h
set_option maxHeartbeats 2000000 in
theorem XO (I:L2.Inv X pins σ H s):∀(n:Nat) (A:Around),A.units+n < cLine->∀(x y:T) (b:Bool) (p q:V) (u w:Value),mw n x y=some b->Rep H p x->Rep H q y->RelV p u->RelV q w->o4 A s u w b:=by
 intro n
 induction n with
 | zero=>exact λA B x y b p q u w h=>Yz I A (by omega) x y b p q u w h
 | succ n v=>
  intro A B x y b p q u w h r o l a;have e:=λh=>Yz I A (by omega) x y b p q u w h r o l a
  have d :A.units < cLine:=by omega
  have c :=v A.in1 (by rw[Wy];omega)
  cases r with
  | tup j k=>
   cases o with
   | tup g i=>
    obtain rfl:u=Value.ref _:=l;obtain rfl:w=Value.ref _:=a;exact XN I d j g k i h (Z2 n) c
   | _=>exact e (by exact h)
  | lst j k=>
   cases o with
   | lst g i=>
    obtain rfl:u=Value.ref _:=l;obtain rfl:w=Value.ref _:=a;exact wO I d (.inl j) (.inl g) k i h (Z2 n) c
   | fz g i=>
    obtain rfl:u=Value.ref _:=l;obtain rfl:w=Value.ref _:=a;exact wO I d (.inl j) (.inr ⟨_,g⟩) k i h (Z2 n) c
   | _=>exact e (by exact h)
  | fz j k=>
   cases o with
   | lst g i=>
    obtain rfl:u=Value.ref _:=l;obtain rfl:w=Value.ref _:=a;exact wO I d (.inr ⟨_,j⟩) (.inl g) k i h (Z2 n) c
   | fz g i=>
    obtain rfl:u=Value.ref _:=l;obtain rfl:w=Value.ref _:=a;exact wO I d (.inr ⟨_,j⟩) (.inr ⟨_,g⟩) k i h (Z2 n) c
   | _=>exact e (by exact h)
  | _=>exact e (by cases o <;> (exact h))
end
section
def rG (Y:Fx)(g:T->T->R T):R2:=λx y H Q=>∃B t t',zj B H/\Rep B x t/\Rep B y t' /\Po Y rC B H (g t t') Q
def zc (g:T->T->R T)(c a:En->R T):En->R T:=λρ=>(c ρ).bind λx=>(a ρ).bind λy=>g x y
theorem uw (l:mL X (binaryOp op) (rG Y g))(k:Snd X Y a fa)(d:Snd X Y b fb):Snd X Y (.BinOp a op b pos) (zc g fa fb):= .mk λρ=>
 PE.imp (D1 l (k ρ) (d ρ)) λC H Q ⟨B,I,q⟩=>step I q λt v x _ w j c o=>step c o λt' y u _ i r p e=>
  ⟨_,t,t',p.sB,j.mono (zv.ge c.sB i),r,e⟩
theorem mO (a:zj B H)(q:Po Y rC B H g Q)(e:g= .ok t)(r:Rep B v t):Q v H:=by
 subst e;exact q v H (zj.refl H) (by rw[zv.self B H a];exact r)
theorem GG (a:zj B H)(q:Po Y rC B H g Q)(e:g= .ok (.tup ts))(r:zr B xs ts)(h:H p=none):Q (.ref p) (ml H p (.tup xs)):=by
 subst e;exact q _ _ (zj.new h _) (.tup (jd h _) (r.mono (zv.ge a (zj.new h _))))
theorem GH (a:zj B H)(q:Po Y rC B H g Q)(e:g= .ok (.lst ts))(r:zr B xs ts)(h:H p=none):Q (.ref p) (ml H p (.lst xs)):=by
 subst e;exact q _ _ (zj.new h _) (.lst (jd h _) (r.mono (zv.ge a (zj.new h _))))
def zx:T->T->R T
 | .int i,.int j=> .ok (.int (i+j))
 | .bl x,.int j=> .ok (.int (b2 x+j))
 | .int i,.bl y=> .ok (.int (i+b2 y))
 | .str x,.str y=>if x.length+y.length<=mq then .ok (.str (x++y)) else .bad
 | .tup c,.tup a=>if c.length+a.length<=mq then .ok (.tup (c++a)) else .bad
 | .lst c,.lst a=>if c.length+a.length<=mq then .ok (.lst (c++a)) else .bad
 | _,_=> .bad
theorem V0 {prog:Program}{w:World}{A:Around}{E:Value->Shared->Prop}{s:Shared}{t b:Addr}{vs o:List Value}{Q:Value->Shared->Prop}(p:IsTup s.heap t vs.toArray)(k:IsTup s.heap b o.toArray)(q:vs=[])
  (u:Q (.ref b) s):wpAny (model prog w) A (binaryOp .Add (.ref t) (.ref b)) Q E s:=by
 obtain⟨⟨cls,dd,data,sl⟩,j,r,n,hd⟩:=id p;obtain⟨⟨i,e,data2,g⟩,a,c,l,d⟩:=id k;subst r hd c d;exact concat_meets ⟨_,j,rfl⟩ ⟨_,a,rfl⟩ noFill_tuple_add seq_tuple_add eJ eG (dS _ _)
   (tuple_addW0 t b _ _ n l dd e sl g (by simp[q])) ⟨j,a,u⟩
theorem XQ:mL X (binaryOp .Add) (rG Y zx):=by
 intro e s M H x y v u Q I g l h;obtain⟨B,t,t',c,r,D,q⟩:=h;cases r with
 | int i=>
  cases D with
  | int j=>exact Gk e s M H _ _ v u Q I g l ⟨i,j,rfl,rfl,mO c q rfl (.int _)⟩
  | bl y=>exact Yj e s M H _ _ v u Q I g l ⟨i,y,rfl,rfl,mO c q rfl (.int _)⟩
  | _=>exact q.elim
 | bl x=>
  cases D with
  | int j=>
   obtain rfl:v=Value.bool x:=g;obtain⟨tk,rfl⟩:=l;exact IntBool.add_bool_int (⟨.int _,H,I.tok _,⟨_,rfl⟩,mO c q rfl (.int _)⟩)
  | _=>exact q.elim
 | str x=>
  cases D with
  | str y=>
   by_cases d:x.length+y.length<=mq
   ·exact yl e s M H _ _ v u Q I g l ⟨x,y,rfl,rfl,Zj d,mO c q (if_pos d) (.str _)⟩
   ·rw[show zx (.str x) (.str y)= .bad from if_neg d]at q;exact q.elim
  | _=>exact q.elim
 | @tup a C ts G k=>
  cases D with
  | @tup O F w J o=>
   by_cases d:ts.length+w.length<=mq
   ·have N:zx (.tup ts) (.tup w)= .ok _:=if_pos d;have hz:C.length+F.length<=sizeLine:=by rw[k.length,o.length];exact Zj d
    by_cases P:C=[]
    ·obtain rfl:v=Value.ref a:=g;obtain rfl:u=Value.ref O :=l;obtain⟨U,rv,p,_⟩:=I.tuple (SqT.of (c _ _ G));obtain⟨S,rv',Z,_⟩:=I.tuple (SqT.of (c _ _ J));have et:=k.nil_iff.mp P;refine V0 p Z (rv.nil_iff.mpr P) ⟨.ref O,H,I,rfl,mO c q N ?_⟩;rw[et];exact .tup J o
    ·refine XA _ s M H _ _ v u Q I g l ⟨a,O,C,F,rfl,rfl,SqT.of (c _ _ G),SqT.of (c _ _ J),P,hz,λhy=> ?_,λhy p hp=> ?_⟩
     ·refine mO c q N ?_;rw[o.nil_iff.mp hy,bb];exact .tup G k
     ·exact GG c q N (k.append o) hp
   ·rw[show zx (.tup ts) (.tup w)= .bad from if_neg d]at q;exact q.elim
  | _=>exact q.elim
 | @lst a C ts G k=>
  cases D with
  | @lst O F w J o=>
   by_cases d:ts.length+w.length<=mq
   ·have N:zx (.lst ts) (.lst w)= .ok _:=if_pos d;have hz:C.length+F.length<=sizeLine:=by rw[k.length,o.length];exact Zj d
    exact Gz _ s M H _ _ v u Q I g l ⟨a,O,C,F,rfl,rfl,c _ _ G,c _ _ J,hz,λp hp=>GH c q N (k.append o) hp⟩
   ·rw[show zx (.lst ts) (.lst w)= .bad from if_neg d]at q;exact q.elim
  | _=>exact q.elim
 | _=>cases D <;> exact q.elim
theorem FU (d:Snd X Y a fa)(c:Snd X Y b fb):Snd X Y (.BinOp a .Add b pos) (zc zx fa fb):=uw XQ d c
noncomputable def jR:T->T->R T
 | .int i,.int j=> .ok (.int (i - j))
 | _,_=> .bad
noncomputable def je:T->T->R T
 | .int i,.int j=>if 0 < j then .ok (.int (i % j)) else .bad
 | _,_=> .bad
noncomputable def wP:T->T->R T
 | .int i,.int j=>if 0 < j/\j < 1073741824 then .ok (.int (i / j)) else .bad
 | _,_=> .bad
instance (i j:Int):Decidable (uq i j):=by unfold uq;infer_instance
def zV:T->T->R T
 | .int i,.int j=>if uq i j then .ok (.int (i*j)) else .bad
 | .lst a,.int k=>if 0<=k/\k < 1000000/\a.length*k.toNat<=mq then .ok (.lst (aq k.toNat a).flatten) else .bad
 | .tup a,.int k=>if 2<=k/\k < 1000000/\a ≠ []/\a.length*k.toNat<=mq then .ok (.tup (aq k.toNat a).flatten) else .bad
 | _,_=> .bad
theorem XR:mL X (binaryOp .Sub) (rG Y jR):=by
 intro a s k H x y v u Q I d e h;obtain⟨B,t,t',g,r,c,q⟩:=h;cases r with
 | int i=>
  cases c with
  | int j=>exact Gm _ s k H _ _ v u Q I d e ⟨i,j,rfl,rfl,mO g q rfl (.int _)⟩
  | _=>exact q.elim
 | _=>cases c <;> exact q.elim
theorem XS:mL X (binaryOp .Mod) (rG Y je):=by
 intro c s l H x y v u Q I e g h;obtain⟨B,t,t',k,r,d,q⟩:=h;cases r with
 | int i=>
  cases d with
  | int j=>
   by_cases a:0 < j
   ·exact Go _ s l H _ _ v u Q I e g ⟨i,j,rfl,rfl,a,mO k q (if_pos a) (.int _)⟩
   ·rw[show je (.int i) (.int j)= .bad from if_neg a]at q;exact q.elim
  | _=>exact q.elim
 | _=>cases d <;> exact q.elim
theorem V1:mL X (binaryOp .FloorDiv) (rG Y wP):=by
 intro c s l H x y v u Q I e g h;obtain⟨B,t,t',k,r,d,q⟩:=h;cases r with
 | int i=>
  cases d with
  | int j=>
   by_cases a:0 < j/\j < 1073741824
   ·exact Xs _ s l H _ _ v u Q I e g ⟨i,j,rfl,rfl,a,mO k q (if_pos a) (.int _)⟩
   ·rw[show wP (.int i) (.int j)= .bad from if_neg a]at q;exact q.elim
  | _=>exact q.elim
 | _=>cases d <;> exact q.elim
theorem yt (l:Addr)(a:Array Value)(n:Nat)(dd:Option Addr)(sl:Array (Option Value))(x:Int)(u:Tok)(B:2<=x)(C:x < 1000000)(d:a.isEmpty=false)(hsz:a.size*x.toNat<=sizeLine):
  Meets (Builtin.«tuple.__mul__» ⟨[.ref l,.int x u],[]⟩) (λ_ R s=>s.heap.get? l=some { cls:= .type "tuple",dict:=dd,data:= .seq a n,slots:=sl }/\
   R (.ok (.ret (Value.ref s.heap.objs.size))) { s with heap:=s.heap.push { cls:=Value.type "tuple",data:=Data.seq (fO (λc e=>c++e) #[] (aq x.toNat a)) },toks:=s.toks }):=
 .of_wp λprog w A R s h=>by
  obtain⟨j,h⟩:=h;have i:(a.size:Int)*x=((a.size*x.toNat:Nat):Int):=by
   have:x=((x.toNat:Nat):Int):=by omega
   rw[fy,← this]
  have r:(sizeLine:Nat)=16777216:=bV;have v:¬ (decide (x < -(2 ^ 63)) || decide (x ≥ 2 ^ 63))=true:=by simp;omega
  have o:¬ (a.isEmpty || x == 1)=true:=by simp[d];omega
  have p:¬ (decide (x<=0) || a.isEmpty)=true:=by simp[d];omega
  have k:¬ ((a.size:Int)*x > (2 ^ 63 - 1) / 8):=by rw[i];omega
  have y:¬ fQ ((a.size:Int)*x)=true:=by
   unfold fQ;rw[i];intro z;have:=of_decide_eq_true z;omega
  unfold Builtin.«tuple.__mul__»
  wp_walk using wpAny_loadPart' j
  rw[if_neg v]
  wp_walk using wpAny_loadPart' j
  rw[if_neg o]
  try dsimp only
  rw[if_neg p]
  try dsimp only
  rw[if_neg k]
  try dsimp only
  rw[if_neg y]
  try dsimp only
  have g :sizeOk (.seq (fO (λc e=>c++e) #[] (aq x.toNat a))):=by
   show (fO (λc e=>c++e) #[] _).size<=sizeLine;have:=jp a.toList x.toNat [];have q:=by
    simpa using this
   rw[q,aF,jE,dh];exact hsz
  exact a8 (aJ (aa ⟨_,rfl,h⟩) g)
theorem Wz:seqRepeat? (.type "tuple")=pure (some (.builtin "tuple.__mul__")):=by
 unfold seqRepeat?;rw[lR (name:="__mul__") i4.lookup (by decide+kernel),lR (name:="__rmul__") lu.lookup (by decide+kernel)]
 rfl
theorem J4:fillsNumberSlot (.type "tuple") "mul"=pure false:=
 PySem.fillsNumberSlot_seq i4.lookup (by decide+kernel) lu.lookup (by decide+kernel)
theorem JZ (a:Int)(t:Tok)(l:Addr)(c:Array Value)(n:Nat)(dd:Option Addr)(sl:Array (Option Value)):
  Meets (Builtin.«int.__rmul__» ⟨[.int a t,.ref l],[]⟩) (λ_ R s=>s.heap.get? l=some { cls:= .type "tuple",dict:=dd,data:= .seq c n,slots:=sl }/\R (.ok (.ret Value.notImplemented)) s):=
 .of_wp λprog w A R s h=>by obtain⟨d,h⟩:=h;wp_walk;exact⟨_,rfl,h⟩
theorem XT {t:Tok}(p:IsTup s.heap l its.toArray)(c:its ≠ [])(g:2<=k)(i:k < 1000000)
  (hsz:its.length*k.toNat<=sizeLine) (q:Q (.ref s.heap.objs.size) { s with heap:=s.heap.push { cls:= .type "tuple",data:= .seq (aq k.toNat its).flatten.toArray } }):
  wpAny (model prog w) A (binaryOp .Mult (.ref l) (.int k t)) Q E s:=by
 obtain⟨⟨cls,dd,data,sl⟩,a,e,n,hd⟩:=id p;subst e hd;refine wpAny_binaryOp_repeat_ref (by decide) ⟨_,a,rfl⟩ (λd =>typeIs_int d k t) J4 m4 fx Wz lP.lookup
  (fP fx (typeIs_int s k t) lQ (lm _ _) (JZ k t l _ n dd sl)
   ⟨a,rfl,⟨_,a,rfl⟩,fP i4 ⟨_,a,rfl⟩ F.entry_tuple_mul (F.args_tuple_mul_2 _ _) (yt l _ n dd sl k t g i (by simpa using c) (by simpa using hsz)) ⟨a, ?_⟩⟩)
 have:=jp its k.toNat [];rw[this];exact q
theorem XU:mL X (binaryOp .Mult) (rG Y zV):=by
 intro P s O H x y v u Q I C M h;obtain⟨B,t,t',g,r,o,q⟩:=h;cases r with
 | int i=>
  cases o with
  | int j=>
   by_cases N:uq i j
   ·exact Gn _ s O H _ _ v u Q I C M ⟨i,j,rfl,rfl,N,mO g q (if_pos N) (.int _)⟩
   ·rw[show zV (.int i) (.int j)= .bad from if_neg N]at q;exact q.elim
  | _=>exact q.elim
 | @lst l G ts D c=>
  cases o with
  | int k=>
   by_cases a:0<=k/\k < 1000000/\ts.length*k.toNat<=mq
   ·have J:zV (.lst ts) (.int k)= .ok _:=if_pos a;exact GA _ s O H _ _ v u Q I C M ⟨l,k,G,rfl,rfl,g _ _ D,by omega,by omega,by rw[c.length];exact Zj a.2.2,λp hp=>GH g q J (c.rep _) hp⟩
   ·rw[show zV (.lst ts) (.int k)= .bad from if_neg a]at q;exact q.elim
  | _=>exact q.elim
 | @tup l G ts D c=>
  cases o with
  | int k=>
   by_cases a:2<=k/\k < 1000000/\ts ≠ []/\ts.length*k.toNat<=mq
   ·have J:zV (.tup ts) (.int k)= .ok _:=if_pos a;obtain rfl:v=Value.ref l:=C;obtain⟨tk,rfl⟩:=M;obtain⟨d,S,p,_⟩:=I.tuple (SqT.of (g _ _ D));have F:=c.length.symm.trans S.length;have w:d ≠ []:=λz=>a.2.2.1 (by rw[z]at F;exact cX.mp F)
    refine XT p w a.1 a.2.1 (by rw[← F];exact Zj a.2.2.2) ⟨.ref _,ml H _ (.tup (aq k.toNat G).flatten),I.laid (λb u e=>a9 _ e) (ah _) ?_,rfl, ?_⟩
    ·exact⟨by rw[jE,c.length,dh];exact Zj a.2.2.2,(aq _ d).flatten,S.rep _,⟨_,ae _ rfl,rfl,_,rfl⟩,.inr ⟨_,ae _ rfl,rfl⟩⟩
    ·exact GG g q J (c.rep _) (I.hok.fresh (ah _))
   ·rw[show zV (.tup ts) (.int k)= .bad from if_neg a]at q;exact q.elim
  | _=>exact q.elim
 | _=>cases o <;> exact q.elim
theorem EV (d:Snd X Y a fa)(c:Snd X Y b fb):Snd X Y (.BinOp a .Sub b pos) (zc jR fa fb):=uw XR d c
theorem FZ (d:Snd X Y a fa)(c:Snd X Y b fb):Snd X Y (.BinOp a .Mod b pos) (zc je fa fb):=uw XS d c
theorem GI (d:Snd X Y a fa)(c:Snd X Y b fb):Snd X Y (.BinOp a .FloorDiv b pos) (zc wP fa fb):=uw V1 d c
theorem DL (d:Snd X Y a fa)(c:Snd X Y b fb):Snd X Y (.BinOp a .Mult b pos) (zc zV fa fb):=uw XU d c
def V2 (a:En->R T):En->R T:=λρ=>(a ρ).bind λx=>match x with
 | .int i=> .ok (.int (-i))
 | _=> .bad
theorem Hk (e:Snd X Y a fa):Snd X Y (.UnaryOp .USub a pos) (V2 fa):= .mk λρ=>PE.imp (Ew Gp (e ρ)) λl H Q ⟨B,I,q⟩=>step I q λt v k _ j d g c=>by
 cases d with
 | int i=>exact⟨i,rfl,mO g.sB c rfl (.int _)⟩
 | _=>exact c.elim
def WA (g:T->T->R Bool):R2:=λx y H Q=>∃t t' b,Rep H x t/\Rep H y t' /\g t t' = .ok b/\Q (.bl b) H
def j7 (g:T->T->R Bool)(c a:En->R T):En->R T:=λρ=>(c ρ).bind λx=>(a ρ).bind λy=>(g x y).bind λb=> .ok (.bl b)
def zD (g:T->T->R Bool)(c a:En->R T):En->R Bool:=λρ=>(c ρ).bind λx=>(a ρ).bind λy=>g x y
noncomputable def Nx (g:T->T->R Bool):Prop:=∀t t' c,g t t' ≠ .ex c
theorem XV (nx:Nx g)(p:mL X (compareOp op) (WA g))(l:jc X Y a fa)(i:jc X Y b fb)(u:behindInMarks op b=false):Snd X Y (.Compare a [op] [b] pos) (j7 g fa fb):= .mk λρ=>
 PE.imp (Yk p (l ρ) (i ρ) u) λG H Q ⟨B,I,q⟩=>step I q λt v D _ C k o r=>step o r λt' F y _ j x w d=>by
  cases e:g t t' with
  | bad=>rw[e]at d;exact d.elim
  | ex c=>exact absurd e (nx _ _ _)
  | ok b=>rw[e]at d;exact⟨t,t',b,k.mono j,x,e,ZA w d (.bl b)⟩
theorem ux (nx:Nx g)(p:mL X (compareOp op) (WA g))(l:jc X Y a fa)(i:jc X Y b fb)(u:behindInMarks op b=false):Wx X Y (.Compare a [op] [b] pos) (zD g fa fb):= .mk λρ=>
 PT.imp (Xt p (l ρ) (i ρ) u) λG H Q ⟨B,I,q⟩=>step I q λt v D _ C k o r=>step o r λt' F y _ j x w d=>by
  cases e:g t t' with
  | bad=>rw[e]at d;exact d.elim
  | ex c=>exact absurd e (nx _ _ _)
  | ok b=>rw[e]at d;exact⟨t,t',b,k.mono j,x,e,b,rfl,ZA w d rfl⟩
def mm (t t' :T):R Bool:=match mw 30 t t' with
 | some b=> .ok b
 | none=> .bad
def nA (t t' :T):R Bool:=match mw 30 t t' with
 | some b=> .ok (!b)
 | none=> .bad
theorem XW:Nx mm:=λt t' c h=>by unfold mm at h;split at h <;> cases h
theorem Ha:Nx nA:=λt t' c h=>by unfold nA at h;split at h <;> cases h
theorem YA (l:X.A.units+64 < cLine):mL X (compareOp .Eq) (WA mm):=by
 intro a s o H x y v u Q I g j h;obtain⟨t,t',b,r,i,e,q⟩:=h;unfold mm at e;split at e
 ·rename_i k d;have c :=by injection e
  subst c;exact(XO I 30 X.A (by omega) t t' k x y v u d r i g j).2.1 _ _ _ _ ⟨.bl k,H,I,rfl,q⟩
 ·cases e
theorem GJ (j:X.A.units+64 < cLine):mL X (compareOp .NotEq) (WA nA):=by
 intro a s l H x y v u Q I d i h;obtain⟨t,t',b,r,g,e,q⟩:=h;unfold nA at e;split at e
 ·rename_i k c;cases e;exact(XO I 30 X.A (by omega) t t' k x y v u c r g d i).2.2 _ _ _ _ ⟨.bl _,H,I,rfl,q⟩
 ·cases e
noncomputable def n9:T->T->R Bool
 | .int i,.int j=> .ok (decide (i < j))
 | _,_=> .bad
noncomputable def mF:T->T->R Bool
 | .int i,.int j=> .ok (decide (i<=j))
 | .str x,.str y=> .ok (!decide (y.cps.toList < x.cps.toList))
 | _,_=> .bad
noncomputable def ny:T->T->R Bool
 | .int i,.int j=> .ok (decide (j < i))
 | _,_=> .bad
theorem Fo:Nx n9:=λt t' c h=>by unfold n9 at h;split at h <;> cases h
theorem wQ:Nx mF:=λt t' c h=>by unfold mF at h;split at h <;> cases h
theorem DJ:Nx ny:=λt t' c h=>by unfold ny at h;split at h <;> cases h
theorem GK:mL X (compareOp .Lt) (WA n9):=by
 intro a s k H x y v u Q I c g h;obtain⟨t,t',b,r,d,e,q⟩:=h;unfold n9 at e;split at e
 ·rename_i i j;cases e;cases r;cases d;exact EK _ s k H _ _ v u Q I c g ⟨i,j,rfl,rfl,q⟩
 ·cases e
theorem GL:mL X (compareOp .Gt) (WA ny):=by
 intro a s k H x y v u Q I c g h;obtain⟨t,t',b,r,d,e,q⟩:=h;unfold ny at e;split at e
 ·rename_i i j;cases e;cases r;cases d;exact DS _ s k H _ _ v u Q I c g ⟨i,j,rfl,rfl,q⟩
 ·cases e
theorem jr:mL X (compareOp .LtE) (WA mF):=by
 intro a s k H x y v u Q I c g h;obtain⟨t,t',b,r,d,e,q⟩:=h;unfold mF at e;split at e
 ·rename_i i j;cases e;cases r;cases d;exact DX _ s k H _ _ v u Q I c g ⟨i,j,rfl,rfl,q⟩
 ·cases e;cases r;cases d;obtain⟨l,rfl⟩:=c;obtain⟨o,rfl⟩:=g;exact PySem.P.le_str ⟨.bl _,H,I,rfl,q⟩
 ·cases e
end
section
variable {X:Cx}{Y:Fx}{a b c d:Expr}{fa fb fc fd:En->R T}{pos:Pos}
noncomputable def Wk (f:T->Option Bool):List T->Option Bool
 | []=>some false
 | t :: r=>match f t with
  | none=>none
  | some b=>match Wk f r with
   | none=>none
   | some c=>some (b || c)
def nc (t t' :T):R Bool:=match t' with
 | .tup e=>match Wk (λy=>mw 30 y t) e with | some b=> .ok b | none=> .bad
 | .lst e=>match Wk (λy=>mw 30 y t) e with | some b=> .ok b | none=> .bad
 | _=> .bad
def V3 (t t' :T):R Bool:=(nc t t').bind λb=> .ok (!b)
theorem V4:Nx nc:=λt t' c h=>by
 unfold nc at h;split at h
 ·split at h <;> cases h
 ·split at h <;> cases h
 ·cases h
theorem GM:Nx V3:=λt t' c h=>by
 unfold V3 at h;cases e:nc t t' with
 | bad=>rw[e]at h;cases h
 | ex k=>exact absurd e (V4 _ _ _)
 | ok k=>rw[e]at h;cases h
open Classical in
theorem XX (f:T->Option Bool):∃e:Value->Bool,∀(v:V) (t:T) (u:Value) (b:Bool),RelV v u->Rep H v t->f t=some b->e u=b:=by
 refine⟨λu=>decide (∃v t,RelV v u/\Rep H v t/\f t=some true),λv t u b i r e=> ?_⟩;cases b with
 | true=>exact decide_eq_true ⟨v,t,i,r,e⟩
 | false=>
  refine decide_eq_false ?_
  rintro⟨l,t',g,k,j⟩
  have:=i.inj g;subst this;have:=r.fn k;subst this;rw[e]at j;cases j
theorem YB {H:Hp}{f:T->Option Bool}{e:Value->Bool}(x:∀(v:V) (t:T) (u:Value) (b:Bool),RelV v u->Rep H v t->f t=some b->e u=b):∀{o:List V} {ts:List T} {g:List Value} {b:Bool},
  Vals o g->zr H o ts->Wk f ts=some b->g.any e=b/\∀u∈g,∃v t k,RelV v u/\Rep H v t/\f t=some k
 | _,_,_,b,.nil,.nil,h=>by
  have h' :=h;cases h';exact⟨rfl,λu D=>by simp at D⟩
 | _,_,_,b,.cons l vs,.cons r y,h=>by
  rename_i v u p G t ts;unfold Wk at h;cases q:f t with
  | none=>rw[q]at h;cases h
  | some k=>
   rw[q]at h;cases j :Wk f ts with
   | none=>rw[j]at h;cases h
   | some F =>
    rw[j]at h;cases h;obtain⟨B,C⟩:=YB x vs y j;refine⟨by rw[iV,B,x v t u k l r q],λw i=> ?_⟩
    rcases ag.mp i with rfl | i
    ·exact⟨v,t,k,l,r,q⟩
    ·exact C w i
theorem YC (hu:X.A.units+64 < cLine)(g:Bool):mL X (compareOp (if g then .NotIn else .In)) (WA (if g then V3 else nc)):=by
 intro pins s σ H x y v u Q I rx ry h;obtain⟨t,t',b,r,r',e,q⟩:=h;have hs:∃k,nc t t' = .ok k/\b=(if g then !k else k):=by
  cases g with
  | false=>exact⟨b,e,rfl⟩
  | true=>
   have G :V3 t t' = .ok b:=e;unfold V3 at G;cases z:nc t t' with
   | bad=>rw[z]at G;cases G
   | ex k=>exact absurd z (V4 _ _ _)
   | ok k=>rw[z]at G;cases G;exact⟨k,rfl,rfl⟩
 obtain⟨k,i,rfl⟩:=hs;unfold nc at i;obtain⟨f,N⟩:=XX λy=>mw 30 y t;have j:∀w,(∃v t' k,RelV v w/\Rep H v t' /\mw 30 t' t=some k)->dg X.A.in1 s w v (f w):=λw ⟨U,t',k,C,Z,S⟩=>by
  rw[N U t' w k C Z S];exact(XO I 30 _ (by rw[Wy];omega) t' t k U x w v S Z r C rx).1
 split at i
 ·split at i
  ·rename_i k' M;cases i;cases r' with
   | @tup l xs _ O J=>
    obtain rfl:u=Value.ref l:=ry;obtain⟨B,C,p,_⟩:=Zw I O J;obtain⟨P,D⟩:=YB N C J M;have F:B.toArray.any f=k:=by simpa using P
    cases g with
    | false=>exact SeqAt.in_tupleAt f p (λw o=>j w (D w (by simpa using o))) (by rw[F];exact⟨.bl k,H,I,rfl,q⟩)
    | true=>exact SeqAt.notIn_tupleAt f p (λw o=>j w (D w (by simpa using o))) (by rw[F];exact⟨.bl _,H,I,rfl,q⟩)
  ·cases i
 ·split at i
  ·rename_i k' M;cases i;cases r' with
   | @lst l xs _ O J=>
    obtain rfl:u=Value.ref l:=ry;obtain⟨B,C,p,_⟩:=zH I (.inl O) J;obtain⟨P,D⟩:=YB N C J M;have F:B.toArray.any f=k:=by simpa using P
    cases g with
    | false=>exact SeqAt.in_listAt f p (λw o=>j w (D w (by simpa using o))) (by rw[F];exact⟨.bl k,H,I,rfl,q⟩)
    | true=>exact SeqAt.notIn_listAt f p (λw o=>j w (D w (by simpa using o))) (by rw[F];exact⟨.bl _,H,I,rfl,q⟩)
  ·cases i
 ·cases i
theorem xG (e:X.A.units+64 < cLine):mL X (compareOp .In) (WA nc):=YC e false
theorem XY (e:X.A.units+64 < cLine):mL X (compareOp .NotIn) (WA V3):=YC e true
noncomputable def isNC (t t' :T):R Bool:=match t' with
 | .non=>match t with | .non=> .ok true | _=> .ok false
 | .bl k=>match t with | .bl j=> .ok (j == k) | _=> .ok false
 | _=> .bad
def nh (g e :T->T->R Bool)(fa fb fc:En->R T):En->R T:=λρ=>(fa ρ).bind λx=>(fb ρ).bind λy=>(g x y).bind λk=>if k=true then (fc ρ).bind λz=>(e y z).bind λi => .ok (.bl i) else .ok (.bl false)
def C8 (g e :T->T->R Bool)(fa fb fc:En->R T):En->R Bool:=λρ=>(fa ρ).bind λx=>(fb ρ).bind λy=>(g x y).bind λk=>if k=true then (fc ρ).bind λz=>e y z else .ok false
theorem XZ (nx:Nx g)(l :Nx g')(N:mL X (compareOp op) (WA g))(o :mL X (compareOp op') (WA g'))(M:jc X Y a fa)(F:jc X Y b fb)(C:jc X Y c fc)
  (P:lastMarks [op,op'] [b,c]=false:=by with_unfolding_all rfl):Snd X Y (.Compare a [op,op'] [b,c] pos) (nh g g' fa fb fc):= .mk λρ=>
 PE.imp (vV N o (M ρ) (F ρ) (C ρ) P) λZ H Q ⟨B,I,q⟩=>step I q λt v S _ s1 J x y=>step x y λt' U H2 _ w u r i=>by
  cases e:g t t' with
  | bad=>rw[e]at i;exact i.elim
  | ex c=>exact absurd e (nx _ _ _)
  | ok k=>
   rw[e]at i;refine⟨t,t',k,J.mono w,u,e,k,rfl, ?_⟩;cases k with
   | false=>exact ZA r i (.bl _)
   | true=>
    refine step r i λp v3 H3 _ D O G j=> ?_
    ·cases e:g' t' p with
     | bad=>rw[e]at j;exact j.elim
     | ex c=>exact absurd e (l _ _ _)
     | ok k=>rw[e]at j;exact⟨t',p,k,u.mono D,O,e,ZA G j (.bl k)⟩
theorem k7 (nx:Nx g)(l :Nx g')(N:mL X (compareOp op) (WA g))(o :mL X (compareOp op') (WA g'))(M:jc X Y a fa)(F:jc X Y b fb)(C:jc X Y c fc)
  (P:lastMarks [op,op'] [b,c]=false:=by with_unfolding_all rfl):Wx X Y (.Compare a [op,op'] [b,c] pos) (C8 g g' fa fb fc):= .mk λρ=>
 PT.imp (vW N o (M ρ) (F ρ) (C ρ) P) λZ H Q ⟨B,I,q⟩=>step I q λt v S _ s1 J x y=>step x y λt' U H2 _ w u r i=>by
  cases e:g t t' with
  | bad=>rw[e]at i;exact i.elim
  | ex c=>exact absurd e (nx _ _ _)
  | ok k=>
   rw[e]at i;refine⟨t,t',k,J.mono w,u,e,k,rfl, ?_⟩;cases k with
   | false=>exact⟨false,rfl,ZA r i rfl⟩
   | true=>
    refine step r i λp v3 H3 _ D O G j=> ?_
    ·cases e:g' t' p with
     | bad=>rw[e]at j;exact j.elim
     | ex c=>exact absurd e (l _ _ _)
     | ok k=>rw[e]at j;exact⟨t',p,k,u.mono D,O,e,k,rfl,ZA G j rfl⟩
def k8 (r u g :R2)(w tb tc C:TE):TE:=λe H Q=>w e H λx v=>tb e v λy o=>r x y o λz H3=>∃k,z= .bl k/\
 (if k=true then tc e H3 λj p=>u y j p λq i=>∃l,q = .bl l /\(if l =true then C e i λw2 B=>g j w2 B Q else Q (.bl false) i) else Q (.bl false) H3)
theorem YD (ho:mL X (compareOp op) r)(j :mL X (compareOp op') r')(i :mL X (compareOp op'') r'')(ha:PE X a ta)(hb:PE X b tb)(hc:PE X c tc)(hd:PE X d td)
  (hm:lastMarks [op,op',op''] [b,c,d]=false:=by with_unfolding_all rfl):PE X (.Compare a [op,op',op''] [b,c,d] pos) (k8 r r' r'' ta tb tc td):=by
 intro q s g H Q I h;refine Compare_chain (mo (ha _ s g H _ I h) λv s1 ⟨x,H1,O,r1,U⟩=>chain_link (mo (hb _ s1 g H1 _ O U) λu M ⟨y,H2,I2,G,q2⟩=>
  mo (ho _ M g H2 x y v u _ I2 r1 G q2) λd' s3 ⟨z,H3,p,r3,k,e,D⟩=> ?_)) hm
 subst e;cases r3;refine bp ?_;cases k with
 | false=>exact ite_ff ⟨.bl _,H3,p,rfl,D⟩
 | true=>
  refine ite_tt (chain_link (mo (hc _ s3 g H3 _ p D) λC S ⟨o,P,I4,B,Z⟩=>mo (j _ S g P y o u C _ I4 G B Z) λd2 s5 ⟨z5,l,F,N,J,e5,w⟩=> ?_));subst e5;cases N;refine bp ?_;cases J with
  | false=>exact ite_ff ⟨.bl _,l,F,rfl,w⟩
  | true=>exact ite_tt (chain_last (mo (hd _ s5 g l _ F w) λw6 s6 ⟨z6,H6,I6,r6,q6⟩=>i _ s6 g H6 o z6 C w6 Q I6 B r6 q6))
def sC (g j i :T->T->R Bool)(fa fb fc fd:En->R T):En->R T:=λρ=>(fa ρ).bind λx=>(fb ρ).bind λy=>(g x y).bind λk=>if k=true then (fc ρ).bind λz=>(j y z).bind λl =>
 if l =true then (fd ρ).bind λw=>(i z w).bind λe => .ok (.bl e) else .ok (.bl false) else .ok (.bl false)
theorem V5 (nx:Nx g)(u :Nx g')(j :Nx g'')(ho:mL X (compareOp op) (WA g))(w :mL X (compareOp op') (WA g'))(i :mL X (compareOp op'') (WA g''))
  (ha:jc X Y a fa) (U:jc X Y b fb) (O:jc X Y c fc) (hd:jc X Y d fd)
  (hm:lastMarks [op,op',op''] [b,c,d]=false:=by with_unfolding_all rfl):Snd X Y (.Compare a [op,op',op''] [b,c,d] pos) (sC g g' g'' fa fb fc fd):= .mk λρ=>
 PE.imp (YD ho w i (ha ρ) (U ρ) (O ρ) (hd ρ) hm) λσ H Q ⟨B,I,q⟩=>step I q λt v H1 _ s1 Z J N=>step J N λt' v' H2 _ G F D l=>by
  cases e:g t t' with
  | bad=>rw[e]at l;exact l.elim
  | ex c=>exact absurd e (nx _ _ _)
  | ok k=>
   rw[e]at l;refine⟨t,t',k,Z.mono G,F,e,k,rfl, ?_⟩;cases k with
   | false=>exact ZA D l (.bl _)
   | true=>
    refine step D l λr v3 H3 _ S C x o=> ?_
    ·cases e:g' t' r with
     | bad=>rw[e]at o;exact o.elim
     | ex c=>exact absurd e (u _ _ _)
     | ok k=>
      rw[e]at o;refine⟨t',r,k,F.mono S,C,e,k,rfl, ?_⟩;cases k with
      | false=>exact ZA x o (.bl _)
      | true=>
       refine step x o λy v4 H4 _ M r4 P p=> ?_
       ·cases e:g'' r y with
        | bad=>rw[e]at p;exact p.elim
        | ex c=>exact absurd e (j _ _ _)
        | ok k=>rw[e]at p;exact⟨r,y,k,C.mono M,r4,e,ZA P p (.bl k)⟩
variable {rest:List Expr}{ga gb:En->R Bool}
def jg (fa fb:En->R T):En->R T:=λρ=>(fa ρ).bind λx=>match x with
 | .bl true=>fb ρ
 | .bl false=> .ok (.bl false)
 | _=> .bad
def se (fa fb:En->R T):En->R T:=λρ=>(fa ρ).bind λx=>match x with
 | .bl true=> .ok (.bl true)
 | .bl false=>fb ρ
 | _=> .bad
def V6 (fa:En->R T):En->R T:=λρ=>(fa ρ).bind λx=>match x with
 | .bl k=> .ok (.bl (!k))
 | _=> .bad
theorem Fb {op}(h:Snd X Y a fa):Snd X Y (.BoolOp op [a] pos) fa:= .mk λρ=>Gf (h ρ)
theorem Fy (l:Snd X Y a fa)(i:Snd X Y (.BoolOp .And (b :: rest) pos) fb):Snd X Y (.BoolOp .And (a :: b :: rest) pos) (jg fa fb):= .mk λρ=>
 PE.imp (Gg (l ρ) (i ρ)) λr H Q ⟨B,I,q⟩=>step I q λt v p _ o j g e=>by
  cases j with
  | bl k=>
   refine⟨k,rfl, ?_⟩;cases k with
   | true=>exact⟨_,g,e⟩
   | false=>exact ZA g e (.bl _)
  | _=>exact e.elim
theorem Bk (l:Snd X Y a fa)(i:Snd X Y (.BoolOp .Or (b :: rest) pos) fb):Snd X Y (.BoolOp .Or (a :: b :: rest) pos) (se fa fb):= .mk λρ=>
 PE.imp (E9 (l ρ) (i ρ)) λr H Q ⟨B,I,q⟩=>step I q λt v p _ o j g e=>by
  cases j with
  | bl k=>
   refine⟨k,rfl, ?_⟩;cases k with
   | false=>exact⟨_,g,e⟩
   | true=>exact ZA g e (.bl _)
  | _=>exact e.elim
theorem E8 (i:Snd X Y a fa):Snd X Y (.UnaryOp .Not a pos) (V6 fa):= .mk λρ=>
 PE.imp (Gh (i ρ)) λp H Q ⟨B,I,q⟩=>step I q λt v o _ l g j e=>by
  cases g with
  | bl k=>exact⟨k,rfl,ZA j e (.bl _)⟩
  | _=>exact e.elim
structure Y2 (X:Cx) (Y:Fx) (e:Expr) (f:En->R Bool):Prop where
 mk ::
 go:∀ρ,PW X e (tS Y rE f ρ)
instance {X:Cx}{Y:Fx}{e:Expr}{f:En->R Bool}:CoeFun (Y2 X Y e f) λ_=>∀ρ,PW X e (tS Y rE f ρ):=⟨Y2.go⟩
theorem Y2.t (h:Y2 X Y e f):Wx X Y e f:= .mk λρ=>(h ρ).pt
theorem PW.imp (h:PW X e t)(i:∀g H Q,t' g H Q->t g H Q):PW X e t' :=λk j s g H Q I q=>h k _ s g H Q I (i g H Q q)
def GN (fa fb:En->R Bool):En->R Bool:=λρ=>(fa ρ).bind λx=>if x=true then fb ρ else .ok false
def nz (fa fb:En->R Bool):En->R Bool:=λρ=>(fa ρ).bind λx=>if x=true then .ok true else fb ρ
def uy (fa:En->R Bool):En->R Bool:=λρ=>(fa ρ).bind λx=> .ok (!x)
theorem GO (h:Wx X Y a ga):Y2 X Y (.BoolOp .And [a] pos) ga:= .mk λρ=>Xr (h ρ)
theorem D7 (h:Wx X Y a ga):Y2 X Y (.BoolOp .Or [a] pos) ga:= .mk λρ=>Gc (h ρ)
theorem DD (l:Wx X Y a ga)(j:Y2 X Y (.BoolOp .And (b :: rest) pos) gb):Y2 X Y (.BoolOp .And (a :: b :: rest) pos) (GN ga gb):= .mk λρ=>
 PW.imp (Ge (l ρ) (j ρ)) λr H Q ⟨B,I,q⟩=>step I q λt v p _ o k g i=>by
  have e :=k;subst e;cases v with
  | true=>exact⟨_,g,i⟩
  | false=>exact ZA g i rfl
theorem BE (l:Wx X Y a ga)(j:Y2 X Y (.BoolOp .Or (b :: rest) pos) gb):Y2 X Y (.BoolOp .Or (a :: b :: rest) pos) (nz ga gb):= .mk λρ=>
 PW.imp (FQ (l ρ) (j ρ)) λr H Q ⟨B,I,q⟩=>step I q λt v p _ o k g i=>by
  have e :=k;subst e;cases v with
  | false=>exact⟨_,g,i⟩
  | true=>exact ZA g i rfl
theorem Fa (i:Wx X Y a ga):Wx X Y (.UnaryOp .Not a pos) (uy ga):= .mk λρ=>
 PT.imp (xy (i ρ)) λp H Q ⟨B,I,q⟩=>step I q λt v o _ l g j k=>by
  have e :=g;subst e;exact ZA j k rfl
noncomputable def BQ:T->R Bool
 | .bl k=> .ok k
 | .non=> .ok false
 | .int i=> .ok (i != 0)
 | .tup e=> .ok (!e.isEmpty)
 | .lst e=> .ok (!e.isEmpty)
 | _=> .bad
def wg (fa:En->R T):En->R Bool:=λρ=>(fa ρ).bind BQ
theorem Dc (r:zr H xs ts):(!xs.isEmpty)= !ts.isEmpty:=by cases r <;> rfl
theorem Hb (p:jc X Y a fa)(l:∀e,isTrue a X.env e=(do let v ← e;standAt a.pos;holding [v] (truthy v)):=by intro _;rfl):Wx X Y a (wg fa):= .mk λρ=>
 PT.imp (U6 (p ρ) l) λw H Q ⟨B,I,q⟩=>step I q λt v u _ x o j g=>by
  cases o with
  | bl k=>exact⟨k,rfl,ZA j g rfl⟩
  | non=>exact⟨false,rfl,ZA j g rfl⟩
  | int i=>exact⟨_,rfl,ZA j g rfl⟩
  | tup h r=>exact⟨_,.inr (.inl ⟨_,SqT.of h,rfl⟩),ZA j g (Dc r)⟩
  | lst h r=>exact⟨_,.inl ⟨_,SqL.of h,rfl⟩,ZA j g (Dc r)⟩
  | _=>exact g.elim
def nD (g:En->R Bool)(fa fb:En->R T):En->R T:=λρ=>(g ρ).bind λk=>if k=true then fa ρ else fb ρ
theorem Bs (o:Wx X Y c ga)(l:Snd X Y a fa)(j:Snd X Y b fb):Snd X Y (.IfExp c a b pos) (nD ga fa fb):= .mk λρ=>
 PE.imp (vT (o ρ) (l ρ) (j ρ)) λu H Q ⟨B,I,q⟩=>step I q λt v r _ p k g i=>by
  have e :=k;subst e;cases v with
  | true=>exact⟨_,g,i⟩
  | false=>exact⟨_,g,i⟩
end
end PV
namespace PV
open PySem PySem.Spec PyProof.Rows L2
section
variable {X:Cx}{Y:Fx}{a b c d:Expr}{fa fb fc fd:En->R T}{pos p:Pos}
def mn (g:T->R T)(fa:En->R T):En->R T:=λρ=>(fa ρ).bind g
noncomputable abbrev mP (X:Cx)(a:Expr):Prop:=starEach [a] X.env=[(false,eval a X.env)]
theorem WB {id:String}{x:Str}{r:List V->Hp->VK->Prop}{g:T->R T}(u:Z4 X (.builtin id) r)(hr:∀v t B H Q,Rep H v t->zj B H->Po Y rC B H (g t) Q->r [v] H Q)
  (l:Gl X x) (y:X.mg x=none) (C:bootBuiltins x=some (.builtin id)) (j:jc X Y a fa) (e:mP X a:=by exact mD rfl) (hn:x ≠ "__name__":=by decide) (hd:(x == ("__debug__":Str))=false:=by decide):Snd X Y (.Call (.Name x p) [a] [] pos) (mn g fa):= .mk λρ=>
 PE.imp (Zl u l y C (zi (j ρ) zw e) hn hd e rfl) λF H Q ⟨B,I,q⟩=>step I q λt v w _ D i k o=>hr v t _ w Q i k.sB o
theorem YE {id:String}{x:Str}{r:List V->Hp->VK->Prop}{g:T->R T}(u:Z4 X (.type id) r)(hr:∀v t B H Q,Rep B v t->zj B H->Po Y rC B H (g t) Q->r [v] H Q)
  (l:Gl X x) (y:X.mg x=none) (C:bootBuiltins x=some (.type id)) (j:Snd X Y a fa) (e:mP X a:=by exact mD rfl) (hn:x ≠ "__name__":=by decide) (hd:(x == ("__debug__":Str))=false:=by decide):Snd X Y (.Call (.Name x p) [a] [] pos) (mn g fa):= .mk λρ=>
 PE.imp (Zf u l y C (zi (j ρ) zw e) hn hd e rfl) λF H Q ⟨B,I,q⟩=>step I q λt v w _ D i k o=>hr v t _ w Q i k.sB o
def ZL:T->R T
 | .tup e=> .ok (.int e.length)
 | .lst e=> .ok (.int e.length)
 | .fz e=> .ok (.int e.length)
 | .str x=>if x.length<=mq then .ok (.int x.length) else .bad
 | _=> .bad
theorem EG (v:V)(t:T)(B H:Hp)(Q:VK)(r:Rep H v t)(e:zj B H)(q:Po Y rC B H (ZL t) Q):
  (∃p i,[v]=[V.ref p]/\(SqL X.K H p i\/SqT X.K H p i)/\Q (V.int i.length) H)\/(∃z,[v]=[V.str z]/\z.length<=sizeLine/\Q (V.int z.length) H):=by
 cases r with
 | tup h r=>exact .inl ⟨_,_,rfl,.inr (SqT.of h),mO e q rfl (by rw[r.length];exact .int _)⟩
 | lst h r=>exact .inl ⟨_,_,rfl,.inl (SqL.of h),mO e q rfl (by rw[r.length];exact .int _)⟩
 | fz h r=>exact .inl ⟨_,_,rfl,.inl (.inl (.inr ⟨_,h⟩)),mO e q rfl (by rw[r.length];exact .int _)⟩
 | str x=>
  by_cases g:x.length<=mq
  ·exact .inr ⟨x,rfl,Zj g,mO e q (if_pos g) (.int _)⟩
  ·rw[show ZL (.str x)= .bad from if_neg g]at q;exact q.elim
 | _=>exact q.elim
theorem Dy (i:Gl X "len")(e:X.mg "len"=none)(j:jc X Y a fa)(g:mP X a:=by exact mD rfl):Snd X Y (.Call (.Name "len" p) [a] [] pos) (mn ZL fa):=
 WB (Wt.or Wu) EG i e PySem.boot_len j g
noncomputable def gI:T->R T
 | .tup e=> .ok (.tup e)
 | .lst e=> .ok (.tup e)
 | _=> .bad
theorem FH (v:V)(t:T)(B H:Hp)(Q:VK)(r:Rep B v t)(e:zj B H)(q:Po Y rC B H (gI t) Q):
  ∃p g,[v]=[V.ref p]/\((SqL X.K H p g/\∀l,H l=none->Q (.ref l) (ml H l (.tup g)))\/(SqT X.K H p g/\Q (.ref p) H)):=by
 cases r with
 | tup h r=>exact⟨_,_,rfl,.inr ⟨SqT.of (e _ _ h),mO e q rfl (.tup h r)⟩⟩
 | lst h r=>exact⟨_,_,rfl,.inl ⟨SqL.of (e _ _ h),λl i=>GG e q rfl r i⟩⟩
 | _=>exact q.elim
theorem k9 (i:Gl X "tuple")(e:X.mg "tuple"=none)(j:Snd X Y a fa)(g:mP X a:=by exact mD rfl):Snd X Y (.Call (.Name "tuple" p) [a] [] pos) (mn gI fa):=
 YE wN FH i e (PyProof.Rows.Boot.«tuple») j g
noncomputable def nu:T->String
 | .non=>"NoneType"
 | .bl _=>"bool"
 | .int _=>"int"
 | .str _=>"str"
 | .tup _=>"tuple"
 | .lst _=>"list"
 | .fz _=>"list"
def ng (n:String)(t:T):Bool:=nu t == n || (n == "int" && nu t == "bool")
theorem EW (K:ai)(r:Rep H v t):yn K H v (.type (nu t)):=by
 cases r with
 | non=>exact .non
 | bl b=>exact .bl b
 | int b=>exact .int b
 | str b=>exact .str b
 | tup h _=>exact .tup h
 | lst h _=>exact .lst h
 | fz h _=>exact .frz h
theorem Ua:Z4 X (.builtin "isinstance") (λg H Q=>∃v n t,g=[v,.ty n]/\Rep H v t/\bO X.K (.type (nu t)) (.type n)=some (ng n t)/\Q (.bl (ng n t)) H):=by
 intro i s x H g o Q I l h;obtain⟨v,n,t,rfl,r,j,q⟩:=h;obtain⟨u,w,rfl,k,e⟩:=ym l;obtain rfl:w=Value.type n:=e;exact Yo I k (EW X.K r) j λtk=>⟨.bl _,H,I.tok tk,rfl,q⟩
def Y3 (n:String)(t:T):R T:= .ok (.bl (ng n t))
theorem ke (K:ai)(t:T):bO K (.type (nu t)) (.type "int")=some (ng "int" t):=by cases t <;> rfl
theorem V7 (K:ai)(t:T):bO K (.type (nu t)) (.type "bool")=some (ng "bool" t):=by cases t <;> rfl
theorem kg (K:ai)(t:T):bO K (.type (nu t)) (.type "str")=some (ng "str" t):=by cases t <;> rfl
theorem WC (K:ai)(t:T):bO K (.type (nu t)) (.type "tuple")=some (ng "tuple" t):=by cases t <;> rfl
theorem Ub (K:ai)(t:T):bO K (.type (nu t)) (.type "list")=some (ng "list" t):=by cases t <;> rfl
theorem V8 (l:∀t,bO X.K (.type (nu t)) (.type n)=some (ng n t))(u:Gl X "isinstance")(y:X.mg "isinstance"=none)(i :Gl X (aD n))(g :X.mg (aD n)=none)(C:bootBuiltins (aD n)=some (.type n))(o:jc X Y a fa)
  (j:starEach [a,.Name (aD n) p'] X.env=[(false,eval a X.env),(false,eval (.Name (aD n) p') X.env)]:=by exact nj rfl rfl) (e:starEach [.Name (aD n) p'] X.env=[(false,eval (.Name (aD n) p') X.env)]:=by exact mD rfl)
  (hn:aD n ≠ "__name__":=by decide) (hd:(aD n == ("__debug__":Str))=false:=by decide) (hz:((backTo pos (starEach [.Name (aD n) p'] X.env)).any λx=>x.fst)=false:=by exact zL rfl):
  Snd X Y (.Call (.Name "isinstance" p) [a,.Name (aD n) p'] [] pos) (mn (Y3 n) fa):= .mk λρ=>
 PE.imp (Zl Ua u y PyProof.Rows.Boot.«isinstance» (zi (o ρ) (zi (wL (v:= .ty n) i g C rfl hn hd) zw e) (by rw[j,e])) (by decide) (by decide) (by rw[j,e]) hz) λG H Q ⟨B,I,q⟩=>
  step I q λt v F _ D k r w=>⟨v,n,t,rfl,k,l t,mO r.sB w rfl (.bl _)⟩
def mT (e:List T)(i:Int):R T:=match mZ e i with
 | some t=> .ok t
 | none=> .bad
def kj:T->T->R T
 | .tup e,.int i=>mT e i
 | .lst e,.int i=>mT e i
 | .fz e,.int i=>mT e i
 | .str z,.int i=>if z.length<=mq then match mZ z.cps.toList i with | some c=> .ok (.str ⟨#[c]⟩) | none=> .bad else .bad
 | _,_=> .bad
theorem YF (r:zr H xs ts)(h:mZ ts i=some t):∃v,mZ xs i=some v/\Rep H v t:=by
 unfold mZ at h ⊢;rw[r.length];cases e:oX _ i with
 | none=>rw[e]at h;cases h
 | some j=>
  rw[e]at h;obtain⟨v,g,k⟩:=r.get (h);exact⟨v,g,k⟩
theorem Bg (G:Snd X Y a fa)(y:Snd X Y b fb)(M:Ys b:=by exact λ_ _=>rfl):Snd X Y (.Subscript a b pos) (zc kj fa fb):= .mk λρ=>
 PE.imp (XF xD (G ρ) (y ρ) M) λP H Q ⟨B,I,q⟩=>step I q λt v N _ S u C F=>step C F λt' O x _ D J j g=>by
  have u:=u.mono (zv.ge C.sB D);cases J with
  | int i=>
   cases u with
   | @tup _ l ts h r=>
    have g:Po Y rC _ x (mT ts i) Q:=g;unfold mT at g;split at g
    ·rename_i t' e;obtain⟨w,o,k⟩:=YF r e;exact .inr (.inl ⟨_,l,i,w,rfl,rfl,SqT.of (j.sB _ _ h),o,mO j.sB g rfl k⟩)
    ·exact g.elim
   | @lst _ l ts h r=>
    have g:Po Y rC _ x (mT ts i) Q:=g;unfold mT at g;split at g
    ·rename_i t' e;obtain⟨w,o,k⟩:=YF r e;exact .inl ⟨_,l,i,w,rfl,rfl,SqL.of (j.sB _ _ h),o,mO j.sB g rfl k⟩
    ·exact g.elim
   | @fz _ _ l ts h r=>
    have g:Po Y rC _ x (mT ts i) Q:=g;unfold mT at g;split at g
    ·rename_i t' e;obtain⟨w,o,k⟩:=YF r e;exact .inl ⟨_,l,i,w,rfl,rfl,.inl (.inr ⟨_,j.sB _ _ h⟩),o,mO j.sB g rfl k⟩
    ·exact g.elim
   | str z=>
    have g:Po Y rC _ x (if z.length<=mq then match mZ z.cps.toList i with | some c=> .ok _ | none=> .bad else .bad) Q:=g
    split at g
    ·rename_i y;split at g
     ·rename_i c e;exact .inr (.inr ⟨z,i,c,rfl,rfl,Zj y,e,mO j.sB g rfl (.str _)⟩)
     ·exact g.elim
    ·exact g.elim
   | _=>exact g.elim
  | _=>cases u <;> exact g.elim
structure kh (X:Cx) (Y:Fx) (e:Option Expr) (f:En->R (Option Int)):Prop where
 mk ::
 go:∀ρ,PO X e (tS Y rE f ρ)
instance {X:Cx}{Y:Fx}{e:Option Expr}{f:En->R (Option Int)}:CoeFun (kh X Y e f) λ_=>∀ρ,PO X e (tS Y rE f ρ):=⟨kh.go⟩
def pO:En->R (Option Int):=λ_=> .ok none
def yu (fa:En->R T):En->R (Option Int):=λρ=>(fa ρ).bind λt=>match t with
 | .int i=> .ok (some i)
 | _=> .bad
theorem PO.imp {e:Option Expr}{t t' :TO}(h:PO X e t)(i:∀g H Q,t' g H Q->t g H Q):PO X e t' :=λj s g H Q I q=>h _ s g H Q I (i g H Q q)
theorem GP:kh X Y none pO:= .mk λρ=>PO.imp Xy λe H Q ⟨B,I,q⟩=>ZA I q rfl
theorem GQ (j:Snd X Y a fa):kh X Y (some a) (yu fa):= .mk λρ=>PO.imp (Xz (j ρ)) λr H Q ⟨B,I,q⟩=>step I q λt v o _ l g k e=>by
 cases g with
 | int i=>exact⟨i,rfl,ZA k e rfl⟩
 | _=>exact e.elim
noncomputable def nU (e:List T)(lo hi:Option Int):List T:=(e.drop (HT.sIx e.length 0 lo)).take (HT.sIx e.length e.length hi - HT.sIx e.length 0 lo)
def A4 (t:T)(lo hi:Option Int):R T:=match t with
 | .tup e=> .ok (.tup (nU e lo hi))
 | .lst e=> .ok (.lst (nU e lo hi))
 | _=> .bad
def pB (fa:En->R T)(e g:En->R (Option Int)):En->R T:=λρ=>(fa ρ).bind λt=>(e ρ).bind λlo=>(g ρ).bind λhi=>A4 t lo hi
theorem YG {lo hi:Option Int}(r:zr H xs ts):zr H (gH xs lo hi) (nU ts lo hi):=by
 unfold gH nU;rw[r.length];exact(r.drop _).take _
theorem jF {lo hi:Option Int}(e:IsTup s.heap t items)(o:s.heap.IsSliceOf sl vl vu .none)(pl:IsPart vl lo)(q:IsPart vu hi)
  (l:HT.sIx items.size 0 lo=0/\HT.sIx items.size items.size hi=items.size) (h:Q (.ref t) s):wpAny (model prog w) A (getItem (.ref t) (.ref sl)) Q E s:=by
 obtain⟨os,i,j,r⟩:=id o;have k:s.TypeIs (.ref sl) _:=⟨os,i,j⟩;unfold getItem
 try with_reducible refine bi ?_
 refine a8 (wpAny_sequenceKey e.typeIs (by decide) ?_)
 refine a8 (aW e.typeIs bE
  (aL bE e.typeIs entry_tuple_getitem ?_ (args_tuple_getitem _ _)))
 show wpAny _ _ (fN _ >>= _) _ _ s;refine a8 (tupleItemsOf_ e ?_);refine a8 (cO k ?_);refine a8 (HT.sliceApplied_gen o pl q ?_);have g:(((HT.sIx items.size 0 lo):Int) == 0 && (1:Int) == 1 && (HT.sIx items.size items.size hi - HT.sIx items.size 0 lo) == items.size)=true:=by
  rw[l.1,l.2];simp
 show wpAny _ _ (if (((HT.sIx _ 0 lo:Nat):Int) == 0 && (1) == 1 && (HT.sIx _ _ hi - HT.sIx _ 0 lo) == items.size)=true then _ else _) _ _ s
 rw[if_pos g];refine a8 (a8 (cO e.typeIs (aa ?_)));exact a8 (cx (aa ⟨_,rfl,aa h⟩))
theorem yv:SlR X (λx lo hi H Q=>∃a e,x= .ref a/\SqT X.K H a e/\(HT.sIx e.length 0 lo=0/\HT.sIx e.length e.length hi=e.length)/\Q (.ref a) H):=by
 intro k s C H x v vl B lo hi sl Q I u l pl o h;obtain⟨a,e,rfl,w,y,q⟩:=h;obtain rfl:v=Value.ref a:=u;obtain⟨i,r,j,hz⟩:=I.tuple w;have g:i.toArray.size=e.length:=by exact r.length.symm
 refine⟨"tuple",_,bE.lookup,j.typeIs, ?_⟩;exact jF j l pl o (by rw[g];exact y) ⟨.ref a,H,I,rfl,q⟩
theorem ki {lo hi:Option Int}(e:HT.sIx xs.length 0 lo=0)(g:HT.sIx xs.length xs.length hi=xs.length):nU xs lo hi=xs:=by
 unfold nU;rw[e,g];simp
theorem kl {lo hi:Option Expr}{x C:En->R (Option Int)}(S:Snd X Y a fa)(N:kh X Y lo x)(U:kh X Y hi C):Snd X Y (.Subscript a (.Slice lo hi none p2) pos) (pB fa x C):= .mk λρ=>
 PE.imp (vZ (Gw.or (yv.or XH)) (S ρ) (N ρ) (U ρ)) λσ H Q ⟨B,I,q⟩=>step I q λt v H1 _ s1 o y M=>step y M λl Z H2 _ G F D P=>step D P λh h' H3 _ O J g k=>by
  have w :=F;have u :=J;subst w u;have o:=o.mono ((zv.ge y.sB G).trans (zv.ge D.sB O));cases o with
  | @tup _ e ts j r=>
   by_cases i:HT.sIx e.length 0 Z =0/\HT.sIx e.length e.length h' =e.length
   ·refine .inr (.inl ⟨_,e,rfl,SqT.of (g.sB _ _ j),i,mO g.sB k rfl ?_⟩);rw[r.length]at i;rw[ki i.1 i.2];exact .tup j r
   ·exact .inl ⟨_,e,rfl,SqT.of (g.sB _ _ j),i,λp hp=>GG g.sB k rfl (YG r) hp⟩
  | @lst _ e ts j r=>
   exact .inr (.inr ⟨_,e,rfl,SqL.of (g.sB _ _ j),λp hp=>GH g.sB k rfl (YG r) hp⟩)
  | _=>exact k.elim
noncomputable def YH (t t' :T):R T:=match t,t' with
 | .int i,.int j=> .ok (.int (if j < i then j else i))
 | _,_=> .bad
theorem GR (C:X.calm=true)(x:Gl X "min")(F:X.mg "min"=none)(u:Snd X Y a fa)(o:Snd X Y b fb)
  (l:starEach [a,b] X.env=[(false,eval a X.env),(false,eval b X.env)]:=by exact nj rfl rfl) (e:starEach [b] X.env=[(false,eval b X.env)]:=by exact mD rfl):
  Snd X Y (.Call (.Name "min" p) [a,b] [] pos) (zc YH fa fb):= .mk λρ=>
 PE.imp (Zl (Yl C) x F PyProof.Rows.Boot.«min» (zi (u ρ) (zi (o ρ) zw e) (by rw[l,e])) (by decide) (by decide) (by rw[l,e]) (by rw[e];rfl)) λP H Q ⟨B,I,q⟩=>
  step I q λt v O _ M r w y=>step w y λt' N J _ G k D g=>by
   cases r with
   | int i=>
    cases k with
    | int j=>exact⟨i,j,rfl,mO D.sB g rfl (.int _)⟩
    | _=>exact g.elim
   | _=>cases k <;> exact g.elim
noncomputable def ut:List T->Option Bool
 | []=>some true
 | .bl k :: r=>match ut r with | some j=>some (k && j) | none=>none
 | _ :: _=>none
def km:T->R T
 | .lst ts=>match ut ts with | some k=> .ok (.bl k) | none=> .bad
 | _=> .bad
theorem YI:∀{H:Hp} {l:List V} {ts:List T} {g:List Value} {k:Bool},zr H l ts->Vals l g->ut ts=some k->∃tr:Nat->Bool,(∀i v,g[i]? =some v->v=Value.bool (tr i))/\(ba g.length).all tr=k
 | _,_,_,_,k,.nil,.nil,h=>by
  have h' :=h;cases h';exact⟨λ_=>true,λi v e=>by simp at e,rfl⟩
 | H,_,_,_,k,.cons r rs,.cons (b:=u) rv vs,h=>by
  cases r with
  | bl b=>
   unfold ut at h;split at h
   ·rename_i j e;cases h;obtain⟨tr,o,q⟩:=YI rs vs e;obtain rfl:u=Value.bool b:=rv;refine⟨λi=>match i with | 0=>b | i+1=>tr i,λi v e=> ?_, ?_⟩
    ·cases i with
     | zero=>simp at e;exact e.symm
     | succ i=>exact o i v (by simpa using e)
    ·rw[ar,di,f9,lq,← q];rfl
   ·cases h
  | _=>cases h
theorem YJ (M:X.A.handled=none):Z4 X (.builtin "all") (λvs H Q=>∃l w ts k,vs=[.ref l]/\H l=some (.lst w)/\zr H w ts/\ut ts=some k/\Q (.bl k) H):=by
 intro C s O H vs U Q I y h;obtain⟨l,w,ts,k,rfl,B,r,D,q⟩:=h;obtain⟨u,rfl,N⟩:=Ze y;obtain rfl:u=Value.ref l:=N;obtain⟨j,y,p,_⟩:=zH I (.inl B) r;obtain⟨tr,F,J⟩:=YI r y D;refine call_all_walk (cn p ?_);have x:=I.hok.lt B;have old:∀b o,s.heap.get? b=some o->(s.heap.push { cls:= .type "list_iterator",data:= .fields #[.ref l,.int 0 0] }).get? b=some o:=λb o e=>a9 _ e;refine⟨s.heap.objs.size,_,_,_,_,_,tr,rfl,ij (A:=X.A.in1) M _ l (au x) j.toArray, ?_, ?_,λh' tk g => ?_⟩
 ·refine⟨?_,p.at λo e=>old _ o e⟩;exact⟨_,ae _ rfl,rfl,rfl⟩
 ·intro i v P S Z hi G;rw[F i v (by simpa using hi)]
  exact bp G
 ·rw[aF,J];refine⟨.bl k,H,I.kept (λb o e=>g b o ?_ (old b o e)),rfl,q⟩;simp;exact au (ao e)
theorem Es (w:X.A.handled=none)(i:Gl X "all")(j:X.mg "all"=none)(u:jc X Y a fa)(x:mP X a:=by exact mD rfl):Snd X Y (.Call (.Name "all" p) [a] [] pos) (mn km fa):=
 WB (YJ w) (λv t B H Q r g q=>by
  cases r with
  | @lst l o ts h r=>
   have q:Po Y rC B H (match ut ts with | some k=> .ok _ | none=> .bad) Q:=q
   split at q
   ·rename_i k e;exact⟨l,o,ts,k,rfl,h,r,e,mO g q rfl (.bl k)⟩
   ·exact q.elim
  | _=>exact q.elim) i j PyProof.Rows.Boot.«all» u x
end
inductive RS where
 | nx (ρ:En) | rt (t:T) | bk (ρ:En) | ct (ρ:En) | ex (c:Nat) | bad | rf (ts:List T)
noncomputable def R.s {d:Type}(r:R d)(k:d->RS):RS:=match r with
 | .ok a=>k a
 | .ex c=> .ex c
 | .bad=> .bad
def PoS (Y:Fx)(B:Hp)(r:RS)(D:xw):Prop:=match r with
 | .nx g =>∀σ' d e,zj B e ->SI Y e g σ' d ->D.nx σ' d
 | .rt t=>∀v d,zj Y.H0 d ->Rep (zv Y.B0 Y.H0 d) v t->D.rt v d
 | .bk g =>∀σ' d e,zj B e ->SI Y e g σ' d ->D.bk σ' d
 | .ct g =>∀σ' d e,zj B e ->SI Y e g σ' d ->D.ct σ' d
 | .ex c=>XP Y B c
 | .bad=>False
 | .rf ts=>∀a i d e,zj Y.H0 d ->Y.H0 a=none->d a=some (.lst i)->zr e i ts->e a=none->zj e (zv Y.B0 Y.H0 d)->D.rt (.ref a) d
theorem PoS.up {r:RS}{D:xw}(s:zj B B')(h:PoS Y B r D):PoS Y B' r D:=by
 cases r with
 | nx ρ=>exact λσ' a g e I=>h σ' a g (s.trans e) I
 | bk ρ=>exact λσ' a g e I=>h σ' a g (s.trans e) I
 | ct ρ=>exact λσ' a g e I=>h σ' a g (s.trans e) I
 | rt t=>exact h
 | rf t=>exact h
 | ex c=>exact λd a i j=>h d a i (s.trans j)
 | bad=>exact h
def py (Y:Fx)(f:En->RS)(ρ:En):TS:=λD a H=>∃B,SI Y B ρ a H/\PoS Y B (f ρ) D
structure wR (X:Cx) (Y:Fx) (e:Stmt) (f:En->RS):Prop where
 mk ::
 go:∀ρ,PS X e (py Y f ρ)
instance {X:Cx}{Y:Fx}{e:Stmt}{f:En->RS}:CoeFun (wR X Y e f) λ_=>∀ρ,PS X e (py Y f ρ):=⟨wR.go⟩
structure wS (X:Cx) (Y:Fx) (e:List Stmt) (f:En->RS):Prop where
 mk ::
 go:∀ρ,PSs X e (py Y f ρ)
instance {X:Cx}{Y:Fx}{e:List Stmt}{f:En->RS}:CoeFun (wS X Y e f) λ_=>∀ρ,PSs X e (py Y f ρ):=⟨wS.go⟩
theorem jG {i j:Type}{g:Hp->Hp->j->i->Prop}{f:En->R i}{k:i->RS}{D:xw}{K:j->Hp->Prop}
  (I:SI Y B ρ σ H) (h:PoS Y B ((f ρ).s k) D)
  (n:∀a b d,f ρ= .ok a->zj H d->g (zv B H d) d b a->SI Y (zv B H d) ρ σ d->PoS Y (zv B H d) (k a) D->K b d):tS Y g f ρ σ H K:=by
 refine⟨B,I, ?_⟩;cases e:f ρ with
 | bad=>rw[e]at h;exact h
 | ex c=>rw[e]at h;exact h
 | ok a=>
  rw[e]at h;exact λb d s r=>n a b d e s r (I.grow s) (PoS.up (zv.ge I.sB s) h)
theorem zn {c:Type}{a:List c}{x y:c}(h:(a.set i x)[j]? =some y):(j=i/\y=x)\/(j ≠ i/\a[j]? =some y):=by
 by_cases e:j=i
 ·subst e
  by_cases d:j < a.length
  ·rw[bj d]at h;exact .inl ⟨rfl,(aE h).symm⟩
  ·rw[aN (by rw[bP];omega)]at h;cases h
 ·rw[aC (bf e)]at h;exact .inr ⟨e,h⟩
theorem Uc {c:Type}{a:List c}{x y:c}(h:(a.set i x)[i]? =some y):i < a.length:=by
 by_cases d:i < a.length
 ·exact d
 ·rw[aN (by rw[bP];omega)]at h;cases h
theorem StI.set {O:Addr->Option (Nat×Nat)}(x:StI Y B ρ σ H as O)(i:Nat)(s:Sl)(v:Option V)(p:s.isO=false)(l:∀ts,s ≠ .ow ts):StI Y B (ρ.set i s) (σ.set i v) H as O:=
 x.on (λj y hy h=>by
  rcases zn h with ⟨_,e⟩ | ⟨a,h'⟩
  ·rw[e,p]at hy;cases hy
  ·exact⟨h',aC (bf a)⟩) (zj.refl _) rfl rfl (zj.refl _) λb o d k g _=>⟨d,k,g,λok j c h=>by
  rcases zn h with ⟨_,e⟩ | ⟨a,h'⟩
  ·exact absurd e.symm (l c)
  ·rw[aC (bf a)];exact ok j c h'⟩
theorem SI.setV (I:SI Y B ρ σ H)(i:Nat)(r:Rep B v t):SI Y B (ρ.set i (.vl t)) (σ.set i (some v)) H where
 s0:=I.s0
 sH:=I.sH
 sB:=I.sB
 old:=I.old
 len:=by rw[bP,bP];exact I.len
 vl:=λj u h=>by
  rcases zn h with ⟨rfl,e⟩ | ⟨g,h'⟩
  ·cases e;exact⟨v,bj (by rw[← I.len];exact Uc h),r⟩
  ·obtain⟨w,e,l⟩:=I.vl j u h';exact⟨w,by rw[aC (bf g)];exact e,l⟩
 ow:=λj M h=>by
  rcases zn h with ⟨rfl,e⟩ | ⟨g,h'⟩
  ·cases e
  ·obtain⟨a,C,e,F,D,J,l,d⟩:=I.ow j M h';refine⟨a,C,by rw[aC (bf g)];exact e,F,D,J,l,λk q y G=> ?_⟩
   rcases zn G with ⟨rfl,N⟩ | ⟨o,p⟩
   ·cases N
   ·rw[aC (bf o)];exact d k q y p
 xc:=λj c h=>by
  rcases zn h with ⟨rfl,e⟩ | ⟨g,h'⟩
  ·cases e
  ·obtain⟨a,e,r⟩:=I.xc j c h';exact⟨a,by rw[aC (bf g)];exact e,r⟩
 st:=let ⟨as,O,x⟩:=I.st;⟨as,O,x.set i _ _ rfl (λ_=>Sl.noConfusion)⟩
theorem SI.newO (I:SI Y B ρ σ H)(i:Nat)(hp:H p=none)(r:zr B xs ts):SI Y B (ρ.set i (.ow ts)) (σ.set i (some (.ref p))) (ml H p (.lst xs)) where
 s0:=I.s0
 sH:=I.sH.trans (zj.new hp _)
 sB:=I.sB.trans (zj.new hp _)
 old:=I.old
 len:=by rw[bP,bP];exact I.len
 vl:=λj u h=>by
  rcases zn h with ⟨rfl,e⟩ | ⟨g,h'⟩
  ·cases e
  ·obtain⟨w,e,N⟩:=I.vl j u h';exact⟨w,by rw[aC (bf g)];exact e,N⟩
 ow:=λj F h=>by
  have op:∀k q a,ρ[k]? =some (Sl.ow q)->σ[k]? =some (some (V.ref a))->a ≠ p:=λk q a X S=>by
   obtain⟨a',D,e,_,_,Q,_⟩:=I.ow k q X;rw[e]at S;cases S;exact zC Q hp
  rcases zn h with ⟨rfl,e⟩ | ⟨g,h'⟩
  ·cases e;refine⟨p,xs,bj (by rw[← I.len];exact Uc h),I.sB.free hp,I.sH.free hp,zh,r,λk q J G=> ?_⟩
   rcases zn G with ⟨rfl,Z⟩ | ⟨l,v⟩
   ·exact absurd rfl J
   ·rw[aC (bf l)];exact λz=>op k q p v z rfl
  ·obtain⟨a,D,e,P,M,Q,N,d⟩:=I.ow j F h';refine⟨a,D,by rw[aC (bf g)];exact e,P,M,by rw[zg (op j F a h' e)];exact Q,N,λk q J G=> ?_⟩
   rcases zn G with ⟨rfl,Z⟩ | ⟨l,v⟩
   ·rw[bj (by rw[← I.len];exact Uc G)]
    intro z;exact op j F a h' e (by injection z with z;injection z with z;injection z with z;exact z.symm)
   ·rw[aC (bf l)];exact d k q J v
 xc:=λj c h=>by
  rcases zn h with ⟨rfl,e⟩ | ⟨g,h'⟩
  ·cases e
  ·obtain⟨a,e,r⟩:=I.xc j c h';exact⟨a,by rw[aC (bf g)];exact e,r⟩
 st:=by
  obtain⟨as,O,x⟩:=I.st;refine⟨as,O,x.on (λj y hy h=> ?_) (zj.refl _) rfl rfl (zj.refl _) λb o U P M _=> ?_⟩
  ·rcases zn h with ⟨_,e⟩ | ⟨g,h'⟩
   ·subst e;cases hy
   ·exact⟨h',aC (bf g)⟩
  ·have C:b ≠ p:=zC U hp;refine⟨by rw[zg C];exact U,P,M,λok j F h=> ?_⟩
   rcases zn h with ⟨rfl,e⟩ | ⟨g,h'⟩
   ·rw[bj (by rw[← I.len];exact Uc h)]
    intro z;injection z with z;injection z with z;injection z with z;exact C z.symm
   ·rw[aC (bf g)];exact ok j F h'
theorem SI.chg (I:SI Y B ρ σ H)(i:Nat)(hi:ρ[i]? =some (.ow ts))(q:σ[i]? =some (some (.ref p)))(r:zr B ys P):SI Y B (ρ.set i (.ow P)) σ (ml H p (.lst ys)):=by
 obtain⟨p',xs,e,U,Q,hh,rr,d⟩:=I.ow i ts hi;rw[q]at e;cases e;have Z:∀b o,B b=some o->b ≠ p:=λb o h z=>by subst z;rw[U]at h;cases h
 have n0:∀b o,Y.H0 b=some o->b ≠ p:=λb o h z=>by subst z;rw[Q]at h;cases h
 refine⟨I.s0,λb o h=>by rw[zg (n0 b o h)];exact I.sH b o h,λb o h=>by rw[zg (Z b o h)];exact I.sB b o h,I.old,by rw[bP];exact I.len,λj u h=> ?_,λj S h=> ?_,λj c h=> ?_, ?_⟩
 rotate_right
 ·obtain⟨as,O,x⟩:=I.st;refine⟨as,O,x.on (λj y hy h=> ?_) (zj.refl _) rfl rfl (zj.refl _) λb o J N M cs=> ?_⟩
  ·rcases zn h with ⟨_,e⟩ | ⟨v,h'⟩
   ·subst e;cases hy
   ·exact⟨h',rfl⟩
  ·have g:b ≠ p:=λz=>by
    subst z;rcases cs with ⟨C,dx,vs,ez⟩ | ok
    ·rw[hh]at J;cases J;cases ez
    ·exact ok i ts hi q
   refine⟨by rw[zg g];exact J,N,M,λok j P h=> ?_⟩
   rcases zn h with ⟨rfl,e⟩ | ⟨v,h'⟩
   ·rw[q];intro z;injection z with z;injection z with z;injection z with z;exact g z.symm
   ·exact ok j P h'
 rotate_right
 ·rcases zn h with ⟨rfl,z⟩ | ⟨v,h'⟩
  ·cases z
  ·exact I.xc j c h'
 ·rcases zn h with ⟨rfl,z⟩ | ⟨v,h'⟩
  ·cases z
  ·exact I.vl j u h'
 ·rcases zn h with ⟨rfl,z⟩ | ⟨v,h'⟩
  ·cases z;refine⟨p,ys,q,U,Q,zh,r,λk vs w G=> ?_⟩;rcases zn G with ⟨rfl,e'⟩ | ⟨F,l⟩
   ·exact absurd rfl w
   ·exact d k vs w l
  ·obtain⟨a,D,e,c0,g0,gg,ss,X⟩:=I.ow j S h';have g:a ≠ p:=λz=>by subst z;exact d j S v h' e
   refine⟨a,D,e,c0,g0,by rw[zg g];exact gg,ss,λk vs w G=> ?_⟩
   rcases zn G with ⟨rfl,e'⟩ | ⟨F,l⟩
   ·rw[q];intro z;injection z with z;injection z with z;injection z with z;exact g z.symm
   ·exact X k vs w l
noncomputable def Cd:Sl->Sl
 | .ow ts=> .vl (.lst ts)
 | .ob _ _=> .un
 | .st _=> .un
 | x=>x
def frz (ρ:En):En:=ρ.map Cd
theorem SI.up (I:SI Y B ρ σ H):zj B (zv B Y.H0 H):=λb o h=>by
 cases q:Y.H0 b with
 | none=>rw[zF q];exact I.sB b o h
 | some u=>rw[zE q];exact h
theorem SI.frz (I:SI Y B ρ σ H):SI Y (zv B Y.H0 H) (PV.frz ρ) σ H:=by
 have up:zj B (zv B _ H):=λb o h=>by
  cases q:Y.H0 b with
  | none=>rw[zF q];exact I.sB b o h
  | some u=>rw[zE q];exact h
 refine⟨I.s0,I.sH,λb o h=> ?_,λb o h=>by rw[zE h];exact I.old b o h,by unfold PV.frz;rw[af];exact I.len,λj t h=> ?_,λj ts h=> ?_,λj c h=> ?_, ?_⟩
 rotate_right
 ·have no:∀(j:Nat) (y:Sl),y.isS=true->(PV.frz ρ)[j]? ≠ some y:=λj y hy h=>by
   unfold PV.frz at h;rw[aw]at h;cases e:ρ[j]? with
   | none=>rw[e]at h;cases h
   | some x=>rw[e]at h;cases x <;> (cases h;cases hy)
  obtain⟨Q,O,x⟩:=I.st;refine⟨Y.as,λ_=>none,eZ _,λi os e=>(no i _ rfl e).elim,λi j os p e=>(no i _ rfl e).elim,λi k n e=>(no i _ rfl e).elim,λi k fs h=> ?_,λi os e=>(no i _ rfl e).elim⟩;have h' :ρ[i]? =some (Sl.oc k fs):=by
   unfold PV.frz at h;rw[aw]at h;cases e:ρ[i]? with
   | none=>rw[e]at h;cases h
   | some x=>rw[e]at h;cases x <;> (cases h;try rfl)
  obtain⟨a,C,N,vs,g,J,M,F,D⟩:=x.oc i k fs h';exact⟨a,C,N,vs,g,J,M,F,D.mono up (zj.refl _)⟩
 rotate_right
 ·unfold PV.frz at h;rw[aw]at h;cases e:ρ[j]? with
  | none=>rw[e]at h;cases h
  | some x=>
   rw[e]at h;cases x with
   | xc d=>
    cases h;obtain⟨a,g,r⟩:=I.xc j _ e;exact⟨a,g,up a _ r⟩
   | un=>cases h
   | vl _=>cases h
   | ow _=>cases h
   | ob _ _=>cases h
   | oc _ _=>cases h
   | st _=>cases h
 ·cases q:Y.H0 b with
  | none=>rw[zF q]at h;exact h
  | some u=>rw[zE q]at h;exact I.sB b o h
 ·unfold PV.frz at h;rw[aw]at h;cases e:ρ[j]? with
  | none=>rw[e]at h;cases h
  | some x=>
   rw[e]at h;cases x with
   | un=>cases h
   | vl u=>
    cases h;obtain⟨v,g,r⟩:=I.vl j _ e;exact⟨v,g,r.mono up⟩
   | ow l=>
    cases h;obtain⟨a,S,g,U,w,P,G,_⟩:=I.ow j l e;exact⟨.ref a,g,.lst (by rw[zF w];exact P) (G.mono up)⟩
   | xc _=>cases h
   | ob _ _=>cases h
   | oc _ _=>cases h
   | st _=>cases h
 ·unfold PV.frz at h;rw[aw]at h;cases e:ρ[j]? with
  | none=>rw[e]at h;cases h
  | some x=>
   rw[e]at h;cases x with
   | un=>cases h
   | vl u=>cases h
   | ow l=>cases h
   | xc _=>cases h
   | ob _ _=>cases h
   | oc _ _=>cases h
   | st _=>cases h
theorem WD {Y:Fx}{B H a :Hp}(c:zj Y.H0 H)(old:∀b o,Y.H0 b=some o->B b=Y.B0 b)(s:zj H a)(d:zj B H):zj (zv B H a) (zv Y.B0 Y.H0 a):=λb o h=>by
 cases q:H b with
 | none=>
  rw[zF q]at h;rw[zF (c.free q)];exact h
 | some u=>
  rw[zE q]at h;cases z:Y.H0 b with
  | none=>rw[zF z];exact s b o (d b o h)
  | some w=>rw[zE z,← old b w z];exact h
section
variable {X:Cx}{Y:Fx}{a b c d:Expr}{fa fb fc fd:En->R T}{pos p:Pos}{st:Stmt}{sts sts' :List Stmt}{f g:En->RS}
def my:En->RS:=λρ=> .nx ρ
def zq (f g:En->RS):En->RS:=λρ=>match f ρ with
 | .nx e =>g e
 | r=>r
theorem EX:wS X Y [] my:= .mk λρ=>PSs.imp Yd λD e H ⟨B,I,q⟩=>q e H B (zj.refl B) I
theorem Fv (h:wR X Y st f):wS X Y [st] f:= .mk λρ=>ZO (h ρ)
theorem GS (o:wR X Y st f)(r:wS X Y sts g):wS X Y (st :: sts) (zq f g):= .mk λρ=>by
 refine PSs.imp (Za (u:=λD j H=>∃i,py Y g i D j H) (o ρ) ?_) ?_
 ·intro k s j H D I ⟨i,q⟩;exact r i _ s j H D I q
 ·intro D j H ⟨B,I,q⟩;refine⟨B,I, ?_⟩;unfold zq at q;cases e:f ρ with
  | nx i =>
   rw[e]at q;intro σ' x v w l;exact⟨i,v,l,PoS.up w q⟩
  | rt t=>rw[e]at q;exact q
  | rf t=>rw[e]at q;exact q
  | bk i =>rw[e]at q;exact q
  | ct i =>rw[e]at q;exact q
  | ex c=>rw[e]at q;exact q
  | bad=>rw[e]at q;exact q
def zJ (i:Nat)(fa:En->R T):En->RS:=λρ=>(fa ρ).s λt=> .nx (ρ.set i (.vl t))
theorem GT (j:X.N.Nodup)(hi:X.N[i]? =some x)(u:L2.Loc X.env.scope x)(k:Snd X Y a fa)(w:swapsWith a (some (.Name x p')) pos.line X.env=pure false:=by rfl)
  (o:X.fn x=true\/X.env.scope.names.lookup x=some .local:=by first | exact .inl rfl | exact .inr rfl | assumption):wR X Y (.Assign [.Name x p'] a pos) (zJ i fa):= .mk λρ=>
 PS.imp (jP j hi u (k ρ) w o) λD F H ⟨B,I,q⟩=>jG I q λt v C _ y e l r=>r _ _ _ (zj.refl _) (l.setV i e)
def WF (i:Nat)(e:En->R (List T)):En->RS:=λρ=>(e ρ).s λts=>if ts.length<=mq then .nx (ρ.set i (.ow ts)) else .bad
theorem GU (l:X.N.Nodup)(hi:X.N[i]? =some x)(v:L2.Loc X.env.scope x)(o:ur X Y es ga)(w:swapsWith (.List es p) (some (.Name x p')) pos.line X.env=pure false:=by rfl)
  (u:X.fn x=true\/X.env.scope.names.lookup x=some .local:=by first | exact .inl rfl | exact .inr rfl | assumption):wR X Y (.Assign [.Name x p'] (.List es p) pos) (WF i ga):= .mk λρ=>
 PS.imp (jP l hi v (Yp (o ρ)) w u) λD F H ⟨B,I,q⟩=>jG I q λts vs C _ y j r e=>by
  split at e
  ·rename_i k;exact⟨by rw[j.length];exact Zj k,λp hp=>e _ _ _ (zj.refl _) (r.newO i hp j)⟩
  ·exact e.elim
def zA (fa:En->R T):En->RS:=λρ=>(fa (frz ρ)).s λt=> .rt t
theorem Fj (k:Snd X Y a fa):wR X Y (.Return (some a) pos) (zA fa):= .mk λρ=>
 PS.imp (jo (k _)) λD o H ⟨B,I,q⟩=>by
  refine⟨_,I.frz, ?_⟩;unfold zA at q;cases e:fa _ with
  | bad=>rw[e]at q;exact q
  | ex c=>
   rw[e]at q;exact λd i l j=>q d i l (I.up.trans j)
  | ok t=>
   rw[e]at q;intro v i s r;have J:=I.frz;exact q v i (I.sH.trans s) (r.mono (WD J.sH J.old s J.sB))
def mB (g:En->R Bool)(e i:En->RS):En->RS:=λρ=>(g ρ).s λk=>if k=true then e ρ else i ρ
theorem ET (l:Wx X Y c ga)(o:wS X Y sts f)(r:wS X Y sts' g):wR X Y (.If c sts sts' pos) (mB ga f g):= .mk λρ=>
 PS.imp (Gi (l ρ) (o ρ) (r ρ)) λD x H ⟨B,I,q⟩=>jG I q λt v w _ u k i j=>by
  have e :=k;subst e;cases v with
  | true=>exact⟨_,i,j⟩
  | false=>exact⟨_,i,j⟩
def J6 (fa:En->R T):En->RS:=λρ=>(fa ρ).s λ_=> .nx ρ
theorem GV (e:Snd X Y a fa)(k:swapsWith a none pos.line X.env=pure false:=by rfl):wR X Y (.Expr a pos) (J6 fa):= .mk λρ=>
 PS.imp (jD (e ρ) k) λD u H ⟨B,I,q⟩=>jG I q λt v r _ o l i j=>j _ _ _ (zj.refl _) i
def Ud (i:Nat)(fa:En->R T):En->RS:=λρ=>match ρ[i]? with
 | some (.ow ts)=>(fa ρ).s λt=>if ts.length < mq then .nx (ρ.set i (.ow (ts++[t]))) else .bad
 | _=> .bad
def uu (i:Nat)(fa:En->R T):En->RS:=λρ=>match ρ[i]? with
 | some (.ow ts)=>(fa ρ).s λt=>match t with
  | .lst e=>if ts.length+e.length<=mq then .nx (ρ.set i (.ow (ts++e))) else .bad
  | _=> .bad
 | _=> .bad
theorem WG (h:n < mq):n < sizeLine:=by exact h
theorem Fg (N:PE X (.Name x px) (Jo i))(M:Snd X Y a fa)(o:attributeBase (.Name x px) "append" X.env (eval (.Name x px) X.env)=eval (.Name x px) X.env:=by rfl)(r:mP X a:=by exact mD rfl)
  (hz:(pa.endLine == p.line)=true:=by rfl) (F:swapsWith (.Call (.Attribute (.Name x px) "append" pa) [a] [] p) none pos.line X.env=pure false:=by rfl):wR X Y (.Expr (.Call (.Attribute (.Name x px) "append" pa) [a] [] p) pos) (Ud i fa):= .mk λρ=>by
 have j:(((((backTo p (starEach [a] X.env)).all λx=> !x.fst) && (backToKw p (keywordEach [] X.env)).all λx=>x.fst.isSome) && decide (([a].length+([]:List Keyword).length+if ([]:List Keyword).isEmpty=true then 0 else 1) < 30))=true):=by rw[r];rfl
 refine PS.imp (jD (yr cY dW dX jq N (zi (M ρ) zw r) o j hz r rfl) F) λD Q H ⟨B,I,q⟩=> ?_;unfold Ud at q;split at q
 ·rename_i ts e;obtain⟨l,J,j,S,O,y,u,d⟩:=I.ow i ts e;refine⟨.ref l,j,.inl ⟨rfl,_,SqL.of y⟩, ?_⟩;refine jG I q λt v P _ w G C k=> ?_;split at k
  ·rename_i o;refine⟨l,J,v,rfl,rfl,w _ _ y,by rw[u.length];exact WG o, ?_⟩
   exact k _ _ _ (zj.refl _) (C.chg i e j ((u.mono (zv.ge I.sB w)).append (.cons G .nil)))
  ·exact k.elim
 ·exact q.elim
theorem Fm (S:PE X (.Name x px) (Jo i))(Q:Snd X Y a fa)(o:attributeBase (.Name x px) "extend" X.env (eval (.Name x px) X.env)=eval (.Name x px) X.env:=by rfl)(u:mP X a:=by exact mD rfl)
  (hz:(pa.endLine == p.line)=true:=by rfl) (J:swapsWith (.Call (.Attribute (.Name x px) "extend" pa) [a] [] p) none pos.line X.env=pure false:=by rfl):wR X Y (.Expr (.Call (.Attribute (.Name x px) "extend" pa) [a] [] p) pos) (uu i fa):= .mk λρ=>by
 have k:(((((backTo p (starEach [a] X.env)).all λx=> !x.fst) && (backToKw p (keywordEach [] X.env)).all λx=>x.fst.isSome) && decide (([a].length+([]:List Keyword).length+if ([]:List Keyword).isEmpty=true then 0 else 1) < 30))=true):=by rw[u];rfl
 refine PS.imp (jD (yr cY PySem.F.slot_list_extend PySem.F.type_list_extend Yt S (zi (Q ρ) zw u) o k hz u rfl) J) λD σ H ⟨B,I,q⟩=> ?_;unfold uu at q;split at q
 ·rename_i ts e;obtain⟨l,P,k,b0,Z,G,y,d⟩:=I.ow i ts e;refine⟨.ref l,k,.inl ⟨rfl,_,SqL.of G⟩, ?_⟩;refine jG I q λt v H1 _ C O w j=> ?_;cases O with
  | @lst b M U o r=>
   have j:PoS Y _ (if ts.length+U.length<=mq then .nx _ else .bad) D:=j
   split at j
   ·rename_i N;refine⟨l,b,P,M,rfl,rfl,C _ _ G,w.sB _ _ o,by rw[y.length,r.length];exact Zj N, ?_⟩
    exact j _ _ _ (zj.refl _) (w.chg i e k ((y.mono (zv.ge I.sB C)).append r))
   ·exact j.elim
  | _=>exact j.elim
 ·exact q.elim
end
def spP (cl:Nat->Value)(n:Nat)(g:List T->R T):Sp:=λvs H Q E=>∃B ts,ts.length=n/\zj B H/\zr B vs ts/\Po ⟨B,H,E,cl,[]⟩ rC B H (g ts) Q
theorem spP.len (vs:List V)(H:Hp)(Q:VK)(E:XK)(h:spP cl n g vs H Q E):vs.length=n:=by
 obtain⟨B,ts,a,_,r,_⟩:=h;rw[r.length,a]
def zb (n:Nat)(g:List T->R T)(a:En->R (List T)):En->R T:=λρ=>(a ρ).bind λts=>if ts.length=n then g ts else .bad
section
theorem GW (F:JW X.prog X.w X.K X.mg X.base CX k f fd ps (spP Y.cl n g))(hr:ZF k X.A)(l:Gl X x)(u:X.mg x=some (.ref f))
  (kp:cW X.K (.ref f)=true) (o:L2.Binds X.K fd ps []) (C:ZB CX X Y.E) (y:ur X Y (a :: es) ga) (hd:(x == ("__debug__":Str))=false:=by decide)
  (D:starEach (a :: es) X.env=(false,eval a X.env) :: starEach es X.env:=by exact zo rfl) (hz:((backTo pos (starEach es X.env)).any λx=>x.fst)=false:=by exact zL rfl):Snd X Y (.Call (.Name x p) (a :: es) [] pos) (zb n g ga):= .mk λρ=>
 PE.imp (Zv F hr l u kp o .nil C (y ρ) hd D hz) λJ H Q ⟨B,I,q⟩=>step I q λts vs G _ M v i e=>by
  split at e
  ·rename_i hn;rw[bb];refine⟨_,ts,hn,i.sB,v, ?_⟩;revert e;cases g ts with
   | bad=>exact λe=>e
   | ex c=>exact λe d r s j=>e d r (i.sH.trans s) j
   | ok t=>exact λe=>e
  ·exact e.elim
end
noncomputable def zm:RS->R T
 | .rt t=> .ok t
 | .rf ts=> .ok (.lst ts)
 | .nx _=> .ok .non
 | .ex c=> .ex c
 | _=> .bad
def mv (n:Nat)(ts:List T):En:=ts.map Sl.vl++aq (n - ts.length) Sl.un
theorem zr.vl {H:Hp}:∀{vs:List V} {ts:List T} {i:Nat} {t:T} {n m:Nat},zr H vs ts->(ts.map Sl.vl++aq n Sl.un)[i]? =some (Sl.vl t)->∃v:V,(vs.map some++aq m none)[i]? =some (some v)/\Rep H v t
 | _,_,i,t,n,m,.nil,h=>by
  simp only[c9,cy]at h;rw[aV]at h;split at h
  ·cases h
  ·cases h
 | _,_,0,t,n,m,.cons r _,h=>by
  simp at h;subst h;exact⟨_,rfl,r⟩
 | _,_,i+1,t,n,m,.cons _ q,h=>by
  obtain⟨v,a,c⟩:=zr.vl q (by simpa using h)
  exact⟨v,by simpa using a,c⟩
theorem xH {n:Nat}:∀{ts:List T} {i:Nat} {a:List T},(ts.map Sl.vl++aq n Sl.un)[i]? =some (Sl.ow a)->False
 | [],i,a,h=>by
  simp only[c9,cy]at h;rw[aV]at h;split at h
  ·cases h
  ·cases h
 | t :: ts,0,a,h=>by simp at h
 | t :: ts,i+1,a,h=>xH (by simpa using h)
theorem xI {n:Nat}:∀{ts:List T} {i:Nat} {c:Nat},(ts.map Sl.vl++aq n Sl.un)[i]? =some (Sl.xc c)->False
 | [],i,a,h=>by
  simp only[c9,cy]at h;rw[aV]at h;split at h
  ·cases h
  ·cases h
 | t :: ts,0,a,h=>by simp at h
 | t :: ts,i+1,a,h=>xI (by simpa using h)
theorem uz {n:Nat}{x:Sl}(a:∀t,x ≠ .vl t)(c:x ≠ .un):∀{ts:List T} {i:Nat},(ts.map Sl.vl++aq n Sl.un)[i]? =some x->False
 | [],i,h=>by
  simp only[c9,cy]at h;rw[aV]at h;split at h
  ·exact c (aE h).symm
  ·cases h
 | t :: ts,0,h=>a t (aE (by simpa using h)).symm
 | t :: ts,i+1,h=>uz a c (by simpa using h)
theorem SI.start {Y:Fx}{N:List Str}{vs:List V}{ts:List T}(s:zj Y.B0 Y.H0)(r:zr Y.B0 vs ts):SI Y Y.B0 (mv N.length ts) (L2.start N vs) Y.H0 where
 s0:=s
 sH:=zj.refl _
 sB:=s
 old:=λ_ _ _=>rfl
 len:=by unfold mv L2.start;simp[r.length]
 vl:=λi t h=>r.vl h
 ow:=λi ts h=>(xH h).elim
 xc:=λi c h=>(xI h).elim
 st:=StI.no λi s a h=>uz (λt z=>by rw[z]at a;cases a) (λz=>by rw[z]at a;cases a) h
section
variable {P:Program}{w:World}{K:ai}{mg:Str->Option Value}{base:Heap}
theorem F9 {cl:Nat->Value}{x d:Str}{st:Stmt}{f:Addr}{p:FuncData}{N j:List Str}{k n:Nat}{o:En->RS}{g:List T->R T}(F:Fun K x d st f p)(S:ZQ N j (ze st))(hn:n=j.length)
  (D:∀(cdv:Value) (A:Around) (outer:List Env) (s:Shared) (H:Hp) (E:XK) (Y:Fx),Y.cl=cl->ZF k (A.deeper (envOfC d (ze st) s.heap.objs.size f cdv))->
   wS (ZC mJ P w K mg base N d (ze st) f cdv A outer s H E).nox Y (zR st) o)
  (G:∀ts,ts.length=n->g ts=zm (o (mv N.length ts))):JW P w K mg base mJ (k+1) f p j (spP cl n g):=by
 subst hn;refine F.ok S spP.len λcdv A outer s H vs Q E hr ⟨B,ts,C,J,r,q⟩=> ?_;refine⟨_,D cdv A _ s H E ⟨B,H,E,cl,[]⟩ rfl hr _,B,SI.start J r, ?_⟩;rw[G ts C]at q;revert q;cases o _ with
 | rt t=>exact λq v i s r=>q v i s r
 | rf t=>exact λq a M i y u n e r _ l=>q _ i u (.lst (by rw[zF n];exact e) (r.mono l))
 | nx ρ=>exact λq σ' i y _ I=>q _ i I.sH .non
 | ex c=>exact λq=>q
 | bk ρ=>exact λq=>q.elim
 | ct ρ=>exact λq=>q.elim
 | bad=>exact λq=>q
end
abbrev rI:Hp->Hp->It->List T->Prop:=λB1 _ J ts=>∀B2 H2,zj B1 B2->zj B2 H2->(∀i,i < ts.length->J.go i H2)/\(∀(i:Nat) t x H3,ts[i]? =some t->J.yld i H2 x H3->zj H2 H3/\Rep (zv B2 H2 H3) x t)/\(∀i,ts.length<=i->J.stop i H2)
structure wT (X:Cx) (Y:Fx) (tg iter:Expr) (f:En->R (List T)):Prop where
 mk ::
 go:∀ρ,PI X tg iter (tS Y rI f ρ)
instance {X:Cx}{Y:Fx}{tg iter:Expr}{f:En->R (List T)}:CoeFun (wT X Y tg iter f) λ_=>∀ρ,PI X tg iter (tS Y rI f ρ):=⟨wT.go⟩
section
theorem PI.imp (h:PI X tg e t)(i:∀a H Q,t' a H Q->t a H Q):PI X tg e t' :=λc s a H Q I q=>h _ s a H Q I (i a H Q q)
theorem GX (D:PE X l tl):PI X tg l (λr H R=>tl r H λx c=>∃a,x= .ref a/\(((∃i,SqL X.K c a i)/\R (tj X.K a) c)\/((∃i,SqT X.K c a i)/\R (AF X.K a) c))):=by
 intro u s r H R I h;refine mo (D _ s r H _ I h) λv g ⟨x,c,d,y,C⟩=> ?_;obtain⟨a,e,q⟩:=C;subst e;obtain rfl:v=Value.ref a:=y;have ok:∀b∈[g.heap.objs.size],JY X _ c b:=λb w=>by
  have e:=by simpa using w
  subst e;exact d.fpOk (ah _) (d.hok.fresh (ah _))
 rcases q with ⟨⟨i,j⟩,q⟩ | ⟨⟨i,j⟩,q⟩
 ·obtain⟨k,B,p,hz⟩:=d.list j;exact cn p.isList ⟨g.heap.objs.size,[g.heap.objs.size],_,_,c,rfl,d.kept λb o e=>a9 _ e,Wm a _,⟨_,ae _ rfl,rfl,rfl⟩,ok,q⟩
 ·obtain⟨k,B,p,hz⟩:=d.tuple j;exact cH (show g.heap.IsTuple a _ from p) ⟨g.heap.objs.size,[g.heap.objs.size],_,_,c,rfl,d.kept λb o e=>a9 _ e,wc a _,⟨_,ae _ rfl,rfl,rfl⟩,ok,q⟩
theorem GY {K:ai}{d q:Hp}{a:Addr}{c:List V}{ts:List T}(h:d a=some (.tup c))(r:zr d c ts):rI d q (AF K a) ts:=λo u k j=>by
 have g:=j _ _ (k _ _ h);refine⟨λi hi=> ?_,λi t x H3 e y=> ?_,λi hi=>⟨c,SqT.of g,by rw[r.length];exact hi⟩⟩
 ·obtain⟨v,e,_⟩:=r.get (ak hi);exact⟨c,v,SqT.of g,e⟩
 ·obtain⟨rfl,y⟩:=y;obtain⟨v,p,l⟩:=r.get e;have:=y c (SqT.of g);rw[p]at this;cases this;refine⟨zj.refl _, ?_⟩;rw[zv.self o _ j];exact l.mono k
theorem GZ {K:ai}{d q:Hp}{a:Addr}{c:List V}{ts:List T}(h:d a=some (.lst c))(r:zr d c ts):rI d q (tj K a) ts:=λo u k j=>by
 have g:=j _ _ (k _ _ h);refine⟨λi hi=> ?_,λi t x H3 e y=> ?_,λi hi=>⟨c,SqL.of g,by rw[r.length];exact hi⟩⟩
 ·obtain⟨v,e,_⟩:=r.get (ak hi);exact⟨c,v,SqL.of g,e⟩
 ·obtain⟨rfl,y⟩:=y;obtain⟨v,p,l⟩:=r.get e;have:=y c (SqL.of g);rw[p]at this;cases this;refine⟨zj.refl _, ?_⟩;rw[zv.self o _ j];exact l.mono k
noncomputable def rng (lo:Int)(n:Nat):List T:=(ba n).map λ(i:Nat)=>T.int (lo+(i:Int))
theorem xJ {c d:Hp}{lo:Int}{n:Nat}:rI c d (ro lo n) (rng lo n):=λk j l g=>by
 have a:(rng lo n).length=n:=by unfold rng;simp
 refine⟨λi hi=>by rw[a]at hi;exact hi,λi t x H3 e y=> ?_,λi hi=>by rw[a]at hi;exact hi⟩
 obtain⟨rfl,rfl⟩:=y;refine⟨zj.refl _, ?_⟩;unfold rng at e;rw[aw]at e
 by_cases hi:i < n
 ·rw[dQ hi]at e;cases e;exact .int _
 ·rw[aN (by simp;omega)]at e;cases e
def Zt (a:En->R T):En->R (List T):=λρ=>(a ρ).bind λt=>match t with
 | .int j=>if -1000000 < j/\j < 1000000 then .ok (rng 0 j.toNat) else .bad
 | _=> .bad
def J7 (a c:En->R T):En->R (List T):=λρ=>(a ρ).bind λt=>(c ρ).bind λt' =>match t,t' with
 | .int i,.int j=>if -1000000 < i/\i < 1000000/\ -1000000 < j/\j < 1000000 then .ok (rng i (j - i).toNat) else .bad
 | _,_=> .bad
theorem EE (k:Gl X "range")(o:X.mg "range"=none)(g:Snd X Y a fa)(d:mP X a:=by exact mD rfl):wT X Y tg (.Call (.Name "range" p) [a] [] pos) (Zt fa):= .mk λρ=>PI.imp (Yg k o (zi (g ρ) zw d) d) λu H R ⟨B,I,q⟩=>step I q λt v l _ r e i c=>by
 cases e with
 | int j=>
  have c:Po Y rI _ l (if -1000000 < j/\j < 1000000 then .ok _ else .bad) R:=c
  split at c
  ·exact⟨j,rfl,by omega,by omega,ZA i c xJ⟩
  ·exact c.elim
 | _=>exact c.elim
theorem D8 (w:Gl X "range")(C:X.mg "range"=none)(r:Snd X Y a fa)(k:Snd X Y b fb)(g:starEach [a,b] X.env=[(false,eval a X.env),(false,eval b X.env)]:=by exact nj rfl rfl)(d:mP X b:=by exact mD rfl):wT X Y tg (.Call (.Name "range" p) [a,b] [] pos) (J7 fa fb):= .mk λρ=>
 PI.imp (Yh w C (zi (r ρ) (zi (k ρ) zw d) (by rw[g,d])) g d) λM H R ⟨B,I,q⟩=>step I q λt v J _ F l u x=>step u x λt' G o _ D e y c=>by
  cases l with
  | int i=>
   cases e with
   | int j=>
    have c:Po Y rI _ o (if -1000000 < i/\i < 1000000/\ -1000000 < j/\j < 1000000 then .ok _ else .bad) R:=c
    split at c
    ·exact⟨i,j,rfl,⟨by omega,by omega,by omega,by omega⟩,ZA y c xJ⟩
    ·exact c.elim
   | _=>exact c.elim
  | _=>cases e <;> exact c.elim
def Aa (X:Cx)(Y:Fx)(d:Expr)(g:T->En->R En):Prop:=∃t:TG,PG X d t/\∀B ρ c H v x Q,SI Y B ρ c H->Rep B v x->(match g x ρ with | .ok a =>∀σ',SI Y B a σ' H->Q σ' H | _=>False)->t v c H Q
def zG (i:Nat):T->En->R En:=λt ρ=> .ok (ρ.set i (.vl t))
theorem xK (c:X.N.Nodup)(hi:X.N[i]? =some x)(a:L2.Loc X.env.scope x)(d:X.fn x=true\/X.env.scope.names.lookup x=some .local:=by first | exact .inl rfl | exact .inr rfl | assumption):Aa X Y (.Name x pos) (zG i):=
 ⟨JX i,ZP c hi a d,λB ρ e H v x Q I r q=>q _ (I.setV i r)⟩
def zO (i j:Nat):T->En->R En:=λt ρ=>match t with
 | .tup [x,y]=> .ok ((ρ.set i (.vl x)).set j (.vl y))
 | _=> .bad
theorem DU (p:X.calm=true)(d:X.N.Nodup)(hi:X.N[i]? =some x)(w:X.N[j]? =some y)(o:L2.Loc X.env.scope x)(hy:L2.Loc X.env.scope y)
  (g:X.fn x=true\/X.env.scope.names.lookup x=some .local:=by first | exact .inl rfl | exact .inr rfl | assumption) (c :X.fn y=true\/X.env.scope.names.lookup y=some .local:=by first | exact .inl rfl | exact .inr rfl | assumption):
  Aa X Y (.Tuple [.Name x pos,.Name y p'] k p2) (zO i j):=by
 refine⟨AH X.K 2 _,xz p (Ja (ZP d hi o g) (Ja (ZP d w hy c) Yf)),λB ρ D H v t Q I r q=> ?_⟩;cases r with
 | @tup l C ts h r=>
  cases r with
  | nil=>exact q.elim
  | cons e a=>
   cases a with
   | nil=>exact q.elim
   | cons u a=>
    cases a with
    | cons _ _=>exact q.elim
    | nil=>
     exact⟨l,_,rfl,SqT.of (I.sB _ _ h),rfl,_,_,rfl,_,_,rfl,rfl,q _ ((I.setV i e).setV j u)⟩
 | _=>exact q.elim
def Zp (g:T->En->R En)(a:En->RS):List T->En->RS
 | [],ρ=> .nx ρ
 | t :: ts,ρ=>match g t ρ with
  | .ok ρ1=>match a ρ1 with
   | .nx ρ2=>Zp g a ts ρ2
   | .ct ρ2=>Zp g a ts ρ2
   | .bk ρ2=> .nx ρ2
   | r=>r
  | .ex c=> .bad
  | .bad=> .bad
def j2 (c:En->R (List T))(g:T->En->R En)(a:En->RS):En->RS:=λρ=>(c ρ).s λts=>Zp g a ts ρ
theorem Ev {g:T->En->R En}(hp:PassesOwn (model X.prog X.w) X.A X.env X.xe)(hc:X.calm=true)(hi:wT X Y tg iter fi)(hg:Aa X Y tg g)(hb:wS X Y sts fb)
  (hs:∀x,foldedSetIterable iter X.env x=pure x:=by intro _;rfl):wR X Y (.For tg iter sts [] pos) (j2 fi g fb):= .mk λρ=>by
 obtain⟨tG,hG,Z⟩:=hg;refine PS.imp (xA (tb:=λD O H=>∃a,py Y fb a D O H) hp hc (hi ρ) hG (λpins s O H D I ⟨a,q⟩=>hb a _ s O H D I q) hs) λD O H ⟨B,I,q⟩=> ?_;refine jG I q λts J H1 _ s1 r1 I1 q1=> ?_;refine⟨λi m σ' N =>m=ts.length - i/\i<=ts.length/\∃a o,SI Y o a σ' N /\zj _ o /\PoS Y o (Zp g fb (ts.drop i) a) D,⟨ts.length,by simp,aX _,ρ,_,I1,zj.refl _,q1⟩, ?_⟩
 rintro i m σ' N ⟨rfl,hi,a,o,F,M,j⟩
 obtain⟨P,C,l⟩:=r1 o N M F.sB
 by_cases k:i < ts.length
 ·refine .inr ⟨P i k,λu G=>∃ρ2 v,SI Y v ρ2 u G/\zj _ v/\PoS Y v _ D,λu G ⟨ρ2,v,I2,p,d⟩=>⟨ts.length - (i+1),by omega,rfl,k,ρ2,v,I2,p,d⟩,λx G y=> ?_⟩
  obtain⟨p,r2⟩:=C i _ x G (ak k) y;rw[cJ k]at j;unfold Zp at j;refine Z _ a σ' G x _ _ (F.grow p) r2 ?_;cases U:g _ a with
  | bad=>rw[U]at j;exact j
  | ex c=>rw[U]at j;exact j
  | ok ρ1=>
   rw[U]at j;intro σ1 J1;refine⟨ρ1,_,J1, ?_⟩;have d:=PoS.up (zv.ge F.sB p) j;dsimp only at d;have s3:=M.trans (zv.ge F.sB p);revert d;cases fb ρ1 with
   | nx ρ2=>exact λd σ3 H3 Q r S=>⟨ρ2,Q,S,s3.trans r,PoS.up r d⟩
   | ct ρ2=>exact λd σ3 H3 Q r S=>⟨ρ2,Q,S,s3.trans r,PoS.up r d⟩
   | bk ρ2=>exact λd=>d
   | rt t=>exact λd=>d
   | rf t=>exact λd=>d
   | ex c=>exact λd=>d
   | bad=>exact λd=>d
 ·have e:i=ts.length:=by omega
  subst e;rw[e_]at j;exact .inl ⟨l _ (ah _),j σ' N o (zj.refl _) F⟩
def Zq (g:En->R Bool)(a:En->RS):Nat->En->RS
 | 0,_=> .bad
 | n+1,ρ=>(g ρ).s λk=>if k=true then match a ρ with
   | .nx ρ2=>Zq g a n ρ2
   | .ct ρ2=>Zq g a n ρ2
   | .bk ρ2=> .nx ρ2
   | r=>r
  else .nx ρ
theorem YK (hp:PassesOwn (model X.prog X.w) X.A X.env X.xe)(M:Wx X Y c ga)(N:wS X Y sts fb):wR X Y (.While c sts [] pos) (Zq ga fb n):= .mk λρ=>by
 refine PS.imp (vU (tc:=λe H Q=>∃a,tS Y rE ga a e H Q) (tb:=λD e H=>∃a,py Y fb a D e H) hp (λi s e H D I ⟨a,q⟩=>M a _ s e H D I q) (λi s e H D I ⟨a,q⟩=>N a _ s e H D I q)) λD e H ⟨B,I,q⟩=> ?_;refine⟨λm σ' C =>∃a l,SI Y l a σ' C /\PoS Y l (Zq ga fb m a) D,⟨n,ρ,B,I,q⟩, ?_⟩
 rintro m σ' C ⟨a,l,J,u⟩
 cases m with
 | zero=>exact u.elim
 | succ m=>
  unfold Zq at u;refine⟨a,jG J u λt v P _ S O x y=> ?_⟩;have j :=O;subst j;cases v with
  | false=>exact y _ _ _ (zj.refl _) x
  | true=>
   refine⟨λg F=>∃ρ2 G,SI Y G ρ2 g F/\PoS Y G _ D,λg F h=>⟨m,cF m,h⟩,a,_,x, ?_⟩;revert y;cases fb a with
   | nx ρ2=>exact λd r H3 o k p=>⟨ρ2,o,p,PoS.up k d⟩
   | ct ρ2=>exact λd r H3 o k p=>⟨ρ2,o,p,PoS.up k d⟩
   | bk ρ2=>exact λd=>d
   | rt t=>exact λd=>d
   | rf t=>exact λd=>d
   | ex c=>exact λd=>d
   | bad=>exact λd=>d
end
theorem Js:∀(i:List (Str×NameKind)) (acc:List (Str×Addr)),(∀x∈i,x.2=NameKind.free->∃c,env.cells.lookup x.1=some c)->(∀x c,acc.lookup x=some c->env.cells.lookup x=some c)->
  ∃cl,(forIn i acc (λ(x:Str×NameKind) (r:List (Str×Addr))=>if (x.2 == NameKind.free)=true then (do let c ← cellOf env x.1;pure (ForInStep.yield ((x.1,c) :: r))) else pure (ForInStep.yield r)):Sem _)=pure cl/\
   (∀x c,cl.lookup x=some c->env.cells.lookup x=some c)/\(∀x c,acc.lookup x=some c->∃c',cl.lookup x=some c')/\(∀x∈i,x.2=NameKind.free->∃c,cl.lookup x.1=some c)
 | [],acc,_,h=>⟨acc,rfl,h,λx c e=>⟨c,e⟩,λx a=>by simp at a⟩
 | (n,k) :: i,acc,o,h=>by
  by_cases l:k=NameKind.free
  ·obtain⟨c,w⟩:=o _ ac l;have h' :∀x d,((n,c) :: acc).lookup x=some d->env.cells.lookup x=some d:=λx d e=>by
    by_cases a:x=n
    ·subst a;have v :=by simpa[aG] using e
     cases v;exact w
    ·have v :=by
      rw[aG,(beq_eq_false_iff_ne.mpr a)]at e;exact e
     exact h x d v
   obtain⟨cl,e,u,j,p⟩:=Js i _ (λx a=>o x (ab _ a)) h';refine⟨cl, ?_,u,λx d y=> ?_,λx a g=> ?_⟩
   ·rw[m7];subst l;have q:cellOf env n=pure c:=by unfold cellOf;rw[w]
    simp only[beq_self_eq_true,if_true,q];exact e
   ·by_cases a:x=n
    ·subst a;exact j x c (by simp[aG])
    ·exact j x d (by rw[aG,(beq_eq_false_iff_ne.mpr a)];exact y)
   ·rcases ag.mp a with rfl | a
    ·exact j n c (by simp[aG])
    ·exact p x a g
  ·obtain⟨cl,e,u,j,p⟩:=Js i acc (λx a=>o x (ab _ a)) h;refine⟨cl, ?_,u,j,λx a g=> ?_⟩
   ·rw[m7];have q:(k == NameKind.free)=false:=by simpa using l
    simp only[q,az,if_false];exact e
   ·rcases ag.mp a with rfl | a
    ·exact absurd g l
    ·exact p x a g
theorem wU (g:∀x∈scope.names,x.2=NameKind.free->∃c,env.cells.lookup x.1=some c):
  ∃cl,closureFor scope env=pure cl/\(∀x c,cl.lookup x=some c->env.cells.lookup x=some c)/\(∀x∈scope.names,x.2=NameKind.free->∃c,cl.lookup x.1=some c):=by
 obtain⟨cl,e,d,_,a⟩:=Js _ [] g (λx c e=>by simp at e)
 refine⟨cl, ?_,d,a⟩;unfold closureFor;exact(by simpa using e)
def oU (X:Cx)(scope:Scope)(N' :List Str)(cl:List (Str×Addr))(C:Addr)(c:Shared)(H3:Hp)(fp:List Addr)(a:List (Addr×Obj)):Cx:=
 { X with N:=N',s₀:=c,H₀:=H3,env:=compEnvC scope cl C X.env,outer:=X.stack,stack:=X.stack,ex:=fp,fn:=λ_=>false,pn:=X.pn++a,xe:=λ_ _=>False }
structure Ad (X:Cx) (scope:Scope):Prop where
 kind:scope.kind= .function
 nocell:∀x∈scope.names,x.2 ≠ .cell
 loc:∀x∈scope.names,x.2= .local->scope.names.lookup x.1=some .local
 fre:∀x∈scope.names,x.2= .free->X.env.kindOf x.1=some .cell\/X.env.kindOf x.1=some .free
theorem jt (h:(relabel scope env).names.lookup x=some k)(g:k= .cell\/k= .free)(hn:∀x∈scope.names,x.2 ≠ NameKind.cell):∃y∈scope.names,y.1=x/\y.2= .free:=by
 have go:∀a:List (Str×NameKind),(∀x∈a,x.2 ≠ NameKind.cell)->(a.map λ(n,k)=>if (k == NameKind.free && env.scope.kind == .function && env.kindOf n == some .cell) then (n,NameKind.cell) else (n,k)).lookup x=some k->∃y∈a,y.1=x/\y.2= .free:=by
  intro a
  induction a with
  | nil=>intro _ h;simp at h
  | cons y a i=>
   intro hn h;obtain⟨n,e⟩:=y
   by_cases d:x=n
   ·subst d;refine⟨(x,e),ac,rfl, ?_⟩;rw[aA]at h
    by_cases c:(e == NameKind.free && env.scope.kind == .function && env.kindOf x == some .cell)=true
    ·rw[aj,aj]at c;exact eq_of_beq c.1.1
    ·simp only[if_neg c,aG,beq_self_eq_true]at h;cases h;rcases g with rfl | rfl
     ·exact absurd rfl (hn _ ac)
     ·rfl
   ·obtain⟨z,hz,j,l⟩:=i (λz hz=>hn z (ab _ hz)) (by
     rw[aA]at h
     by_cases c:(e == NameKind.free && env.scope.kind == .function && env.kindOf n == some .cell)=true
     ·simp only[if_pos c,aG,(beq_eq_false_iff_ne.mpr d)]at h;exact h
     ·simp only[if_neg c,aG,(beq_eq_false_iff_ne.mpr d)]at h;exact h)
    exact⟨z,ab _ hz,j,l⟩
 exact go _ hn h
section
theorem YL (I:L2.Inv X pins σ H s)(S:Ad X scope)(hc:X.calm=true)
  (a:∀x c,cl.lookup x=some c->X.env.cells.lookup x=some c) (F:∀x∈scope.names,x.2=NameKind.free->∃c,cl.lookup x.1=some c)
  (r:∀b∈fp,JY X pins H b) (hfo:∀b∈fp,∃o,s.heap.get? b=some o)
  (U:h'.Ns s.heap.objs.size (λ_=>none)) (D:∀b o,s.heap.get? b=some o->h'.get? b=some o)
  (hl:σ'.length=N'.length) (hσ:∀(i:Nat) (x:Str) (v:V),N'[i]? =some x->σ'[i]? =some (some v)->∃j:Nat,X.N[j]? =some x/\σ[j]? =some (some v)/\pH X.env.scope x/\(scope.names.lookup x=some .free)/\(X.env.kindOf x=some .cell\/X.env.kindOf x=some .free)):
  L2.Inv (oU X scope N' cl s.heap.objs.size s H fp pins) [] σ' H { s with heap:=h',toks:=tk }:=by
 have M:=I.stkSub;have hlt:=λb g=>let ⟨o,e⟩:=hfo b g;ao e;have fresh:=I.hok.fresh (ah _);refine⟨⟨I.ok.mod,S.kind,I.ok.glob,I.ok.blt,ah _,λx y c h1 Z=>I.ok.inj x y c (a _ _ h1) (a _ _ Z),λx B=> ?_,λx c h _=>(ax h).elim,λ_=>I.ok.hd hc,I.ok.frames,.inl rfl,λb g=> ?_,I.bs,
   aB I.ok.bsz I.sz,λb o e g=> ?_,λb g hb' => ?_,I.stack,I.stkFree⟩,rfl,I.bare,Un.kept D,⟨_,U,λi x v h1 Z h3=> ?_⟩,λx c e=> ?_,fresh,λx c e=>I.freeC x c (a _ _ e),λp hp=> ?_,I.hok.kept D,hl⟩
 ·have hx' :=B;obtain⟨y,hy,rfl,Q⟩:∃y∈scope.names,y.1=x/\y.2= .free:=by
   rcases hx' with h | h
   ·exact jt h (.inl rfl) S.nocell
   ·exact jt h (.inr rfl) S.nocell
  exact F y hy Q
 ·refine⟨au (hlt b g),λx c e=>(r b g).2.2.2.2.1 x c (a _ _ e)⟩
 ·rcases(r b g).2.2.2.1 with h | h
  ·exact I.ok.noex b o e h
  ·exact absurd (aM (ao e) (aB I.ok.bsz h)) (aY _)
 ·have q:=r b g;rcases ag.mp (M b hb') with z | z
  ·exact q.2.1 z
  ·exact q.2.2.1 z
 ·obtain⟨j,e1,e2,e3,e4,e5⟩:=hσ i x v h1 Z;obtain⟨m,hn,O⟩:=I.loc;obtain⟨u,ru,lk⟩:=O j x v e1 e2 e3;refine⟨u,ru,.inr ⟨?_, ?_⟩⟩
  ·rcases h3 with h | h | h
   ·exfalso;have:∀C:List _,C.lookup x=some .free->(C.map λ(n,k)=>if (k == NameKind.free && X.env.scope.kind == .function && X.env.kindOf n == some .cell) then (n,NameKind.cell) else (n,k)).lookup x ≠ some .local:=by
     intro C
     induction C with
     | nil=>intro z;simp at z
     | cons y C ih=>
      obtain⟨n,k⟩:=y;intro z w;rw[aA]at w
      by_cases B:x=n
      ·subst B;have hkf:=by simpa[aG] using z
       by_cases d:(k == NameKind.free && X.env.scope.kind == .function && X.env.kindOf x == some .cell)=true
       ·simp only[if_pos d,aG,beq_self_eq_true]at w;cases w
       ·simp only[if_neg d,aG,beq_self_eq_true]at w;rw[hkf]at w;cases w
      ·have z' :=by rw[aG,(beq_eq_false_iff_ne.mpr B)]at z;exact z
       refine ih z' ?_
       by_cases d:(k == NameKind.free && X.env.scope.kind == .function && X.env.kindOf n == some .cell)=true
       ·simp only[if_pos d,aG,(beq_eq_false_iff_ne.mpr B)]at w;exact w
       ·simp only[if_neg d,aG,(beq_eq_false_iff_ne.mpr B)]at w;exact w
    exact this _ e4 h
   ·exact .inl h
   ·exact .inr h
  ·rcases lk with ⟨J,_⟩ | ⟨_,c,P,l⟩
   ·rcases e5 with z | z <;> (rw[z]at J;cases J)
   ·obtain⟨c',G⟩:=F _ (br e4) rfl;have:=a x c' G;rw[P]at this;cases this;obtain⟨o,eo,ed⟩:=l;exact⟨c,G,o,D _ _ eo,ed⟩
 ·obtain⟨v,o,eo,ed⟩:=I.cell x c (a _ _ e);exact⟨v,o,D _ _ eo,ed⟩
 ·have hp' :=by
   have:=hp;rwa[bb]at this
  obtain⟨e,n,ne,nf,dc⟩:=I.pin p hp';refine⟨D _ _ e,n,au (ao e),λg=> ?_,dc⟩;rcases ag.mp (M _ g) with z | z
  ·exact ne z
  ·exact nf z
end
def PIf (X:Cx)(d:List Expr)(t:TT):Prop:=
 ∀(a:List (Addr×Obj)) (s:Shared) (e:Sg) (H:Hp) (Q:Bool->Hp->Prop),L2.Inv X a e H s->t e H Q->
  wpAny (model X.prog X.w) X.A (forIn d true λc r=>if r=true then do let ok ← isTrue c X.env (eval c X.env);pure (ForInStep.yield ok) else pure (ForInStep.yield r)) (TP X a e Q) X.xe s
theorem ko:PIf X [] (λ_ H Q=>Q true H):=λ_ _ a H _ I h=>wpAny_tests_nil ⟨H,I,h⟩
theorem ku (h:PT X c t):PIf X [c] t:=λa s d H Q I q=>wpAny_tests_one (h _ s d H Q I q)
noncomputable abbrev XE (X:Cx)(xe:Value->Shared->Prop):Cx:={ X with xe:=xe }
theorem Ue (I:L2.Inv X pins σ H s):L2.Inv (XE X xe) pins σ H s:=
 ⟨⟨I.ok.mod,I.ok.kind,I.ok.glob,I.ok.blt,I.ok.above,I.ok.inj,I.ok.has,I.ok.cab,I.ok.hd,I.ok.frames,I.ok.stk,I.ok.exf,I.ok.bs,I.ok.bsz,I.ok.noex,I.ok.exfs,I.ok.funs,I.ok.frf⟩,I.os,I.bare,I.base,I.loc,I.cell,I.free,I.freeC,I.pin,I.hok,I.len⟩
theorem YM (I:L2.Inv (XE X xe) pins σ H s):L2.Inv X pins σ H s:=(Ue I:L2.Inv _ _ σ H s)
theorem Fz (g:X.xe=λ_ _=>False)(h:PG X e t):PG (XE X xe) e t:=λa s k H v u Q I r q=>cG (h _ s k H v u Q (YM I) r q) (λ_ c ⟨σ',i,d,j⟩=>⟨σ',i,Ue d,j⟩) λe c z=>by rw[g]at z;exact z.elim
theorem FK (g:X.xe=λ_ _=>False)(h:PIf X e t):PIf (XE X xe) e t:=λa s k H Q I q=>cG (h _ s k H Q (YM I) q) (λ_ c ⟨i,d,j⟩=>⟨i,Ue d,j⟩) λe c z=>by rw[g]at z;exact z.elim
theorem Uf {c:Type}{m:Sem c}{Q:c->Shared->Prop}(hE:∀e a,E' e a ->E e a)(h:wpAny M A m Q E' s):wpAny M A m Q E s:=cG h (λ_ _ q=>q) hE
def yw (J:It)(D:Addr)(g:TG)(tt:TT)(te:TE)(e:Sg->Hp->Prop)(W:Nat->Nat->List V->Sg->Hp->Prop):Prop:=
 ∀i m c j H,W i m c j H->H D=some (.lst c)/\((J.stop i H/\e j H)\/(J.go i H/\∀x l,J.yld i H x l->g x j l λa H3=>tt a H3 λk o=>
  if k=true then te a o λv p=>p D=some (.lst c)/\c.length < sizeLine/\∃d,d < m/\W (i+1) d (c++[v]) a (ml p D (.lst (c++[v]))) else ∃d,d < m/\W (i+1) d c a o))
theorem WH {X:Cx}{R:Result->Shared->Prop}(hx:∀e F,X.xe e F ->notedBy (model X.prog X.w) X.A X.env (λe F =>R (.error e) F) e F)(hc:X.calm=true){tg iter elt:Expr}{ifs:List Expr}{scope:Scope}{pos:Pos}{J:It}{fp:List Addr}{it:Addr}{tn:Nat->Heap->Prop}(TJ:U3 X.prog X.w X.K tg J fp it tn)
  {g:TG} {tt:TT} {te:TE} (hg:PG X tg g) (ht:PIf X ifs tt) (he:PE X elt te) {D:Addr} {Z:Sg->Hp->Prop} (W:Nat->Nat->List V->Sg->Hp->Prop) (Q:yw J D g tt te Z W)
  (hR:∀s σ H,L2.Inv X [] σ H s->Z σ H->R (.ok .next) s) {m0:Nat} {G:Sg} {H0:Hp} {s0:Shared} (w0:W 0 m0 [] G H0) (I0:L2.Inv X [] G H0 s0) (t0:tn 0 s0.heap) (f0:∀b∈fp,JY X [] H0 b):
  codeAny (model X.prog X.w) X.A (.compLoop (.ListComp elt [⟨tg,iter,ifs,0⟩] scope pos) 0 (.ref it) (.ref D) X.env) R s0:=by
 have c:∀{j :Hp},(∀b∈fp,j b=none)->∀b∈fp,JY X [] j b:=λhn b q=>⟨hn b q,(f0 b q).2⟩;refine codeAny_loop rfl (λn F =>∃i N σ' j,L2.Inv X [] σ' j F /\tn i F.heap/\(∀b∈fp,j b=none)/\W i n N σ' j) (λn s3 h3=> ?_) m0 ⟨0,[],G,H0,I0,t0,λb q=>(f0 b q).1,w0⟩;obtain⟨i,N,a,H3,I3,st3,U,w3⟩:=h3;show wpAny _ X.A ((compTurn _ 0 _ _ _).onRaise (λx=>do noteFrame x _;theTreesLotGoes x)) _ _ s3
 refine wpAny_noted ?_;obtain⟨hD,h⟩:=Q i n N a H3 w3;rcases h with ⟨P,qn⟩ | ⟨go,next⟩
 ·refine a8 (wpAny_standAt (a8 (mo (TJ.done X rfl rfl rfl hc i [] s3 a H3 _ I3 (c U) st3 P) λr s4 ⟨hr,I4⟩=> ?_)));subst hr;exact aa (hR s4 a H3 I4 qn)
 ·refine a8 (wpAny_standAt (a8 (mo (TJ.item X rfl rfl rfl hc i [] s3 a H3 _ I3 (c U) st3 go) λr s4 ⟨u,hr,h4⟩=> ?_)));subst hr;refine a8 (mo h4 λ_ s5 ⟨x,H5,I5,r5,y5,B,fr5⟩=> ?_);have I5' :=I5.pinned (c fr5) (TJ.obj _ _ B);refine a8 (Uf hx (mo (hg _ s5 a H5 x u _ I5' r5 (next x H5 y5)) λ_ s6 ⟨p,H6,I6,q6⟩=> ?_));have again:∀{l:Sg} {M:Hp} {S:Shared} {I :List V},L2.Inv X _ l M S->(∃C,C < n/\W (i+1) C I l M)->∃m,m < n/\∃i N σ' j,L2.Inv X [] σ' j S/\tn i _/\(∀b∈fp,j b=none)/\W i m N σ' j :=λ{l M S I} O ⟨C,hm,w7⟩=>by
   refine⟨C,hm,i+1,I,l,M,O.unpinned,TJ.keep _ _ _ B λb q o e=>(O.pin _ (bh _ (bh _ (j0 q e)))).1,λb q=> ?_,w7⟩;obtain⟨o,e,d⟩:=TJ.obj _ _ B b q;exact(O.pin _ (bh _ (bh _ (j0 q e)))).2.1
  refine a8 (Uf hx (mo (ht _ s6 p H6 _ I6 q6) λk S ⟨M,O,q7⟩=> ?_));cases k with
  | false=>exact aa ⟨rfl,again O q7⟩
  | true=>
   refine a8 (a8 (Uf hx (mo (he _ S p M _ O q7) λv s8 ⟨y,H8,I8,r8,hD8,hlen,q8⟩=> ?_)));refine a8 (Uf hx (mo (jq _ s8 p H8 (.ref D) [y] _ [v] (λ_ H9=>∃C,C < n/\W _ C _ p H9) I8 rfl (.cons r8 .nil) ⟨D,N,y,rfl,rfl,hD8,hlen,q8⟩) λw s9 ⟨_,H9,I9,_,q9⟩=> ?_));exact aa (aa ⟨rfl,again I9 q9⟩)
def wj (k:Nat)(js:List Nat)(a:Sg):Sg:=aq k none++js.map λj=>(a[j]?).getD none
section
abbrev xL (X:Cx)(scope:Scope)(N' :List Str)(P:Cx->Prop):Prop:=∀cl C s3 H3 fp pins,P (oU X scope N' cl C s3 H3 fp pins)
abbrev sy (X:Cx)(scope:Scope)(N' :List Str)(E:XK)(P:Cx->Prop):Prop:=∀cl C s3 H3 fp pins xe,ZB (mN X.prog X.w) (XE (oU X scope N' cl C s3 H3 fp pins) xe) E->P (XE (oU X scope N' cl C s3 H3 fp pins) xe)
structure gJ (X:Cx) (scope:Scope) (N' :List Str) (k:Nat) (js:List Nat):Prop where
 len:N'.length=k+js.length
 cap:∀(i j:Nat),js[i]? =some j->∃x,N'[k+i]? =some x/\X.N[j]? =some x/\pH X.env.scope x/\scope.names.lookup x=some .free/\(X.env.kindOf x=some .cell\/X.env.kindOf x=some .free)
theorem Jb (hp:GD X E){js:List Nat}{use:Option (Value->Sem Unit)}(S:Ad X scope)(CP:gJ X scope N' k js)(hc:X.calm=true)
  (hi:PI X tg iter wi) (hg:xL X scope N' λXC=>PG XC tg g) (ht:xL X scope N' λXC=>PIf XC ifs tt) (he:sy X scope N' E λXC=>PE XC elt te) {a:List (Addr×Obj)} {P:Sg} {H:Hp} {s:Shared} {Q:Value->Shared->Prop} {F:Addr->Hp->Prop} (I:L2.Inv X a P H s)
  (h:wi P H λJ H1=>∀D,H1 D=none->∃W,(∃m,W 0 m [] (wj k js P) (ml H1 D (.lst [])))/\yw J D g tt te (λ_ H' =>F D H') W)
  (hQ:∀D C H' s',L2.Inv X a P H' s' ->F D H' ->H' C=none->(X.s₀.heap.objs.size<=C)->C ≠ X.env.locals->(∀x c,X.env.cells.lookup x=some c->c ≠ C)->(∀p∈X.pn++a,p.1 ≠ C)->(∃m,s'.heap.Ns C m)->compPost (model X.prog X.w) X.A X.xe use Q (.ref D) C (.ok .next) s')
  (hs:∀x,foldedSetIterable iter X.env x=pure x:=by intro _;rfl):
  wpAny (model X.prog X.w) X.A (comprehension (.ListComp elt [⟨tg,iter,ifs,0⟩] scope pos) scope X.env pos' (newList []) false (eval iter X.env) use) Q X.xe s:=by
 obtain⟨cl,ecl,hcl,hcf⟩:=wU (scope:=scope) (env:=X.env) λx hx hf=>I.ok.has x.1 (S.fre x hx hf);refine wpAny_comprehension_free rfl hs ecl S.kind S.loc ?_;refine mo (hi a s P H _ I h) λv s1 h1=>mo h1 λitv d O=> ?_;obtain⟨it,fp,tn,J,H2,e,I2,TJ,nj,f2,q2⟩:=O;subst e;refine aJ ?_;have hD:=I2.hok.fresh (ah _);have B:L2.Inv X a P (ml H2 d.heap.objs.size (.lst [])) { d with heap:=d.heap.push { cls:= .type "list",data:= .seq _ } }:=
  I2.laid (t' :=d.toks) (λb u e=>a9 _ e) (ah _) ⟨aX _,[],_,.nil,ae _ rfl⟩
 obtain⟨W,⟨m0,w0⟩,turn⟩:=q2 d.heap.objs.size hD;have f3:∀b∈fp,JY X a (ml H2 d.heap.objs.size (.lst [])) b:=λb r=>by
  obtain⟨o,eo,_⟩:=TJ.obj _ _ nj b r;exact⟨by rw[zg (au (ao eo))];exact(f2 b r).1,(f2 b r).2⟩
 have o3:∀b∈fp,∃o,(d.heap.push { cls:= .type "list",data:= .seq ([]:List Value).toArray }).get? b=some o:=λb r=>by
  obtain⟨o,eo,_⟩:=TJ.obj _ _ nj b r;exact⟨o,a9 _ eo⟩
 refine wpAny_newFunctionEnv S.nocell (by intro y hy;simp at hy) (λh4 M G=> ?_) S.kind
 generalize hG:d.heap.push _=G3 at B o3 M G ⊢;have s3e:∃l:Shared,l={ d with heap:=G3 }:=⟨_,rfl⟩;obtain⟨l,es3⟩:=s3e;have hh3:l.heap=d.heap.push { cls:= .type "list",data:= .seq ([]:List Value).toArray }:=by rw[es3,hG]
 have hg3:G3=l.heap:=by rw[es3]
 rw[← es3]at B;rw[hg3]at M G o3;have k4:=λb o e=>G.extBut b o (au (ao e)) (a9 _ e);have IC:=YL (N' :=N') (cl:=cl) (fp:=fp) (σ' :=wj k js P) (tk:=l.toks+([]:List (Str×Value)).length) B S hc hcl hcf f3 o3 M k4 (by unfold wj;simp[CP.len]) (λi x v h1 O=>by
  unfold wj at O
  by_cases hik:i < k
  ·rw[aU (by simpa using hik),aV,if_pos hik]at O
   cases O
  ·have hk' :k<=i:=by omega
   rw[aR (by simpa using hk'),aZ,aw]at O
   cases ej:js[i - k]? with
   | none=>rw[ej]at O;cases O
   | some j=>
    rw[ej]at O;obtain⟨y,e1,e2,e3,e4,e5⟩:=CP.cap (i - k) j ej;have:k+(i - k)=i:=by omega
    rw[this,h1]at e1;cases e1;refine⟨j,e2, ?_,e3,e4,e5⟩;have U :some ((P[j]?).getD none)=some (some v):=O;cases ez:P[j]? with
    | none=>rw[ez]at U;cases U
    | some z=>rw[ez]at U;exact congrArg some (aE U))
 have TC:U3 _ _ _ tg J fp it tn:=TJ;have t4:tn 0 h4:=TJ.keep _ _ _ nj λb r o e=>k4 b o (by rw[hh3];exact a9 _ e)
 have fC:∀b∈fp,JY (oU X scope N' cl l.heap.objs.size l (ml H2 d.heap.objs.size (.lst [])) fp a) [] _ b:=λb r=>by
  obtain⟨q0,q1,q2,q3,q4,q5⟩:=f3 b r;obtain⟨o,eo⟩:=o3 b r;refine⟨q0,au (ao eo),λhb' => ?_,.inl r,λx c e=>q4 x c (hcl _ _ e),λp hp=> ?_⟩
  ·rcases ag.mp (B.stkSub b hb') with z | z
   ·exact q1 z
   ·exact q2 z
  ·exact q5 p (by
    have:=hp;rwa[bb]at this)
 have fin:∀(s5:Shared) (Z:Sg) (H5:Hp),L2.Inv (oU X scope N' cl l.heap.objs.size l (ml H2 d.heap.objs.size (.lst [])) fp a) [] Z H5 s5->F d.heap.objs.size H5->compPost (model X.prog X.w) X.A X.xe use Q _ l.heap.objs.size (.ok .next) s5:=λs5 Z H5 I5 q5=>by
  have J5:=B.call' (ch:=fp) I5.os I5.base I5.hok I5.bare λb r=>by
   obtain⟨q0,q1,q2,q3,q4,q5⟩:=f3 b r;exact⟨q3,q1,q4,q5⟩
  refine hQ _ _ H5 s5 J5 q5 I5.free B.sz (c8 B.lt) (λx c e z=> ?_) (λp hp z=> ?_) (let ⟨m,hm,_⟩:=I5.loc;⟨m,hm⟩)
  ·obtain⟨v',o,eo,_⟩:=B.cell x c e;exact absurd (ao eo) (by rw[z];exact aY _)
  ·exact absurd (ao (B.pin p hp).1) (by rw[z];exact aY _)
 have pass:ZB (mN X.prog X.w) (XE (oU X scope N' cl l.heap.objs.size l (ml H2 d.heap.objs.size (.lst [])) fp a) (notedBy (model X.prog X.w) X.A (compEnvC scope cl l.heap.objs.size X.env) λe s' =>compPost (model X.prog X.w) X.A X.xe use Q (.ref d.heap.objs.size) l.heap.objs.size (.error e) s')) E:=by
  intro pins1 σ1 H1 s1 e s' I1 c1;have J1:=B.call' I1.os I1.base I1.hok I1.bare λb r=>by
   obtain⟨q0,q1,q2,q3,q4,q5⟩:=f3 b r;exact⟨q3,q1,q4,q5⟩
  obtain⟨m1,hm1,_⟩:=I1.loc;refine mo (hp a P H1 s1 e s' _ m1 _ _ J1 hm1 I1.free B.sz (λz=> ?_) rfl c1) λ_ s'' q=> ?_
  ·obtain⟨_,o,eo,_⟩:=B.stack.mem z;exact absurd (ao eo) (aY _)
  ·cases use <;> exact q
 have N:=WH (X:=XE (oU X scope N' cl _ l _ fp _) (notedBy _ X.A _ λe s' =>compPost _ X.A _ use Q _ _ _ s')) (iter:=iter) (scope:=scope) (pos:=pos) (λ_ _ z=>z) hc TC (Fz rfl (hg _ _ _ _ _ _)) (FK rfl (ht _ _ _ _ _ _)) (he _ _ _ _ _ _ _ pass) W turn (λs5 Z H5 I5=>fin s5 Z H5 (YM I5)) w0 (Ue IC) t4 fC;rw[es3]at N;exact codeAny_compStart_list N (TJ.self _ _ _ _ _ t4 N)
end
def zt (g:T->En->R En)(ft:En->R Bool)(fe:En->R T):List T->En->R (List T)
 | [],_=> .ok []
 | t :: ts,ρ=>(g t ρ).bind λρ1=>(ft ρ1).bind λk=>if k=true then (fe ρ1).bind λv=>(zt g ft fe ts ρ1).bind λvs=> .ok (v :: vs) else zt g ft fe ts ρ1
noncomputable def uA:Option Sl->Sl
 | some (.vl t)=> .vl t
 | some (.ob k _)=> .oc k []
 | some (.oc k fs)=> .oc k fs
 | _=> .un
def j8 (k:Nat)(js:List Nat)(ρ:En):En:=aq k .un++js.map λj=>uA ρ[j]?
noncomputable def quiet {c:Type}:R c->R c
 | .ok a=> .ok a
 | _=> .bad
def zy (g:T->En->R En)(ft:En->R Bool)(fe:En->R T)(k:Nat)(js:List Nat)(ρ:En)(ts:List T):R (List T):=if ts.length<=mq then quiet (zt g ft fe ts (j8 k js ρ)) else .bad
def zT (a:En->R (List T))(g:T->En->R En)(ft:En->R Bool)(fe:En->R T)(k:Nat)(js:List Nat):En->R T:=λρ=>(a ρ).bind λts=>(zy g ft fe k js ρ ts).bind λvs=> .ok (.lst vs)
def oq (d:TG)(g:T->En->R En):Prop:=∀Y B ρ c H v x Q,SI Y B ρ c H->Rep B v x->(match g x ρ with | .ok a =>∀σ',SI Y B a σ' H->Q σ' H | _=>False)->d v c H Q
theorem Ug (i:Nat):oq (JX i) (zG i):=λY B ρ a H v x Q I r q=>q _ (I.setV i r)
theorem V9 (K:ai)(i j:Nat):oq (AH K 2 (Ye (JX i) (Ye (JX j) Bt))) (zO i j):=λY B ρ g H v t Q I r q=>by
 cases r with
 | @tup l e ts h r=>
  cases r with
  | nil=>exact q.elim
  | cons c a=>
   cases a with
   | nil=>exact q.elim
   | cons d a=>
    cases a with
    | cons _ _=>exact q.elim
    | nil=>exact⟨l,_,rfl,SqT.of (I.sB _ _ h),rfl,_,_,rfl,_,_,rfl,rfl,q _ ((I.setV i c).setV j d)⟩
 | _=>exact q.elim
theorem SI.blockS (I:SI Y B ρ σ H)(k:Nat)(js:List Nat)(E:XK)(s:zj H H'):SI ⟨B,H,E,Y.cl,[]⟩ B (j8 k js ρ) (wj k js σ) H' where
 s0:=I.sB
 sH:=s
 sB:=I.sB.trans s
 old:=λ_ _ _=>rfl
 len:=by unfold j8 wj;simp
 vl:=λi t h=>by
  unfold j8 at h;unfold wj
  by_cases g:i < k
  ·rw[aU (by simpa using g),aV,if_pos g]at h;cases h
  ·have l :k<=i:=by omega
   rw[aR (by simpa using l),aZ,aw]at h ⊢
   cases o:js[i - k]? with
   | none=>rw[o]at h;cases h
   | some j=>
    rw[o]at h;have h' :uA ρ[j]? = .vl t:=aE h;unfold uA at h';split at h'
    ·rename_i u e;cases h';obtain⟨v,N,r⟩:=I.vl j _ e;exact⟨v,by show some ((σ[j]?).getD none)=_;rw[N];rfl,r⟩
    all_goals cases h'
 ow:=λi ts h=>by
  exfalso;unfold j8 at h
  by_cases g:i < k
  ·rw[aU (by simpa using g),aV,if_pos g]at h;cases h
  ·have l :k<=i:=by omega
   rw[aR (by simpa using l),aZ,aw]at h
   cases o:js[i - k]? with
   | none=>rw[o]at h;cases h
   | some j=>
    rw[o]at h;have h' :uA ρ[j]? = .ow ts:=aE h;unfold uA at h';split at h' <;> cases h'
 xc:=λi c h=>by
  exfalso;unfold j8 at h
  by_cases g:i < k
  ·rw[aU (by simpa using g),aV,if_pos g]at h;cases h
  ·have l :k<=i:=by omega
   rw[aR (by simpa using l),aZ,aw]at h
   cases o:js[i - k]? with
   | none=>rw[o]at h;cases h
   | some j=>
    rw[o]at h;have h' :uA ρ[j]? = .xc c:=aE h;unfold uA at h';split at h' <;> cases h'
 st:=by
  have get:∀(i:Nat) (x:Sl),x.isO=true->(j8 k js ρ)[i]? =some x->∃j,js[i - k]? =some j/\k<=i/\uA ρ[j]? =x:=λi x P h=>by
   unfold j8 at h
   by_cases g:i < k
   ·rw[aU (by simpa using g),aV,if_pos g]at h
    cases h;cases P
   ·have l :k<=i:=by omega
    rw[aR (by simpa using l),aZ,aw]at h
    cases o:js[i - k]? with
    | none=>rw[o]at h;cases h
    | some j=>
     rw[o]at h;exact⟨j,rfl,l,aE h⟩
  refine⟨[],λ_=>none,eZ _,λi os h=> ?_,λi _ os _ h=> ?_,λi S n h=> ?_,λi S fs h=> ?_,λi os h=> ?_⟩
  ·obtain⟨j,_,_,e⟩:=get i _ rfl h;unfold uA at e;split at e <;> cases e
  ·obtain⟨j,_,_,e⟩:=get i _ rfl h;unfold uA at e;split at e <;> cases e
  ·obtain⟨j,_,_,e⟩:=get i _ rfl h;unfold uA at e;split at e <;> cases e
  ·obtain⟨j,o,l,e⟩:=get i _ rfl h;have G:(wj k js σ)[i]? =some ((σ[j]?).getD none):=by
    unfold wj;rw[aR (by simpa using l),aZ,aw,o];rfl
   obtain⟨X,O,x⟩:=I.st;unfold uA at e;split at e
   ·cases e
   ·rename_i M U w;cases e;obtain⟨a,C,F,vs,_,y,q,p,_,_,D⟩:=x.ob j _ _ w;exact⟨a,C,F,vs,by rw[G,y];rfl,q,p,D,λm f d z=>by cases z⟩
   ·rename_i M Q w;cases e;obtain⟨a,C,F,vs,y,q,p,D,J⟩:=x.oc j _ _ w;exact⟨a,C,F,vs,by rw[G,y];rfl,q,I.sH _ _ p,D,J.mono (zj.refl _) I.sH⟩
   ·cases e
  ·obtain⟨j,_,_,e⟩:=get i _ rfl h;unfold uA at e;split at e <;> cases e
theorem SI.block {Y:Fx}{B:Hp}{ρ:En}{a:Sg}{H H3:Hp}{D:Addr}(I:SI Y B ρ a H)(k:Nat)(js:List Nat)(E:XK)(c:H D=none)(o:HO):SI ⟨B,H,E,Y.cl,[]⟩ B (j8 k js ρ) (wj k js a) (ml H D o):=I.blockS k js E (zj.new c _)
theorem SI.acc {Y:Fx}{B:Hp}{ρ:En}{g:Sg}{H:Hp}{D:Addr}(I:SI Y B ρ g H)(v:B D=none)(p:Y.H0 D=none)(C:∀(i:Nat) (ts:List T),ρ[i]? =some (Sl.ow ts)->g[i]? ≠ some (some (V.ref D)))(c:∀(i:Nat) (x:Sl),ρ[i]? =some x->Sl.isS x=true->False)(o:HO):SI Y B ρ g (ml H D o) where
 s0:=I.s0
 sH:=λb u h=>by
  rw[zg (λz=>by subst z;rw[p]at h;cases h)];exact I.sH b u h
 sB:=λb u h=>by
  rw[zg (λz=>by subst z;rw[v]at h;cases h)];exact I.sB b u h
 old:=I.old
 len:=I.len
 vl:=I.vl
 ow:=λi ts h=>by
  obtain⟨a,w,e,y,l,F,r,d⟩:=I.ow i ts h;refine⟨a,w,e,y,l, ?_,r,d⟩;rw[zg (λz=>C i ts h (by rw[e,z]))];exact F
 xc:=I.xc
 st:=let ⟨as,O,x⟩:=I.st;⟨as,O,x.pre,λi os h=>c i _ h rfl |>.elim,λi j os q h=>c i _ h rfl |>.elim,λi k n h=>c i _ h rfl |>.elim,x.oc,λi os h=>c i _ h rfl |>.elim⟩
def kx (ρ:En):Prop:=∀(i:Nat) (x:Sl),ρ[i]? =some x->(∀ts,x ≠ Sl.ow ts)/\(x.isS=true->False)
theorem Uh (k:Nat)(js:List Nat)(ρ:En):kx (j8 k js ρ):=λi x h=>by
 unfold j8 at h
 by_cases a:i < k
 ·rw[aU (by simpa using a),aV,if_pos a]at h
  cases h;exact⟨λ_=>Sl.noConfusion,ax⟩
 ·have c :=by omega
  rw[aR (by simpa using c),aZ,aw]at h
  cases d:js[i - k]? with
  | none=>rw[d]at h;cases h
  | some j=>
   rw[d]at h;have h' :uA _=x:=aE h;unfold uA at h';split at h' <;> (subst h';exact⟨λ_=>Sl.noConfusion,ax⟩)
theorem wV {ρ:En}{i:Nat}{t:T}(h:kx ρ):kx (ρ.set i (.vl t)):=λj x e=>by
 rcases zn e with ⟨_,z⟩ | ⟨_,z⟩
 ·subst z;exact⟨λ_=>Sl.noConfusion,ax⟩
 ·exact h j x z
def oz (g:T->En->R En):Prop:=(∀t ρ a,kx ρ->g t ρ= .ok a ->kx a)/\∀t ρ c,g t ρ ≠ .ex c
theorem Ui (i:Nat):oz (zG i):=⟨λt ρ a h e=>by
 cases e;exact wV h,λt ρ c e=>by cases e⟩
theorem Va (i j:Nat):oz (zO i j):=⟨λt ρ a h e=>(by
 unfold zO at e;split at e
 ·cases e;exact wV (wV h)
 ·cases e),λt ρ c e=>by unfold zO at e;split at e <;> cases e⟩
section
variable {X:Cx}{Y:Fx}{tg iter elt:Expr}{ifs:List Expr}{scope:Scope}{pos pos' :Pos}{N' :List Str}{k:Nat}{js:List Nat}{fi:En->R (List T)}{tG:TG}{g:T->En->R En}{ft:En->R Bool}{fe:En->R T}
structure J8 (X:Cx) (Y:Fx) (ifs:List Expr) (f:En->R Bool):Prop where
 mk ::
 go:∀ρ,PIf X ifs (tS Y rE f ρ)
instance {X:Cx}{Y:Fx}{ifs:List Expr}{f:En->R Bool}:CoeFun (J8 X Y ifs f) λ_=>∀ρ,PIf X ifs (tS Y rE f ρ):=⟨J8.go⟩
theorem PIf.imp {X:Cx}{e:List Expr}{t t' :TT}(h:PIf X e t)(i:∀a H Q,t' a H Q->t a H Q):PIf X e t' :=λc s a H Q I q=>h _ s a H Q I (i a H Q q)
def Z3:En->R Bool:=λ_=> .ok true
theorem Ec {X:Cx}:J8 X Y [] Z3:= .mk λρ=>PIf.imp ko λa H Q ⟨B,I,q⟩=>ZA I q rfl
theorem Eg {X:Cx}{c:Expr}(h:Wx X Y c ft):J8 X Y [c] ft:= .mk λρ=>ku (h ρ)
noncomputable def sv (r:R (List T))(P:List T->Prop)(Z:Nat->Prop):Prop:=match r with
 | .ok vs=>P vs
 | .ex c=>Z c
 | .bad=>False
theorem yx {P O:Hp}{σ:Sg}{ρ:En}{J:It}{ts:List T}{r:R (List T)}{D:Addr}{E0:XK}(hG:oq tG g)(hN:oz g)(I:SI Y P ρ σ O)(rI' :rI P O J ts)(hl:ts.length<=mq)(ev:zt g ft fe ts (j8 k js ρ)=r)(hD:O D=none){F:Hp->Prop}
  (hF:sv r (λvs=>∀l xs B,zj O l ->l D=some (.lst xs)->zr B xs vs->zj B (zv P O l)->B D=none->zj P B ->F l) λc=>∀d l,zj O l ->zj P l ->E0 (Y.cl c) d l):
  ∃W,(∃m,W 0 m [] (wj k js σ) (ml O D (.lst [])))/\yw J D tG (λσ H Q=>∃Y' p,Y'.cl=Y.cl/\tS Y' rE ft p σ H Q) (λσ H Q=>∃Y' p,Y'.cl=Y.cl/\Y'.E=E0/\tS Y' rC fe p σ H Q) (λ_ l =>F l) W:=by
 refine⟨λi m ys σ' l =>m=ts.length - i/\i<=ts.length/\ys.length<=i/\l D=some (.lst ys)/\∃p B us,SI ⟨P,O,E0,Y.cl,[]⟩ B p σ' l /\kx p /\zj P B /\B D=none/\zr B ys us/\((zt g ft fe (ts.drop i) p).bind λws=> .ok (us++ws))=r,
  ⟨ts.length,by simp,aX _,aX _,zh,_,P,[],I.block (H3:=O) k js _ hD _,Uh k js ρ,zj.refl _,I.sB.free hD,.nil,by rw[iG,ev];cases r <;> rfl⟩, ?_⟩
 rintro i m ys σ' l ⟨rfl,hi,hyl,S,p,B,us,I',no',C,bD,r',ew⟩
 refine⟨S, ?_⟩;obtain⟨hgo,hyld,hstop⟩:=rI' B l C I'.sB;have tD:∀U,zj l U->zv B l U D=none:=λU s=>by rw[zE S];exact bD
 by_cases N:i < ts.length
 ·refine .inr ⟨hgo i N,λx U y=> ?_⟩;obtain⟨s2,r2⟩:=hyld i _ x U (ak N) y;rw[cJ N]at ew;unfold zt at ew;have I2:=I'.grow s2;refine hG _ _ p σ' U x _ _ I2 r2 ?_;cases eg:g ts[i] p with
  | bad=>rw[eg]at ew;subst ew;exact hF
  | ex c=>exact(hN.2 _ _ _ eg).elim
  | ok ρ1=>
   rw[eg]at ew;have no1:=hN.1 _ _ _ no' eg;intro σ1 J1;refine⟨⟨P,O,E0,Y.cl,[]⟩,ρ1,rfl,_,J1, ?_⟩;have M:((ft ρ1).bind (λk=>if k=true then (fe ρ1).bind λv=>(zt g ft fe (ts.drop (i+1)) ρ1).bind λvs=> .ok (v :: vs) else zt g ft fe (ts.drop _) ρ1)).bind (λws=> .ok _)=r:=ew
   cases ef:ft ρ1 with
   | bad=>rw[ef]at M;subst M;exact hF
   | ex c=>
    rw[ef]at M;subst M;exact λd l a b=>hF d l a ((C.trans (zv.ge I'.sB s2)).trans b)
   | ok kk=>
    rw[ef]at M;intro b H3 s3 eb;have eb' :=eb;subst eb';have ew2:=M;have J2:=J1.grow s3;have hD3:H3 D=some _:=s3 _ _ (s2 _ _ S);have bD3:zv (zv B l U) U H3 D=none:=by rw[zE (s2 _ _ S)];exact tD U s2
    have Z:=(zv.ge I'.sB s2).trans (zv.ge I2.sB s3);cases b with
    | false=>exact⟨ts.length - (i+1),by omega,rfl,N,by omega,hD3,ρ1,_,us,J2,no1,C.trans Z,bD3,r'.mono Z,ew2⟩
    | true=>
     refine⟨⟨P,O,E0,Y.cl,[]⟩,ρ1,rfl,rfl,_,J2, ?_⟩;have G:=ew2;cases ee:fe ρ1 with
     | bad=>rw[ee]at G;subst G;exact hF
     | ex c=>
      rw[ee]at G;subst G;exact λd l a b=>hF d l a ((C.trans Z).trans b)
     | ok v=>
      rw[ee]at G;have ew4:=G;have ew5:(zt g ft fe (ts.drop (i+1)) ρ1).bind (λws=> .ok ((us++[v])++ws))=r:=by
       rw[← ew4];cases zt g ft fe _ ρ1 with
       | ok ws=>show R.ok _=R.ok _;rw[bU];rfl
       | _=>rfl
      intro w H4 s4 rw4;have hD4:=s4 _ _ hD3;have J3:=J2.grow s4;have bD4:zv (zv (zv B l U) U H3) H3 H4 D=none:=by rw[zE hD3];exact bD3
      have sB4:=Z.trans (zv.ge J2.sB s4);refine⟨hD4,aM (bC hyl N) (Zj hl),ts.length - (i+1),by omega,rfl,N,by rw[ay,aI];omega,zh,ρ1,_,us++[v], ?_,no1,C.trans sB4,bD4,(r'.mono sB4).append (.cons rw4 .nil),ew5⟩
      exact J3.acc bD4 hD (λj ts' e=>((no1 j _ e).1 ts' rfl).elim) (λj x e=>(no1 j x e).2) _
 ·have e:i=ts.length:=by omega
  subst e;refine .inl ⟨hstop _ (ah _), ?_⟩;rw[e_]at ew;have ew' :R.ok _=r:=ew;rw[bb]at ew';subst ew';refine hF l ys B I'.sH S r' (λb o h=> ?_) bD C;cases q:O b with
  | none=>rw[zF q];exact I'.sB b o h
  | some u=>
   rw[zE q];have z:B b=P b:=I'.old b u q;rw[← z];exact h
theorem ju {J:It}(r:oq tG g)(l:oz g)(I:SI Y B1 ρ d H1)(i :rI B1 H1 J ts)(u:ts.length<=mq)(p:zt g ft fe ts (j8 k js ρ)= .ok vs)(q:H1 D=none){F:Hp->Prop}
  (o:∀c j e,zj H1 c ->c D=some (.lst j)->zr e j vs->zj e (zv B1 H1 c)->e D=none->zj B1 e ->F c):
  ∃W,(∃m,W 0 m [] (wj k js d) (ml H1 D (.lst [])))/\yw J D tG (λd H Q=>∃Y' a,Y'.cl=Y.cl/\tS Y' rE ft a d H Q) (λd H Q=>∃Y' a,Y'.cl=Y.cl/\(Y'.E=λ_ _ _=>False)/\tS Y' rC fe a d H Q) (λ_ c =>F c) W:=yx r l I i u p q o
structure jS (X:Cx) (Y:Fx) (tg iter elt:Expr) (ifs:List Expr) (scope:Scope) (N' :List Str) (k:Nat) (js:List Nat) (fi:En->R (List T)) (tG:TG) (g:T->En->R En) (ft:En->R Bool) (fe:En->R T):Prop where
 sc:Ad X scope
 cp:gJ X scope N' k js
 cm:X.calm=true
 it:wT X Y tg iter fi
 gt:xL X scope N' λXC=>PG XC tg tG
 gk:oq tG g
 gn:oz g
 tt:∀Y',Y'.cl=Y.cl->xL X scope N' λXC=>J8 XC Y' ifs ft
 el:∀Y',Y'.cl=Y.cl->sy X scope N' Y'.E λXC=>Snd XC Y' elt fe
 hs:∀x,foldedSetIterable iter X.env x=pure x
theorem xM (C:jS X Y tg iter elt ifs scope N' k js fi tG g ft fe):Snd X Y (.ListComp elt [⟨tg,iter,ifs,0⟩] scope pos) (zT fi g ft fe k js):= .mk λρ=>by
 intro j s i H Q I ⟨B,J,q⟩;refine Jb (j1 rfl) (F:=λD u =>Q (.ref D) u) (te:=λi H Q=>∃Y' a,Y'.cl=Y.cl/\(Y'.E=λ_ _ _=>False)/\tS Y' rC fe a i H Q) (tt:=λi H Q=>∃Y' a,Y'.cl=Y.cl/\tS Y' rE ft a i H Q) C.sc C.cp C.cm (C.it ρ) C.gt
  (λcl p G H3 fp j l s i H Q I ⟨Y',a,x,q⟩=>C.tt Y' x cl p G H3 fp _ a _ s i H Q I q) (λcl p G H3 fp j xe hp l s i H Q I ⟨Y',a,x,P,q⟩=>C.el Y' x cl p G H3 fp _ xe (P ▸ hp) a _ s i H Q I q) I ?_ ?_ C.hs
 ·refine step J q λts it' H1 _ s1 r1 J1 d=> ?_;intro D N;unfold zy at d;split at d
  ·rename_i hl;cases w:zt g ft fe ts _ with
   | bad=>rw[w]at d;exact d.elim
   | ex c=>rw[w]at d;exact d.elim
   | ok vs=>
    rw[w]at d;refine ju C.gk C.gn J1 r1 hl w N λu xs B' O e' r' l' b' sb' => ?_;refine(show Po Y rC _ H1 _ Q from d) _ u O ?_;exact .lst (by rw[zF N];exact e') (r'.mono l')
  ·exact d.elim
 ·intro D Cc u O U q' Z S hL r v y;obtain⟨m,hm⟩:=y;refine⟨m,hm,λh' M=>⟨.ref D,u, ?_,rfl,q'⟩⟩;exact U.turned (λb o hb e=>M.extBut b o hb e) Z (bf hL).symm (.inr S) r v
end
section
variable {js:List Nat}{g:T->En->R En}
theorem EF (C:jS X Y tg iter elt ifs scope N' k js fi tG g ft fe)(hN:X.N.Nodup)(hi:X.N[i]? =some x)(hx:L2.Loc X.env.scope x)
  (hsw:swapsWith (.ListComp elt [⟨tg,iter,ifs,0⟩] scope pc) (some (.Name x p')) pos.line X.env=pure true) (hf:X.fn x=true\/X.env.scope.names.lookup x=some .local:=by first | exact .inl rfl | exact .inr rfl | assumption):
  wR X Y (.Assign [.Name x p'] (.ListComp elt [⟨tg,iter,ifs,0⟩] scope pc) pos) (zJ i (zT fi g ft fe k js)):= .mk λρ=>by
 intro r s p H D I ⟨B,J,q⟩;rw[exec_Assign_Name_used _ _ _ _ hsw];refine a8 (wpAny_standAt (a8 ?_));refine a8 (mo (Jb (j1 rfl) (F:=λP M =>D.nx (p.set i (some (.ref P))) M) (te:=λp H Q=>∃Y' d,Y'.cl=Y.cl/\(Y'.E=λ_ _ _=>False)/\tS Y' rC fe d p H Q) (tt:=λp H Q=>∃Y' d,Y'.cl=Y.cl/\tS Y' rE ft d p H Q) C.sc C.cp C.cm (C.it ρ) C.gt
  (λcl w s3 H3 fp r u s p H Q I ⟨Y',d,ey,q⟩=>C.tt Y' ey cl w s3 H3 fp _ d _ s p H Q I q) (λcl w s3 H3 fp r xe hp u s p H Q I ⟨Y',d,ey,eE,q⟩=>C.el Y' ey cl w s3 H3 fp _ xe (eE ▸ hp) d _ s p H Q I q) I ?_ ?_ C.hs) λ_ O hq=>aa (aa hq))
 ·have q' :PoS Y B (((fi ρ).s λts=>(zy g ft fe k js ρ ts).s λvs=> .nx (ρ.set i (.vl (.lst vs))))) D:=by
   unfold zJ zT at q;revert q;cases fi ρ with
   | bad=>exact λq=>q
   | ex c=>exact λq=>q
   | ok ts=>
    intro q;have q2:PoS Y B (((zy g ft fe k js ρ ts).bind λvs=>R.ok _).s λt=>RS.nx _) D:=q;show PoS Y B ((zy g ft fe k js ρ ts).s λvs=>RS.nx _) D;revert q2;cases zy g ft fe k js ρ ts with
    | bad=>exact λq=>q
    | ex c=>exact λq=>q
    | ok vs=>exact λq=>q
  refine jG J q' λts it' H1 _ s1 r1 J1 l=> ?_;intro P hD;unfold zy at l;split at l
  ·rename_i hl;cases S:zt g ft fe ts _ with
   | bad=>rw[S]at l;exact l.elim
   | ex c=>rw[S]at l;exact l.elim
   | ok vs=>
    rw[S]at l;refine ju C.gk C.gn J1 r1 hl S hD λM xs B' O e' r' l' b' sb' => ?_;have rr:Rep _ _ _:= .lst (by rw[zF hD];exact e') (r'.mono l')
    exact l _ _ _ (zv.ge J1.sB O) ((J1.grow O).setV i rr)
  ·exact l.elim
 ·intro P Cc M O I' q' hC h0 hL j y hns;obtain⟨m,hm⟩:=hns;refine wpAny_assign_Name (Wl (v:= .ref P) I' hN hi hx rfl (λs'' U ⟨a,hsb,ha⟩=> ?_) hf);have Z:Cc ≠ a:=by
   rcases ha with rfl | ha
   ·exact hL
   ·exact(j x a ha).symm
  refine⟨m,hm.sameBut hsb Z,λh' G =>⟨_,M, ?_,q'⟩⟩;exact U.turned (λb o hb e=>G.extBut b o hb e) hC hL (.inr h0) j y
end
noncomputable def AX (x:Str):It:=⟨λi _=>i < x.cps.size,λi H v a =>a =H/\∃c,x.cps[i]? =some c/\v= .str ⟨#[c]⟩,λi _=>x.cps.size<=i⟩
theorem wk {P:Program}{w:World}{K:ai}{tg:Expr}{x:Str}{t:Tok}{p:String}(it:Addr)(a:p="str_ascii_iterator"\/p="str_iterator"):U3 P w K tg (AX x) [it] it (λi h=>h.IsStrIter it p x t i):=by
 have W:∀A:Around,A.handled=none->Walks P w A it [it] [it] x.cps.size (SignAt x) (λi h=>h.IsStrIter it p x t i):=λA S=>by
  rcases a with rfl | rfl
  ·exact Walks.strAscii S it x t
  ·exact Walks.strWide S it x t
 have hn:["enumerate","zip","dict_itemiterator","dict_reverseitemiterator","odict_iterator","itertools.zip_longest","itertools.pairwise"].contains p=false:=by rcases a with rfl | rfl <;> decide
 refine⟨by simp,λi h st b g=> ?_,λi h h' st k=> ?_, ?_, ?_,λA i s Q E st h=> ?_⟩
 ·have e:b=it:=by simpa using g
  subst e;obtain⟨o,e,c,d⟩:=st;exact⟨o,e,λv z=>by rw[d]at z;cases z⟩
 ·obtain⟨o,e,r⟩:=st;exact⟨o,k it (by simp) o e,r⟩
 ·intro X hP hw hK D i l s O H E I B st M;obtain⟨C,F,f2,q,y,G⟩:=B it (by simp)
  refine(W X.A (I.ok.hd D)).item i s _ _ M st λv h' tk hv j kk=> ?_;obtain⟨c,u,J,rfl⟩:=hv;have Z:L2.Inv X _ O H { s with heap:=h',toks:=tk }:=I.turned (λb o g e=>kk b o (by simpa using g) e) C F q y G
  obtain⟨o,e,cl,d⟩:=id j;exact⟨_,rfl,yi e cl d hn ⟨.str _,H,Z,⟨u,rfl⟩,⟨rfl,c,J,rfl⟩,j,λb g=>(B b g).1⟩⟩
 ·intro X hP hw hK D i l s O H E I B st M;obtain⟨C,F,f2,q,y,G⟩:=B it (by simp)
  have U:=bw M;rcases a with rfl | rfl
  ·exact wpAny_pyNext_ascii_end (I.ok.hd D) st U λh' N=>⟨rfl,I.turned (λb o g e=>N b o g e) C F q y G⟩
  ·exact wpAny_pyNext_wide_end (I.ok.hd D) st U λh' N=>⟨rfl,I.turned (λb o g e=>N b o g e) C F q y G⟩
 ·rcases a with rfl | rfl
  ·exact wpAny_pyIter_striter_ascii st h
  ·exact wpAny_pyIter_striter_wide st h
noncomputable def Jt (x:Str):List T:=x.cps.toList.map λc=>T.str ⟨#[c]⟩
theorem Vb:rI B1 H1 (AX x) (Jt x):=λl k o j=>by
 have d:(Jt x).length=x.cps.size:=by unfold Jt;simp
 refine⟨λi hi=>by rw[d]at hi;exact hi,λi t v H3 e y=> ?_,λi hi=>by rw[d]at hi;exact hi⟩
 obtain⟨rfl,c,g,rfl⟩:=y;refine⟨zj.refl _, ?_⟩;unfold Jt at e;rw[aw]at e;have a :x.cps.toList[i]? =some c:=by simpa using g
 rw[a]at e;cases e;exact .str _
section
theorem Ft {l:Expr}{tl:TE}(C:PE X l tl):PI X tg l (λr H R=>tl r H λx c=>(∃a,x= .ref a/\(((∃i,SqL X.K c a i)/\R (tj X.K a) c)\/((∃i,SqT X.K c a i)/\R (AF X.K a) c)))\/(∃z,x= .str z/\R (AX z) c)):=by
 intro w s r H R I h;refine mo (C _ s r H _ I h) λv d ⟨x,c,g,u,B⟩=> ?_;have ok:∀b∈[d.heap.objs.size],JY X _ c b:=λb D=>by
  have e:=by simpa using D
  subst e;exact g.fpOk (ah _) (g.hok.fresh (ah _))
 rcases B with ⟨a,e,q⟩ | ⟨z,e,q⟩
 ·subst e;obtain rfl:v=Value.ref a:=u;rcases q with ⟨⟨i,j⟩,q⟩ | ⟨⟨i,j⟩,q⟩
  ·obtain⟨k,F,p,hz⟩:=g.list j;exact cn p.isList ⟨d.heap.objs.size,[d.heap.objs.size],_,_,c,rfl,g.kept λb o e=>a9 _ e,Wm a _,⟨_,ae _ rfl,rfl,rfl⟩,ok,q⟩
  ·obtain⟨k,F,p,hz⟩:=g.tuple j;exact cH (show d.heap.IsTuple a _ from p) ⟨d.heap.objs.size,[d.heap.objs.size],_,_,c,rfl,g.kept λb o e=>a9 _ e,wc a _,⟨_,ae _ rfl,rfl,rfl⟩,ok,q⟩
 ·subst e;obtain⟨t,rfl⟩:=u;cases y:z.cps.all _
  ·exact wpAny_pyIter_wide y ⟨d.heap.objs.size,[d.heap.objs.size],_,_,c,rfl,g.kept λb o e=>a9 _ e,wk _ (.inr rfl),⟨_,ae _ rfl,rfl,rfl⟩,ok,q⟩
  ·exact wpAny_pyIter_ascii y ⟨d.heap.objs.size,[d.heap.objs.size],_,_,c,rfl,g.kept λb o e=>a9 _ e,wk _ (.inl rfl),⟨_,ae _ rfl,rfl,rfl⟩,ok,q⟩
def jT:T->R (List T)
 | .lst a=> .ok a
 | .tup a=> .ok a
 | .str x=> .ok (Jt x)
 | _=> .bad
def ZK (a:En->R T):En->R (List T):=λρ=>(a ρ).bind jT
theorem FG (j:Snd X Y a fa):wT X Y tg a (ZK fa):= .mk λρ=>PI.imp (Ft (j ρ)) λo H R ⟨B,I,q⟩=>step I q λt v g _ k i c d=>by
 cases i with
 | @tup l e ts h r=>
  exact .inl ⟨l,rfl,.inr ⟨⟨e,SqT.of (c.sB _ _ h)⟩,ZA c (show Po Y rI _ g _ R from d) (GY h r)⟩⟩
 | @lst l e ts h r=>
  exact .inl ⟨l,rfl,.inl ⟨⟨e,SqL.of (c.sB _ _ h)⟩,ZA c (show Po Y rI _ g _ R from d) (GZ h r)⟩⟩
 | str z=>exact .inr ⟨z,rfl,ZA c (show Po Y rI _ g _ R from d) Vb⟩
 | _=>exact d.elim
end
theorem Inv.laidT {X:Cx}{d:List (Addr×Obj)}{r:Sg}{H:Hp}{s:Shared}{h' :Heap}{tk:Nat}{ch:List Addr}{a:Addr}{l:List V}(I:L2.Inv X d r H s)(p:∀b∈ch,JY X d H b)(k:∀b o,b ∉ ch->s.heap.get? b=some o->h'.get? b=some o)
  (J:∀b o,b∈ch->s.heap.get? b=some o->∃G,h'.get? b=some G) (x:s.heap.objs.size<=a) (new:zK X.prog X.w (ml H a (.tup l)) h' a (.tup l)):L2.Inv X d r (ml H a (.tup l)) { s with heap:=h',toks:=tk }:=by
 have hn:=I.hok.fresh x;have j:∀b u,H b=some u->b ∉ ch:=λb u e i=>by rw[(p b i).1]at e;cases e
 refine I.call' rfl ⟨λb o e n _ g=>k b o g e,λb o e n _ g=>⟨o.slots,k b o g e⟩,λb o e n _=>by rw[zg (au (aM (ao e) x))];exact n,λb o e g=>⟨o,k b o g e⟩,
  λb C e=>by rw[zg (zC e hn)];exact e,λb o u e=>by rw[zg (zC e hn)];exact e,λb O q e=>by rw[zg (zC e hn)];exact e⟩ (λb u e=> ?_) I.bare λb i=> ?_
 ·by_cases i:b=a
  ·subst i;rw[zh]at e;cases e;exact new
  ·rw[zg i]at e;refine(I.hok b u e).stay (λc v g q=> ?_) (λc q=>by rw[zg (zC q hn)];exact q) (λc C q=>by rw[zg (zC q hn)];exact q) λc o u q=>by rw[zg (zC q hn)];exact q
   rcases g with rfl | g
   ·exact k c v (j c u e) q
   ·exact k c v (j c _ g) q
 ·obtain⟨M,D,N,y,B,F⟩:=p b i;exact⟨y,D,B,F⟩
def Ce (K:ai)(l:Addr):It:=
 ⟨λi H=>∃a x,SqL K H l a/\a[i]? =some x,λi H v c =>∃p x,H p=none/\v= .ref p/\(∀a,SqL K H l a->a[i]? =some x)/\c =ml H p (.tup [.int i,x]),λi H=>∃a,SqL K H l a/\a.length<=i⟩
theorem YN {P:Program}{w:World}{K:ai}{C:List Expr}{kk:Nat}{pt:Pos}(e it l:Addr)(N:e ≠ it)(F:l ≠ e)(Q:l ≠ it):
  U3 P w K (.Tuple C kk pt) (Ce K l) [e,it] e (λi h=>(∃old,IsEnum h e it i old)/\h.IsListIter it l i) where
 mem:=by simp
 obj:=λi h st b a=>by
  obtain⟨⟨old,B⟩,o,e1,c,d⟩:=st;rcases ag.mp a with rfl | a
  ·exact⟨_,B,λv z=>nomatch z⟩
  ·have z:b=it:=by simpa using a
   subst z;exact⟨o,e1,λv z=>by rw[d]at z;cases z⟩
 keep:=λi h h' st k=>by
  obtain⟨⟨old,B⟩,j⟩:=st;exact⟨⟨old,k e (by simp) _ B⟩,j.at λo x=>k it (by simp) o x⟩
 item:=by
  intro X G hw hK U i O s σ H E I S st hg;subst G hw hK;obtain⟨xs,x,Z,hx⟩:=hg;obtain⟨g,rv,p,hz⟩:=I.list Z;obtain⟨u,hu,ru⟩:=rv.get hx;obtain⟨⟨old,B⟩,j⟩:=st;have hi:i < g.toArray.size:=by
   have:=(aK.mp hu).1;simpa using this
  refine(lS (prog:=X.prog) (w:=X.w) (I.ok.hd U) e it l N F Q g.toArray).item i s _ _ hi ⟨⟨old,B⟩,j,p.isList⟩ λT vals h' tk G hT J hM hk=> ?_;obtain⟨t,y,hy,rfl⟩:=G;have hyu:y=u:=by
   have:g[i]? =some y:=by simpa using hy
   rw[hu]at this;exact(aE this).symm
  subst hyu;refine⟨.ref T,rfl, ?_⟩;refine(lS (prog:=X.prog) (w:=X.w) (I.ok.hd U) e it l N F Q g.toArray).go C kk pt i T _ _ _ hM λh2 q M=> ?_;have hTn:H T=none:=I.hok.fresh hT;have D:∀b∈[e,it],b ≠ T:=λb a z=>by
   obtain⟨_,_,_,h3,h4⟩:=hM;rcases ag.mp a with rfl | a
   ·exact h3 z.symm
   ·have:b=it:=by simpa using a
    subst this;exact h4 z.symm
  have UH:IsTup h2 T #[.int i t,y]:=by
   obtain⟨o,eo,r⟩:=J;exact⟨o,M T o (λa=>D T a rfl) eo,r⟩
  refine⟨.ref T,ml H T (.tup [.int i,x]),Inv.laidT (s:=s) (h' :=h2) (ch:=[e,it]) (tk:=tk) I S (λb o a e=>M b o a (hk b o a e)) (λb o a _=> ?_) hT ⟨by rw[bV];show 2<=16777216;decide,[.int i t,y],.cons ⟨t,rfl⟩ (.cons ru .nil),UH,.inl ⟨_,_,rfl⟩⟩,rfl,⟨T,x,hTn,rfl,λys hy=>by rw[I.list_inj hy Z];exact hx,rfl⟩,⟨q.1,q.2.1⟩,λb a=> ?_⟩
  ·obtain⟨⟨old2,he2⟩,⟨o2,eo2,_⟩,_⟩:=q;rcases ag.mp a with rfl | a
   ·exact⟨_,he2⟩
   ·have:b=it:=by simpa using a
    subst this;exact⟨o2,eo2⟩
  ·rw[zg (D b a)];exact(S b a).1
 done:=by
  intro X G hw hK U i O s σ H E I S st hg;subst G hw hK;obtain⟨xs,Z,hx⟩:=hg;obtain⟨g,rv,p,hz⟩:=I.list Z;obtain⟨⟨old,B⟩,j⟩:=st;have hl:=rv.length;refine wpAny_pyNext_enum_end (I.ok.hd U) B j p.isList (bw (by simp;omega)) λh' hk=>⟨rfl, ?_⟩
  obtain⟨f0,f1,f2,f3,f4,f5⟩:=S it (by simp)
  exact I.turned (t' :=s.toks) (λb o a e=>hk b o a e) f0 f1 f3 f4 f5
 self:=λ_ _ _ _ _ st h=>let ⟨⟨_,B⟩,_⟩:=st;wpAny_pyIter_enum B h
noncomputable def ZH (a:List T):List T:=(a.zipIdx).map λp=>T.tup [.int (p.2:Nat),p.1]
theorem WI {a:List T}{i:Nat}{t:T}(h:(ZH a)[i]? =some t):∃x,a[i]? =some x/\t= .tup [.int (i:Nat),x]:=by
 unfold ZH at h;rw[aw,List.getElem?_zipIdx]at h;cases e:a[i]? with
 | none=>rw[e]at h;cases h
 | some x=>rw[e]at h;cases h;exact⟨x,rfl,by simp⟩
theorem jU (a:List T):(ZH a).length=a.length:=by unfold ZH;simp
theorem ky {K:ai}{d u:Hp}{a:Addr}{c:List V}{ts:List T}(h:d a=some (.lst c))(r:zr d c ts):rI d u (Ce K a) (ZH ts):=λB w k j=>by
 have g:=j _ _ (k _ _ h);rw[jU];refine⟨λi hi=> ?_,λi t x H3 e y=> ?_,λi hi=>⟨c,SqL.of g,by rw[r.length];exact hi⟩⟩
 ·obtain⟨v,e,_⟩:=r.get (ak hi);exact⟨c,v,SqL.of g,e⟩
 ·obtain⟨p,v,hp,rfl,y,rfl⟩:=y;obtain⟨t',o,rfl⟩:=WI e;obtain⟨C,q,l⟩:=r.get o;have:=y c (SqL.of g);rw[q]at this;cases this;refine⟨zj.new hp _,.tup (jd hp _) (.cons (.int _) (.cons ?_ .nil))⟩;exact(l.mono k).mono (zv.ge j (zj.new hp _))
section
variable {X:Cx}{Y:Fx}{a:Expr}{fa:En->R T}{pos p pt:Pos}{elts:List Expr}{kk:Nat}
theorem kz {v:TA}(M:Gl X "enumerate")(O:X.mg "enumerate"=none)(N:PA X [a] v)(Q:mP X a:=by exact mD rfl):
  PI X (.Tuple elts kk pt) (.Call (.Name "enumerate" p) [a] [] pos) (λj H R=>v j H λvs d=>∃l y,vs=[.ref l]/\d l=some (.lst y)/\R (Ce X.K l) d):=by
 intro B s j H R I h;refine Call_ (ZJ I M O PyProof.Rows.Boot.«enumerate» (a_ (mo (N pos _ s j H _ I h) λS g ⟨vs,d,c,J,D⟩=> ?_) Q rfl));obtain⟨l,y,e,G,q⟩:=D;subst e;obtain⟨u,rfl,P⟩:=Ze J;obtain rfl:u=Value.ref l:=P;obtain⟨_,F,n,U,r⟩:=(show zK _ X.w d _ l _ from c.hok l _ G);have i:=ao r;refine call_enumerate_1 r λh' x o hsz C=>wpAny_pyIter_enum x ?_;have f:∀b∈[g.heap.objs.size+1,g.heap.objs.size],JY X _ d b:=λb k=>by
  rcases ag.mp k with rfl | k
  ·exact c.fpOk (cC _) (c.hok.fresh (cC _))
  ·have z:=by simpa using k
   subst z;exact c.fpOk (ah _) (c.hok.fresh (ah _))
 exact⟨g.heap.objs.size+1,[g.heap.objs.size+1,g.heap.objs.size],_,_,d,rfl,c.kept C,YN _ _ l (lT _) (au (bx i)) (au i),⟨⟨_,x⟩,o⟩,f,q⟩
def Vc (fa:En->R T):En->R (List T):=λρ=>(fa ρ).bind λt=>match t with
 | .lst c=> .ok (ZH c)
 | _=> .bad
theorem Hf (i:Gl X "enumerate")(o:X.mg "enumerate"=none)(k:Snd X Y a fa)(e:mP X a:=by exact mD rfl):wT X Y (.Tuple elts kk pt) (.Call (.Name "enumerate" p) [a] [] pos) (Vc fa):= .mk λρ=>
 PI.imp (kz i o (zi (k ρ) zw e) e) λx H R ⟨B,I,q⟩=>step I q λt v u _ w g c d=>by
  cases g with
  | @lst l j ts h r=>exact⟨l,j,rfl,c.sB _ _ h,ZA c (show Po Y rI _ u _ R from d) (ky h r)⟩
  | _=>exact d.elim
noncomputable def wl:List T->Option (List Str)
 | []=>some []
 | .str x :: r=>match wl r with | some c=>some (x :: c) | none=>none
 | _ :: _=>none
def CB (c:Str):T->R T
 | .lst ts=>match wl ts with
  | some d=>if (d.map (·.length)).sum+d.length*c.length<=16777216 then .ok (.str (Txt.join c d)) else .bad
  | none=> .bad
 | _=> .bad
theorem Jc {H:Hp}:∀{g:List V} {ts:List T} {c:List Value} {d:List Str},zr H g ts->Vals g c->wl ts=some d->StrsAre c d
 | _,_,_,d,.nil,.nil,h=>by
  have h' :=h;cases h';exact .nil
 | _,_,_,d,.cons r i,.cons j vs,h=>by
  cases r with
  | str x=>
   unfold wl at h;split at h
   ·rename_i k e;cases h;obtain⟨tk,rfl⟩:=j;exact .cons x tk (Jc i vs e)
   ·cases h
  | _=>cases h
theorem kA:pC X "str.join" (λx i H Q=>∃z l d ts c,x= .str z/\i=[.ref l]/\H l=some (.lst d)/\zr H d ts/\wl ts=some c/\(c.map (·.length)).sum+c.length*z.length<=16777216/\Q (.str (Txt.join z c)) H):=by
 intro j s D H x i v F Q I o g h;obtain⟨z,l,d,ts,c,rfl,rfl,y,r,e,B,q⟩:=h;obtain⟨t,rfl⟩:=o;obtain⟨u,rfl,C⟩:=Ze g;obtain rfl:u=Value.ref l:=C;obtain⟨w,g,p,_⟩:=zH I (.inl y) r;exact join_list p (by simpa using Jc r g e) B λt' k=>⟨.str _,H,I.tok k,⟨t',rfl⟩,q⟩
theorem F6 (o:jc X Y a fa)(i:attributeBase (.Constant (.str z) kc pz) "join" X.env (eval (.Constant (.str z) kc pz) X.env)=eval (.Constant (.str z) kc pz) X.env:=by rfl)(g:mP X a:=by exact mD rfl)
  (hz:(pa.endLine == p.line)=true:=by rfl):Snd X Y (.Call (.Attribute (.Constant (.str z) kc pz) "join" pa) [a] [] p) (mn (CB z) fa):= .mk λρ=>by
 have w:(((((backTo p (starEach [a] X.env)).all λx=> !x.fst) && (backToKw p (keywordEach [] X.env)).all λx=>x.fst.isSome) && decide (([a].length+([]:List Keyword).length+if ([]:List Keyword).isEmpty=true then 0 else 1) < 30))=true):=by rw[g];rfl
 refine PE.imp (yr PySem.F.plainAttrs_str PySem.F.slot_str_join PySem.F.type_str_join kA Yc (zi (o ρ) zw g) i w hz g rfl) λG H Q ⟨B,I,q⟩=> ?_;refine⟨rfl,step I q λt v y _ D j u c=> ?_⟩;cases j with
 | @lst l k ts h r=>
  have c:Po Y rC _ y (match wl ts with | some d=>if (d.map _).sum+d.length*z.length<=16777216 then .ok _ else .bad | none=> .bad) Q:=c
  split at c
  ·rename_i d e;split at c
   ·rename_i C;exact⟨z,l,k,ts,d,rfl,rfl,h,r,e,C,mO u.sB c rfl (.str _)⟩
   ·exact c.elim
  ·exact c.elim
 | _=>exact c.elim
end
noncomputable def dd:List Str->List Str->List Str
 | acc,[]=>acc
 | acc,x :: r=>dd (if x∈acc then acc else acc++[x]) r
section
variable {prog:Program}{w:World}{A:Around}{R:Result->Shared->Prop}{I:Addr}{fp wr:List Addr}{n:Nat}{P:Nat->Value->Prop}{St:Nat->Heap->Prop}
theorem j3 {h h' :Heap}{S:Addr}{f g:Str->Bool}{m k:Nat}(x:h.SetOf (strKind prog w) S f m)(e:∀o,h.get? S=some o->h'.get? S=some o)(a:f=g)(c:m=k):h'.SetOf (strKind prog w) S g k:=by
 subst a c;obtain⟨o,d,ep,t,i,r⟩:=x;exact⟨o,d,ep,t,e o i,r⟩
theorem Vd (W:Walks prog w A.in1 I fp wr n P St)(S:Addr)(d:S ∉ fp)(val:Nat->Str)(q:∀i v,P i v->∃t,v=Value.str (val i) t)(a:n+1 < scanBound):
  ∀(k i:Nat) (acc:List Str) (s:Shared),n - i=k->i<=n->acc.length<=i->St i s.heap->s.heap.SetOf (strKind prog w) S (λx=>decide (x∈acc)) acc.length->
   (∀h' tk,(∀b o,b ∉ S :: wr->s.heap.get? b=some o->h'.get? b=some o)->h'.SetOf (strKind prog w) S (λx=>decide (x∈dd acc ((fZ i k).map val))) (dd acc ((fZ i k).map val)).length->
    R (.ok (.ret .none)) { s with heap:=h',toks:=tk })->codeAny (model prog w) A (.builtin "set.update.loop" ⟨[.ref S,.ref I],[]⟩) R s:=by
 intro k
 induction k with
 | zero=>
  intro i acc s Q hi C c N B;obtain rfl:i=n:=by omega
  refine bc c_ ?_;refine a8 (W.done s _ _ c λh' tk p =>aa ?_);exact B h' tk (λb o a e=>p b o (λz=>a (ab _ z)) e) (j3 N (λo e=>p S o (λz=>d (W.sub _ z)) e) rfl rfl)
 | succ k U=>
  intro i acc s Q hi C c N B;refine bc c_ ?_;refine a8 (W.item i s _ _ (by omega) c λv h1 X hP j l=> ?_)
  obtain⟨t,rfl⟩:=q i v hP;have y:=j3 N (λo e=>l S o (λz=>d (W.sub _ z)) e) rfl rfl;refine a8 (m:=holding _ _) (bi ?_);unfold setAdd;have r:(strKind prog w).is (val i) (.str (val i) t)=true:=strKind_is _ _ _ _;refine bi (a8 ((strKind _ w).pyHash r ?_));refine wpAny_setAddHashed_of r rfl y (by omega) λh2 u D=> ?_
  have e2:(if decide (val i∈acc)=true then acc.length else acc.length+1)=(if val i∈acc then acc else acc++[val i]).length:=by
   by_cases g:val i∈acc
   ·simp[g]
   ·simp[g]
  have e1:(λx=>decide (x∈acc) || decide (x=val i))=(λx=>decide (x∈(if val i∈acc then acc else acc++[val i]))):=by
   funext x
   by_cases g:val i∈acc
   ·simp only[if_pos g]
    by_cases O:x=val i
    ·subst O;simp[g]
    ·simp[O]
   ·simp[g,Bool.decide_or]
  have J:=j3 D (λo e=>e) e1 e2;refine aa ⟨bI i5 _,U _ _ _ (by omega) (by omega) ?_ (W.frame _ h1 _ j λb a o e=> ?_) J λZ G M F=> ?_⟩
  ·split
   ·omega
   ·rw[ay,aI];omega
  ·exact(u.2 b (λz=>d (z ▸ a))).trans e
  ·refine B Z G (λb o a e=>M b o a ?_) F;exact(u.2 b (λz=>a (z ▸ ac))).trans (l b o (λz=>a (ab _ z)) e)
end
section
set_option maxRecDepth 100000 in
set_option maxHeartbeats 3200000 in
theorem YO {l:Addr}{a:List Value}{j:List Str}{Q:Value->Shared->Prop}(hh:A.handled=none)(hl:s.heap.IsList l a.toArray)(hi:StrsAre a j)(hb:a.length+1 < scanBound)
  (h:∀(h' :Heap) (tk:Nat),h'.SetOf (strKind prog w) s.heap.objs.size (λx=>decide (x∈dd [] j)) (dd [] j).length->(∀b o,b < s.heap.objs.size->s.heap.get? b=some o->h'.get? b=some o)->
   Q (.ref s.heap.objs.size) { s with heap:=h',toks:=tk }):wpAny (model prog w) A (call (.type "set") [.ref l]) Q E s:=by
 have O:∀{a:List Value} {j:List Str},StrsAre a j->a.length=j.length/\∀(i:Nat) (v:Value),a[i]? =some v->∃t,v=Value.str (j.getD i ⟨#[]⟩) t:=λ{a j} hi=>by
  induction hi with
  | nil=>exact⟨rfl,λi v e=>by simp at e⟩
  | cons y t _ ih=>
   refine⟨by simp[ih.1],λi v e=> ?_⟩
   cases i with
   | zero=>exact⟨t,by simpa using e.symm⟩
   | succ i=>exact ih.2 i v (by simpa using e)
 obtain⟨P,S⟩:=O hi;have hys:(fZ 0 a.length).map (λi=>j.getD i ⟨#[]⟩)=j:=by
  rw[P];refine cq λi=> ?_;rw[aw]
  by_cases D :i < j.length
  ·rw[iH D,ak D];simp[ak D]
  ·rw[aN (by simp;omega),aN (by omega)]
   rfl
 obtain⟨c,tl,hmro⟩:=bM.mro;have hmade:=bM.made;have hsub:=bM.sub;have h1:=bM.notType;have h2:=bM.canCreate;have hct:=lU (.ref l);refine wpAny_call (codeAny_of_tree (show wpAny _ _ (callAny (.type "set") _) _ _ _ from ?_));refine aa ⟨i_ _ (by decide+kernel),bc lw ?_⟩
 rw[j_ (weight_type_call_type "set" [.ref l] []) rfl]
 repeat any_goals (first | assumption | wp_step)
 refine ci (code_set_new_1 (.ref l) (E:=E) (Q₁:=λobj p=>∃d:Bool,obj= .ref s.heap.objs.size/\p={ s with heap:=s.heap.push { cls:= .type "set",dict:=none,data:= .set #[] 0 (.fresh 0 0 d) } }) λd=>⟨d,rfl,rfl⟩) λr p hr=> ?_;cases r with
 | error e=>exact hr
 | ok fl=>
  cases fl with
  | ret obj=>
   obtain⟨d,rfl,rfl⟩:=hr;generalize hG:s.heap.push { cls:= .type "set",dict:=none,data:= .set #[] 0 (.fresh 0 0 d) }=G;have hS:G.get? s.heap.objs.size=some { cls:= .type "set",dict:=none,data:= .set #[] 0 (.fresh 0 0 d) }:=by rw[← hG];exact ae _ rfl
   have B:G.objs.size=s.heap.objs.size+1:=by rw[← hG,be]
   have X:∀b o,s.heap.get? b=some o->G.get? b=some o:=λb o e=>by rw[← hG];exact a9 _ e
   have hT:du { s with heap:=G } (.ref s.heap.objs.size) "set":=⟨_,hS,rfl⟩;have hli:=bM.init.lookup;have hbi:=bM.init.bind (.ref s.heap.objs.size)
   repeat any_goals (first | assumption | wp_step)
   refine ci (codeAny_call_builtin (R:=wants (λr q=>r= .none/\∃h' tk,q={ s with heap:=h',toks:=tk }/\h'.SetOf (strKind prog w) s.heap.objs.size (λx=>decide (x∈dd [] j)) (dd [] j).length/\
     (∀b o,b < s.heap.objs.size->s.heap.get? b=some o->h'.get? b=some o)) E) bM.init.plain lV (check_set_init_1 hT ?_)) λU q g=> ?_
   ·obtain⟨⟨ocls,odict,odata,oslots⟩,I,M,nl,J⟩:=hl;simp only at M J;subst M;subst J;have Z :=X _ _ I;have hsls:=F.sub_list_set;have hslf:=iI;have hne:(Value.type "list" == Value.type "dict")=false:=by decide
    have hl1:G.IsList l a.toArray:=⟨_,Z,rfl,nl,rfl⟩;have N:l < s.heap.objs.size:=ao I;unfold Builtin.«set.__init__» noKeywords fA;generalize hPI:pyIter=PI
    wp_walk
    subst hPI;refine cn hl1 (a8 (wpAny_runValue ?_));have hSf:s.heap.objs.size ∉ [G.objs.size,l]:=by
     rw[B];intro z;rcases ag.mp z with z | z
     ·exact absurd z (au (cF _))
     ·exact absurd (av.mp z) (c8 N)
    refine Vd (ij (A:=A.in1.in1.in1) (by simp[hh]) G.objs.size l (by rw[B];exact au (bx N)) a.toArray) s.heap.objs.size hSf (λi=>j.getD i ⟨#[]⟩) (λi v e=>S i v (by simpa using e)) (by simpa using hb) a.length 0 [] _ (by simp) (aX _) (ah _)
     ⟨⟨_,ae _ rfl,rfl,rfl⟩,hl1.push _⟩ ?_ ?_
    ·have C :(G.push { cls:= .type "list_iterator",data:= .fields #[.ref l,.int 0 0] }).get? s.heap.objs.size=some { cls:= .type "set",dict:=none,data:= .set #[] 0 (.fresh 0 0 d) }:=a9 _ hS;exact j3 ((PyProof.Rows.setObjOf_fresh (knd:=strKind prog w) d).setOf C (by unfold scanBound;omega)) (λo e=>e) (by funext x;simp) rfl
    ·intro h' tk' hm k;rw[hys]at k;refine aa (show wpAny _ _ (ret Value.none) _ _ _ from aa ⟨rfl,h',tk',rfl,k,λb o hb e=> ?_⟩);refine hm b o (λz=> ?_) (a9 _ (X b o e));rcases ag.mp z with z | z
     ·exact absurd z (au hb)
     ·have z' :b=G.objs.size:=av.mp z;rw[B]at z';exact absurd z' (au (bx hb))
   ·cases U with
    | error e=>exact g
    | ok u=>
     cases u with
     | ret r=>
      obtain⟨rfl,h',tk,rfl,k,hk'⟩:=g
      repeat any_goals (first | assumption | wp_step)
      exact h _ _ k hk'
     | _=>exact g.elim
  | _=>exact hr.elim
end
section
theorem YQ (N:X.A.handled=none):Z4 X (.type "set") (λvs H Q=>∃l g ts a,vs=[.ref l]/\H l=some (.lst g)/\zr H g ts/\wl ts=some a/\ts.length+1 < 4096/\
  ∀q,H q=none->Q (.ref q) (ml H q (.ext λh=>h.SetOf (strKind X.prog X.w) q (λx=>decide (x∈dd [] a)) (dd [] a).length))):=by
 intro v s U H vs us Q I k h;obtain⟨l,g,ts,a,rfl,F,r,C,Z,q⟩:=h;obtain⟨u,rfl,O⟩:=Ze k;obtain rfl:u=Value.ref l:=O;obtain⟨D,k,pl,G,_⟩:=zH I (.inl F) r;refine YO N pl (Jc r k C) (by unfold scanBound;omega) λh' tk p y=> ?_
 refine⟨.ref _,_,I.laid (λb u e=>y b u (ao e) e) (ah _) ?_,rfl,q _ (I.hok.fresh (ah _))⟩;obtain⟨o,es,ep,t,M,rr⟩:=id p;exact⟨p,⟨o,M⟩,λP S ⟨B,i,j,J,c,d⟩ e=>⟨B,i,j,J,e _ c,d⟩⟩
theorem YR:Z4 X (.builtin "len") (λvs H Q=>∃q c f n,vs=[.ref q]/\H q=some (.ext c)/\(∀h:Heap,c h->h.SetOf (strKind X.prog X.w) q f n)/\Q (.int n) H):=by
 intro d s x H vs y Q I v h;obtain⟨l,c,f,n,rfl,i,a,q⟩:=h;obtain⟨u,rfl,r⟩:=Ze v;obtain rfl:u=Value.ref l:=r;obtain⟨g,_,_⟩:=(show zK _ X.w H _ l _ from I.hok l _ i);obtain⟨o,k,ep,t,p,hex,hd,_,_,j,e,hn⟩:=a _ g;refine call_len_set p hex hd e ?_ ⟨.int _,H,I.tok _,⟨_,rfl⟩,by rw[hn];exact q⟩
 have:k.size < 4096:=j;omega
def Ve:T->R T
 | .lst ts=>match wl ts with
  | some a=>if ts.length+1 < 4096 then .ok (.int (dd [] a).length) else .bad
  | none=> .bad
 | _=> .bad
theorem EQ (j:X.A.handled=none)(u:Gl X "len")(x:X.mg "len"=none)(i :Gl X "set")(g :X.mg "set"=none)(F:jc X Y a fa)(o:mP X a:=by exact mD rfl)(d :mP X (.Call (.Name "set" p') [a] [] pos'):=by exact mD rfl):
  Snd X Y (.Call (.Name "len" p) [.Call (.Name "set" p') [a] [] pos'] [] pos) (mn Ve fa):= .mk λρ=>
 PE.imp (Zl YR u x PySem.boot_len (zi (Zf (YQ j) i g PyProof.Rows.Boot.«set» (zi (F ρ) zw o) (by decide) (by decide) o rfl) zw d) (by decide) (by decide) d rfl) λJ H Q ⟨B,I,q⟩=>
  step I q λt v w _ M C G c=>by
   cases C with
   | @lst l D ts h r=>
    have c:Po Y rC _ w (match wl ts with | some k=>if ts.length+1 < 4096 then .ok _ else .bad | none=> .bad) Q:=c
    split at c
    ·rename_i k e;split at c
     ·rename_i y;refine⟨l,D,ts,k,rfl,h,r,e,y,λz hz=>⟨z,_,_,_,rfl,zh,λh j=>j, ?_⟩⟩;exact c _ _ (zj.new hz _) (.int _)
     ·exact c.elim
    ·exact c.elim
   | _=>exact c.elim
end
theorem Ju:ZB mJ X E:=λ_ _ _ _ _ _ _ h=>h.elim
section
theorem kB (hy:Y.cl=cl)(F:JW X.prog X.w X.K X.mg X.base mJ j f fd ps (spP cl n g))(hr:ZF k X.A)(l:j<=k)(i:Gl X x)
  (e:X.mg x=some (.ref f)) (kp:cW X.K (.ref f)=true) (c:L2.Binds X.K fd ps []) (d:ur X Y (a :: es) ga) (hd:(x == ("__debug__":Str))=false:=by decide)
  (o:starEach (a :: es) X.env=(false,eval a X.env) :: starEach es X.env:=by exact zo rfl) (hz:((backTo pos (starEach es X.env)).any λx=>x.fst)=false:=by exact zL rfl):Snd X Y (.Call (.Name x p) (a :: es) [] pos) (zb n g ga):=by
 subst hy;exact GW F (hr.mono l) i e kp c Ju d hd o hz
theorem wW (d:Gl X x)(c:X.mg x=some u)(a:∃t,u=Value.int i t)(hd:(x == ("__debug__":Str))=false:=by decide):Snd X Y (.Name x pos) (cE (.int i)):= .mk λρ=>
 PE.imp (Xq (v:= .int i) d c a hd) λe H Q ⟨B,I,q⟩=>ZA I q (.int i)
end
noncomputable def Ax (scope a:Scope):Bool:=(scope.kind == .function) && scope.names.all (λx=>x.2 != .cell) && scope.names.all (λx=>x.2 != .local || scope.names.lookup x.1 == some .local) &&
 scope.names.all (λx=>x.2 != .free || a.names.lookup x.1 == some .cell || a.names.lookup x.1 == some .free)
theorem YS (c:Scope)(k:X.env.scope=c)(h:Ax scope c=true):Ad X scope:=by
 unfold Ax at h;simp only[aj,aS]at h;obtain⟨⟨⟨e,g⟩,d⟩,j⟩:=h;refine⟨eq_of_beq e,λx a=>by simpa using g x a,λx a l=> ?_,λx a i=> ?_⟩
 ·have:=d x a;rw[l]at this;simpa using this
 ·have:=j x a;rw[i]at this;show X.env.scope.names.lookup x.1=_\/X.env.scope.names.lookup x.1=_;rw[k];simpa using this
noncomputable def gK (N N' :List Str)(scope a:Scope)(k:Nat)(js:List Nat):Bool:=(N'.length == k+js.length) && (ba js.length).all λi=>match js[i]? with
 | none=>true
 | some j=>match N'[k+i]?,N[j]? with
  | some x,some y=>(x == y) && (a.names.lookup x == some .cell || a.names.lookup x == some .free) && (scope.names.lookup x == some .free)
  | _,_=>false
theorem wX {js:List Nat}(N:List Str)(a:Scope)(l:X.N=N)(d:X.env.scope=a)(h:gK N N' scope a k js=true):gJ X scope N' k js:=by
 unfold gK at h;simp only[aj,aS]at h;obtain⟨r,u⟩:=h;refine⟨eq_of_beq r,λi j e=> ?_⟩;have hi:=(aK.mp e).1;have q:=u i (bN.mpr hi);rw[e]at q;dsimp only at q;split at q
 ·rename_i x y p g;simp only[aj,iw,beq_iff_eq]at q;obtain⟨⟨rfl,c⟩,o⟩:=q;refine⟨x,p,by rw[l];exact g, ?_,o, ?_⟩
  ·rw[d];exact .inr c
  ·show X.env.scope.names.lookup x=_\/X.env.scope.names.lookup x=_;rw[d];exact c
 ·cases q
theorem xN {js:List Nat}{g:T->En->R En}(N' :List Str)(N:List Str)(a:Scope)(j:X.N=N)(d:X.env.scope=a)
  (h:(Ax scope a && gK N N' scope a k js)=true) (o:X.calm=true) (it:wT X Y tg iter fi) (l:xL X scope N' λc=>PG c tg tG) (i:oq tG g) (p:oz g) (tt:∀Y',Y'.cl=Y.cl->xL X scope N' λc=>J8 c Y' ifs ft)
  (e:∀Y',Y'.cl=Y.cl->sy X scope N' Y'.E λc=>Snd c Y' elt fe) (q:∀x,foldedSetIterable iter X.env x=pure x:=by intro _;rfl):jS X Y tg iter elt ifs scope N' k js fi tG g ft fe:=by
 rw[aj]at h;exact⟨YS a d h.1,wX N a j d h.2,o,it,l,i,p,tt,e,q⟩
end PV
namespace PV
open PySem PySem.Spec PyProof.Rows L2 PySem.W
section
end
section
variable {P:Program}{w:World}{K:ai}{mg:Str->Option Value}{base:Heap}{N:List Str}{qual:Str}{scope:Scope}{f:Addr}{cd:Value}{A:Around}{outer:List Env}{s:Shared}{H:Hp}{E:XK}{Y:Fx}
theorem Fun.okX {x qual:Str}{st:Stmt}{f:Addr}{g:FuncData}{N d:List Str}{k:Nat}{sp:Sp}(F:Fun K x qual st f g)(S:ZQ N d (ze st))(len:∀vs H Q E,sp vs H Q E->vs.length=d.length)
  (a:∀(cdv:Value) (A:Around) (outer:List Env) (s:Shared) (H:Hp) (vs:List V) (Q:VK) (E:XK),ZF k (A.deeper (envOfC qual (ze st) s.heap.objs.size f cdv))->sp vs H Q E->
   ∃t,PSs (ZC (mN P w) P w K mg base N qual (ze st) f cdv A outer s H E) (zR st) t/\t { nx:=λ_ l =>Q .non l,rt:=Q } (start N vs) H):JW P w K mg base (mN P w) (k+1) f g d sp:=by
 obtain⟨r,q,kV,o,pm,p,cdv,ct,i,rfl,j,e⟩:=F.ex;exact Xw j e S len λA outer s H vs Q E hr c=>a cdv A _ s H vs Q E hr c
end
theorem SI.wish (I:SI Y B ρ σ H)(E:XK):SI { Y with E:=E } B ρ σ H:=⟨I.s0,I.sH,I.sB,I.old,I.len,I.vl,I.ow,I.xc,let ⟨as,O,x⟩:=I.st;⟨as,O,x.on (λ_ _ _ h=>⟨h,rfl⟩) (zj.refl _) rfl rfl (zj.refl _) λ_ _ h c a _=>⟨h,c,a,id⟩⟩⟩
end PV
namespace PySem.W
open PySem PySem.Calls PyProof.Rows PySem.Spec Builtin Builtin.ObjectAttr Builtin.Getset_descriptor
end PySem.W
namespace PySem.W
open PySem PySem.Calls PyProof.Rows PySem.Spec Builtin Builtin.ObjectAttr Builtin.Getset_descriptor
end PySem.W
namespace PySem.W
open PySem PySem.Calls PyProof.Rows PySem.Spec Builtin Builtin.ObjectAttr Builtin.Getset_descriptor
end PySem.W
namespace PV
open PySem PySem.Spec PyProof.Rows L2 PySem.W
section
end
end PV
namespace PySem.ZG
open PySem PySem.Spec PySem.Builtin.SmallTypes
structure uB (i:Addr) (fp:List Addr) (v:Nat->Option Value) (St:Nat->Heap->Prop):Prop where
 mem:i∈fp
 item:∀{prog:Program} {w:World} {A:Around} {E:Value->Shared->Prop} {s:Shared} {Q:Value->Shared->Prop} {k:Nat} {x:Value},St k s.heap->v k=some x->(∀h',St (k+1) h' ->aQ i s.heap h' ->Q x { s with heap:=h' })->wpAny (model prog w) A (nextOf (.ref i)) Q E s
 stop:∀{prog:Program} {w:World} {A:Around} {E:Value->Shared->Prop} {s:Shared} {Q:Value->Shared->Prop} {k:Nat},A.handled=none->St k s.heap->v k=none->(∀h' e,fg i s.heap h' ->(∃o,h'.get? e=some o/\o.cls= .type "StopIteration")->E (.ref e) { s with heap:=h' })->wpAny (model prog w) A (nextOf (.ref i)) Q E s
 keep:∀{k:Nat} {h h' :Heap},St k h->(∀b∈fp,∀o,h.get? b=some o->h'.get? b=some o)->St k h'
 there:∀{k:Nat} {h:Heap},St k h->∀b∈fp,∃o,h.get? b=some o
theorem uB.but {v:Nat->Option Value}{St:Nat->Heap->Prop}(N:uB i fp v St)(x:St k h)(e:fg b h h')(n:b ∉ fp):St k h' :=
 N.keep x λc a o q=>e c o (λz=>n (z ▸ a)) q
theorem kC (d:l ≠ i)(j:Array Value):uB i [i,l] (λk=>j[k]?) (λk h=>h.IsListIter i l k/\h.IsList l j) where
 mem:= .head _
 item:=λst g h=>wpAny_nextOf_list_item st.1 st.2 g λh' a b=>h h' ⟨a,st.2.extBut b.extBut d⟩ b
 stop:=λr st g h=>wpAny_nextOf_list_end r st.1 st.2 g h
 keep:=λst k=>⟨st.1.at λo e=>k i (.head _) o e,st.2.at λo e=>k l (.tail _ (.head _)) o e⟩
 there:=λst b c=>by
  obtain⟨⟨o,e,_⟩,q,p,_⟩:=st;rcases ag.mp c with z | c
  ·exact⟨o,z ▸ e⟩
  ·exact⟨q,(av.mp c) ▸ p⟩
end PySem.ZG
namespace PySem.ZG
open PySem PySem.Spec PySem.Builtin.SmallTypes
section
theorem Uj (a:s.heap.IsTupleIter it l k)(h:wpAny (model prog w) A.in1 (Builtin.«tuple_iterator.__next__» ⟨[.ref it],[]⟩) (λc d =>∃v,c= .done (.ret v)/\Q v d) E s):wpAny (model prog w) A (nextOf (.ref it)) Q E s:=by
 exact a8 (aW a.typeIs eM (aL eM a.typeIs PySem.F.entry_tuple_iterator_next
  (cG h (λc d ⟨v,e,q⟩=>⟨v,e,aa q⟩) λ_ _ z=>z) (PySem.F.args_tuple_iterator_next_1 _)))
theorem tup_item (a:s.heap.IsTupleIter it l k)(p:s.heap.IsTuple l xs)(i:xs[k]? =some x)(h:∀h',h'.IsTupleIter it l (k+1)->aQ it s.heap h' ->Q x { s with heap:=h' }):wpAny (model prog w) A (nextOf (.ref it)) Q E s:=by
 refine Uj a ?_;obtain⟨o,c,j,hd⟩:=id a;obtain⟨q,e,_,r,d⟩:=p;refine a8 (m:=field _ 0) (b9 c hd rfl ?_);refine a8 (b9 c hd rfl (a8 (bQ e d ?_)));simp only[bv,i];have g:=bT (h9 (·.setIfInBounds 1 (rawInt (k+1)))) c (iz (eC hd _));refine a8 (wpAny_setField c hd (by simp) (aa ⟨x,rfl,h _ ⟨_,g,(lx ..).trans j, ?_⟩ (bF ..)⟩))
 rw[eC hd];simp[rawInt]
theorem tup_stop (p:A.handled=none)(a:s.heap.IsTupleIter it l k)(i:s.heap.IsTuple l xs)(j:xs[k]? =none)
  (h:∀h' e,fg it s.heap h' ->(∃o,h'.get? e=some o/\o.cls= .type "StopIteration")->E (.ref e) { s with heap:=h' }):wpAny (model prog w) A (nextOf (.ref it)) Q E s:=by
 refine Uj a ?_;obtain⟨o,g,r,hd⟩:=id a;obtain⟨q,c,_,u,d⟩:=i;refine a8 (m:=field _ 0) (b9 g hd rfl ?_);refine a8 (b9 g hd rfl (a8 (bQ c d ?_)));simp only[bv,j];refine a8 (cx (a8 (wpAny_setField g hd (by simp) (a8 ?_))))
 refine a8 (aJ (a8 (bz (by first | rfl | (simp only[firstArgMember])) (aJ ?_ (by size_fits)))) (by size_fits))
 refine a8 (wpAny_handled ?_);rw[p];exact a8 (aa (wpAny_throw (h _ _ (((bF ..).extBut.push _).push _) ⟨_,ae _ rfl,rfl⟩)))
end
theorem nx_tup (j:l ≠ i)(q:Array Value):uB i [i,l] (λk=>q[k]?) (λk h=>h.IsTupleIter i l k/\h.IsTuple l q) where
 mem:= .head _
 item:=λst p h=>tup_item st.1 st.2 p λh' a b=>h h' ⟨a,st.2.extBut b.extBut j⟩ b
 stop:=λv st p h=>tup_stop v st.1 st.2 p h
 keep:=λst k=>by
  obtain⟨⟨o,e,r⟩,c,g,u⟩:=st;exact⟨⟨o,k i (.head _) o e,r⟩,c,k l (.tail _ (.head _)) c g,u⟩
 there:=λst b d=>by
  obtain⟨⟨o,e,_⟩,c,g,_⟩:=st;rcases ag.mp d with z | d
  ·exact⟨o,z ▸ e⟩
  ·exact⟨c,(av.mp d) ▸ g⟩
end PySem.ZG
namespace PySem.ZG
open PySem PySem.Spec PySem.Builtin.SmallTypes
structure Ap (z TI TO i1 i2:Addr) (fp1 fp2:List Addr):Prop where
 Iz:TI ≠ z
 Oz:TO ≠ z
 IO:TI ≠ TO
 I1:TI ≠ i1
 I2:TI ≠ i2
 z1:z ∉ fp1
 z2:z ∉ fp2
 O1:TO ∉ fp1
 O2:TO ∉ fp2
 a:i1 ∉ fp2
 b:i2 ∉ fp1
section
variable {v1 v2:Nat->Option Value}{S1 S2:Nat->Heap->Prop}
theorem Ap.ne1 (D:Ap z TI TO i1 i2 fp1 fp2)(a:uB i1 fp1 v1 S1):i1 ≠ z/\i1 ≠ TO:=⟨λe=>D.z1 (e ▸ a.mem),λe=>D.O1 (e ▸ a.mem)⟩
theorem Ap.ne2 (D:Ap z TI TO i1 i2 fp1 fp2)(a:uB i2 fp2 v2 S2):i2 ≠ z/\i2 ≠ TO:=⟨λe=>D.z2 (e ▸ a.mem),λe=>D.O2 (e ▸ a.mem)⟩
theorem kD {Q:Value->Shared->Prop}(d:uB i1 fp1 v1 S1)(g:uB i2 fp2 v2 S2)(D:Ap z TI TO i1 i2 fp1 fp2)(hz:IsZip s.heap z TI TO .none)(O:IsPair s.heap TI (.ref i1) (.ref i2))(N:IsPair s.heap TO a b)(p1:S1 k s.heap)(p2:S2 k s.heap)(hx:v1 k=some x)(hy:v2 k=some y)
  (hQ:∀h',IsZip h' z TI TO (rawInt s.heap.objs.size)->IsPair h' TO x y->S1 (k+1) h' ->S2 (k+1) h' ->IsPair h' s.heap.objs.size x y->
   (∀c o,c ≠ z->c ≠ TO->c ≠ i1->c ≠ i2->s.heap.get? c=some o->h'.get? c=some o)->Q (.ref s.heap.objs.size) { s with heap:=h' }):
  wpAny (model prog w) A (Builtin.«zip.__next__» ⟨[.ref z],[]⟩) (λP s' =>∃v,P= .done (.ret v)/\Q v s') E s:=by
 refine a8 (m:=field (.ref z) 2) (b9 hz rfl (x:= .bool false) rfl (a8 (b9 hz rfl (x:= .ref TI) rfl (a8 (bQ O rfl ?_)))));refine a8 ?_;refine a8 (b9 hz rfl (x:= .none) rfl (aa ?_));refine a8 (cx (a8 (b9 hz rfl (x:= .ref TO) rfl (a8 (aO hz (by simp) λg1 I B=> ?_)))))
 replace I:=I
 refine a8 ?_;refine a8 (a8 (wpAny_onRaise (a8 (d.item (d.but p1 B.extBut D.z1) hx λg2 q1 r=>aa ?_))));have Z:IsPair g2 TO a b:=r.extBut _ _ (D.ne1 d).2.symm (B.extBut _ _ D.Oz N);refine a8 (bQ Z rfl (a8 (wpAny_updateSeq_pair Z λg3 t3 u=> ?_)));refine a8 (dC (aa ?_));refine a8 (a8 (wpAny_onRaise (a8 (g.item (g.but (g.but (g.but p2 B.extBut D.z2) r.extBut D.a) u.extBut D.O2) hy λg4 q2 p=>aa ?_))));have t4:IsPair g4 TO x b:=p.extBut _ _ (D.ne2 g).2.symm t3;refine a8 (bQ t4 rfl (a8 (wpAny_updateSeq_pair t4 λi F l=> ?_)))
 replace F:IsPair i TO x y:=F
 refine a8 (dC (aa (aa ?_)));refine a8 (bQ F rfl (a8 (wpAny_newTuple ?_)));have sz:i.objs.size=s.heap.objs.size:=by rw[l.1,p.1,u.1,r.1,B.1]
 have z5:=l.extBut _ _ D.Oz.symm (p.extBut _ _ (D.ne2 g).1.symm (u.extBut _ _ D.Oz.symm (r.extBut _ _ (D.ne1 d).1.symm I)));have k5:∀c o,c ≠ z->c ≠ TO->c ≠ i1->c ≠ i2->s.heap.get? c=some o->i.get? c=some o:=λc o j C J G e=>
  l.extBut _ _ C (p.extBut _ _ G (u.extBut _ _ C (r.extBut _ _ J (B.extBut _ _ j e))))
 have r1:S1 (k+1) i:=d.but (d.but (d.but q1 u.extBut D.O1) p.extBut D.b) l.extBut D.O1;have r2:S2 (k+1) i:=g.but q2 l.extBut D.O2;refine a8 ?_;have z6:IsZip (i.push { cls:= .type "tuple",data:= .seq #[x,y] }) z TI TO _:=a9 _ z5;refine a8 (aO z6 (by simp) λg7 z7 X=> ?_)
 refine aO z7 (by simp) λg8 S e8=> ?_
 have up:∀c o,c ≠ z->i.get? c=some o->g8.get? c=some o:=λc o j e=>e8.extBut _ _ j (X.extBut _ _ j (a9 _ e));have hn:i.objs.size ≠ z:=c8 (ao z5);have U:=e8.extBut _ _ hn (X.extBut _ _ hn (ae _ rfl));rw[sz]at S U;refine aa ⟨_,rfl, ?_⟩;rw[sz];exact hQ g8 S (up _ _ D.Oz F) (d.keep r1 λc M o e=>up c o (λq=>D.z1 (q ▸ M)) e) (g.keep r2 λc M o e=>up c o (λq=>D.z2 (q ▸ M)) e) U λc o j C J G e=>up c o j (k5 c o j C J G e)
theorem kG {Q:Fin->Shared->Prop}(Z:A.handled=none)(d:uB i1 fp1 v1 S1)(v:uB i2 fp2 v2 S2)(D:Ap z TI TO i1 i2 fp1 fp2)(hz:IsZip s.heap z TI TO .none)(J:IsPair s.heap TI (.ref i1) (.ref i2))(I:IsPair s.heap TO a b)(p1:S1 k s.heap)(p2:S2 k s.heap)(y:v1 k=none\/v2 k=none)
  (hE:∀h' e,(∀c o,c ≠ z->c ≠ TO->c ≠ i1->c ≠ i2->s.heap.get? c=some o->h'.get? c=some o)->(∃o,h'.get? e=some o/\o.cls= .type "StopIteration")->E (.ref e) { s with heap:=h' }):
  wpAny (model prog w) A (Builtin.«zip.__next__» ⟨[.ref z],[]⟩) Q E s:=by
 refine a8 (m:=field (.ref z) 2) (b9 hz rfl (x:= .bool false) rfl (a8 (b9 hz rfl (x:= .ref TI) rfl (a8 (bQ J rfl ?_)))));refine a8 ?_;refine a8 (b9 hz rfl (x:= .none) rfl (aa ?_));simp only[if_true];refine a8 (cx (a8 (b9 hz rfl (x:= .ref TO) rfl (a8 (aO hz (by simp) λg1 F u=> ?_)))))
 replace F:=F
 refine a8 ?_;have off:∀{g:Heap} {e:Addr} {l:Obj},IsZip g z TI TO .ellipsis->g.get? e=some l->l.cls= .type "StopIteration"->e ≠ z:=λhg p i q=>by
  subst q;rw[hg]at p;cases p;simp at i
 cases M:v1 k with
 | none=>
  refine a8 (a8 (wpAny_onRaise (a8 (d.stop Z (d.but p1 u.extBut D.z1) M λg2 e j p=> ?_))));obtain⟨l,B,i⟩:=p;have N:=j _ _ (D.ne1 d).1.symm F;exact aO N (by simp) λO _ r=>hE O e (λc o C _ G _ q=>r.extBut _ _ C (j _ _ G (u.extBut _ _ C q))) ⟨l,r.extBut _ _ (off N B i) B,i⟩
 | some x=>
  have hy:v2 k=none:=by
   rcases y with q | q
   ·rw[M]at q;cases q
   ·exact q
  refine a8 (a8 (wpAny_onRaise (a8 (d.item (d.but p1 u.extBut D.z1) M λg2 q1 j=>aa ?_))));have U:=j.extBut _ _ (D.ne1 d).2.symm (u.extBut _ _ D.Oz I);refine a8 (bQ U rfl (a8 (wpAny_updateSeq_pair U λO t3 r=>a8 (dC (aa ?_)))));refine a8 (a8 (wpAny_onRaise (a8 (v.stop Z (v.but (v.but (v.but p2 u.extBut D.z2) j.extBut D.a) r.extBut D.O2) hy λg4 e S p=> ?_))));obtain⟨l,B,i⟩:=p;have X:=S _ _ (D.ne2 v).1.symm (r.extBut _ _ D.Oz.symm (j.extBut _ _ (D.ne1 d).1.symm F));exact aO X (by simp) λg5 _ P=>hE g5 e (λc o C c2 G c4 q=>P.extBut _ _ C (S _ _ c4 (r.extBut _ _ c2 (j.extBut _ _ G (u.extBut _ _ C q))))) ⟨l,P.extBut _ _ (off X B i) B,i⟩
theorem kH {Q:Option Value->Shared->Prop}(G:uB i1 fp1 v1 S1)(C:uB i2 fp2 v2 S2)(D:Ap z TI TO i1 i2 fp1 fp2)(hz:IsZip s.heap z TI TO .none)(e:IsPair s.heap TI (.ref i1) (.ref i2))(d:IsPair s.heap TO a b)(l:S1 k s.heap)(i:S2 k s.heap)(B:v1 k=some x)(hy:v2 k=some y)
  (F:∀h',IsZip h' z TI TO (rawInt s.heap.objs.size)->IsPair h' TO x y->S1 (k+1) h' ->S2 (k+1) h' ->IsPair h' s.heap.objs.size x y->
   (∀c o,c ≠ z->c ≠ TO->c ≠ i1->c ≠ i2->s.heap.get? c=some o->h'.get? c=some o)->Q (some (.ref s.heap.objs.size)) { s with heap:=h' }):wpAny (model prog w) A (pyNext (.ref z)) Q E s:=by
 have g:s.TypeIs (.ref z) _:=⟨_,hz,rfl⟩;exact a8 (cj (aW g dy (aL dy g il
  (kD G C D hz e d l i B hy λh' q r j v p u=>aa (F h' q r j v p u)) (i6 _))))
theorem kJ {Q:Option Value->Shared->Prop}(u:A.handled=none)(B:uB i1 fp1 v1 S1)(v:uB i2 fp2 v2 S2)(D:Ap z TI TO i1 i2 fp1 fp2)(hz:IsZip s.heap z TI TO .none)(i:IsPair s.heap TI (.ref i1) (.ref i2))(g:IsPair s.heap TO a b)(p:S1 k s.heap)(l:S2 k s.heap)(d:v1 k=none\/v2 k=none)
  (x:∀h',(∀c o,c ≠ z->c ≠ TO->c ≠ i1->c ≠ i2->s.heap.get? c=some o->h'.get? c=some o)->Q none { s with heap:=h' }):wpAny (model prog w) A (pyNext (.ref z)) Q E s:=by
 have j:s.TypeIs (.ref z) _:=⟨_,hz,rfl⟩;refine a8 (cj (aW j dy (aL dy j il
  (kG u B v D hz i g p l d λh' e kp y=> ?_) (i6 _))))
 obtain⟨o,q,r⟩:=y;exact a8 (c6 ⟨o,q,r⟩ isSubtype_stop (aa (x _ kp)))
end
end PySem.ZG
namespace PySem.ZG
open PySem PySem.Spec PySem.Builtin.SmallTypes
structure kK (l:Addr) (o:Obj) (P:Heap->Prop):Prop where
 go:∀{prog:Program} {w:World} {A:Around} {E:Value->Shared->Prop} {s:Shared} {Q:Value->Shared->Prop},P s.heap->Q (.ref s.heap.objs.size) { s with heap:=s.heap.push o }->wpAny (model prog w) A (pyIter (.ref l)) Q E s
 push:∀{h:Heap} (o' :Obj),P h->P (h.push o')
 fresh:o.isFreed=false
noncomputable abbrev oL (l:Addr):Obj:={ cls:= .type "list_iterator",data:= .fields #[.ref l,.int 0 0] }
noncomputable abbrev oT (l:Addr):Obj:={ cls:= .type "tuple_iterator",data:= .fields #[.ref l,.int 0 0] }
theorem kL (l:Addr)(a:Array Value):kK l (oL l) (λh=>h.IsList l a):=⟨λp q=>cn p q,λo p=>Heap.IsList.push p o,rfl⟩
theorem FY (l:Addr)(a:Array Value):kK l (oT l) (λh=>h.IsTuple l a):=⟨λp q=>cH p q,λo p=>ly.push p o,rfl⟩
noncomputable abbrev Bf (h:Heap)(o1 o2:Obj):Heap:=(h.push o1).push o2
abbrev Bv (h:Heap)(o1 o2:Obj):Heap:=(Bf h o1 o2).push { cls:= .type "tuple",data:= .seq #[.ref h.objs.size,.ref (h.push o1).objs.size] }
abbrev BX (h:Heap)(o1 o2:Obj):Heap:=(Bv h o1 o2).push { cls:= .type "tuple",data:= .seq #[.none,.none] }
abbrev pN (h:Heap)(o1 o2:Obj):Heap:=(BX h o1 o2).push { cls:= .type "zip",data:= .fields #[.none,.bool false,.bool false,.ref (Bf h o1 o2).objs.size,.ref (Bv h o1 o2).objs.size] }
theorem DM {a c:Heap->Prop}(j:kK l1 o1 a)(i:kK l2 o2 c):
  Meets (Builtin.«zip.__new__» ⟨[.type "zip",.ref l1,.ref l2],[]⟩) (λ_ R s=>a s.heap/\c s.heap/\R (.ok (.ret (.ref (BX s.heap o1 o2).objs.size))) { s with heap:=pN s.heap o1 o2 }):=
 .of_wp λprog w A R s h=>by
  obtain⟨hp,g,d,tk,os⟩:=s;obtain⟨o,k,h⟩:=h;have e:=sub_zip;have p:a (l_ ⟨hp,g,d,tk,os⟩):=o;have l:c (l_ ⟨hp.push o1,g,d,tk,os⟩):=i.push o1 k
  wp_walk using j.go p,i.go l
  exact⟨_,rfl,h⟩
end PySem.ZG
namespace PySem.ZG
open PySem PySem.Spec PySem.Builtin.SmallTypes
theorem kM {u v:Heap->Prop}(k:kK l1 o1 u)(x:kK l2 o2 v)(C:u s.heap)(B:v s.heap)
  (h:∀h' n,n=s.heap.objs.size->IsZip h' (n+4) (n+2) (n+3) .none->IsPair h' (n+2) (.ref n) (.ref (n+1))->IsPair h' (n+3) .none .none->h'.get? n=some o1->h'.get? (n+1)=some o2->
   (∀c o,s.heap.get? c=some o->h'.get? c=some o)->Q (.ref (n+4)) { s with heap:=h' }):wpAny (model prog w) A (call (.type "zip") [.ref l1,.ref l2]) Q E s:=by
 refine callType_new PySem.F.called_zip (by decide) (PySem.F.typeCall_zip_2 _ _) (PySem.F.newCall_zip_2 _ _) (λobj=>PySem.F.args_object_init_3 obj _ _) PySem.F.entry_zip_new (DM k x) ⟨C,B, ?_⟩
 have d:(s.heap.push o1).objs.size=s.heap.objs.size+1:=be ..;have a:(Bf s.heap o1 o2).objs.size=s.heap.objs.size+2:=by rw[be,d]
 have j:(Bv s.heap o1 o2).objs.size=s.heap.objs.size+3:=by rw[be,a]
 have r:(BX s.heap o1 o2).objs.size=s.heap.objs.size+4:=by rw[be,j]
 have up:∀{h:Heap} {c:Addr} {o:Obj} (i :Obj),h.get? c=some o->(h.push i).get? c=some o:=λi e=>a9 i e;have g:(pN s.heap o1 o2).get? _=some _:=ae _ rfl;have y:(pN s.heap o1 o2).get? _=some _:=up _ (ae _ rfl);have p:(pN s.heap o1 o2).get? _=some _:=up _ (up _ (ae _ rfl));have l:(pN s.heap o1 o2).get? _=some _:=up _ (up _ (up _ (ae _ x.fresh)));have D:(pN s.heap o1 o2).get? _=some _:=up _ (up _ (up _ (up _ (ae _ k.fresh))));rw[a,j,r]at g;rw[d,a]at p;rw[j]at y;rw[d]at l;rw[r];exact⟨⟨_,g,rfl⟩,h _ _ rfl g p y D l λc o q=>up _ (up _ (up _ (up _ (up _ q))))⟩
end PySem.ZG
namespace PV
open PySem PySem.Spec PyProof.Rows L2 PySem.ZG
inductive SK where
 | l | t
noncomputable def SK.it:SK->Heap->Addr->Addr->Nat->Prop
 | .l=>λh i l k=>h.IsListIter i l k
 | .t=>λh i l k=>h.IsTupleIter i l k
noncomputable def SK.has:SK->Heap->Addr->Array Value->Prop
 | .l=>λh l a=>h.IsList l a
 | .t=>λh l a=>h.IsTuple l a
def SK.sq (K:ai):SK->Hp->Addr->List V->Prop
 | .l=>λH a c=>SqL K H a c
 | .t=>λH a c=>SqT K H a c
noncomputable def SK.tr:SK->List V->HO
 | .l=> .lst
 | .t=> .tup
def SK.ob:SK->Addr->Obj
 | .l=>oL
 | .t=>oT
theorem SK.nx (k:SK){i l:Addr}(h:l ≠ i)(a:Array Value):uB i [i,l] (λn=>a[n]?) (λn hp=>k.it hp i l n/\k.has hp l a):=by
 cases k with
 | l=>exact kC h a
 | t=>exact nx_tup h a
theorem SK.of (k:SK)(l:Addr)(a:Array Value):kK l (k.ob l) (λh=>k.has h l a):=by
 cases k with
 | l=>exact kL l a
 | t=>exact FY l a
theorem SK.start (k:SK){h:Heap}{i l:Addr}(e:h.get? i=some (k.ob l)):k.it h i l 0:=by
 cases k with
 | l=>exact⟨_,e,rfl,rfl⟩
 | t=>exact⟨_,e,rfl,rfl⟩
theorem SK.obj {k:SK}{h:Heap}{i l:Addr}{n:Nat}(x:k.it h i l n):∃o,h.get? i=some o/\∀v,o.data ≠ .cell v:=by
 cases k with
 | l=>obtain⟨o,e,_,d⟩:=x;exact⟨o,e,λv z=>by rw[d]at z;cases z⟩
 | t=>obtain⟨o,e,_,d⟩:=x;exact⟨o,e,λv z=>by rw[d]at z;cases z⟩
theorem SK.at_ {k:SK}{h h' :Heap}{i l:Addr}{n:Nat}(x:k.it h i l n)(q:∀o,h.get? i=some o->h'.get? i=some o):k.it h' i l n:=by
 cases k with
 | l=>obtain⟨o,e,r⟩:=x;exact⟨o,q o e,r⟩
 | t=>obtain⟨o,e,r⟩:=x;exact⟨o,q o e,r⟩
theorem SK.sqOf {K:ai}(k:SK){H:Hp}{a:Addr}{c:List V}(e:H a=some (k.tr c)):k.sq K H a c:=by
 cases k with
 | l=>exact SqL.of e
 | t=>exact SqT.of e
theorem Inv.seq (I:L2.Inv X pins σ H s)(k:SK)(h:k.sq X.K H a xs):∃c:List Value,Vals xs c/\k.has s.heap a c.toArray/\∃o,s.heap.get? a=some o:=by
 cases k with
 | l=>
  obtain⟨c,r,p,_⟩:=I.list h;obtain⟨o,_,e,_⟩:=id p;exact⟨c,r,p.isList,o,e⟩
 | t=>
  obtain⟨c,r,p,_⟩:=I.tuple h;obtain⟨o,e,_⟩:=id p;exact⟨c,r,p,o,e⟩
def Bu (K:ai)(g j:SK)(d e:Addr):It:=
 ⟨λi H=>∃c a x y,g.sq K H d c/\j.sq K H e a/\c[i]? =some x/\a[i]? =some y,λi H v k =>∃p x y,H p=none/\v= .ref p/\(∀c,g.sq K H d c->c[i]? =some x)/\(∀a,j.sq K H e a->a[i]? =some y)/\k =ml H p (.tup [x,y]),
  λi H=>∃c a,g.sq K H d c/\j.sq K H e a/\(c.length<=i\/a.length<=i)⟩
theorem Inv.seq_inj (I:L2.Inv X pins σ H s)(k:SK)(h:k.sq X.K H a xs)(h' :k.sq X.K H a ys):xs=ys:=by
 cases k with
 | l=>exact I.list_inj h h'
 | t=>exact I.tuple_inj h h'
theorem nN {a b:Nat}(h:a ≠ b): @Ne Addr a b:=h
theorem nM {a b c:Nat}(h:a ≠ b)(h' :a ≠ c):¬ @Membership.mem Addr (List Addr) _ [b,c] a:=λq=>by
 rcases ag.mp q with z | z
 ·exact h z
 ·exact h' (av.mp z)
theorem Vf {P:Program}{w:World}{K:ai}{elts:List Expr}{kk:Nat}{pt:Pos}(N F:SK){n l1 l2:Nat}(h1:l1 < n)(h2:l2 < n):
  U3 P w K (.Tuple elts kk pt) (Bu K N F l1 l2) [n+4,n+2,n+3,n,n+1] (n+4)
   (λi h=>IsZip h (n+4) (n+2) (n+3) .none/\IsPair h (n+2) (.ref n) (.ref (n+1))/\(∃a b,IsPair h (n+3) a b)/\N.it h n l1 i/\F.it h (n+1) l2 i):=by
 have D:Ap (n+4) (n+2) (n+3) n (n+1) [n,l1] [n+1,l2]:=by
  refine⟨nN (by omega),nN (by omega),nN (by omega),nN (by omega),nN (by omega),nM (by omega) (by omega),nM (by omega) (by omega),nM (by omega) (by omega),nM (by omega) (by omega),nM (by omega) (by omega),nM (by omega) (by omega)⟩
 refine⟨by simp,λi h st b d=> ?_,λi h h' st k=> ?_, ?_, ?_, ?_⟩
 ·obtain⟨hz,r,⟨a,c,C⟩,G,M⟩:=st;simp only[ag,aT,or_false]at d;rcases d with rfl | rfl | rfl | rfl | rfl
  ·exact⟨_,hz,λv z=>nomatch z⟩
  ·exact⟨_,r,λv z=>nomatch z⟩
  ·exact⟨_,C,λv z=>nomatch z⟩
  ·exact SK.obj G
  ·exact SK.obj M
 ·obtain⟨hz,r,⟨a,c,C⟩,G,M⟩:=st;exact⟨k _ (by simp) _ hz,k _ (by simp) _ r,⟨a,c,k _ (by simp) _ C⟩,SK.at_ G λo e=>k n (by simp) o e,SK.at_ M λo e=>k (n+1) (by simp) o e⟩
 ·intro X hP hw hK l i pins s σ H E I hf st hg;subst hP hw hK;obtain⟨xs,ys,x,y,s1,s2,hx,hy⟩:=hg;obtain⟨hz,r,⟨a,c,C⟩,G,M⟩:=st;obtain⟨p,r1,b1,_⟩:=Inv.seq I N s1;obtain⟨B,r2,b2,_⟩:=Inv.seq I F s2;obtain⟨u,hu,ru⟩:=r1.get hx;obtain⟨v,hv,rv⟩:=r2.get hy;refine kH (N.nx (au h1) p.toArray) (F.nx (i:=n+1) (nN (by omega)) B.toArray) D hz r C ⟨G,b1⟩ ⟨M,b2⟩ (x:=u) (y:=v) (by simpa using hu) (by simpa using hv) λg a1 a2 a3 a4 a5 kp=>⟨_,rfl, ?_⟩
  refine wpAny_letOwnedTupleGo_zip a1 λg2 z2 O=> ?_;have hlt:n+4 < s.heap.objs.size:=ao hz;have ne:∀b:Nat,b<=n+4->s.heap.objs.size ≠ b:=λb d=>by
   omega
  have j:∀b o,b ∉ [n+4,n+2,n+3,n,n+1]->s.heap.get? b=some o->g2.get? b=some o:=λb o d e=>by
   simp only[ag,aT,or_false,not_or]at d;exact O.extBut _ _ d.1 (kp b o d.1 d.2.2.1 d.2.2.2.1 d.2.2.2.2 e)
  have S:=O.extBut _ _ (ne _ (ah _)) a5;have Z:=O.extBut _ _ D.Iz (kp _ _ D.Iz D.IO D.I1 D.I2 r);have U:=O.extBut _ _ D.Oz a2;have q1:=SK.at_ a3.1 λo e=>O.extBut _ _ (nN (by omega)) e
  have q2:=SK.at_ a4.1 λo e=>O.extBut _ _ (nN (by omega)) e
  have hfr:=I.hok.fresh (ah _);refine⟨.ref s.heap.objs.size,ml H s.heap.objs.size (.tup [x,y]),Inv.laidT (s:=s) (h' :=g2) (tk:=s.toks) I hf j (λb o d _=> ?_) (ah _)
   ⟨by rw[bV];show 2<=16777216;decide,[u,v],.cons ru (.cons rv .nil),⟨_,S,rfl,_,rfl⟩,.inr ⟨_,S,rfl⟩⟩,rfl,⟨_,x,y,hfr,rfl,λzs hq=>by rw[← Inv.seq_inj I N s1 hq];exact hx,λzs hq=>by rw[← Inv.seq_inj I F s2 hq];exact hy,rfl⟩,⟨z2,Z,⟨u,v,U⟩,q1,q2⟩,λb d=> ?_⟩
  ·simp only[ag,aT,or_false]at d;rcases d with rfl | rfl | rfl | rfl | rfl
   ·exact⟨_,z2⟩
   ·exact⟨_,Z⟩
   ·exact⟨_,U⟩
   ·obtain⟨o',e',_⟩:=SK.obj q1;exact⟨o',e'⟩
   ·obtain⟨o',e',_⟩:=SK.obj q2;exact⟨o',e'⟩
  ·have hb2:(b:Nat)<=n+4:=by
    have d:=by simpa using d
    rcases d with rfl | rfl | rfl | rfl | rfl
    ·exact ah _
    ·exact fD (by decide) n
    ·exact fD (by decide) n
    ·exact am _ _
    ·exact fD (by decide) n
   rw[zg λz=>ne b hb2 z.symm];exact(hf b d).1
 ·intro X hP hw hK l i pins s σ H E I hf st hg;subst hP hw hK;obtain⟨xs,ys,s1,s2,hend⟩:=hg;obtain⟨hz,r,⟨a,c,C⟩,G,M⟩:=st;obtain⟨p,r1,b1,_⟩:=Inv.seq I N s1;obtain⟨B,r2,b2,_⟩:=Inv.seq I F s2;have l1' :=r1.length;have l2' :=r2.length;refine kJ (I.ok.hd l) (N.nx (au h1) p.toArray) (F.nx (nN (by omega)) _) D hz r C ⟨G,b1⟩ ⟨M,b2⟩ ?_ λg kp=>⟨rfl, ?_⟩
  ·rcases hend with q | q
   ·exact .inl (bw (by rw[aF,← l1'];exact q))
   ·exact .inr (bw (by rw[aF,← l2'];exact q))
  ·have j:∀b o,b ∉ [n+4,n+3,n,n+1]->s.heap.get? b=some o->g.get? b=some o:=λb o d e=>by
    simp only[ag,aT,or_false,not_or]at d;exact kp b o d.1 d.2.1 d.2.2.1 d.2.2.2 e
   have nch:∀b u,H b=some u->b ∉ [n+4,n+3,n,n+1]:=λb u e d=>by
    have J :b∈[n+4,n+2,n+3,n,n+1]:=by
     simp only[ag,aT,or_false]at d ⊢;rcases d with q | q | q | q
     ·exact .inl q
     ·exact .inr (.inr (.inl q))
     ·exact .inr (.inr (.inr (.inl q)))
     ·exact .inr (.inr (.inr (.inr q)))
    rw[(hf b J).1]at e;cases e
   refine I.call' rfl ⟨λb o e _ _ l=>j b o l e,λb o e _ _ l=>⟨o.slots,j b o l e⟩,λb o e q _=>q,λb o e l=>⟨o,j b o l e⟩,λb ys e=>e,λb o u e=>e,λ_ _ _ e=>e⟩ (λb u e=> ?_) I.bare λb d=> ?_
   ·refine(I.hok b u e).stay (λc v l q=>j c v ?_ q) (λ_ q=>q) λ_ _ q=>q;rcases l with rfl | l
    ·exact nch c u e
    ·exact nch c _ l
   ·have J :b∈[n+4,n+2,n+3,n,n+1]:=by
     simp only[ag,aT,or_false]at d ⊢;rcases d with q | q | q | q
     ·exact .inl q
     ·exact .inr (.inr (.inl q))
     ·exact .inr (.inr (.inr (.inl q)))
     ·exact .inr (.inr (.inr (.inr q)))
    obtain⟨f0,f1,f2,f3,f4,f5⟩:=hf b J;exact⟨f3,f1,f4,f5⟩
 ·intro A i s Q E st h;exact wpAny_pyIter_zip st.1 h
noncomputable def vK (a c:List T):List T:=(a.zip c).map λp=>T.tup [p.1,p.2]
theorem Vg {c a:List T}{i:Nat}{t:T}(h:(vK c a)[i]? =some t):∃x y,c[i]? =some x/\a[i]? =some y/\t= .tup [x,y]:=by
 unfold vK at h;rw[aw]at h;cases e:(c.zip a)[i]? with
 | none=>rw[e]at h;cases h
 | some p=>
  rw[e]at h;cases h;have:=List.getElem?_zip_eq_some.mp e;exact⟨p.1,p.2,this.1,this.2,rfl⟩
theorem uC (a c:List T):(vK a c).length=min a.length c.length:=by unfold vK;simp
theorem EH {K:ai}{c G:Hp}{C l:SK}{a b:Addr}{g d:List V}{ts B:List T}(N:c a=some (C.tr g))(J:c b=some (l.tr d))(o:zr c g ts)(rb:zr c d B):rI c G (Bu K C l a b) (vK ts B):=λB2 Z j k=>by
 have r:=C.sqOf (K:=K) (k _ _ (j _ _ N));have b2:=l.sqOf (K:=K) (k _ _ (j _ _ J));rw[uC];refine⟨λi hi=> ?_,λi t x H3 e y=> ?_,λi hi=>⟨g,d,r,b2, ?_⟩⟩
 ·obtain⟨v,w,_⟩:=o.get (ak (show i < ts.length by omega))
  obtain⟨u,q,_⟩:=rb.get (ak (show i < B.length by omega))
  exact⟨g,d,v,u,r,b2,w,q⟩
 ·obtain⟨p,v,u,hp,rfl,Q,S,rfl⟩:=y;obtain⟨t1,U,O,I,rfl⟩:=Vg e;obtain⟨X,w,M⟩:=o.get O;obtain⟨u',q,P⟩:=rb.get I;have D:=Q g r;have F:=S d b2;rw[w]at D;cases D;rw[q]at F;cases F;have up:=zv.ge k (zj.new hp (.tup [v,u]));exact⟨zj.new hp _,.tup (jd hp _) (.cons ((M.mono j).mono up) (.cons ((P.mono j).mono up) .nil))⟩
 ·rw[o.length,rb.length];omega
section
theorem Dx {C:TA}(hg:Gl X "zip")(hm:X.mg "zip"=none)(ha:PA X [a,b] C)(hs:starEach [a,b] X.env=[(false,eval a X.env),(false,eval b X.env)])(r:starEach [b] X.env=[(false,eval b X.env)]):
  PI X (.Tuple elts kk pt) (.Call (.Name "zip" p) [a,b] [] pos) (λx H R=>C x H λvs l=>∃d c j k F B,vs=[.ref j,.ref k]/\l j=some (SK.tr d F)/\l k=some (SK.tr c B)/\R (Bu X.K d c j k) l):=by
 intro G s x H R I h;refine Call_ (ZJ I hg hm PyProof.Rows.Boot.«zip» (a_ (mo (ha pos _ s x H _ I h) λus i ⟨vs,l,o,r1,S⟩=> ?_) (by rw[hs,r]) (by rw[r];rfl)))
 obtain⟨d,c,j,k,F,B,e,U,Z,q⟩:=S;subst e;obtain⟨u,v,rfl,ru,N⟩:=ym r1;obtain rfl:u=Value.ref j:=ru;obtain rfl:v=Value.ref k:=N;obtain⟨M,_,Q,o1,e1⟩:=Inv.seq o d (d.sqOf U);obtain⟨J,_,b2,o2,e2⟩:=Inv.seq o c (c.sqOf Z);refine kM (d.of j _) (c.of k _) Q b2 λg n hn y P O z4 z5 kp=>wpAny_pyIter_zip y ?_;subst hn;have f:∀b∈[i.heap.objs.size+4,i.heap.objs.size+2,i.heap.objs.size+3,i.heap.objs.size,i.heap.objs.size+1],JY X _ l b:=λb D=>by
  have w :i.heap.objs.size<=b:=by
   simp only[ag,aT,or_false]at D;rcases D with rfl | rfl | rfl | rfl | rfl
   ·exact am _ _
   ·exact am _ _
   ·exact am _ _
   ·exact ah _
   ·exact am _ _
  exact o.fpOk w (o.hok.fresh w)
 exact⟨i.heap.objs.size+4,_,_,_,l,rfl,o.kept kp,Vf d c (ao e1) (ao e2),⟨y,P,⟨_,_,O⟩,SK.start d z4,SK.start c z5⟩,f,q⟩
noncomputable def Jv:T->R (List T)
 | .lst a=> .ok a
 | .tup a=> .ok a
 | _=> .bad
def gM (d a:En->R T):En->R (List T):=λρ=>(d ρ).bind λt=>(a ρ).bind λu=>(Jv t).bind λe=>(Jv u).bind λc=> .ok (vK e c)
theorem YT (r:Rep B v t)(e:Jv t= .ok xs):∃(k:SK) (a:Addr) (vs:List V),v= .ref a/\B a=some (k.tr vs)/\zr B vs xs:=by
 cases r with
 | lst h r=>cases e;exact⟨.l,_,_,rfl,h,r⟩
 | tup h r=>cases e;exact⟨.t,_,_,rfl,h,r⟩
 | _=>cases e
theorem Uk (t:T)(c:Nat):Jv t ≠ .ex c:=by cases t <;> exact λz=>nomatch z
theorem Eo (J:Gl X "zip")(Q:X.mg "zip"=none)(O:Snd X Y a fa)(F:Snd X Y b fb)(x:starEach [a,b] X.env=[(false,eval a X.env),(false,eval b X.env)]:=by exact nj rfl rfl)(d:starEach [b] X.env=[(false,eval b X.env)]:=by exact mD rfl):
  wT X Y (.Tuple elts kk pt) (.Call (.Name "zip" p) [a,b] [] pos) (gM fa fb):= .mk λρ=>
 PI.imp (Dx J Q (zi (O ρ) (zi (F ρ) zw d) (by rw[x,d])) x d) λσ H R ⟨B,I,q⟩=>step I q λt v H1 _ s1 G o D=>step o D λu v' M _ y S l e=>by
  cases i:Jv t with
  | bad=>rw[i]at e;exact e.elim
  | ex c=>exact absurd i (Uk _ _)
  | ok xs=>
   rw[i]at e;cases g:Jv u with
   | bad=>rw[g]at e;exact e.elim
   | ex c=>exact absurd g (Uk _ _)
   | ok Z=>
    rw[g]at e;obtain⟨U,N,j,rfl,r,w1⟩:=YT (G.mono (zv.ge o.sB y)) i;obtain⟨C,P,k,rfl,w,w2⟩:=YT S g;exact⟨U,C,N,P,j,k,rfl,l.sB _ _ r,l.sB _ _ w,ZA l (show Po Y rI _ M _ R from e) (EH r w w1 w2)⟩
end
end PV
namespace PV
open PySem PySem.Spec PyProof.Rows L2
section
def YU:T->R T
 | .bl b=> .ok (.int (b2 b))
 | .int i=> .ok (.int i)
 | _=> .bad
theorem Ff (v:V)(t:T)(B H:Hp)(Q:VK)(r:Rep B v t)(a:zj B H)(q:Po Y rC B H (YU t) Q):
  (∃i,[v]=[V.int i]/\Q (.int i) H)\/∃k,[v]=[V.bl k]/\Q (.int (if k then 1 else 0)) H:=by
 cases r with
 | int i=>exact .inl ⟨i,rfl,mO a q rfl (.int i)⟩
 | bl k=>exact .inr ⟨k,rfl,mO a q rfl (by cases k <;> exact .int _)⟩
 | _=>exact q.elim
theorem D9 (e:Gl X "int")(c:X.mg "int"=none)(g:Snd X Y a fa)(d:mP X a:=by exact mD rfl):Snd X Y (.Call (.Name "int" p) [a] [] pos) (mn YU fa):=
 YE Ym Ff e c (PyProof.Rows.Boot.«int») g d
theorem YV:Z4 X (.type "range") (λa H Q=>∃i j,a=[.int i,.int j]/\∀r,H r=none->Q (.ref r) (ml H r (.rng i j))):=by
 intro c s l H a k Q I r h;obtain⟨i,j,rfl,q⟩:=h;obtain⟨u,v,rfl,d,g⟩:=ym r;obtain⟨t,rfl⟩:=d;obtain⟨t',rfl⟩:=g;exact call_range_2 ⟨.ref _,_,I.laid (λb o e=>a9 _ e) (ah _) (show zK _ X.w _ _ _ (.rng i j) from ⟨_,_,_,ae _ rfl⟩),rfl,q _ (I.hok.fresh (ah _))⟩
noncomputable def vL (lo:Int)(n:Nat):List V:=(ba n).map λ(i:Nat)=>V.int (lo+(i:Int))
theorem wY (D:X.A.handled=none):Z4 X (.type "list") (λo H Q=>∃r lo hi,o=[.ref r]/\H r=some (.rng lo hi)/\(-1000000 < lo/\lo < 1000000/\ -1000000 < hi/\hi < 1000000)/\∀l,H l=none->Q (.ref l) (ml H l (.lst (vL lo (hi - lo).toNat)))):=by
 intro p s S H o Z Q I G h;obtain⟨r,lo,hi,rfl,e,⟨U,N,O,M⟩,q⟩:=h;obtain⟨u,rfl,F⟩:=Ze G;obtain rfl:u=Value.ref r:=F;obtain⟨t,v,P,y⟩:=(show zK _ X.w H _ r _ from I.hok r _ e);have hn:hZ lo hi 1=((hi - lo).toNat):=by rw[rangeSize_one];split <;> omega
 refine call_list_range D y (small_one (by omega) (by omega) (by omega) (by omega)) hn (by omega) λh' tk acc c kp i a=> ?_
 have g:Vals (vL lo (hi - lo).toNat) acc.toList:=by
  have k:∀(n:Nat) (lo:Int) (vs:List _),vs.length=n->(∀(j:Nat) (v:Value),vs[j]? =some v->∃t,v=Value.int (lo+(j)) t)->Vals (vL lo n) vs:=by
   intro n
   induction n with
   | zero=>
    intro lo vs d _;rw[List.eq_nil_of_length_eq_zero d];exact .nil
   | succ n B=>
    intro lo vs d g;cases vs with
    | nil=>cases d
    | cons v vs=>
     have e:vL lo (n+1)=V.int (lo+0) :: vL (lo+1) n:=by
      unfold vL;rw[di,aA,bg];refine congrArg _ (cV λj _=> ?_);show V.int _=V.int _;congr 1;omega
     rw[e];refine .cons (g 0 v rfl) (B _ vs (by simpa using d) λj x C=> ?_)
     obtain⟨t,z⟩:=g (j+1) x (by simpa using C)
     exact⟨t,by rw[z];congr 1;omega⟩
  refine k _ lo _ (by simpa using a.1) λj v J=> ?_
  obtain⟨t,z⟩:=a.2 j v (by simpa using J)
  exact⟨t,by rw[z];congr 1;omega⟩
 have hz:(vL lo (hi - lo).toNat).length<=sizeLine:=by
  rw[bV];unfold vL;rw[af,bJ];omega
 exact⟨.ref _,_,I.laid kp (ah _) (show zK _ X.w _ h' _ (.lst _) from ⟨hz,acc.toList,c,g,by simpa using i⟩),rfl,q _ (I.hok.fresh (ah _))⟩
def tU (a:En->R (List T)):En->R T:=λρ=>(a ρ).bind λts=> .ok (.lst ts)
theorem YW (lo:Int)(n:Nat):zr B (vL lo n) (rng lo n):=by
 unfold vL rng
 induction ba n with
 | nil=>exact .nil
 | cons i c a=>exact .cons (.int _) a
theorem kN (O:X.A.handled=none)(D:Gl X "list")(G:X.mg "list"=none)(u :Gl X "range")(k :X.mg "range"=none)(N:Snd X Y a fa)(J:Snd X Y b fb)
  (y:starEach [a,b] X.env=[(false,eval a X.env),(false,eval b X.env)]:=by exact nj rfl rfl) (d:mP X b:=by exact mD rfl):Snd X Y (.Call (.Name "list" p) [.Call (.Name "range" p') [a,b] [] pos'] [] pos) (tU (J7 fa fb)):= .mk λρ=>
 PE.imp (Zf (wY O) D G PyProof.Rows.Boot.«list» (zi (Zf YV u k boot_range (zi (N ρ) (zi (J ρ) zw d) (by rw[y,d])) (by decide) (by decide) (by rw[y,d]) (by rw[d];rfl)) zw (mD rfl)) (by decide) (by decide) (mD rfl) rfl) λZ H Q ⟨B,I,q⟩=>by
  have q:Po Y rC B H ((fa ρ).bind λt=>(fb ρ).bind λt' =>(match t,t' with | .int i,.int j=>if -1000000 < i/\i < 1000000/\ -1000000 < j/\j < 1000000 then R.ok (rng i (j - i).toNat) else .bad | _,_=> .bad).bind λts=> .ok (.lst ts)) Q:=by
   revert q;unfold tU J7;cases fa ρ with
   | ok t=>cases fb ρ <;> exact λq=>q
   | ex c=>exact λq=>q
   | bad=>exact λq=>q
  refine step I q λt v S _ s1 M C F=>step C F λt' U H2 _ P x I2 e=> ?_;cases M with
  | int i=>
   cases x with
   | int j=>
    by_cases c: -1000000 < i/\i < 1000000/\ -1000000 < j/\j < 1000000
    ·dsimp only at e;rw[if_pos c]at e;refine⟨i,j,rfl,λr hr=>⟨r,i,j,rfl,zh,c,λl g=> ?_⟩⟩;have w:l ≠ r:=λz=>by rw[z,zh]at g;cases g
     have o:=by rw[zg w]at g;exact g
     refine e _ _ (zj.new hr _ |>.trans (zj.new g _)) (.lst ?_ (YW _ _))
     rw[zF o,zh]
    ·dsimp only at e;rw[if_neg c]at e;exact e.elim
   | _=>exact e.elim
  | _=>cases x <;> exact e.elim
def Au (i j:Nat):En->RS:=λρ=>match ρ[j]? with
 | some (.ow ts)=> .nx ((ρ.set j (.vl (.lst ts))).set i (.vl (.lst ts)))
 | _=> .bad
theorem SI.give (I:SI Y B ρ σ H)(U:ρ[j]? =some (.ow ts)):∃(a:Addr) (N :Hp),σ[j]? =some (some (V.ref a))/\zj B N /\Rep N (.ref a) (.lst ts)/\SI Y N (ρ.set j (.vl (.lst ts))) σ H:=by
 obtain⟨a,xs,e,b0,h0,S,rr,d⟩:=I.ow j ts U;have u:zj B (ml B a (.lst xs)):=zj.new b0 _;have Q:Rep _ _ _:= .lst zh (rr.mono u);refine⟨a,_,e,u,Q,⟨I.s0,I.sH,λb o q=> ?_,λb o q=> ?_,by rw[bP];exact I.len,λk t q=> ?_,λk G q=> ?_,λk c q=> ?_, ?_⟩⟩
 ·by_cases p:b=a
  ·subst p;rw[zh]at q;cases q;exact S
  ·rw[zg p]at q;exact I.sB b o q
 ·rw[zg λz=>by rw[z,h0]at q;cases q];exact I.old b o q
 ·rcases zn q with ⟨rfl,z⟩ | ⟨_,z⟩
  ·cases z;exact⟨_,e,Q⟩
  ·obtain⟨v,e1,r⟩:=I.vl k t z;exact⟨v,e1,r.mono u⟩
 ·rcases zn q with ⟨rfl,z⟩ | ⟨Z,z⟩
  ·cases z
  ·obtain⟨F,J,D,l,i,P,M,X⟩:=I.ow k G z;have g:F ≠ a:=λw=>by subst w;exact d k G Z z D
   refine⟨F,J,D,by rw[zg g];exact l,i,P,M.mono u,λm ws hm hw=> ?_⟩
   rcases zn hw with ⟨rfl,w⟩ | ⟨_,w⟩
   ·cases w
   ·exact X m ws hm w
 ·rcases zn q with ⟨rfl,z⟩ | ⟨_,z⟩
  ·cases z
  ·obtain⟨F,D,r⟩:=I.xc k c z;exact⟨F,D,u _ _ r⟩
 ·obtain⟨as,O,x⟩:=I.st;refine⟨as,O,x.on (λk y hy h=> ?_) u rfl rfl (zj.refl _) λb o p l i cs=> ?_⟩
  ·rcases zn h with ⟨_,z⟩ | ⟨_,z⟩
   ·subst z;cases hy
   ·exact⟨z,rfl⟩
  ·have g:b ≠ a:=λz=>by
    subst z;rcases cs with ⟨C,dx,vs,ez⟩ | ok
    ·rw[S]at p;cases p;cases ez
    ·exact ok j ts U e
   refine⟨p,by rw[zg g];exact l,i,λok k G h=> ?_⟩
   rcases zn h with ⟨_,z⟩ | ⟨_,z⟩
   ·cases z
   ·exact ok k G z
theorem B8 (g:PE X (.Name y yp) (Jo j))(c:X.N.Nodup)(hi:X.N[i]? =some x)(l:L2.Loc X.env.scope x)(u:swapsWith (.Name y yp) (some (.Name x p')) pos.line X.env=pure false:=by rfl)
  (d:X.fn x=true\/X.env.scope.names.lookup x=some .local:=by first | exact .inl rfl | exact .inr rfl | assumption):wR X Y (.Assign [.Name x p'] (.Name y yp) pos) (Au i j):= .mk λρ=>
 PS.imp (jP c hi l g u d) λD v H ⟨B,I,q⟩=>by
  unfold Au at q;split at q
  ·rename_i ts e;obtain⟨a,p,k,o,r,J⟩:=I.give e;exact⟨_,k,q _ _ p o (J.setV i r)⟩
  ·exact q.elim
end
section
end
noncomputable def Z6:List T->Option (List Int)
 | []=>some []
 | .int i :: r=>match Z6 r with | some l=>some (i :: l) | none=>none
 | _ :: _=>none
def kO:T->R T
 | .lst ts=>match Z6 ts with | some l=> .ok (.int l.sum) | none=> .bad
 | _=> .bad
def rM (a:En->R (List T))(g:T->En->R En)(ft:En->R Bool)(fe:En->R T)(k:Nat)(js:List Nat):En->RS:=λρ=>(a (frz ρ)).s λts=>(zy g ft fe k js (frz ρ) ts).s λvs=> .rf vs
def pU:En->RS:=λ_=> .bad
theorem Dz {X:Cx}{Y:Fx}{st:Stmt}:wR X Y st pU:= .mk λρ=>λa s c H D I ⟨B,J,q⟩=>q.elim
theorem uD:∀{H:Hp} {g:List V} {ts:List T} {a:List Value} {d:List Int},zr H g ts->Vals g a->Z6 ts=some d->∃c:List (Int×Tok),a=c.map (λp=>Value.int p.1 p.2)/\c.map (·.1)=d
 | _,_,_,_,d,.nil,.nil,h=>by
  have h' :=h;cases h';exact⟨[],rfl,rfl⟩
 | H,_,_,_,d,.cons r j,.cons q vs,h=>by
  cases r with
  | int i=>
   unfold Z6 at h;split at h
   ·rename_i l e;cases h;obtain⟨c,k,o⟩:=uD j vs e;obtain⟨tk,rfl⟩:=q;exact⟨(i,tk) :: c,by rw[k];rfl,by rw[aA,o]⟩
   ·cases h
  | _=>cases h
section
variable {X:Cx}{Y:Fx}{a b:Expr}{fa fb:En->R T}{pos p p' pos' :Pos}
theorem YX (B:X.A.handled=none):Z4 X (.builtin "sum") (λvs H Q=>∃l i ts c,vs=[.ref l]/\H l=some (.lst i)/\zr H i ts/\Z6 ts=some c/\Q (.int c.sum) H):=by
 intro k s D H vs F Q I j h;obtain⟨l,i,ts,c,rfl,x,r,o,q⟩:=h;obtain⟨u,rfl,C⟩:=Ze j;obtain rfl:u=Value.ref l:=C;obtain⟨d,j,p,_⟩:=zH I (.inl x) r;obtain⟨g,v,w⟩:=uD r j o;have e:d.toArray=intItems g.toArray:=by rw[v];simp[intItems]
 rw[e]at p;refine sum_intListG B p λh' tk t' kp=> ?_;have y:preSum (numAt g.toArray) g.toArray.size=c.sum:=by
  rw[preSum_eq,im (by simp),← w]
 rw[y];exact⟨.int _,H,I.kept kp,⟨t',rfl⟩,q⟩
theorem DH (o:X.A.handled=none)(d:Gl X "sum")(g:X.mg "sum"=none)(j:jc X Y a fa)(u:mP X a:=by exact mD rfl):Snd X Y (.Call (.Name "sum" p) [a] [] pos) (mn kO fa):=
 WB (YX o) (λv t B H Q r c q=>by
  cases r with
  | @lst l i ts h r=>
   have q:Po Y rC B H (match Z6 ts with | some k=> .ok _ | none=> .bad) Q:=q
   split at q
   ·rename_i k e;exact⟨l,i,ts,k,rfl,h,r,e,mO c q rfl (.int _)⟩
   ·exact q.elim
  | _=>exact q.elim) d g boot_sum j u
end
def CH (Y:Fx)(B H:Hp)(r:R T)(Q:VK):Prop:=match r with
 | .ok (.lst i)=>∀a g d e,zj H d ->H a=none->d a=some (.lst g)->zr e g i->e a=none->zj e (zv B H d)->Q (.ref a) d
 | .ok _=>False
 | .ex c=>XP Y B c
 | .bad=>False
def spF (cl:Nat->Value)(n:Nat)(g:List T->R T):Sp:=λvs H Q E=>∃B ts,ts.length=n/\zj B H/\zr B vs ts/\CH ⟨B,H,E,cl,[]⟩ B H (g ts) Q
theorem spF.len (vs:List V)(H:Hp)(Q:VK)(E:XK)(h:spF cl n g vs H Q E):vs.length=n:=by
 obtain⟨B,ts,a,_,r,_⟩:=h;rw[r.length,a]
def pP (B:Hp)(a:Addr):Hp:=λb=>if b=a then none else B b
theorem kP:pP B a a=none:=if_pos rfl
theorem YY (h:b ≠ a):pP B a b=B b:=if_neg h
section
variable {X:Cx}{Y:Fx}{tg iter elt:Expr}{ifs:List Expr}{scope:Scope}{pos pos' :Pos}{N' :List Str}{k:Nat}{js:List Nat}{fi:En->R (List T)}{tG:TG}{g:T->En->R En}{ft:En->R Bool}{fe:En->R T}
theorem Ho (C:jS X Y tg iter elt ifs scope N' k js fi tG g ft fe):wR X Y (.Return (some (.ListComp elt [⟨tg,iter,ifs,0⟩] scope pos)) pos') (rM fi g ft fe k js):= .mk λρ=>by
 have pe:PE X (.ListComp elt [⟨tg,iter,ifs,0⟩] scope pos) (λd H Q=>∃B,SI Y B (frz ρ) d H/\PoS Y B ((fi (frz ρ)).s λts=>(zy g ft fe k js (frz ρ) ts).s λvs=> .rf vs) { nx:=λ_ _=>False,rt:=Q }):=by
  intro j s d H Q I ⟨B,J,q⟩;refine Jb (j1 rfl) (F:=λD v =>Q (.ref D) v) (te:=λd H Q=>∃Y' a,Y'.cl=Y.cl/\(Y'.E=λ_ _ _=>False)/\tS Y' rC fe a d H Q) (tt:=λd H Q=>∃Y' a,Y'.cl=Y.cl/\tS Y' rE ft a d H Q) C.sc C.cp C.cm (C.it (frz ρ)) C.gt
   (λcl r M H3 fp j l s d H Q I ⟨Y',a,y,q⟩=>C.tt Y' y cl r M H3 fp _ a _ s d H Q I q) (λcl r M H3 fp j xe hp l s d H Q I ⟨Y',a,y,eE,q⟩=>C.el Y' y cl r M H3 fp _ xe (eE ▸ hp) a _ s d H Q I q) I ?_ ?_ C.hs
  ·refine jG J q λts it' H1 _ s1 r1 u i=> ?_;intro D P;unfold zy at i;split at i
   ·rename_i hl;cases x:zt g ft fe ts _ with
    | bad=>rw[x]at i;exact i.elim
    | ex c=>rw[x]at i;exact i.elim
    | ok vs=>
     rw[x]at i;refine ju C.gk C.gn u r1 hl x P λv xs B' N e' r' l' b' Z => ?_;exact(show PoS Y _ _ _ from i) D xs v B' (u.sH.trans N) (u.sH.free P) e' r' b' (l'.trans (WD u.sH u.old N u.sB))
   ·exact i.elim
  ·intro D Cc v N I' q' U S hL p w G;obtain⟨m,hm⟩:=G;refine⟨m,hm,λh' O=>⟨.ref D,v, ?_,rfl,q'⟩⟩;exact I'.turned (λb o hb e=>O.extBut b o hb e) U (bf hL).symm (.inr S) p w
 refine PS.imp (jo pe) λD d H ⟨B,I,q⟩=>⟨_,I.frz, ?_⟩;have q:=PoS.up I.up q;unfold rM at q;revert q;cases fi _ with
 | bad=>exact λq=>q
 | ex c=>exact λq=>q
 | ok ts=>
  show PoS Y _ ((zy g ft fe k js _ ts).s λvs=> .rf vs) D->PoS Y _ ((zy g ft fe k js _ ts).s λvs=> .rf vs) _;cases zy g ft fe k js _ ts with
  | bad=>exact λq=>q
  | ex c=>exact λq=>q
  | ok vs=>exact λq=>q
end
def vM (f:En->RS):Prop:=∀ρ t,f ρ ≠ .rt t
theorem uE (h:vM f)(h' :vM g):vM (zq f g):=λρ t e=>by
 unfold zq at e;cases q:f ρ with
 | nx a =>rw[q]at e;exact h' a t e
 | rt u=>exact h ρ u q
 | bk a =>rw[q]at e;cases e
 | ct a =>rw[q]at e;cases e
 | ex c=>rw[q]at e;cases e
 | bad=>rw[q]at e;cases e
 | rf d=>rw[q]at e;cases e
theorem wZ:vM (J6 f):=λρ t e=>by unfold J6 at e;cases q:f ρ <;> rw[q]at e <;> cases e
theorem uF:vM (zJ i f):=λρ t e=>by unfold zJ at e;cases q:f ρ <;> rw[q]at e <;> cases e
theorem W1 {g:T->En->R En}{js:List Nat}:vM (rM fi g ft fe k js):=λρ t e=>by
 unfold rM at e;cases q:fi _ with
 | bad=>rw[q]at e;cases e
 | ex c=>rw[q]at e;cases e
 | ok ts=>
  rw[q]at e;have e:((zy g ft fe k js _ ts).s λvs=> .rf vs)=RS.rt t:=e;cases a :zy g ft fe k js _ ts <;> rw[a]at e <;> cases e
section
variable {P:Program}{w:World}{K:ai}{mg:Str->Option Value}{base:Heap}
theorem Dv {Y:Fx}{H:Hp}{a:RS}{Q:VK}(hr:∀t,a ≠ .rt t)(q:CH Y Y.B0 Y.H0 (zm a) Q):PoS Y Y.B0 a { nx:=λ_ d =>Q .non d,rt:=Q }:=by
 revert q hr;cases a with
 | rt t=>exact λhr=>absurd rfl (hr t)
 | rf e=>exact λ_ q=>q
 | nx ρ=>exact λ_ q=>q.elim
 | bk ρ=>exact λ_ q=>q.elim
 | ct ρ=>exact λ_ q=>q.elim
 | ex c=>exact λ_ q=>q
 | bad=>exact λ_ q=>q
theorem kQ {cl:Nat->Value}{x a:Str}{st:Stmt}{f:Addr}{i:FuncData}{N d:List Str}{k n:Nat}{e:En->RS}{g:List T->R T}(F:Fun K x a st f i)(S:ZQ N d (ze st))(hn:n=d.length)
  (l:∀(cdv:Value) (A:Around) (outer:List Env) (s:Shared) (H:Hp) (E:XK) (Y:Fx),Y.cl=cl->Y.E=E->ZF k (A.deeper (envOfC a (ze st) s.heap.objs.size f cdv))->
   wS (ZC (mN P w) P w K mg base N a (ze st) f cdv A outer s H E) Y (zR st) e)
  (o:∀ts,ts.length=n->g ts=zm (e (mv N.length ts))) (c :vM e):JW P w K mg base (mN P w) (k+1) f i d (spF cl n g):=by
 subst hn;refine Fun.okX F S spF.len λcdv A outer s H vs Q E hr ⟨B,ts,j,p,r,q⟩=> ?_;refine⟨_,l cdv A _ s H E ⟨B,H,E,cl,[]⟩ rfl rfl hr _,B,SI.start p r, ?_⟩;rw[o ts j]at q;exact Dv (H:=H) (c _) q
end
end PV
namespace PySem.RV
open PySem PySem.Spec PyProof.Rows PySem.Builtin.SmallTypes
theorem Ul:Manifest.owners.lookup (String.ofList "desrever".toList.reverse)=some Manifest.sig_reversed:=by kernel_rfl
theorem ZS:Slot "reversed" "__next__" "reversed.__next__":=
 .of (owner:="reversed") (n:="__next__") (by kernel_rfl) (by decide+kernel) (by decide+kernel) (by decide+kernel)
  (by first | exact .inl (by decide+kernel) | exact .inr (by decide+kernel)) (by kernel_rfl)
theorem wm:entryFor table "reversed.__next__"=some Builtin.«reversed.__next__»:=entryFor_of_tree (by kernel_rfl)
theorem WJ (a:Value):argsOk "reversed.__next__" ⟨[a],[]⟩:=by
 unfold argsOk;rw[signature?_of (n:="__txen__".toList) (by kernel_rfl) Ul];kernel_rfl
theorem WK:Slot "reversed" "__iter__" "reversed.__iter__":=
 .of (owner:="reversed") (n:="__iter__") (by kernel_rfl) (by decide+kernel) (by decide+kernel) (by decide+kernel)
  (by first | exact .inl (by decide+kernel) | exact .inr (by decide+kernel)) (by kernel_rfl)
theorem YZ (a:Value):argsOk "reversed.__iter__" ⟨[a],[]⟩:=by
 unfold argsOk;rw[signature?_of (n:="__reti__".toList) (by kernel_rfl) Ul];kernel_rfl
theorem yy:entryFor table "reversed.__iter__"=some Builtin.«dict_keyiterator.__iter__»:=
 entryFor_alias (id' :="dict_keyiterator.__iter__") (by kernel_rfl) (by first | rfl | decide+kernel | (unfold String.splitOn;simp+decide [String.splitOnAux])) (by decide+kernel) (by kernel_rfl)
theorem EM:typeLookup (.type "tuple") "__reversed__"=pure none:=by rw[typeLookup_type,builtinLookup_eq_fast];kernel_rfl
theorem EY:isSubtype (.type "tuple") (.type "dict")=pure false:=by rw[isSubtype_type];kernel_rfl
noncomputable abbrev IsRv (h:Heap)(it:Addr)(v:Value)(i:Int):Prop:=h.get? it=some { cls:= .type "reversed",data:= .fields #[v,rawInt i] }
section
variable {prog:Program}{w:World}{A:Around}{E:Value->Shared->Prop}{s:Shared}{it l:Addr}{xs:Array Value}
theorem uG {v:Value}{i:Int}(x:IsRv s.heap it v i):s.TypeIs (.ref it) "reversed":=⟨_,x,rfl⟩
theorem next_item {i:Nat}{x:Value}{Q:Option Value->Shared->Prop}(a:IsRv s.heap it (.ref l) (i:Int))(d:IsTup s.heap l xs)(o:(xs.size:Int) < 2 ^ 63)(c:xs[i]? =some x)
  (k:∀h' tk,IsRv h' it (.ref l) ((i:Int) - 1)->aQ it s.heap h' ->Q (some x) { s with heap:=h',toks:=tk }):wpAny (model prog w) A (pyNext (.ref it)) Q E s:=by
 refine a8 (cj (aW (uG a) ZS (aL ZS (uG a) wm ?_ (WJ _))));refine a8 (bz rfl ?_);refine a8 (b9 a rfl rfl ?_);refine a8 (b9 a rfl rfl ?_);have hi:=(Array.getElem?_eq_some_iff.mp c).1;have hT:=d.typeIs;refine a8 (b_ hT slot_tuple_getitem.lookup ?_);refine a8 (wpAny_mkInt ?_);refine a8 (cj (getItem_tuple d (by omega) (by omega) (seqIndex_of (by omega) (by omega)) (by simpa using c) ?_))
 refine a8 (b9 a rfl rfl ?_);refine a8 (aO a (by simp) λe j g=> ?_)
 exact aa ⟨x,rfl,aa (k e _ j g)⟩
theorem next_end {Q:Option Value->Shared->Prop}(i:A.handled=none)(a:IsRv s.heap it (.ref l) (-1))
  (j:∀h',fg it s.heap h' ->Q none { s with heap:=h' }):wpAny (model prog w) A (pyNext (.ref it)) Q E s:=by
 refine a8 (cj (aW (uG a) ZS (aL ZS (uG a) wm ?_ (WJ _))));refine a8 (bz rfl ?_);refine a8 (b9 a rfl rfl ?_);refine a8 (b9 a rfl rfl ?_);refine a8 (cx ?_);refine a8 (show wpAny _ _ _ _ _ _ from ?_);refine a8 (aO a (by simp) λk g c=> ?_)
 refine aO g (by simp) λo p d=> ?_
 refine a8 (show wpAny _ _ (newExc _ [] >>= λe=>raiseNew e) _ _ _ from ?_);refine a8 ?_;refine a8 (aJ (a8 (bz (by first | rfl | (simp only[firstArgMember])) (aJ ?_ (by size_fits)))) (by size_fits))
 refine a8 (wpAny_handled ?_);rw[i];refine a8 (aa (wpAny_throw ?_));refine a8 (c6 ⟨_,ae _ rfl,rfl⟩ isSubtype_stop ?_);exact aa (j _ (((c.extBut.trans d.extBut).push _).push _))
theorem iter_rv {v:Value}{i:Int}{Q:Value->Shared->Prop}(a:IsRv s.heap it v i)(h:Q (.ref it) s):wpAny (model prog w) A (pyIter (.ref it)) Q E s:=by
 refine cP (uG a) WK (aL WK (uG a) yy ?_ (YZ _));exact aa ⟨_,rfl,"reversed",_,uG a,ZS.lookup,h⟩
theorem xO:mroOf (.type "reversed")=pure [.type "reversed",.type "object"]:=by rw[mroOf_type];kernel_rfl
theorem FP:typeLookup (.type "reversed") "__new__"=pure (some (.builtin "reversed.__new__")):=by kernel_rfl
theorem kR:Bind.madeBy (.type "reversed")=pure (some "reversed.__new__"):=madeBy_type xO FP (by decide+kernel)
theorem FX:isSubtype (.type "reversed") (.type "reversed")=pure true:=by rw[isSubtype_type];kernel_rfl
theorem E5 (a:Value):newClass "reversed" ⟨[.type "reversed",a],[]⟩=pure (.type "reversed",[a]):=by
 unfold newClass;simp only[isType,FX,pure_bind,dY,az,if_false]
theorem qa:entryFor table "reversed.__new__"=some Builtin.«reversed.__new__»:=entryFor_of_tree (by kernel_rfl)
theorem Vh {Q:Fin->Shared->Prop}(a:IsTup s.heap l xs)(c:(xs.size:Int) < 2 ^ 63)
  (h:∀tk,Q (.done (.ret (.ref s.heap.objs.size))) { s with heap:=s.heap.push { cls:= .type "reversed",data:= .fields #[.ref l,rawInt ((xs.size:Int) - 1)] },toks:=tk }):
  wpAny (model prog w) A (Builtin.«reversed.__new__» ⟨[.type "reversed",.ref l],[]⟩) Q E s:=by
 have hT:=a.typeIs;refine a8 (bz (E5 _) ?_);refine a8 (bz (by first | rfl | kernel_rfl) ?_)
 refine a8 (bz (by first | rfl | kernel_rfl) ?_)
 refine a8 (b_ hT EM ?_);refine a8 ?_;refine a8 (c6 hT EY ?_);refine a8 (b_ hT slot_tuple_getitem.lookup ?_);refine aa ?_;refine a8 (len_tuple a c ?_);refine a8 (bz rfl ?_);refine a8 (show wpAny _ _ (newObj _ (.fields #[.ref l,rawInt _])) _ _ _ from ?_);exact aJ (aa (h _)) (by size_fits)
theorem qb:Slot "reversed" "__init__" "object.__init__":=
 .of (owner:="object") (n:="__init__") (by kernel_rfl) (by decide+kernel) (by decide+kernel) (by decide+kernel)
  (by first | exact .inl (by decide+kernel) | exact .inr (by decide+kernel)) (by kernel_rfl)
theorem qc:TypeCalled "reversed" "reversed.__new__" "object.__init__":=
 ⟨by decide+kernel,by decide+kernel,⟨_,_,xO⟩,kR,by decide+kernel,by kernel_rfl,qb⟩
theorem Vi (a:Value):checkTypeCall "reversed" ⟨[a],[]⟩=pure ():=by kernel_rfl
theorem Vj (a:Value):checkBuiltinCall "reversed.__new__" ⟨[.type "reversed",a],[]⟩=pure ():=by kernel_rfl
theorem call_rvT (d:IsTup s.heap l xs)(g:(xs.size:Int) < 2 ^ 63)
  (h:∀tk,Q (.ref s.heap.objs.size) { s with heap:=s.heap.push { cls:= .type "reversed",data:= .fields #[.ref l,rawInt ((xs.size:Int) - 1)] },toks:=tk }):wpAny (model prog w) A (call (.type "reversed") [.ref l]) Q E s:=by
 refine callType_new (S:=λ_ R s=>(∃xs,IsTup s.heap l xs/\(xs.size:Int) < 2 ^ 63/\∀tk,R (.ok (.ret (.ref s.heap.objs.size))) { s with heap:=s.heap.push { cls:= .type "reversed",data:= .fields #[.ref l,rawInt ((xs.size) - 1)] },toks:=tk })) qc (by decide) (Vi _) (Vj _) (λobj=>PySem.F.args_object_init_2 obj _) qa (.of_wp λprog w A R s h=> ?_) ⟨xs,d,g,λtk=> ?_⟩
 ·obtain⟨xs,c,e,a⟩:=h;exact Vh c e λtk=>⟨_,rfl,a tk⟩
 ·exact⟨⟨_,ae _ rfl,rfl⟩,h tk⟩
end
end PySem.RV
namespace PySem.RV
open PySem PySem.Spec PyProof.Rows
theorem Vk:typeLookup (.type "list_reverseiterator") "__len__"=pure none:=by rw[typeLookup_type,builtinLookup_eq_fast];kernel_rfl
theorem kS:typeLookup (.type "list_reverseiterator") "__length_hint__"=pure (some (.builtin "list_reverseiterator.__length_hint__")):=by rw[typeLookup_type];kernel_rfl
section
variable {G:Array GenState->Array GenState->Prop}{P:Nat->Value->Prop}{St:Nat->Shared->Prop}
theorem yz {Q:List Value->Shared->Prop}(W:WalksS prog w A.in1 I fp wr G n P St)(hT:∀i s,St i s->s.TypeIs (.ref I) "list_reverseiterator")(g:St 0 s)(l:∀b∈fp,b < s.heap.objs.size)(B:I∈fp)
  (y:∀d acc,Moved wr G s d ->ItemsOf P acc n->Q acc.toList d) (hn:n<=sizeLine):wpAny (model prog w) A (collect (.ref I)) Q E s:=by
 have p:=λz=>aY _ (l _ z);have r:s.heap.objs.size ≠ I:=λz=>p (z ▸ B);unfold collect;refine a8 (wpAny_runValue (bc F.entry_proto_collect ?_));refine a8 (aJ (aa ⟨bI F.plain_list_iadd _,bc F.entry_list_iadd ?_⟩));have a:=W.frame 0 s (s.heap.push { cls:= .type "list",data:= .seq ([]:List _).toArray }) _ g (ah _) λb _ o e=>a9 _ e;have u:(s.heap.push { cls:= .type "list",data:= .seq ([]:List _).toArray }).get? _=some _:=ae _ rfl;have v:cT (.ref s.heap.objs.size) (.ref I)=false:=by simp[cT,r]
 refine(show wpAny _ _ (fF _ _ _) _ _ _ from ?_);refine a8 (cO (hT 0 _ a) ?_);rw[if_neg (by rw[v];decide)]
 refine a8 (W.self 0 _ _ _ a (a8 (bi ?_)));refine a8 (b_ (hT 0 _ a) Vk ?_);refine a8 (b_ (hT 0 _ a) kS ?_);generalize j:("list_reverseiterator.__length_hint__")=id0;subst j;refine a8 (c6 (b:=true) (hT 0 _ a) (by kernel_rfl) ?_)
 refine aa ?_;refine aa ⟨bI F.plain_extend_loop _,codeAny_extend_loopS W hn _ p _ n 0 _ _ _ rfl (aX _) a u (ItemsOf.nil P) λd q c' x k c=> ?_⟩;exact a8 (wpAny_load k (aa (y d _ (Moved.drop_new x (ah _)) c)))
theorem Hl (W:WalksS prog w A.in1.in1 I fp wr G n P St)(hT:∀i s,St i s->s.TypeIs (.ref I) "list_reverseiterator")(d:St 0 s)(g:∀b∈fp,b < s.heap.objs.size)(q:I∈fp)
  (h:∀c acc,Moved wr G s c ->ItemsOf P acc n->Q₁ (.ref c.heap.objs.size) { c with heap:=c.heap.push { cls:= .type "tuple",data:= .seq acc } }) (hsz:n<=sizeLine):
  codeAny (model prog w) A (.call (.builtin "tuple.__new__") ⟨[.type "tuple",.ref I],[]⟩) (wants Q₁ E) s:=by
 refine codeAny_of_tree ?_;refine(show wpAny _ A.in1 (do checkBuiltinCall "tuple.__new__" ⟨[.type "tuple",.ref I],[]⟩;again (.builtin "tuple.__new__" ⟨[.type "tuple",.ref I],[]⟩)) _ _ s from ?_)
 refine a8 (bz (F.newCall_tuple_1 _) (aa ⟨bI lz _,bc F.entry_tuple_new ?_⟩));rw[Around.under_plainId lz _];have k:=sub_tuple_self;have j:=init_tuple_lookup;have p:=madeHere_tuple;have o:=hT 0 s d
 wp_walk using cO o,yz (hn:=hsz) W hT d g q
 intro c acc l a;have e:acc.toList.toArray=acc:=by simp
 refine(show wpAny _ _ (hJ acc.toList.toArray >>= λv=>ret v) _ _ _ from ?_);unfold hJ;refine a8 (aJ (aa ?_) (by rw[e];show acc.size<=sizeLine;rw[a.1];exact hsz))
 rw[e];exact h c acc l a
theorem tuple_lr (W:WalksS prog w A.in1.in1.in1 I fp wr G n P St)(hT:∀i s,St i s->s.TypeIs (.ref I) "list_reverseiterator")(e:St 0 s)(g:∀b∈fp,b < s.heap.objs.size)(l:I∈fp)
  (k:∀c acc,Moved wr G s c ->ItemsOf P acc n->Q (.ref c.heap.objs.size) { c with heap:=c.heap.push { cls:= .type "tuple",data:= .seq acc } }) (hsz:n<=sizeLine):
  wpAny (model prog w) A (call (.type "tuple") [.ref I]) Q E s:=
 callType_codes (Q₁:=λobj a=>a.TypeIs obj _/\Q obj _) iJ (F.typeCall_tuple_1 _) F.entry_object_init
  (Hl (hsz:=hsz) W hT e g l λc acc j d=>⟨⟨_,ae _ rfl,rfl⟩,k c acc j d⟩) λobj a h₁=>
   ⟨h₁.1,iK obj _,object_init_meets iJ.init.lookup iJ.made (by decide) _ w _ _ _ ⟨h₁.1,rfl,h₁.2⟩⟩
end
end PySem.RV
namespace PV
open PySem PySem.Spec PyProof.Rows L2
def AZ (K:ai)(a:Addr)(n:Nat):It:=
 ⟨λi H=>∃c x,SqT K H a c/\c.length=n/\c.reverse[i]? =some x,λi H x d =>d =H/\∀c,SqT K H a c->c.reverse[i]? =some x,λi H=>∃c,SqT K H a c/\c.length=n/\n<=i⟩
def A3 (K:ai)(a:Addr)(n:Nat):It:=
 ⟨λi H=>∃c x,SqL K H a c/\c.length=n/\c.reverse[i]? =some x,λi H x d =>d =H/\∀c,SqL K H a c->c.reverse[i]? =some x,λi H=>∃c,SqL K H a c/\c.length=n/\n<=i⟩
theorem xP {c:Type}{a:List c}{x:c}(h:a.reverse[i]? =some x):i < a.length/\a[a.length - 1 - i]? =some x:=by
 have hi:=(aK.mp h).1;rw[cA]at hi;rw[iA hi]at h;exact⟨hi,h⟩
theorem Vl {P:Program}{w:World}{K:ai}{tg:Expr}(a it:Addr)(n:Nat):U3 P w K tg (AZ K a n) [it] it (λi h=>i<=n/\RV.IsRv h it (.ref a) ((n:Int) - 1 - (i:Int))) where
 mem:=by simp
 obj:=λi h st b d=>by
  have e:b=it:=by simpa using d
  subst e;exact⟨_,st.2,λv z=>nomatch z⟩
 keep:=λi h h' st k=>⟨st.1,k it (by simp) _ st.2⟩
 item:=by
  intro X J y C Z i g s σ H E I l st M;subst J y C;obtain⟨N,x,D,hn,S⟩:=M;obtain⟨G,U,p,hz⟩:=I.tuple D;obtain⟨hi,O⟩:=xP S;obtain⟨u,hu,ru⟩:=U.get O;obtain⟨B,F,f2,q,r,Q⟩:=l it (by simp)
  have hl:=U.length;have e:(n:Int) - 1 - (i:Int)=((N.length - 1 - i:Nat):Int):=by omega
  have c:=st.2;rw[e]at c;have d:(G.toArray.size:Int) < 2 ^ 63:=by
   rw[bV]at hz;simp;omega
  refine RV.next_item c p d (x:=u) (by simpa using hu) λh' tk j sb=> ?_
  have I1:Inv X g σ H { s with heap:=h',toks:=tk }:=I.turned (t' :=tk) (λb o d e=>(sb.2 b d).trans e) B F q r Q;have e2:((N.length - 1 - i:Nat):Int) - 1=(n:Int) - 1 - ((i+1:Nat):Int):=by omega
  rw[e2]at j;exact⟨u,rfl,yi (s:={ s with heap:=h',toks:=tk }) j rfl rfl (by decide) ⟨x,H,I1,ru,⟨rfl,λys hy=>by rw[I.tuple_inj hy D];exact S⟩,⟨by omega,j⟩,λb d=>(l b d).1⟩⟩
 done:=by
  intro X J y C Z i g s σ H E I l st M;subst J y C;obtain⟨N,D,hn,S⟩:=M;obtain⟨B,F,f2,q,r,Q⟩:=l it (by simp)
  have c:=st.2;have h1:=st.1;rw[show (n:Int) - 1 - (i:Int)= -1 by omega]at c
  exact RV.next_end (I.ok.hd Z) c λh' eb=>⟨rfl,I.turned (t' :=s.toks) (λb o d e=>eb b o d e) B F q r Q⟩
 self:=λ_ _ _ _ _ st h=>RV.iter_rv st.2 h
theorem Vm {P:Program}{w:World}{K:ai}{tg:Expr}(a it:Addr)(n:Nat):U3 P w K tg (A3 K a n) [it] it (λi h=>i<=n/\h.IsRevIter it a ((n:Int) - 1 - (i:Int))) where
 mem:=by simp
 obj:=λi h st b l=>by
  have e:b=it:=by simpa using l
  subst e;obtain⟨o,e,c,d⟩:=st.2;exact⟨o,e,λv z=>by rw[d]at z;cases z⟩
 keep:=λi h h' st k=>⟨st.1,st.2.at λo e=>k it (by simp) o e⟩
 item:=by
  intro X M D F Z i j s σ H E I r st N;subst M D F;obtain⟨O,x,G,hn,U⟩:=N;obtain⟨its,rv,p,hz⟩:=I.list G;obtain⟨hi,Q⟩:=xP U;obtain⟨u,hu,ru⟩:=rv.get Q;obtain⟨C,J,f2,y,B,S⟩:=r it (by simp)
  have e:(n:Int) - 1 - (i:Int)=((O.length - 1 - i:Nat):Int):=by omega
  have g:=st.2;rw[e]at g;refine wpAny_pyNext_rev_item g p.isList (x:=u) (by simpa using hu) λh' q sb=> ?_
  have I1:Inv X j σ H { s with heap:=h' }:=I.turned (t' :=s.toks) (λb o l e=>(sb.2 b l).trans e) C J y B S;have e2:((O.length - 1 - i:Nat):Int) - 1=(n:Int) - 1 - ((i+1:Nat):Int):=by omega
  rw[e2]at q;obtain⟨o,e,c,d⟩:=id q;exact⟨u,rfl,yi (s:={ s with heap:=h' }) e c d (by decide) ⟨x,H,I1,ru,⟨rfl,λys hy=>by rw[I.list_inj hy G];exact U⟩,⟨by omega,q⟩,λb l=>(r b l).1⟩⟩
 done:=by
  intro X M D F Z i j s σ H E I r st N;subst M D F;obtain⟨O,G,hn,U⟩:=N;obtain⟨C,J,f2,y,B,S⟩:=r it (by simp)
  have g:=st.2;have h1:=st.1;rw[show (n:Int) - 1 - (i:Int)= -1 by omega]at g
  exact wpAny_pyNext_rev_end (I.ok.hd Z) g λh' eb=>⟨rfl,I.turned (t' :=s.toks) (λb o l e=>eb b o l e) C J y B S⟩
 self:=λ_ _ _ _ _ st h=>wpAny_pyIter_revIter st.2 h
theorem zr.rev {H:Hp}:∀{vs:List V} {ts:List T},zr H vs ts->zr H vs.reverse ts.reverse
 | _,_,.nil=> .nil
 | _,_,.cons r t=>by rw[cQ,cQ];exact(zr.rev t).append (.cons r .nil)
theorem Er {K:ai}{d q:Hp}{a:Addr}{c:List V}{ts:List T}(h:d a=some (.tup c))(r:zr d c ts):rI d q (AZ K a c.length) ts.reverse:=λo u k j=>by
 have g:=j _ _ (k _ _ h);have hr:=r.rev;refine⟨λi hi=> ?_,λi t x H3 e y=> ?_,λi hi=>⟨c,SqT.of g,rfl,by rw[cA]at hi;rw[r.length];exact hi⟩⟩
 ·obtain⟨v,e,_⟩:=hr.get (ak hi);exact⟨c,v,SqT.of g,rfl,e⟩
 ·obtain⟨rfl,y⟩:=y;obtain⟨v,p,l⟩:=hr.get e;have:=y c (SqT.of g);rw[p]at this;cases this;refine⟨zj.refl _, ?_⟩;rw[zv.self o _ j];exact l.mono k
theorem Fc {K:ai}{d q:Hp}{a:Addr}{c:List V}{ts:List T}(h:d a=some (.lst c))(r:zr d c ts):rI d q (A3 K a c.length) ts.reverse:=λo u k j=>by
 have g:=j _ _ (k _ _ h);have hr:=r.rev;refine⟨λi hi=> ?_,λi t x H3 e y=> ?_,λi hi=>⟨c,SqL.of g,rfl,by rw[cA]at hi;rw[r.length];exact hi⟩⟩
 ·obtain⟨v,e,_⟩:=hr.get (ak hi);exact⟨c,v,SqL.of g,rfl,e⟩
 ·obtain⟨rfl,y⟩:=y;obtain⟨v,p,l⟩:=hr.get e;have:=y c (SqL.of g);rw[p]at this;cases this;refine⟨zj.refl _, ?_⟩;rw[zv.self o _ j];exact l.mono k
def Bo (c:En->R T):En->R (List T):=λρ=>(c ρ).bind λt=>(Jv t).bind λa=> .ok a.reverse
def Vn:T->R T
 | .lst a=>if a.length<=mq then .ok (.tup a.reverse) else .bad
 | _=> .bad
section
variable {X:Cx}{Y:Fx}{a b tg:Expr}{fa fb:En->R T}{pos p p' pos' :Pos}
theorem DT {w:TA}(G:Gl X "reversed")(M:X.mg "reversed"=none)(J:PA X [a] w)(B:mP X a:=by exact mD rfl):
  PI X tg (.Call (.Name "reversed" p) [a] [] pos) (λv H R=>w v H λvs c=>∃l d,vs=[.ref l]/\((c l=some (.lst d)/\R (A3 X.K l d.length) c)\/(c l=some (.tup d)/\R (AZ X.K l d.length) c))):=by
 intro x s v H R I h;refine Call_ (ZJ I G M boot_reversed (a_ (mo (J pos _ s v H _ I h) λO j ⟨vs,c,i,F,C⟩=> ?_) B rfl));obtain⟨l,d,e,q⟩:=C;subst e;obtain⟨u,rfl,N⟩:=Ze F;obtain rfl:u=Value.ref l:=N;have ok:∀b∈[j.heap.objs.size],JY X _ c b:=λb D=>by
  have e:=by simpa using D
  subst e;exact i.fpOk (ah _) (i.hok.fresh (ah _))
 rcases q with ⟨r,q⟩ | ⟨r,q⟩
 ·obtain⟨g,k,p,hz⟩:=i.list (SqL.of r);have e:((g.toArray.size):Int) - 1=(d.length) - 1 - ((0):Int):=by have:=k.length;simp;omega
  refine call_reversed_list p.isList ?_;rw[e];have st:(j.heap.push (revObj l ((d.length) - 1 - ((0):Int)))).IsRevIter _ l _:=⟨_,ae _ rfl,rfl,rfl⟩;refine wpAny_pyIter_revIter st ?_;exact⟨j.heap.objs.size,[j.heap.objs.size],_,_,c,rfl,i.kept (λb o e=>a9 _ e),Vm l _ _,⟨aX _,st⟩,ok,q⟩
 ·obtain⟨g,k,p,hz⟩:=i.tuple (SqT.of r);have y:=k.length;have e:((g.toArray.size):Int) - 1=(d.length) - 1 - ((0):Int):=by simp;omega
  refine RV.call_rvT p (by rw[bV]at hz;omega) λtk=> ?_
  rw[e];refine RV.iter_rv (ae _ rfl) ?_;exact⟨j.heap.objs.size,[j.heap.objs.size],_,_,c,rfl,i.kept (λb o e=>a9 _ e),Vl l _ _,⟨aX _,ae _ rfl⟩,ok,q⟩
theorem DG (k:Gl X "reversed")(u:X.mg "reversed"=none)(o:Snd X Y a fa)(i:mP X a:=by exact mD rfl):wT X Y tg (.Call (.Name "reversed" p) [a] [] pos) (Bo fa):= .mk λρ=>
 PI.imp (DT k u (zi (o ρ) zw i) i) λx H R ⟨B,I,q⟩=>step I q λt v g _ w j c e=>by
  cases j with
  | @tup l d ts h r=>exact⟨l,d,rfl,.inr ⟨c.sB _ _ h,ZA c (show Po Y rI _ g _ R from e) (Er h r)⟩⟩
  | @lst l d ts h r=>exact⟨l,d,rfl,.inl ⟨c.sB _ _ h,ZA c (show Po Y rI _ g _ R from e) (Fc h r)⟩⟩
  | _=>exact e.elim
theorem Um:∀{e c:List V} {g d:List Value},Vals e g->Vals c d->Vals (e++c) (g++d)
 | _,_,_,_,.nil,q=>q
 | _,_,_,_,.cons r t,q=> .cons r (Um t q)
theorem Uo:∀{d:List V} {c:List Value},Vals d c->Vals d.reverse c.reverse
 | _,_,.nil=> .nil
 | _,_,.cons r t=>by rw[cQ,cQ];exact Um (Uo t) (.cons r .nil)
theorem kT {c:List Value}{acc:Array Value}(h:ItemsOf (λi v=>c.toArray[c.toArray.size - 1 - i]? =some v) acc c.toArray.size):acc.toList=c.reverse:=by
 have j:=by
  have:=h.1;simpa using this
 have g:=h.2;refine cq λi=> ?_
 by_cases hi:i < c.length
 ·have d:i < acc.toList.length:=by simp;omega
  have e:=ak d;have:=g i _ (by rw[← dz];exact e)
  rw[iA hi,e,← this];simp
 ·rw[aN (by simp;omega),aN (by simp;omega)]
theorem D4 (hh:X.A.handled=none)(gl:Gl X "tuple")(mg:X.mg "tuple"=none)(S :Gl X "reversed")(P :X.mg "reversed"=none)(ha:Snd X Y a fa)(Z:mP X a:=by exact mD rfl)(D :mP X (.Call (.Name "reversed" p') [a] [] pos'):=by exact mD rfl):
  Snd X Y (.Call (.Name "tuple" p) [.Call (.Name "reversed" p') [a] [] pos'] [] pos) (mn Vn fa):= .mk λρ=>by
 intro M s σ H Q I ⟨B,J,q⟩;have hq:tS Y rC fa ρ σ H (λv d=>∃l g,v= .ref l/\d l=some (.lst g)/\g.length<=sizeLine/\∀t,d t=none->Q (.ref t) (ml d t (.tup g.reverse))):=by
  refine step J q λt v d _ w G y k=> ?_;cases G with
  | @lst l g ts h r=>
   have k:Po Y rC _ d (if ts.length<=mq then .ok (.tup ts.reverse) else .bad) Q:=k
   split at k
   ·rename_i F;exact⟨l,g,rfl,y.sB _ _ h,by rw[r.length];exact Zj F,λt ht=>GG y.sB k rfl r.rev ht⟩
   ·exact k.elim
  | _=>exact k.elim
 refine bW (ZJ I gl mg PyProof.Rows.Boot.«tuple» (a_ (rest:=[]) ?_ D rfl));rw[D];refine iY (bW (ZJ I S P boot_reversed (a_ (e:=a) (rest:=[]) ?_ Z rfl)));refine mo ((zi (ha ρ) zw Z) pos' M s σ H (λvs d=>∃l g,vs=[.ref l]/\d l=some (.lst g)/\g.length<=sizeLine/\∀t,d t=none->Q (.ref t) (ml d t (.tup g.reverse))) I ?_) λus w ⟨vs,d,y,G,l,g,e,hl,hz,k⟩=> ?_
 ·obtain⟨B',J',x⟩:=hq;refine⟨B',J', ?_⟩;revert x;cases fa ρ with
  | bad=>exact λx =>x
  | ex c=>exact λx =>x
  | ok t=>
   intro x v d w G;obtain⟨l,g,rfl,h⟩:=x v d w G;exact⟨l,g,rfl,h⟩
 subst e;obtain⟨u,rfl,ru⟩:=Ze G;obtain rfl:u=Value.ref l:=ru;obtain⟨j,rv,pl,_⟩:=y.list (SqL.of hl);have N:=y.hok.lt hl;refine call_reversed_list pl.isList (lh ?_);have e0:((j.toArray.size):Int) - 1 - ((0:Nat))=((j.toArray.size):Int) - 1:=by omega
 refine RV.tuple_lr (Walks.listRev (A:=X.A.in1.in1.in1) hh _ l (au N) _).toS (λi s st=>st.2.1.typeIs) ⟨aX _,⟨_,ae _ rfl,rfl,by rw[e0];rfl⟩,pl.isList.push _⟩ (λb F=> ?_) (by simp) (λs' acc O C=> ?_) (by rw[aF,← rv.length];exact hz)
 ·have F:=by simpa using F
  rcases F with rfl | rfl
  ·rw[be];exact cF _
  ·rw[be];exact bx N
 obtain⟨h',g',d',U,os'⟩:=s';have e1:g' =w.gens:=O.gens;have e2:d' =w.drawn:=O.drawn;have e3:=O.os;subst e1 e2 e3;have kp:∀b o,w.heap.get? b=some o->h'.get? b=some o:=λb o e=>O.heap b o (λz=>by
  have z:b=w.heap.objs.size:=by simpa using z
  have:=ao e;rw[z]at this;exact aY _ this) (a9 _ e)
 have I2:=y.kept (t' :=U) kp;have ea:acc=j.reverse.toArray:=by rw[← kT C]
 rw[ea];refine⟨.ref h'.objs.size,ml d _ (.tup g.reverse),I2.laid (λb u e=>a9 _ e) (ah _) ⟨by rw[cA];exact hz,j.reverse,Uo rv,⟨_,ae _ rfl,rfl,_,rfl⟩,.inr ⟨_,ae _ rfl,rfl⟩⟩,rfl,k _ (I2.hok.fresh (ah _))⟩
end
noncomputable def w4:List T->Option Bool
 | []=>some false
 | .bl k :: r=>match w4 r with | some j=>some (k || j) | none=>none
 | _ :: _=>none
def BA:T->R T
 | .lst ts=>match w4 ts with | some k=> .ok (.bl k) | none=> .bad
 | _=> .bad
theorem qd:∀{H:Hp} {c:List V} {ts:List T} {a:List Value} {k:Bool},zr H c ts->Vals c a->w4 ts=some k->∃tr:Nat->Bool,(∀i v,a[i]? =some v->v=Value.bool (tr i))/\(ba a.length).any tr=k
 | _,_,_,_,k,.nil,.nil,h=>by
  have h' :=h;cases h';exact⟨λ_=>true,λi v e=>by simp at e,rfl⟩
 | H,_,_,_,k,.cons r rs,.cons (b:=u) rv vs,h=>by
  cases r with
  | bl b=>
   unfold w4 at h;split at h
   ·rename_i j e;cases h;obtain⟨tr,d,g⟩:=qd rs vs e;obtain rfl:u=Value.bool b:=rv;refine⟨λi=>match i with | 0=>b | i+1=>tr i,λi v e=> ?_, ?_⟩
    ·cases i with
     | zero=>simp at e;exact e.symm
     | succ i=>exact d i v (by simpa using e)
    ·rw[ar,di,iV,List.any_map,← g];rfl
   ·cases h
  | _=>cases h
section
variable {X:Cx}{Y:Fx}{a b:Expr}{fa fb:En->R T}{pos p p' pos' pt:Pos}{elts:List Expr}{kk:Nat}
theorem qe (G:X.A.handled=none):Z4 X (.builtin "any") (λvs H Q=>∃l g ts k,vs=[.ref l]/\H l=some (.lst g)/\zr H g ts/\w4 ts=some k/\Q (.bl k) H):=by
 intro y s M H vs P Q I w h;obtain⟨l,g,ts,k,rfl,x,r,B,q⟩:=h;obtain⟨u,rfl,J⟩:=Ze w;obtain rfl:u=Value.ref l:=J;obtain⟨d,w,p,_⟩:=zH I (.inl x) r;obtain⟨tr,C,F⟩:=qd r w B;refine call_any_walk (cn p ?_);have j:=I.hok.lt x;have old:∀b o,s.heap.get? b=some o->(s.heap.push { cls:= .type "list_iterator",data:= .fields #[.ref l,.int 0 0] }).get? b=some o:=λb o e=>a9 _ e;refine⟨s.heap.objs.size,_,_,_,_,_,tr,rfl,ij (A:=X.A.in1) G _ l (au j) d.toArray, ?_, ?_,λh' tk c => ?_⟩
 ·refine⟨?_,p.at λo e=>old _ o e⟩;exact⟨_,ae _ rfl,rfl,rfl⟩
 ·intro i v N O S hi D;rw[C i v (by simpa using hi)]
  exact bp D
 ·rw[aF,F];refine⟨.bl k,H,I.kept (λb o e=>c b o ?_ (old b o e)),rfl,q⟩;simp;exact au (ao e)
theorem F4 (o:X.A.handled=none)(d:Gl X "any")(g:X.mg "any"=none)(j:jc X Y a fa)(u:mP X a:=by exact mD rfl):Snd X Y (.Call (.Name "any" p) [a] [] pos) (mn BA fa):=
 WB (qe o) (λv t B H Q r c q=>by
  cases r with
  | @lst l i ts h r=>
   have q:Po Y rC B H (match w4 ts with | some k=> .ok _ | none=> .bad) Q:=q
   split at q
   ·rename_i k e;exact⟨l,i,ts,k,rfl,h,r,e,mO c q rfl (.bl k)⟩
   ·exact q.elim
  | _=>exact q.elim) d g PyProof.Rows.Boot.«any» j u
end
section
end
end PV
namespace PySem.RV
open PySem PySem.Spec PyProof.Rows PySem.Builtin.SmallTypes
theorem draws_tup (g:A.handled=none)(it l:Addr)(d:l ≠ it)(c:Array Value):Draws prog w A it [it,l] c.size (λi v=>c[i]? =some v) (λi h=>h.IsTupleIter it l i/\h.IsTuple l c) where
 live:=λi h st=>(ZG.nx_tup d c).there st it (.head _)
 frame:=λi h h' st e=>(ZG.nx_tup d c).keep st e
 item:=λi s Q E hi st j=>ZG.tup_item st.1 st.2 (x:=c[i]) (by simp[hi]) λh' a b=>j _ h' s.toks (by simp[hi]) ⟨a,st.2.extBut b.extBut d⟩ b
 done:=λs Q E st hE=>ZG.tup_stop g st.1 st.2 (by simp) hE
noncomputable abbrev C5 (i:Addr):Obj:={ cls:= .type "enumerate",data:= .fields #[.none,.bool false,.ref i,rawInt 0,.none,.none] }
theorem qf (l:Addr)(a:Array Value)(n:Nat)(i:Option Addr)(sl:Array (Option Value)):
  Meets (Builtin.«enumerate.__new__» ⟨[.type "enumerate",.ref l],[]⟩) (λ_ R s=>s.heap.get? l=some { cls:= .type "tuple",dict:=i,data:= .seq a n,slots:=sl }/\
   R (.ok (.ret (.ref (s.heap.push (ZG.oT l)).objs.size))) { s with heap:=(s.heap.push (ZG.oT l)).push (C5 s.heap.objs.size) }):=
 .of_wp λprog w A R s h=>by
  obtain⟨hp,g,d,tk,os⟩:=s;obtain⟨e,h⟩:=h;have j:=sub_enumerate;have k:ly (l_ ⟨hp,g,d,tk,os⟩) l a:=⟨_,e,rfl,n,rfl⟩
  wp_walk using d0 e
  refine wpAny_stack_any λst=>aa ?_;split
  ·rename_i c _ _ _ _ _;cases (c == Value.type "enumerate") <;> (wp_walk using d0 e,cH k;exact⟨_,rfl,h⟩)
  ·wp_walk using d0 e,cH k
   exact⟨_,rfl,h⟩
theorem enum_callT (g:s.heap.IsTuple l items)
  (h:∀h',IsEnum h' (s.heap.objs.size+1) s.heap.objs.size 0 .none->h'.IsTupleIter s.heap.objs.size l 0->(∀b o,s.heap.get? b=some o->h'.get? b=some o)->Q (.ref (s.heap.objs.size+1)) { s with heap:=h' }):
  wpAny (model prog w) A (call (.type "enumerate") [.ref l]) Q E s:=by
 obtain⟨⟨c,d,e,sl⟩,j,i,n,hd⟩:=g;obtain rfl:c= .type _:=i;obtain rfl:e= .seq _ n:=hd;refine callType_new F.called_enumerate (by decide) (F.typeCall_enumerate_1 _) (F.newCall_enumerate_1 _) (λobj=>iK obj _) F.entry_enumerate_new (qf l _ n d sl) ⟨j, ?_⟩
 have hz:(s.heap.push (ZG.oT l)).objs.size=s.heap.objs.size+1:=be ..;have a:((s.heap.push (ZG.oT l)).push (C5 s.heap.objs.size)).get? _=some _:=ae _ rfl;rw[hz]at a;rw[hz];exact⟨⟨_,a,rfl⟩,h _ a ⟨_,a9 _ (ae _ rfl),rfl,rfl⟩ λb o x=>a9 _ (a9 _ x)⟩
end PySem.RV
namespace PV
open PySem PySem.Spec PyProof.Rows L2
def Bw (K:ai)(l:Addr)(n:Nat):It:=
 ⟨λi H=>∃a x,SqT K H l a/\a.length=n/\a[i]? =some x,λi H v c =>∃p x,H p=none/\v= .ref p/\(∀a,SqT K H l a->a[i]? =some x)/\c =ml H p (.tup [.int i,x]),λi H=>∃a,SqT K H l a/\a.length=n/\n<=i⟩
theorem yA {P:Program}{w:World}{K:ai}{B:List Expr}{kk:Nat}{pt:Pos}(e it l:Addr)(n:Nat)(N:e ≠ it)(hle:l ≠ e)(Q:l ≠ it):
  U3 P w K (.Tuple B kk pt) (Bw K l n) [e,it] e (λi h=>i<=n/\(∃old,IsEnum h e it i old)/\h.IsTupleIter it l i) where
 mem:=by simp
 obj:=λi h st b a=>by
  obtain⟨_,⟨old,q⟩,o,e1,c,d⟩:=st;rcases ag.mp a with rfl | a
  ·exact⟨_,q,λv z=>nomatch z⟩
  ·have z:b=it:=by simpa using a
   subst z;exact⟨o,e1,λv z=>by rw[d]at z;cases z⟩
 keep:=λi h h' st k=>by
  obtain⟨hn,⟨old,q⟩,o,e1,r⟩:=st;exact⟨hn,⟨old,k e (by simp) _ q⟩,o,k it (by simp) o e1,r⟩
 item:=by
  intro X G hw hK hc i O s σ H E I U st hg;subst G hw hK;obtain⟨xs,x,Z,hxn,S⟩:=hg;obtain⟨g,rv,p,hz⟩:=I.tuple Z;obtain⟨u,hu,ru⟩:=rv.get S;obtain⟨hin,⟨old,q⟩,F⟩:=st;have hi:i < g.toArray.size:=by
   have:=(aK.mp hu).1;simpa using this
  have D:=RV.draws_tup (prog:=X.prog) (w:=X.w) (A:=X.A.in1) (I.ok.hd hc) it l Q g.toArray;have hef:e ∉ [it,l]:=λz=>by
   rcases ag.mp z with z | z
   ·exact N z
   ·exact hle (av.mp z).symm
  have WE:=WalksT.enumerateD D e N hef (.head _);refine WE.item i s _ _ hi ⟨⟨old,q⟩,F,p⟩ λT vals h' tk G hT J hM hk=> ?_;obtain⟨t,y,hy,rfl⟩:=G;have hyu:y=u:=by
   have:g[i]? =some y:=by simpa using hy
   rw[hu]at this;exact(aE this).symm
  subst hyu;refine⟨.ref T,rfl, ?_⟩;refine WE.go B kk pt i T _ _ _ hM λh2 j M=> ?_;have hTn:H T=none:=I.hok.fresh hT;have C:∀b∈[e,it],b ≠ T:=λb a z=>by
   obtain⟨_,_,h3,h4⟩:=hM;rcases ag.mp a with rfl | a
   ·exact h3 z.symm
   ·have:b=it:=by simpa using a
    subst this;exact h4 z.symm
  have UH:IsTup h2 T #[.int i t,y]:=by
   obtain⟨o,eo,r⟩:=J;exact⟨o,M T o (λa=>C T a rfl) eo,r⟩
  refine⟨.ref T,ml H T (.tup [.int i,x]),Inv.laidT (s:=s) (h' :=h2) (ch:=[e,it]) (tk:=tk) I U (λb o a e=>M b o a (hk b o a e)) (λb o a _=> ?_) hT ⟨by rw[bV];show 2<=16777216;decide,[.int i t,y],.cons ⟨t,rfl⟩ (.cons ru .nil),UH,.inl ⟨_,_,rfl⟩⟩,rfl,⟨T,x,hTn,rfl,λys hy=>by rw[I.tuple_inj hy Z];exact S,rfl⟩,⟨by have:=(aK.mp S).1;omega,j.1,j.2.1⟩,λb a=> ?_⟩
  ·obtain⟨⟨old2,he2⟩,⟨o2,eo2,_⟩,_⟩:=j;rcases ag.mp a with rfl | a
   ·exact⟨_,he2⟩
   ·have:b=it:=by simpa using a
    subst this;exact⟨o2,eo2⟩
  ·rw[zg (C b a)];exact(U b a).1
 done:=by
  intro X G hw hK hc i O s σ H E I U st hg;subst G hw hK;obtain⟨xs,Z,hxn,S⟩:=hg;obtain⟨g,rv,p,hz⟩:=I.tuple Z;obtain⟨hin,⟨old,q⟩,F⟩:=st;have hl:=rv.length;have D:=RV.draws_tup (prog:=X.prog) (w:=X.w) (A:=X.A.in1) (I.ok.hd hc) it l Q g.toArray;have hn:g.toArray.size=i:=by simp;omega
  refine wpAny_pyNext_enum_endD D q (by rw[hn];exact⟨F,p⟩) λh' hk=>⟨rfl, ?_⟩
  obtain⟨f0,f1,f2,f3,f4,f5⟩:=U it (by simp)
  exact I.turned (t' :=s.toks) (λb o a e=>hk b o a e) f0 f1 f3 f4 f5
 self:=λ_ _ _ _ _ st h=>let ⟨_,⟨_,q⟩,_⟩:=st;wpAny_pyIter_enum q h
theorem Vo {K:ai}{d u:Hp}{a:Addr}{c:List V}{ts:List T}(h:d a=some (.tup c))(r:zr d c ts):rI d u (Bw K a c.length) (ZH ts):=λB w k j=>by
 have g:=j _ _ (k _ _ h);rw[jU];refine⟨λi hi=> ?_,λi t x H3 e y=> ?_,λi hi=>⟨c,SqT.of g,rfl,by rw[r.length];exact hi⟩⟩
 ·obtain⟨v,e,_⟩:=r.get (ak hi);exact⟨c,v,SqT.of g,rfl,e⟩
 ·obtain⟨p,v,hp,rfl,y,rfl⟩:=y;obtain⟨t',o,rfl⟩:=WI e;obtain⟨C,q,l⟩:=r.get o;have:=y c (SqT.of g);rw[q]at this;cases this;refine⟨zj.new hp _,.tup (jd hp _) (.cons (.int _) (.cons ?_ .nil))⟩;exact(l.mono k).mono (zv.ge j (zj.new hp _))
def Up (a:En->R T):En->R (List T):=λρ=>(a ρ).bind λt=>match t with
 | .tup c=> .ok (ZH c)
 | _=> .bad
section
theorem Vp {v:TA}(G:Gl X "enumerate")(M:X.mg "enumerate"=none)(J:PA X [a] v)(O:mP X a:=by exact mD rfl):
  PI X (.Tuple elts kk pt) (.Call (.Name "enumerate" p) [a] [] pos) (λj H R=>v j H λvs g=>∃l o,vs=[.ref l]/\g l=some (.tup o)/\R (Bw X.K l o.length) g):=by
 intro y s j H R I h;refine Call_ (ZJ I G M PyProof.Rows.Boot.«enumerate» (a_ (mo (J pos _ s j H _ I h) λP d ⟨vs,g,c,F,C⟩=> ?_) O rfl));obtain⟨l,o,e,x,q⟩:=C;subst e;obtain⟨u,rfl,N⟩:=Ze F;obtain rfl:u=Value.ref l:=N;obtain⟨D,Q,pl,hz⟩:=c.tuple (SqT.of x);have i:=c.hok.lt x;refine RV.enum_callT (show d.heap.IsTuple l _ from pl) λh' w r B=>wpAny_pyIter_enum w ?_;have f:∀b∈[d.heap.objs.size+1,d.heap.objs.size],JY X _ g b:=λb k=>by
  rcases ag.mp k with rfl | k
  ·exact c.fpOk (cC _) (c.hok.fresh (cC _))
  ·have z:=by simpa using k
   subst z;exact c.fpOk (ah _) (c.hok.fresh (ah _))
 exact⟨d.heap.objs.size+1,[d.heap.objs.size+1,d.heap.objs.size],_,_,g,rfl,c.kept B,yA _ _ l _ (lT _) (au (bx i)) (au i),⟨aX _,⟨_,w⟩,r⟩,f,q⟩
theorem kU (i:Gl X "enumerate")(o:X.mg "enumerate"=none)(k:Snd X Y a fa)(e:mP X a:=by exact mD rfl):wT X Y (.Tuple elts kk pt) (.Call (.Name "enumerate" p) [a] [] pos) (Up fa):= .mk λρ=>
 PI.imp (Vp i o (zi (k ρ) zw e) e) λx H R ⟨B,I,q⟩=>step I q λt v u _ w g c d=>by
  cases g with
  | @tup l j ts h r=>exact⟨l,j,rfl,c.sB _ _ h,ZA c (show Po Y rI _ u _ R from d) (Vo h r)⟩
  | _=>exact d.elim
end
end PV
namespace PySem.RW37
open PySem PySem.Spec PyProof.Rows L2
section
end
end PySem.RW37
namespace PV
open PySem PySem.Spec PyProof.Rows L2 PySem.RW37
section
theorem yB {F:L2.St}(I:Inv X pins F H s)(g:RelV v u)(r:Rep H v t)(hp:H tp=some (.tup x))(M:Vals x its)
  (G:∀d,Vals x d ->d =its) (e:eO X.K (.type (nu t)) its=some b) (h:∀tk,Q (.bool b) { s with toks:=tk }):
  wpAny (model X.prog X.w) A (call (.builtin "isinstance") [u,.ref tp]) Q E s:=by
 obtain⟨_,d,B,⟨o,j,C,n,hd⟩,_⟩:=(show zK _ X.w H _ tp _ from I.hok tp _ hp);obtain rfl:=G _ B;obtain⟨c,dd,J,sl⟩:=o;subst C hd;cases r with
 | non=>cases (g);exact cM lc I.kIn True.intro j e (λz=>nomatch z) h
 | bl y=>cases (g);exact cM lf I.kIn True.intro j e (λz=>nomatch z) h
 | int i=>obtain⟨t,q⟩:=(g);cases q;exact cM lM I.kIn True.intro j e (λz=>nomatch z) h
 | str y=>obtain⟨t,q⟩:=(g);cases q;exact cM lN I.kIn True.intro j e (λz=>nomatch z) h
 | @tup a x _ k=>
  cases (g);obtain⟨_,_,_,p,_⟩:=(show zK _ X.w H _ a _ from I.hok a _ k);obtain⟨o,l,D,_⟩:=p;exact cM iX I.kIn ⟨o,l,D⟩ j e (λz=>nomatch z) h
 | @lst a x _ k=>
  cases (g);obtain⟨_,_,n,_,l⟩:=(show zK _ X.w H _ a _ from I.hok a _ k);exact cM eI I.kIn ⟨_,l,rfl⟩ j e (λz=>nomatch z) h
 | @fz a ob x _ k=>
  cases (g);obtain⟨_,_,_,n,_,l⟩:=(show zK _ X.w H _ a _ from I.hok a _ k);exact cM eI I.kIn ⟨_,l,rfl⟩ j e (λz=>nomatch z) h
theorem Vq:∀a,Vals [.ty n,.ty m] a ->a =[.type n,.type m]:=λa h=>by
 cases h with
 | cons p q=>
  cases q with
  | cons c d =>
   cases d;rw[p,c]
theorem qg:Z4 X (.builtin "isinstance") (λd H Q=>∃v a n m t b,d=[v,.ref a]/\H a=some (.tup [.ty n,.ty m])/\Rep H v t/\eO X.K (.type (nu t)) [.type n,.type m]=some b/\Q (.bl b) H):=by
 intro e s l H d k Q I j h;obtain⟨v,a,n,m,t,b,rfl,hp,r,g,q⟩:=h;obtain⟨u,w,rfl,i,c⟩:=ym j;obtain rfl:w=Value.ref a:=c;exact yB I i r hp (.cons rfl (.cons rfl .nil)) Vq g λtk=>⟨.bl _,H,I.tok tk,rfl,q⟩
def CY (n m:String)(t:T):R T:= .ok (.bl (ng n t || ng m t))
theorem kX {K:ai}{t:T}{n m:String}(a:bO K (.type (nu t)) (.type n)=some (ng n t))(c:bO K (.type (nu t)) (.type m)=some (ng m t)):
  eO K (.type (nu t)) [.type n,.type m]=some (ng n t || ng m t):=by
 unfold eO;rw[a];cases ng n t with
 | true=>rfl
 | false=>
  unfold eO;rw[c];cases ng m t <;> rfl
theorem Hj (F:∀t,bO X.K (.type (nu t)) (.type n)=some (ng n t))(j :∀t,bO X.K (.type (nu t)) (.type m)=some (ng m t))
  (J:Gl X "isinstance") (N:X.mg "isinstance"=none) (g:Gl X (aD n)) (l:X.mg (aD n)=none) (o:bootBuiltins (aD n)=some (.type n)) (k:Gl X (aD m)) (C:X.mg (aD m)=none) (e:bootBuiltins (aD m)=some (.type m)) (P:Snd X Y a fa)
  (D:starEach [a,.Tuple [.Name (aD n) p1,.Name (aD m) p2] kt pt] X.env=[(false,eval a X.env),(false,eval (.Tuple [.Name (aD n) p1,.Name (aD m) p2] kt pt) X.env)]:=by exact nj rfl rfl)
  (c:starEach [.Tuple [.Name (aD n) p1,.Name (aD m) p2] kt pt] X.env=[(false,eval (.Tuple [.Name (aD n) p1,.Name (aD m) p2] kt pt) X.env)]:=by exact mD rfl)
  (y:starEach [.Name (aD n) p1,.Name (aD m) p2] X.env=[(false,eval (.Name (aD n) p1) X.env),(false,eval (.Name (aD m) p2) X.env)]:=by exact nj rfl rfl)
  (d:starEach [.Name (aD m) p2] X.env=[(false,eval (.Name (aD m) p2) X.env)]:=by exact mD rfl)
  (w:aD n ≠ "__name__":=by decide) (r:(aD n == ("__debug__":Str))=false:=by decide) (i:aD m ≠ "__name__":=by decide) (u:(aD m == ("__debug__":Str))=false:=by decide)
  (hz:((backTo pos (starEach [.Tuple [.Name (aD n) p1,.Name (aD m) p2] kt pt] X.env)).any λx=>x.fst)=false:=by exact zL rfl):
  Snd X Y (.Call (.Name "isinstance" p) [a,.Tuple [.Name (aD n) p1,.Name (aD m) p2] kt pt] [] pos) (mn (CY n m) fa):= .mk λρ=>
 PE.imp (Zl qg J N PyProof.Rows.Boot.«isinstance» (zi (P ρ) (zi (xC (zi (wL (v:= .ty n) g l o rfl w r) (zi (wL (v:= .ty m) k C e rfl i u) zw d) (by rw[y,d]))) zw c) (by rw[D,c])) (by decide) (by decide) (by rw[D,c]) hz) λU H Q ⟨B,I,q⟩=>
  step I q λt v S _ Z O G M=>⟨Zj (by show 2<=mq;decide),λp hp=>⟨v,p,n,m,t,_,rfl,zh,(O.mono G.sB).mono (zj.new hp _),kX (F t) (j t),M _ _ (zj.new hp _) (.bl _)⟩⟩
end
end PV
namespace PV
open PySem PySem.Spec PyProof.Rows L2
noncomputable def max2T (t t' :T):R T:=match t,t' with
 | .int i,.int j=> .ok (.int (if j > i then j else i))
 | _,_=> .bad
noncomputable def As:T->R T
 | .int i=> .ok (.int (if i < 0 then -i else i))
 | _=> .bad
noncomputable def j6 (f:Int->Int->Bool):Int->List Int->Int
 | i,[]=>i
 | i,j :: r=>j6 f (if f j i then j else i) r
theorem Uq:∀(l:List Int) (i:Int),j6 (λa b=>decide (b < a)) i l∈i :: l/\∀x∈i :: l,x<=j6 (λa b=>decide (b < a)) i l
 | [],i=>⟨ac,λx h=>by simp at h;subst h;exact Int.le_refl _⟩
 | j :: r,i=>by
  unfold j6
  by_cases e:i < j
  ·simp only[e,decide_true,if_true];obtain⟨g,d⟩:=Uq r j;refine⟨ab _ g,λx c=> ?_⟩;rcases ag.mp c with rfl | c
   ·exact fG (Int.le_of_lt e) (d j ac)
   ·exact d x c
  ·simp only[e,decide_false,az,if_false];obtain⟨g,d⟩:=Uq r i;refine⟨?_,λx c=> ?_⟩
   ·rcases ag.mp g with h | h
    ·rw[h];exact ac
    ·exact ab _ (ab _ h)
   ·rcases ag.mp c with rfl | c
    ·exact d x ac
    ·rcases ag.mp c with rfl | c
     ·exact fG (Int.not_lt.mp e) (d i ac)
     ·exact d x (ab _ c)
theorem W2:∀(l:List Int) (i:Int),j6 (λa b=>decide (a < b)) i l∈i :: l/\∀x∈i :: l,j6 (λa b=>decide (a < b)) i l<=x
 | [],i=>⟨ac,λx h=>by simp at h;subst h;exact Int.le_refl _⟩
 | j :: r,i=>by
  unfold j6
  by_cases e:j < i
  ·simp only[e,decide_true,if_true];obtain⟨g,d⟩:=W2 r j;refine⟨ab _ g,λx c=> ?_⟩;rcases ag.mp c with rfl | c
   ·exact fG (d j ac) (Int.le_of_lt e)
   ·exact d x c
  ·simp only[e,decide_false,az,if_false];obtain⟨g,d⟩:=W2 r i;refine⟨?_,λx c=> ?_⟩
   ·rcases ag.mp g with h | h
    ·rw[h];exact ac
    ·exact ab _ (ab _ h)
   ·rcases ag.mp c with rfl | c
    ·exact d x ac
    ·rcases ag.mp c with rfl | c
     ·exact fG (d i ac) (Int.not_lt.mp e)
     ·exact d x (ab _ c)
theorem WL (a:List (Int×Tok))(i:Nat)(h:i < a.length):numAt a.toArray i=(a.map (·.1))[i]'(by simpa using h):=by
 unfold numAt;simp[h]
section
theorem EO (g:Gl X "abs")(e:X.mg "abs"=none)(d:jc X Y a fa)(j:mP X a:=by exact mD rfl):Snd X Y (.Call (.Name "abs" p) [a] [] pos) (mn As fa):=
 WB vX (λv t B H Q r c q=>by
  cases r with
  | int i=>exact⟨i,rfl,mO c q rfl (.int _)⟩
  | _=>exact q.elim) g e PyProof.Rows.Boot.«abs» d j
end
noncomputable def nw (a b:Str):Bool:=decide (a.cps.toList < b.cps.toList)
def Vr (x:Str):List Str->List Str
 | []=>[x]
 | y :: r=>if nw y x then y :: Vr x r else x :: y :: r
def Y4:List Str->List Str
 | []=>[]
 | x :: r=>Vr x (Y4 r)
def uH:T->R T
 | .lst ts=>match wl ts with
  | some a=>if ts.length < 64 then .ok (.lst ((Y4 (dd [] a)).map T.str)) else .bad
  | none=> .bad
 | _=> .bad
section
end
noncomputable def jH:List T->Option (List (Str×Int))
 | []=>some []
 | .tup [.str x,.int i] :: r=>match jH r with | some l=>some ((x,i) :: l) | none=>none
 | _ :: _=>none
def qh (t k:T):R T:=match t,k with
 | .tup ts,.str x=>match jH ts with
  | some l=>if (l.map (·.1)).Nodup then (match l.lookup x with | some i=> .ok (.int i) | none=> .bad) else .bad
  | none=> .bad
 | _,_=> .bad
def WM:T->R T
 | .tup ts=>match jH ts with
  | some l=>if (l.map (·.1)).Nodup then .ok (.int (l.map (·.2)).sum) else .bad
  | none=> .bad
 | _=> .bad
def Vs (j:Nat)(a:En->R T)(g:List T->R T):En->RS:=λρ=>((a ρ).bind λt=>(vE j ρ).bind λk=>(qh t k).bind λx=>(WM t).bind λy=>g [x,y]).s λt=> .rt t
theorem kY (t:SetTable)(a:Array (Int×Value))(h:Int)(x:Value):(layNew t a h x).2.1.led=t.led:=by
 unfold layNew;split
 ·have e:∀(u:SetTable) (n:Nat),(u.orStandIn n).led=u.led:=λu n=>by
   unfold SetTable.orStandIn
   by_cases hz:u.fits n=true
   ·rw[if_pos hz]
   ·rw[if_neg hz];rfl
  exact e _ _
 ·rfl
theorem qi (t:SetTable)(c:Array (Int×Value))(n:Nat):(relayAll t c n).2.1.led=t.led/\(t.plain=false->(relayAll t c n).2.1.plain=false):=by
 unfold relayAll;split
 ·rename_i t' a e;have d:t'.led=t.led/\t'.plain=t.plain:=by
   unfold SetTable.relaid SetTable.laid at e;simp only[Option.bind_eq_bind,Option.bind_eq_some_iff,Option.pure_def,Option.some.injEq,Prod.mk.injEq]at e;obtain⟨_,_,e,_⟩:=e;rw[← e];exact⟨rfl,rfl⟩
  dsimp only;split
  ·exact⟨d.1,λz=>d.2.trans z⟩
  ·exact⟨rfl,λ_=>rfl⟩
 ·exact⟨rfl,λ_=>rfl⟩
section
variable {K:Type}[DecidableEq K]{knd:KeyKind prog w K}
theorem qj {F:Unit->Shared->Prop}(h:F () u):wpAny (model prog w) A (match b with | true=>rule "set.scan.the-table-gave-way" | false=>pure ()) F E u:=by
 cases b
 ·exact aa h
 ·exact cx h
theorem qk {h:Heap}{a:Addr}{o:Obj}{d es' :Array (Int×Value)}{ep:Nat}{t t' :SetTable}(c:h.get? a=some o)(hd:o.data= .set d ep t):
  (h.update a (Obj.putSet es' t')).get? a=some { o with data:= .set es' (ep+1) t' }:=by
 rw[← putSet_of es' t' hd];exact bT _ c (by rw[putSet_of es' t' hd];rfl)
theorem kZ {a:Addr}{o:Obj}{g:Array (Int×Value)}{ep:Nat}{t:SetTable}{k:K}{x:Value}{Q:Bool->Shared->Prop}(J:knd.is k x=true)(X:x.scannable=true)(np:plainKind x=false)
  (C:s.heap.get? a=some o) (hd:o.data= .set g ep t) (U:t.fits g.size=true) (O:ElemsOf knd g.toList) (S:g.size+1 < scanBound)
  (h0:(∃e∈g.toList,knd.is k e.2=true)->Q false s)
  (h1:(∀e∈g.toList,knd.is k e.2=false)->∀es' N t' h',es'.toList.Perm (g.toList++[(knd.hash k,x)])->t'.fits es'.size=true->t'.led=t.led->t'.plain=false->
   h'.get? a=some { o with data:= .set es' N t' }->aQ a s.heap h' ->Q true { s with heap:=h' }):
  wpAny (model prog w) A (setAddHashed a x (knd.hash k)) Q E s:=by
 have hb:g.size < scanBound:=by omega
 refine bi (a8 (bA C hd U ?_));dsimp only;rw[byScan_of X hb O];refine a8 (a8 (cx (a8 (wpAny_setScan_of J C hd U O ?_))));cases hr:g.toList.findIdx? (λe=>knd.is k e.2) with
 | some j=>
  obtain⟨hj,hp,_⟩:=List.findIdx?_eq_some_iff_getElem.mp hr;exact aa (aa (h0 ⟨_,i7 hj,hp⟩))
 | none=>
  have q :=h1 (λe he=>List.findIdx?_eq_none_iff.mp hr e he);have v:=layNew_perm t g (knd.hash k) x;have I:=layNew_fits t g (knd.hash k) x;have D:=kY t g (knd.hash k) x;generalize layNew t g (knd.hash k) x=L at v I D ⊢;obtain⟨c,t1,dm,gv⟩:=L;rw[lA]at v;have n1:c.size=g.size+1:=by rw[← aP,v.length_eq];simp
  refine a8 (qj ?_);have i:∀d,d.fits c.size=true->d.led=t.led->d.plain=false->wpAny (model prog w) A (do
    storeSet a c d
    if (!dm && d.tooFull)=true then do
      (match (relayAll d c (dD c.size)).2.2 with | true=>rule "set.scan.the-table-gave-way" | false=>pure ())
      storeSet a (relayAll d c (dD c.size)).1 (relayAll d c (dD c.size)).2.1
      pure (some true)
     else pure (some true)) (λr s' =>wpAny (model prog w) A (match r with | some l=>pure l | none=>setAddHashedIn a x (knd.hash k) 99999) Q E s') E s:=by
   intro d f2 P u;refine a8 (wpAny_storeSet_of C hd ?_ (fits_of_scanBound (by omega)))
   have G:=qk (es' :=c) (t' :=d) C hd;have sb:=bF s.heap a (Obj.putSet c d);split
   ·have y:=relayAll_perm d c (dD c.size);have F:=relayAll_fits d c (dD c.size);have B:=qi d c (dD c.size);generalize relayAll d c _=M at y F B ⊢;obtain⟨p,Z,gw⟩:=M;dsimp only at y F B ⊢;have n2:p.size=c.size:=by rw[← aP,y.length_eq,aP]
    refine a8 (qj (a8 (wpAny_storeSet_of G rfl ?_ (fits_of_scanBound (by omega)))))
    have g2:=qk (es' :=p) (t' :=Z) G rfl;exact aa (aa (q p _ Z _ (y.trans v) F (B.1.trans P) (B.2 u) g2 (sb.trans (bF _ a _))))
   ·exact aa (aa (q c _ d _ v f2 P u G sb))
  split
  ·refine a8 ?_;rw[hashByValue_scannable 8 X,np];exact aa (i _ (SetTable.fits_plain_off I) D rfl)
  ·rename_i hp;exact i t1 I D (by simpa using hp)
end
theorem Zg:Slot "set_iterator" "__next__" "set_iterator.__next__":=
 .of (owner:="set_iterator") (n:="__next__") (by kernel_rfl) (by decide+kernel) (by decide+kernel) (by decide+kernel) (.inl (by decide+kernel)) (by kernel_rfl)
theorem jV:Slot "set_iterator" "__iter__" "set_iterator.__iter__":=
 .of (owner:="set_iterator") (n:="__iter__") (by kernel_rfl) (by decide+kernel) (by decide+kernel) (by decide+kernel) (.inl (by decide+kernel)) (by rw[isSubtype_type];kernel_rfl)
theorem W3:entryFor table "set_iterator.__next__"=some Builtin.«set_iterator.__next__»:=entryFor_of_tree (by kernel_rfl)
theorem W4:entryFor table "set_iterator.__iter__"=some Builtin.«dict_keyiterator.__iter__»:=
 entryFor_alias (id' :="dict_keyiterator.__iter__") (by kernel_rfl) rfl (by decide+kernel) (by kernel_rfl)
theorem w8:entryFor table "set.__iter__"=some Builtin.«frozenset.__iter__»:=
 entryFor_alias (id' :="frozenset.__iter__") (by kernel_rfl) rfl (by decide+kernel) (by kernel_rfl)
theorem WN (a:Value):argsOk "set_iterator.__next__" ⟨[a],[]⟩:=by kernel_rfl
theorem WO (a:Value):argsOk "set_iterator.__iter__" ⟨[a],[]⟩:=by kernel_rfl
theorem qm {a:Source}{Q:Nat->Shared->Prop}(hn:n ≠ 0)(h:∀i,i < n->Q i { s with drawn:=s.drawn.bump a }):wpAny M A (choose a n) Q E s:=λd p c=>by
 refine⟨hn, ?_⟩;have:=h _ (io (M.w.draws a (s.drawn.get a)) (fR hn));simpa using this
theorem jI {a:Type}:∀(l:List a) (i:Nat) (x:a),l[i]? =some x->(x :: l.eraseIdx i).Perm l
 | [],i,x,h=>by simp at h
 | y :: l,0,x,h=>by simp at h;subst h;simp
 | y :: l,i+1,x,h=>by
  have:=jI l i x (by simpa using h)
  exact(List.Perm.swap y x _).trans (this.cons y)
theorem qo {g:Type}:∀(n:Nat) (a:List g) (s:Shared) (Q:List g->Shared->Prop),a.length=n->
  (∀c d,c.Perm a->Q c { s with drawn:=d })->wpAny M A (drawOrder n a) Q E s
 | 0,a,s,Q,hn,h=>by
  have:=cX.mp hn;subst this;unfold drawOrder;exact aa (h [] _ (.refl _))
 | n+1,[],s,Q,hn,h=>by simp at hn
 | n+1,x :: a,s,Q,hn,h=>by
  refine a8 (qm (by simp) λi hi=> ?_)
  have e:=ak hi;rw[e];refine a8 (qo n _ _ _ (by rw[fS hi];simpa using hn) λc d hp=> ?_)
  exact aa (h _ d ((hp.cons _).trans (jI _ _ _ e)))
theorem qp {a:Type}(f:Nat->Nat):∀(n k:Nat) (l:List a) (out:Array a),l.length=n->(lC f n k l out).toList.Perm (out.toList++l)
 | 0,k,l,out,h=>by
  have:=cX.mp h;subst this;unfold lC;simp
 | n+1,k,l,out,h=>by
  unfold lC;have hi:f k % l.length < l.length:=io _ (by omega)
  have e:=ak hi;rw[e];refine(qp f n _ _ _ (by rw[fS hi];omega)).trans ?_
  rw[lA,bU];exact(List.perm_append_left_iff _).mpr (jI _ _ _ e)
theorem Jw {c:Type}(f:Nat->Nat)(a:Array c):(pickOrder f a).toList.Perm a.toList:=by
 unfold pickOrder;simpa using qp f _ 0 _ #[] (by simp)
noncomputable abbrev nJ (first:Value)(i:Nat)(S:Value)(n ep:Nat):Obj:={ cls:= .type "set_iterator",dict:=none,data:= .fields #[first,.int i 0,S,.int n 0,.int ep 0],slots:= #[] }
section
variable {prog:Program}{w:World}{A:Around}{E:Value->Shared->Prop}{s:Shared}{I S:Addr}{i ep j:Nat}{o:Obj}{es:Array (Int×Value)}{t:SetTable}
theorem uI (hi:s.heap.get? I=some (nJ first i Sv n ep))(h:Q (.ref I) s):wpAny (model prog w) A (pyIter (.ref I)) Q E s:=by
 have hT:s.TypeIs (.ref I) _:=⟨_,hi,rfl⟩;refine cP hT jV (aL jV hT W4 ?_ (WO _));exact aa ⟨_,rfl,"set_iterator",_,hT,Zg.lookup,h⟩
theorem qr {Q:Option Value->Shared->Prop}{h:Heap}(g:A.handled=none)(k:∀h',(∀b o,h.get? b=some o->h'.get? b=some o)->Q none { s with heap:=h' }):
  wpAny (model prog w) A.in1 (newExc (.type "StopIteration") [] >>= λe=>(raiseNew e:Sem PySem.Fin)) (λd a =>∃v,d= .done (.ret v)/\Q (some v) a)
   (λe a =>wpAny (model prog w) A (isInstance e (.type "StopIteration")) (λb c =>b=true/\Q none c) E a) { s with heap:=h }:=by
 refine a8 ?_;refine a8 (aJ ?_ (by size_fits))
 refine a8 (bz (by first | rfl | (simp only[firstArgMember])) ?_)
 refine aJ ?_ (by size_fits)
 refine a8 (wpAny_handled ?_);rw[g];refine a8 (aa (wpAny_throw ?_));refine c6 ⟨_,ae _ rfl,rfl⟩ isSubtype_stop ⟨rfl,k _ λb o e=> ?_⟩;exact a9 _ (a9 _ e)
theorem qt {Q:Option Value->Shared->Prop}(hi:s.heap.get? I=some (nJ first i Sv n ep))
  (h:wpAny (model prog w) A.in1 (Builtin.«set_iterator.__next__» ⟨[.ref I],[]⟩) (λc d =>∃v,c= .done (.ret v)/\Q (some v) d)
   (λe d =>wpAny (model prog w) A (isInstance e (.type "StopIteration")) (λb a =>b=true/\Q none a) E d) s):wpAny (model prog w) A (pyNext (.ref I)) Q E s:=by
 have hT:s.TypeIs (.ref I) _:=⟨_,hi,rfl⟩;refine a8 (cj (aW hT Zg (aL Zg hT W3 (cG h (λc d x=> ?_) λe d x=> ?_) (WN _))))
 ·obtain⟨v,e,q⟩:=x;exact⟨v,e,aa q⟩
 ·refine a8 (cG x (λb a y=> ?_) λ_ _ z=>z);obtain⟨rfl,q⟩:=y;exact aa q
theorem Ur {Q:Option Value->Shared->Prop}{sl:Nat}(B:A.handled=none)(hi:s.heap.get? I=some (nJ (.int sl 0) i (.ref S) es.size ep))(u:s.heap.get? S=some o)(hd:o.data= .set es ep t)(l:t.fits es.size=true)
  (h:wpAny (model prog w) A.in1 (setNext S sl i ep) (λr g =>g =s/\match r with
   | some (x,nx)=>∀h',h'.get? I=some (nJ (.int nx 0) (i+1) (.ref S) es.size ep)->aQ I s.heap h' ->Q (some x) { s with heap:=h' }
   | none=>∀h',(∀b o,b ≠ I->s.heap.get? b=some o->h'.get? b=some o)->Q none { s with heap:=h' }) (λ_ _=>False) s):wpAny (model prog w) A (pyNext (.ref I)) Q E s:=by
 refine qt hi ?_;refine a8 (bz rfl ?_);refine a8 (dE hi rfl ?_);refine a8 (a8 (bA u hd l (aa ?_)));rw[if_neg (by simp)]
 refine a8 (cG h (λr g x=> ?_) λ_ _ x=>bZ x);obtain⟨rfl,x⟩:=x;cases r with
 | some p=>
  refine a8 (aO hi (by simp) λy d a=>a8 (aO d (by simp) λc v b2=>aa ⟨_,rfl,x c ?_ (a.trans b2)⟩))
  simpa[rawInt,nJ] using v
 | none=>
  refine a8 (aO hi (by simp) λy d a=>qr B λc q=>x c λb o k e=>q b o ((a.2 b k).trans e))
theorem xQ {Q:Option Value->Shared->Prop}{P:Addr}{pl:List Nat}{on:Nat}{C:Option Addr}{c:Array (Option Value)}(D:A.handled=none)(hi:s.heap.get? I=some (nJ (.ref P) i (.ref S) es.size ep))(r:s.heap.get? S=some o)(hd:o.data= .set es ep t)(l:t.fits es.size=true)
  (hp:s.heap.get? P=some { cls:= .type "tuple",dict:=C,data:= .seq (pl.map λ(k:Nat)=>rawInt k).toArray on,slots:=c })
  (h:match pl[i]? with
   | some k=>∃e,es[k]? =some e/\∀h',h'.get? I=some (nJ (.ref P) (i+1) (.ref S) es.size ep)->aQ I s.heap h' ->Q (some e.2) { s with heap:=h' }
   | none=>∀h',(∀b o,b ≠ I->s.heap.get? b=some o->h'.get? b=some o)->Q none { s with heap:=h' }):wpAny (model prog w) A (pyNext (.ref I)) Q E s:=by
 refine qt hi ?_;refine a8 (bz rfl ?_);refine a8 (dE hi rfl ?_);refine a8 (a8 (bA r hd l (aa ?_)));rw[if_neg (by simp)]
 refine a8 (bQ hp rfl ?_);dsimp only;have u:(pl.map λ(k:Nat)=>rawInt k).toArray[(i:Int).toNat]? =(pl[i]?).map λ(k:Nat)=>rawInt k:=by simp
 rw[u];cases g:pl[i]? with
 | some k=>
  rw[g]at h;obtain⟨e,B,x⟩:=h;simp only[m8,rawInt];refine a8 (a8 (bA r hd l ?_));simp only[bv,bne_self_eq_false,az,if_false,B];refine aa (a8 (aO hi (by simp) λp d a=>aa ⟨_,rfl,x p ?_ a⟩))
  simpa[nJ] using d
 | none=>
  rw[g]at h;refine a8 (aO hi (by simp) λp d a=>a8 (aO d (by simp) λG F b2=>qr D λy v=>h y λb o q e=>v b o ((b2.2 b q).trans ((a.2 b q).trans e))))
end
structure qu (w:World) (h:Heap) (S:Addr) (es:Array (Int×Value)) (ep:Nat) (t:SetTable):Prop where
 at_:h.get? S=some { cls:= .type "set",dict:=none,data:= .set es ep t,slots:= #[] }
 fits:t.fits es.size=true
 led:w.params.followText "set-order"=true\/t.led=true
 plain:t.plain=false\/es.size=0
theorem qu.keep {a:Array (Int×Value)}{t:SetTable}(x:qu w h S a ep t)(e:∀o,h.get? S=some o->h'.get? S=some o):qu w h' S a ep t:=⟨e _ x.at_,x.fits,x.led,x.plain⟩
theorem WP (j k:Nat):eQ #[j] k=if j < k then 1 else 0:=by
 show lD _ k 1 0 1=_;unfold lD;simp only[Nat.lt_add_one,Nat.zero_lt_one,if_true];have e:(#[j]).getD ((0+1) / 2) k=j:=rfl;rw[e];split <;> rfl
section
variable {es:Array (Int×Value)}{t:SetTable}
theorem Zr {Q:Bool->Shared->Prop}(h:Q (M.w.params.followText "set-order") s):wpAny M A setsByText Q E s:=by
 exact a8 (wpAny_askSetting (aa h))
theorem yC (u:A.handled=none)(r:w.params.followText "set-order"=true)(l:S ≠ I):
  Walks prog w A I [I,S] [I] es.size (λi v=>∃e,(pickOrder (w.params.setOrder S ep) es)[i]? =some e/\v=e.2) (λi h=>h.get? I=some (nJ (.int 0 0) i (.ref S) es.size ep)/\qu w h S es ep t) where
 sub:=λb a=>by simp at a;simp[a]
 frame:=λ_ _ _ st q=>⟨q I (by simp) _ st.1,st.2.keep λo e=>q S (by simp) o e⟩
 item:=λi s Q E hi st d=>by
  have hz:i < (pickOrder (w.params.setOrder S ep) es).size:=by rw[← aP,(Jw _ es).length_eq,aP];exact hi
  have j:(pickOrder (w.params.setOrder S ep) es)[i]? =some (pickOrder (w.params.setOrder S ep) es)[i]:=bu hz;refine Ur (sl:=0) u st.1 st.2.at_ rfl st.2.fits ?_;unfold setNext;refine a8 (bA st.2.at_ rfl st.2.fits (a8 (Zr ?_)));have c:(model prog w).w.params.followText "set-order"=true:=r;simp only[c,if_true,bne_self_eq_false,az,if_false];refine a8 (m:=setWalk S) ?_;unfold setWalk;refine a8 (bA st.2.at_ rfl st.2.fits (a8 (Zr ?_)));simp only[c,if_true];refine a8 (wpAny_askSetting (aa (aa ⟨rfl, ?_⟩)));have p:∀f:Int×Value->Value×Nat,k_ f (pickOrder ((model prog w).w.params.setOrder S ep) es)[i]? =some (f (pickOrder (w.params.setOrder S ep) es)[i]):=λf=>congrArg (k_ f) j;rw[p];intro h' g b;exact d _ h' s.toks ⟨_,j,rfl⟩ ⟨g,st.2.keep λo e=>(b.2 S l).trans e⟩ λx o a e=>(b.2 x (λz=>a (by simp[z]))).trans e
 done:=λs Q E st d=>by
  have j:(pickOrder (w.params.setOrder S ep) es)[es.size]? =none:=bw (by rw[← aP,(Jw _ es).length_eq,aP];exact ah _)
  refine Ur (sl:=0) u st.1 st.2.at_ rfl st.2.fits ?_;unfold setNext;refine a8 (bA st.2.at_ rfl st.2.fits (a8 (Zr ?_)));have c:(model prog w).w.params.followText "set-order"=true:=r;simp only[c,if_true,bne_self_eq_false,az,if_false];refine a8 (m:=setWalk S) ?_;unfold setWalk;refine a8 (bA st.2.at_ rfl st.2.fits (a8 (Zr ?_)));simp only[c,if_true];refine a8 (wpAny_askSetting (aa (aa ⟨rfl, ?_⟩)));have p:∀f:Int×Value->Value×Nat,k_ f (pickOrder ((model prog w).w.params.setOrder S ep) es)[es.size]? =none:=λf=>congrArg (k_ f) j;rw[p];intro h' k;exact d h' s.toks λb o a e=>k b o (λz=>a (by simp[z])) e
 self:=λ_ _ _ _ st d=>uI st.1 d
theorem qw (G:A.handled=none)(q:w.params.followText "set-order"=false)(hz:es.size<=1)(u:S ≠ I):
  Walks prog w A I [I,S] [I] es.size (λi v=>∃e,es[i]? =some e/\v=e.2) (λi h=>h.get? I=some (nJ (.int (if i=0 then 0 else t.place.getD 0 0+1:Nat) 0) i (.ref S) es.size ep)/\qu w h S es ep t) where
 sub:=λb c=>by simp at c;simp[c]
 frame:=λ_ _ _ st D=>⟨D I (by simp) _ st.1,st.2.keep λo e=>D S (by simp) o e⟩
 item:=λi s Q E hi st p=>by
  obtain rfl:i=0:=by omega
  have r:es.size=1:=by omega
  have F:es[0]? =some es[0]:=bu hi;have hp:t.place.size=1:=by have:=st.2.fits;simp only[SetTable.fits,aj,beq_iff_eq]at this;omega
  obtain⟨j,d⟩:∃j,t.place= #[j]:=⟨t.place[0],by
   apply Array.ext
   ·simp[hp]
   ·intro i r l;simp at l;subst l;rfl⟩
  have y:t.led=true:=st.2.led.resolve_left (by rw[q];simp)
  refine Ur (sl:=0) G st.1 st.2.at_ rfl st.2.fits ?_;unfold setNext;refine a8 (bA st.2.at_ rfl st.2.fits (a8 (Zr ?_)));have x:(model prog w).w.params.followText "set-order"=false:=q;simp only[x,az,if_false];refine dj (λh=>absurd h ?_) (λ_=> ?_)
  ·show ¬ ((!t.plain && decide (es.size > 1))=true);simp[show ¬ (es.size > 1) by omega]
  refine a8 (bz (a:=()) ?_ (aa ⟨rfl, ?_⟩))
  ·show (if (!t.led && !es.isEmpty)=true then unsupported "set:maker-not-led" else pure ())=pure ()
   rw[y];rfl
  have C:eQ t.place 0=0:=by rw[d,WP];rfl
  have N:t.place[0]? =some j:=by rw[d];rfl
  rw[C,F,N];intro h' g b;have B:t.place.getD 0 0=j:=by rw[d];rfl
  refine p _ h' s.toks ⟨_,F,rfl⟩ ⟨?_,st.2.keep λo e=>(b.2 S u).trans e⟩ λM o c e=>(b.2 M (λz=>c (by simp[z]))).trans e
  rw[B];exact g
 done:=λs Q E st p=>by
  refine Ur G st.1 st.2.at_ rfl st.2.fits ?_;unfold setNext;refine a8 (bA st.2.at_ rfl st.2.fits (a8 (Zr ?_)));have x:(model prog w).w.params.followText "set-order"=false:=q;have y:t.led=true:=st.2.led.resolve_left (by rw[q];simp)
  simp only[x,az,if_false];refine dj (λh=>absurd h ?_) (λ_=> ?_)
  ·show ¬ ((!t.plain && decide (es.size > 1))=true);simp[show ¬ (es.size > 1) by omega]
  refine a8 (bz (a:=()) ?_ (aa ⟨rfl, ?_⟩))
  ·show (if (!t.led && !es.isEmpty)=true then unsupported "set:maker-not-led" else pure ())=pure ()
   rw[y];rfl
  have hp:t.place.size=es.size:=by have:=st.2.fits;simp only[SetTable.fits,aj,beq_iff_eq]at this;exact this.1
  have C:es[eQ t.place (if es.size=0 then 0 else t.place.getD 0 0+1)]? =none:=by
   rcases l5 es.size with J | J
   ·exact bw (by omega)
   ·have r:t.place.size=1:=by omega
    obtain⟨j,d⟩:∃j,t.place= #[j]:=⟨t.place[0],by
     apply Array.ext
     ·simp[r]
     ·intro i r l;simp at l;subst l;rfl⟩
    have B:t.place.getD 0 0=j:=by rw[d];rfl
    rw[if_neg (by omega),B,d,WP,if_pos (by omega)]
    exact bw (by omega)
  rw[C];intro h' k;exact p h' s.toks λb o c e=>k b o (λz=>c (by simp[z])) e
 self:=λ_ _ _ _ st p=>uI st.1 p
theorem uJ (u:A.handled=none)(pl:List Nat)(a:pl.Perm (ba es.size))(p:S ≠ I)(x:P ≠ I):
  Walks prog w A I [I,S,P] [I] es.size (λi v=>∃k e,pl[i]? =some k/\es[k]? =some e/\v=e.2) (λi h=>h.get? I=some (nJ (.ref P) i (.ref S) es.size ep)/\qu w h S es ep t/\h.get? P=some { cls:= .type "tuple",dict:=none,data:= .seq (pl.map λ(k:Nat)=>rawInt k).toArray 0,slots:= #[] }) where
 sub:=λb c=>by simp at c;simp[c]
 frame:=λ_ _ _ st d=>⟨d I (by simp) _ st.1,st.2.1.keep λo e=>d S (by simp) o e,d P (by simp) _ st.2.2⟩
 item:=λi s Q E hi st l=>by
  have B:pl.length=es.size:=by rw[a.length_eq,bJ]
  have j :i < pl.length:=by omega
  have r:pl[i]? =some pl[i]:=ak j;have d:pl[i] < es.size:=bN.mp (a.mem_iff.mp (i7 j));have q:es[pl[i]]? =some es[pl[i]]:=bu d;refine xQ u st.1 st.2.1.at_ rfl st.2.1.fits st.2.2 ?_;rw[r];refine⟨_,q,λh' g b=> ?_⟩;exact l _ h' s.toks ⟨_,_,r,q,rfl⟩ ⟨g,st.2.1.keep λo e=>(b.2 S p).trans e,(b.2 P x).trans st.2.2⟩ λy o c e=>(b.2 y (λz=>c (by simp[z]))).trans e
 done:=λs Q E st l=>by
  have B:pl.length=es.size:=by rw[a.length_eq,bJ]
  refine xQ u st.1 st.2.1.at_ rfl st.2.1.fits st.2.2 ?_;rw[show pl[es.size]? =none from aN (by omega)]
  intro h' k;exact l h' s.toks λb o c e=>k b o (λz=>c (by simp[z])) e
 self:=λ_ _ _ _ st l=>uI st.1 l
end
section
variable {es:Array (Int×Value)}{t:SetTable}
noncomputable def C7 (es:Array (Int×Value))(P:Nat->Value->Prop):Prop:=∃ord:List (Int×Value),ord.Perm es.toList/\∀i v,P i v->∃e,ord[i]? =some e/\v=e.2
theorem K0 (B:A.handled=none)(c:qu w s.heap S es ep t)(g:es.size<=100)
  (h:∀(I:Addr) (fp:List Addr) (P:Nat->Value->Prop) (St:Nat->Heap->Prop) (h' :Heap) (d:Drawn),Walks prog w A I fp [I] es.size P St->St 0 h' ->C7 es P->s.heap.objs.size<=I->(∀b∈fp,b=S\/s.heap.objs.size<=b)->
   (∀b o,s.heap.get? b=some o->h'.get? b=some o)->Q (.ref I) { s with heap:=h',drawn:=d }):wpAny (model prog w) A (pyIter (.ref S)) Q E s:=by
 have hT:s.TypeIs (.ref S) "set":=⟨_,c.at_,rfl⟩;have j:=ao c.at_;refine cP hT m9 (aL m9 hT w8 ?_ (F.args_set_iter_1 _));refine a8 (bz (a:=S) rfl ?_);refine a8 (a8 (a8 (bA c.at_ rfl c.fits (aa (aa ?_)))));refine a8 (m:=setDrawn S) ?_;unfold setDrawn;refine a8 (bA c.at_ rfl c.fits (a8 (Zr (aa ?_))));refine dj (λhd=> ?_) (λhd=> ?_)
 ·have hd:=hd;refine a8 (qo es.size _ _ _ (by simp) λpl d hp=>a8 (wpAny_newTuple ?_ (by rw[af,hp.length_eq,bJ,bV];show es.size<=16777216;omega)))
  have y:qu w (s.heap.push { cls:= .type "tuple",data:= .seq (pl.map λ(i:Nat)=>rawInt i).toArray }) S es ep t:=c.keep λo e=>a9 _ e;refine a8 (wpAny_setEpoch_of y.at_ rfl y.fits ?_);refine a8 (aJ (aa ⟨_,rfl,"set_iterator",_,⟨_,ae _ rfl,rfl⟩,Zg.lookup, ?_⟩));refine h _ _ _ _ _ _ (uJ (ep:=ep) (t:=t) B pl hp ?_ ?_) ⟨ae _ rfl,y.keep λo e=>a9 _ e, ?_⟩ ?_ ?_ ?_ ?_
  ·have e:(s.heap.push { cls:= .type "tuple",data:= .seq (pl.map λ(i:Nat)=>rawInt i).toArray }).objs.size=s.heap.objs.size+1:=be ..;exact au (by rw[e];exact bx j)
  ·have e:(s.heap.push { cls:= .type "tuple",data:= .seq (pl.map λ(i:Nat)=>rawInt i).toArray }).objs.size=s.heap.objs.size+1:=be ..;exact au (by rw[e];exact cF _)
  ·exact a9 _ (ae _ rfl)
  ·refine⟨pl.map λk=>es.getD k (0,.none), ?_,λi v ⟨k,e,q,u,C⟩=>⟨e, ?_,C⟩⟩
   ·have G:=hp.map λk=>es.getD k (0,Value.none);refine G.trans (.of_eq ?_);refine cq λi=> ?_
    by_cases hi:i < es.size
    ·simp[iq,hi]
    ·rw[aN (by simp;omega)]
     simp;omega
   ·rw[aw,q,m8,Array.getD_eq_getD_getElem?,u];rfl
  ·have e:(s.heap.push { cls:= .type "tuple",data:= .seq (pl.map λ(i:Nat)=>rawInt i).toArray }).objs.size=s.heap.objs.size+1:=be ..;rw[e];exact cC _
  ·intro b g;have e:(s.heap.push { cls:= .type "tuple",data:= .seq (pl.map λ(i:Nat)=>rawInt i).toArray }).objs.size=s.heap.objs.size+1:=be ..;rcases ag.mp g with z | g
   ·right;rw[z]
    rw[e];exact cC _
   ·rcases ag.mp g with z | g
    ·exact .inl z
    ·right;rw[av.mp g];exact ah _
  ·intro b o e;exact a9 _ (a9 _ e)
 ·have hd:¬ ((!w.params.followText _ && (!t.plain && decide _))=true):=hd;refine a8 (aa (a8 (wpAny_setEpoch_of c.at_ rfl c.fits ?_)));refine a8 (aJ (aa ⟨_,rfl,"set_iterator",_,⟨_,ae _ rfl,rfl⟩,Zg.lookup, ?_⟩));have l:qu w (s.heap.push (nJ (.int 0 0) 0 (.ref S) es.size ep)) S es ep t:=c.keep λo e=>a9 _ e;have r:∀(P:Nat->Value->Prop) (St:Nat->Heap->Prop),Walks _ w A _ _ _ _ P St->St 0 (s.heap.push (nJ (.int 0 0) 0 (.ref S) es.size ep))->C7 es P->
    Q _ { s with heap:=s.heap.push _ }:=λP St W st D=>
   h _ _ _ _ _ _ W st D (ah _) (λb g=>by
    rcases ag.mp g with z | g
    ·right;rw[z];exact ah _
    ·exact .inl (av.mp g)) λb o e=>a9 _ e
  cases x:w.params.followText _ with
  | true=>
   refine r _ _ (yC B x (au j)) ⟨ae _ rfl,l⟩ ⟨(pickOrder _ es).toList,Jw _ es,λi v ⟨e,q,u⟩=>⟨e,by simpa using q,u⟩⟩
  | false=>
   have hz:es.size<=1:=by
    rcases c.plain with p | p
    ·rw[x,p]at hd;simp at hd;exact hd
    ·omega
   exact r _ _ (qw B x hz (au j)) ⟨ae _ rfl,l⟩ ⟨es.toList,.refl _,λi v ⟨e,q,u⟩=>⟨e,by simpa using q,u⟩⟩
theorem K1 {Q:Bool->Shared->Prop}(hT:s.TypeIs (.ref S) "set")(h:Q false s):wpAny (model prog w) A (Builtin.List.listLengthHint (.ref S)) Q E s:=by
 refine a8 (b_ hT F.slot_set_len.lookup ?_);generalize a:("set.__len__")=q;subst a;refine a8 (c6 (b:=true) hT (by rw[isSubtype_type];kernel_rfl) (dj (λz=>absurd z (by decide)) λ_=> ?_))
 refine dj (λ_=>a8 (cO hT (aa h))) (λz=>absurd (by decide+kernel) z)
theorem yD {R:List Value->Shared->Prop}(hh:A.handled=none)(hS:qu w s.heap S es ep t)(u:es.size<=100)
  (h:∀(h' :Heap) (tk:Nat) (d:Drawn) (vs:List Value),(∀b o,s.heap.get? b=some o->h'.get? b=some o)->s.heap.objs.size<=h'.objs.size->vs.Perm (es.toList.map (·.2))->R vs { s with heap:=h',drawn:=d,toks:=tk }):
  wpAny (model prog w) A (collect (.ref S)) R E s:=by
 have U:=ao hS.at_;have J:es.size<=sizeLine:=by rw[bV];omega
 unfold collect;refine a8 (wpAny_runValue (bc entry_proto_collect' ?_));refine a8 (m:=newList []) (aJ (aa ⟨bI PySem.F.plain_list_iadd _,bc entry_list_iadd' ?_⟩));generalize Q:s.heap.push _=G;have gL:G.get? s.heap.objs.size=some { cls:= .type "list",data:= .seq #[] }:=by rw[← Q];exact ae _ rfl
 have Z:∀b o,s.heap.get? b=some o->G.get? b=some o:=λb o e=>by rw[← Q];exact a9 _ e
 have gz:G.objs.size=s.heap.objs.size+1:=by rw[← Q];exact be ..
 have O:=hS.keep (h' :=G) (Z S);have hT:du { s with heap:=G } (.ref S) "set":=⟨_,O.at_,rfl⟩;have v:=c8 U;show wpAny _ A.in1 (fF _ (.ref S) _) _ _ _;refine a8 (cO hT ?_);have c1:cT (.ref s.heap.objs.size) (.ref S)=false:=by simp[cT,v]
 have c2:(Value.type "set" == Value.type "list")=false:=by decide
 have c3:(Value.type "set" == Value.type "tuple")=false:=by decide
 simp only[c1,c2,c3,Bool.or_false,az,if_false];refine a8 (K0 (A:=A.in1) hh O u λI fp P St h1 d W st od hI N X=> ?_);refine a8 (bi (K1 ⟨_,X S _ O.at_,rfl⟩ ?_));have D:s.heap.objs.size ∉ fp:=λz=>by
  rcases N _ z with z | z
  ·exact v z
  ·rw[gz]at z;exact absurd z (Nat.not_succ_le_self _)
 have p:∀(B:Heap) (c tk:Nat),St 0 B->(∀b o,b ≠ s.heap.objs.size->h1.get? b=some o->B.get? b=some o)->B.get? s.heap.objs.size=some { cls:= .type "list",data:= .seq #[] c }->
   codeAny (model prog w) A (.builtin "list.extend.loop" ⟨[.ref s.heap.objs.size,.ref I,.ref s.heap.objs.size],[]⟩)
    (λq a =>∃vs:List Value,vs.Perm (es.toList.map (·.2))/\∃(h' :Heap) (tk:Nat) (c' :Nat),q= .ok (.ret (.ref s.heap.objs.size))/\a ={ s with heap:=h',drawn:=d,toks:=tk }/\(∀b o,s.heap.get? b=some o->h'.get? b=some o)/\
     h'.get? s.heap.objs.size=some { cls:= .type "list",dict:=none,data:= .seq vs.toArray c',slots:= #[] }) { s with heap:=B,drawn:=d,toks:=tk }:=by
  intro B c tk nj k2 g2;refine codeAny_extend_loopS W.toS J s.heap.objs.size D _ es.size 0 _ #[] c rfl (aX _) nj g2 (ItemsOf.nil _) λa acc c' hm g3 ha=> ?_;obtain⟨ord,hp,ho⟩:=od;have ea:acc.toList=ord.map (·.2):=by
   refine cq λi=> ?_;rw[aw]
   by_cases hi:i < acc.size
   ·obtain⟨e,e1,e2⟩:=ho i acc[i] (ha.2 i acc[i] (bu hi));rw[e1];simp[hi,e2]
   ·have l2:ord.length=acc.size:=by rw[hp.length_eq,aP,ha.1]
    rw[aN (by simpa using hi),aN (by omega)];rfl
  refine⟨acc.toList,by rw[ea];exact hp.map _,a.heap,a.toks,c',rfl, ?_,λb o e=> ?_,by simpa using g3⟩
  ·rw[Moved.eq_with hm]
  ·have j:=au (ao e);refine hm.heap b o (λz=> ?_) (k2 b o j (X b o (Z b o e)));rcases ag.mp z with z | z
   ·exact j z
   ·have zz:s.heap.objs.size+1<=b:=by rw[av.mp z,← gz];exact hI
    exact absurd (ao e) (l6.mpr (cR zz))
 have l:∀(q:Result) (a :Shared),(∃vs:List Value,vs.Perm (es.toList.map (·.2))/\∃(h' :Heap) (tk:Nat) (c' :Nat),q= .ok (.ret (.ref s.heap.objs.size))/\a ={ s with heap:=h',drawn:=d,toks:=tk }/\(∀b o,s.heap.get? b=some o->h'.get? b=some o)/\
     h'.get? s.heap.objs.size=some { cls:= .type "list",dict:=none,data:= .seq vs.toArray c',slots:= #[] })->q= .ok (.ret (.ref s.heap.objs.size))/\wpAny (model prog w) A (do
   let o ← load s.heap.objs.size
   match o.data with
   | .seq xs _=>pure xs.toList
   | _=>unsupported "internal:collect") R E a :=by
  rintro q a ⟨vs,hp,h',tk,c',rfl,rfl,k,g⟩
  refine⟨rfl,a8 (wpAny_load g (aa ?_))⟩;exact h h' tk d vs k (fE (ao g)) hp
 have r:=X _ _ gL;refine dj (λ_=> ?_) (λ_=> ?_)
 ·refine a8 (cx (a8 ?_));have C:=bT (cS (·.push Value.none)) r rfl;refine a8 (wpAny_updateSeq r rfl (wpAny_updateSeq C rfl ?_));have M:=bT (cS (·.pop)) C rfl;refine aa ⟨bI fW _,ci (p _ _ _ (W.frame 0 _ _ st λb u o e=> ?_) (λb o u e=> ?_) M) λq a x=> ?_⟩
  ·have j:b ≠ s.heap.objs.size:=λz=>D (z ▸ u);exact(bo _ _ (bf j)).trans ((bo _ _ (bf j)).trans e)
  ·exact(bo _ _ (bf u)).trans ((bo _ _ (bf u)).trans e)
  ·obtain⟨rfl,y⟩:=l q a x;exact y
 ·refine aa ⟨bI fW _,ci (p _ _ _ st (λb o _ e=>e) r) λq a x=> ?_⟩;obtain⟨rfl,y⟩:=l q a x;exact y
end
noncomputable def Y5 (prog:Program)(w:World)(h:Heap)(S:Addr)(acc:List Str):Prop:=∃a ep t c,qu w h S a ep t/\ElemsOf (strKind prog w) a.toList/\StrsAre (a.toList.map (·.2)) c/\c.Perm acc
theorem Y5.keep (x:Y5 prog w h S acc)(e:∀o,h.get? S=some o->h'.get? S=some o):Y5 prog w h' S acc:=
 let ⟨es,ep,t,ps,a,r⟩:=x;⟨es,ep,t,ps,a.keep e,r⟩
theorem WQ:∀{vs c:List Value},vs.Perm c->∀{a:List Str},StrsAre c a->∃qs,StrsAre vs qs/\qs.Perm a:=by
 intro vs c hp a h;refine⟨vs.map _,strsAre_map vs λv d=>h.all v (hp.mem_iff.mp d), ?_⟩;have:=hp.map strOf;rw[h.strs]at this;exact this
theorem qx:∀{vs:List Value} {a:List Str} (x:Str) (t:Tok),StrsAre vs a->StrsAre (vs++[.str x t]) (a++[x]):=by
 intro vs a x t h
 induction h with
 | nil=>exact .cons x t .nil
 | cons y u _ c=>exact .cons y u c
theorem W5:∀{vs:List Value} {a:List Str},StrsAre vs a->vs.length=a.length:=by
 intro vs a h
 induction h with
 | nil=>rfl
 | cons y u _ c=>simp[c]
theorem Vt:∀{vs:List Value} {a:List Str} {x:Str},StrsAre vs a->(x∈a↔∃t,Value.str x t∈vs):=by
 intro vs a x h
 induction h with
 | nil=>simp
 | cons y u _ c=>
  rw[ag,c];constructor
  ·rintro(rfl | ⟨t,e⟩)
   ·exact⟨u,by simp⟩
   ·exact⟨t,by simp[e]⟩
  ·rintro⟨t,e⟩
   rcases ag.mp e with e | e
   ·cases e;exact .inl rfl
   ·exact .inr ⟨t,e⟩
section
theorem Vu {acc:List Str}{x:Str}{tk:Tok}{Q:Bool->Shared->Prop}(J:Y5 prog w s.heap S acc)(M:acc.length+1 < scanBound)
  (h:∀b h',aQ S s.heap h' ->Y5 prog w h' S (if x∈acc then acc else acc++[x])->Q b { s with heap:=h' }):
  wpAny (model prog w) A (setAddHashed S (.str x tk) ((strKind prog w).hash x)) Q E s:=by
 obtain⟨k,ep,t,v,i,o,l,hp⟩:=J;have hz:k.size=acc.length:=by
  have j:=W5 l;rw[af,aP]at j;rw[j,hp.length_eq]
 have d:(strKind prog w).is x (.str x tk)=true:=strKind_is _ _ _ _;have g:x∈acc↔∃e∈k.toList,(strKind prog w).is x e.2=true:=by
  rw[← hp.mem_iff,Vt l];constructor
  ·rintro⟨t',e⟩
   obtain⟨e,c,a⟩:=aH.mp e;exact⟨e,c,by rw[a];exact strKind_is _ _ _ _⟩
  ·rintro⟨e,c,a⟩
   obtain⟨t',F⟩:=iP a;exact⟨t',aH.mpr ⟨e,c,F⟩⟩
 refine kZ d rfl rfl i.at_ rfl i.fits o (by omega) (λr=> ?_) λr es' u t' h' y D I q B sb=> ?_
 ·have:=h false _ (aQ.refl _ _) (by rw[if_pos (g.mpr r)];exact⟨k,ep,t,v,i,o,l,hp⟩)
  exact this
 ·have G:x ∉ acc:=λz=>by
   obtain⟨e,c,a⟩:=g.mp z;rw[r e c]at a;cases a
  refine h _ h' sb ?_;rw[if_neg G];have p:StrsAre ((k.toList++[((strKind prog w).hash x,Value.str x tk)]).map (·.2)) (v++[x]):=by
   rw[cz];exact qx x tk l
  obtain⟨qs,j,C⟩:=WQ (y.map _) p;exact⟨es',u,t',qs,⟨B,D,i.led.imp id λz=>I.trans z,.inl q⟩,(o.push d rfl).perm y,j,C.trans (hp.append_right [x])⟩
end
section
variable {prog:Program}{w:World}{A:Around}{R:Result->Shared->Prop}{I:Addr}{fp wr:List Addr}{n:Nat}{P:Nat->Value->Prop}{St:Nat->Heap->Prop}
theorem qy (W:Walks prog w A.in1 I fp wr n P St)(S:Addr)(d:S ∉ fp)(val:Nat->Str)(p:∀i v,P i v->∃t,v=Value.str (val i) t)(a:n+1 < scanBound):
  ∀(k i:Nat) (acc:List Str) (s:Shared),n - i=k->i<=n->acc.length<=i->St i s.heap->Y5 prog w s.heap S acc->
   (∀h' tk,(∀b o,b ∉ S :: wr->s.heap.get? b=some o->h'.get? b=some o)->Y5 prog w h' S (dd acc ((fZ i k).map val))->
    R (.ok (.ret .none)) { s with heap:=h',toks:=tk })->codeAny (model prog w) A (.builtin "set.update.loop" ⟨[.ref S,.ref I],[]⟩) R s:=by
 intro k
 induction k with
 | zero=>
  intro i acc s J hi x c G u;obtain rfl:i=n:=by omega
  refine bc c_ ?_;refine a8 (W.done s _ _ c λh' tk l =>aa ?_);exact u h' tk (λb o a e=>l b o (λz=>a (ab _ z)) e) (G.keep (λo e=>l S o (λz=>d (W.sub _ z)) e))
 | succ k M=>
  intro i acc s J hi x c G u;refine bc c_ ?_;refine a8 (W.item i s _ _ (by omega) c λv Q N U g j=> ?_)
  obtain⟨t,rfl⟩:=p i v U;have r:=G.keep (λo e=>j S o (λz=>d (W.sub _ z)) e);refine a8 (bi ?_);have C:(strKind prog w).is (val i) (.str _ t)=true:=strKind_is _ _ _ _;refine bi (a8 ((strKind _ w).pyHash C ?_));refine Vu r (by omega) λb X q y=> ?_
  refine aa ⟨bI i5 _,M _ _ _ (by omega) (by omega) ?_ (W.frame _ Q _ g λb a o e=> ?_) y λO D F B=> ?_⟩
  ·split
   ·omega
   ·rw[ay,aI];omega
  ·exact(q.2 b (λz=>d (z ▸ a))).trans e
  ·refine u O D (λb o a e=>F b o a ?_) B;exact(q.2 b (λz=>a (z ▸ ac))).trans (j b o (λz=>a (ab _ z)) e)
end
theorem W6 (a:Value)
  (h:Q (.ref s.heap.objs.size) { s with heap:=s.heap.push { cls:= .type "set",dict:=none,data:= .set #[] 0 (.fresh 0 0 (!w.params.followText "set-order")) } }):
  codeAny (model prog w) A (.call (.builtin "set.__new__") ⟨[.type "set",a],[]⟩) (wants Q E) s:=by
 refine codeAny_of_tree ?_;refine a8 (bz (F.newCall_set_1 a) (aa ⟨bI F.plain_set_new _,bc F.entry_set_new ?_⟩));have c:=sub_set_self
 wp_walk
 refine wpAny_askSetting (aa ?_);exact a8 (wpAny_alloc (aa (aa h)))
section
variable {prog:Program}{w:World}{A:Around}{E:Value->Shared->Prop}{s:Shared}
set_option maxRecDepth 100000 in
set_option maxHeartbeats 3200000 in
theorem yE {l:Addr}{a:List Value}{j:List Str}{Q:Value->Shared->Prop}(hh:A.handled=none)(hl:s.heap.IsList l a.toArray)(hi:StrsAre a j)(hb:a.length+1 < scanBound)
  (h:∀(h' :Heap) (tk:Nat),Y5 prog w h' s.heap.objs.size (dd [] j)->(∀b o,b < s.heap.objs.size->s.heap.get? b=some o->h'.get? b=some o)->
   Q (.ref s.heap.objs.size) { s with heap:=h',toks:=tk }):wpAny (model prog w) A (call (.type "set") [.ref l]) Q E s:=by
 have N:∀{a:List Value} {j:List Str},StrsAre a j->a.length=j.length/\∀(i:Nat) (v:Value),a[i]? =some v->∃t,v=Value.str (j.getD i ⟨#[]⟩) t:=λ{a j} hi=>by
  induction hi with
  | nil=>exact⟨rfl,λi v e=>by simp at e⟩
  | cons y t _ ih=>
   refine⟨by simp[ih.1],λi v e=> ?_⟩
   cases i with
   | zero=>exact⟨t,by simpa using e.symm⟩
   | succ i=>exact ih.2 i v (by simpa using e)
 obtain⟨O,P⟩:=N hi;have hys:(fZ 0 a.length).map (λi=>j.getD i ⟨#[]⟩)=j:=by
  rw[O];refine cq λi=> ?_;rw[aw]
  by_cases C :i < j.length
  ·rw[iH C,ak C];simp[ak C]
  ·rw[aN (by simp;omega),aN (by omega)]
   rfl
 obtain⟨c,tl,hmro⟩:=bM.mro;have hmade:=bM.made;have hsub:=bM.sub;have h1:=bM.notType;have h2:=bM.canCreate;have hct:=lU (.ref l);refine wpAny_call (codeAny_of_tree (show wpAny _ _ (callAny (.type "set") _) _ _ _ from ?_));refine aa ⟨i_ _ (by decide+kernel),bc lw ?_⟩
 rw[j_ (weight_type_call_type "set" [.ref l] []) rfl]
 repeat any_goals (first | assumption | wp_step)
 refine ci (W6 (.ref l) (E:=E) (Q:=λobj p=>∃g:Bool,g= !w.params.followText "set-order"/\obj= .ref s.heap.objs.size/\p={ s with heap:=s.heap.push { cls:= .type "set",dict:=none,data:= .set #[] 0 (.fresh 0 0 g) } }) ⟨_,rfl,rfl,rfl⟩) λr p hr=> ?_;cases r with
 | error e=>exact hr
 | ok fl=>
  cases fl with
  | ret obj=>
   obtain⟨g,Z,rfl,rfl⟩:=hr;generalize hG:s.heap.push { cls:= .type "set",dict:=none,data:= .set #[] 0 (.fresh 0 0 g) }=G;have hS:G.get? s.heap.objs.size=some { cls:= .type "set",dict:=none,data:= .set #[] 0 (.fresh 0 0 g) }:=by rw[← hG];exact ae _ rfl
   have x:G.objs.size=s.heap.objs.size+1:=by rw[← hG,be]
   have U:∀b o,s.heap.get? b=some o->G.get? b=some o:=λb o e=>by rw[← hG];exact a9 _ e
   have hT:du { s with heap:=G } (.ref s.heap.objs.size) "set":=⟨_,hS,rfl⟩;have hli:=bM.init.lookup;have hbi:=bM.init.bind (.ref s.heap.objs.size)
   repeat any_goals (first | assumption | wp_step)
   refine ci (codeAny_call_builtin (R:=wants (λr q=>r= .none/\∃h' tk,q={ s with heap:=h',toks:=tk }/\Y5 prog w h' s.heap.objs.size (dd [] j)/\
     (∀b o,b < s.heap.objs.size->s.heap.get? b=some o->h'.get? b=some o)) E) bM.init.plain lV (check_set_init_1 hT ?_)) λS q d=> ?_
   ·obtain⟨⟨ocls,odict,odata,oslots⟩,D,J,nl,I⟩:=hl;simp only at J I;subst J;subst I;have X :=U _ _ D;have hsls:=F.sub_list_set;have hslf:=iI;have hne:(Value.type "list" == Value.type "dict")=false:=by decide
    have hl1:G.IsList l a.toArray:=⟨_,X,rfl,nl,rfl⟩;have M:l < s.heap.objs.size:=ao D;unfold Builtin.«set.__init__» noKeywords fA;generalize hPI:pyIter=PI
    wp_walk
    subst hPI;refine cn hl1 (a8 (wpAny_runValue ?_));have hSf:s.heap.objs.size ∉ [G.objs.size,l]:=by
     rw[x];intro z;rcases ag.mp z with z | z
     ·exact absurd z (au (cF _))
     ·exact absurd (av.mp z) (c8 M)
    refine qy (ij (A:=A.in1.in1.in1) (by simp[hh]) G.objs.size l (by rw[x];exact au (bx M)) a.toArray) s.heap.objs.size hSf (λi=>j.getD i ⟨#[]⟩) (λi v e=>P i v (by simpa using e)) (by simpa using hb) a.length 0 [] _ (by simp) (aX _) (ah _)
     ⟨⟨_,ae _ rfl,rfl,rfl⟩,hl1.push _⟩ ?_ ?_
    ·have B :(G.push { cls:= .type "list_iterator",data:= .fields #[.ref l,.int 0 0] }).get? s.heap.objs.size=some { cls:= .type "set",dict:=none,data:= .set #[] 0 (.fresh 0 0 g) }:=a9 _ hS;exact⟨#[],0,_,[],⟨B,rfl,by cases hw:w.params.followText "set-order" with | true=>exact .inl rfl | false=>exact .inr (by rw[Z,hw];rfl),.inr rfl⟩,(λe he=>by simp at he),.nil,.refl _⟩
    ·intro h' tk' hm k;rw[hys]at k;refine aa (show wpAny _ _ (ret Value.none) _ _ _ from aa ⟨rfl,h',tk',rfl,k,λb o hb e=> ?_⟩);refine hm b o (λz=> ?_) (a9 _ (U b o e));rcases ag.mp z with z | z
     ·exact absurd z (au hb)
     ·have z' :b=G.objs.size:=av.mp z;rw[x]at z';exact absurd z' (au (bx hb))
   ·cases S with
    | error e=>exact d
    | ok u=>
     cases u with
     | ret r=>
      obtain⟨rfl,h',tk,rfl,k,hk'⟩:=d
      repeat any_goals (first | assumption | wp_step)
      exact h _ _ k hk'
     | _=>exact d.elim
  | _=>exact hr.elim
end
theorem xR:∀(a acc:List Str),(dd acc a).length<=acc.length+a.length
 | [],acc=>ah _
 | y :: r,acc=>by
  refine aB (xR r _) ?_;split
  ·simp only[ar];omega
  ·simp only[ar,ay,bR];omega
theorem uK (a:Str):nw a a=false:=by unfold nw;simp
theorem xS {a b c:Str}(h:nw a b=true)(k:nw b c=true):nw a c=true:=by
 unfold nw at*;simp only[decide_eq_true_eq]at*;exact List.lt_trans h k
theorem qz {a b:Str}(h:nw a b=false)(k:nw b a=false):a=b:=by
 unfold nw at*;simp only[decide_eq_false_iff_not]at*;have e:=lW (m3.mp k) (m3.mp h);obtain⟨⟨x⟩⟩:=a;simp at e;rw[e]
theorem Jx (x:Str):∀a:List Str,(Vr x a).Perm (x :: a)
 | []=> .refl _
 | y :: a=>by
  unfold Vr;split
  ·exact((Jx x a).cons y).trans (.swap x y a)
  ·exact .refl _
theorem Jy:∀a:List Str,(Y4 a).Perm a
 | []=> .refl _
 | x :: a=>(Jx x _).trans ((Jy a).cons x)
def nF (a b:Str):Prop:=nw b a=false
theorem xT {a b c:Str}(h:nF a b)(k:nF b c):nF a c:=by
 unfold nF at*;cases e:nw c a with
 | false=>rfl
 | true=>
  cases d:nw a b with
  | true=>rw[xS e d]at k;cases k
  | false=>rw[qz d h]at e;rw[e]at k;cases k
theorem Jz (x:Str):∀c:List Str,c.Pairwise nF->(Vr x c).Pairwise nF
 | [],_=>by unfold Vr;simp
 | y :: c,h=>by
  unfold Vr;rw[cg]at h;split
  ·rename_i a;refine cg.mpr ⟨λz hz=> ?_,Jz x c h.2⟩;rcases ag.mp ((Jx x c).mem_iff.mp hz) with rfl | hz
   ·show nw z y=false;cases e:nw z y with
    | false=>rfl
    | true=>have:=xS a e;rw[uK]at this;cases this
   ·exact h.1 z hz
  ·rename_i a;have a:=by show nw y x=false;simpa using a
   refine cg.mpr ⟨λz hz=> ?_,cg.mpr h⟩;rcases ag.mp hz with rfl | hz
   ·exact a
   ·exact xT a (h.1 z hz)
theorem JA:∀a:List Str,(Y4 a).Pairwise nF
 | []=> .nil
 | x :: a=>Jz x _ (JA a)
theorem wq:∀(c a:List Str),c.Perm a->c.Pairwise nF->a.Pairwise nF->c=a
 | [],a,p,_,_=>(List.nil_perm.mp p).symm
 | x :: c,[],p,_,_=>by cases List.perm_nil.mp p
 | x :: c,y :: a,p,d,g=>by
  rw[cg]at d g;have e:=by
   have i:nF x y:=by
    rcases ag.mp (p.mem_iff.mpr (ac)) with z | z
    ·rw[z];exact uK x
    ·exact d.1 y z
   have j:nF y x:=by
    rcases ag.mp (p.mem_iff.mp (ac)) with z | z
    ·rw[z];exact uK y
    ·exact g.1 x z
   exact qz j i
  subst e;rw[wq c a (List.Perm.cons_inv p) d.2 g.2]
theorem JB:∀(l:List Str) (p:Str),risingS p l=true->(p :: l).Pairwise nF
 | [],p,_=>by simp
 | x :: r,p,h=>by
  have h:(!ltCps _ _ && risingS x r)=true:=h;rw[aj]at h;have c:=JB r x h.2;have a:nF p x:=by
   have:=h.1;rw[ltCps_eq]at this;show decide _=false;simpa using this
  refine cg.mpr ⟨λz hz=> ?_,c⟩;rcases ag.mp hz with rfl | hz
  ·exact a
  ·exact xT a ((cg.mp c).1 z hz)
theorem uL:∀(l:List Str),sortedS l=true->l.Pairwise nF
 | [],_=> .nil
 | x :: r,h=>JB r x h
theorem qA:∀{a:List Value} {c:List Str},StrsAre a c->Vals (c.map V.str) a:=by
 intro a c h
 induction h with
 | nil=>exact .nil
 | cons n t _ d=>exact .cons ⟨_,rfl⟩ d
theorem Vv:∀{ts:List T} {a:List Str},wl ts=some a->a.length=ts.length:=by
 intro ts
 induction ts with
 | nil=>intro a h;cases h;rfl
 | cons t ts c=>
  intro a h;cases t with
  | str x=>
   unfold wl at h;split at h
   ·rename_i l e;cases h;simp[c e]
   ·cases h
  | _=>cases h
theorem WR {H:Hp}:∀a:List Str,zr H (a.map V.str) (a.map T.str)
 | []=> .nil
 | n :: a=> .cons (.str n) (WR a)
section
variable {prog:Program}{w:World}{A:Around}{E:Value->Shared->Prop}{s:Shared}{S:Addr}
theorem yF {acc:List Str}{Q:Value->Shared->Prop}(J:A.handled=none)(M:Y5 prog w s.heap S acc)(U:acc.length < 64)
  (h:∀(h' :Heap) (tk:Nat) (d:Drawn) (r:Addr) (vs:List Value) (n:Nat),(∀b o,s.heap.get? b=some o->h'.get? b=some o)->s.heap.objs.size<=r->StrsAre vs (Y4 acc)->h'.get? r=some (seqObj "list" vs.toArray n)->Q (.ref r) { s with heap:=h',drawn:=d,toks:=tk }):
  wpAny (model prog w) A (call (.builtin "sorted") [.ref S]) Q E s:=by
 obtain⟨B,ep,t,X,x,O,u,hp⟩:=M;have hz:B.size=acc.length:=by
  have g:=W5 u;rw[af,aP]at g;rw[g,hp.length_eq]
 refine Calls.call_function_entry kind_sorted plain_sorted entry_sorted (args_sorted1 _) ?_;refine a8 (aa ?_);refine a8 (yD J x (by omega) λg tk d vs D v pv=> ?_)
 obtain⟨qs,c,p⟩:=WQ pv u;have P:vs.length=acc.length:=by rw[W5 c,p.length_eq,hp.length_eq]
 refine a8 (wpAny_newList ?_ (by rw[bV];omega))
 have i:(g.push { cls:= .type "list",data:= .seq vs.toArray }).get? _=some _:=ae _ rfl;refine a8 (bi (aL slot_list_sort ⟨_,i,rfl⟩ entry_list_sort (list_sort_treeK strKind_oneLt i c.keysOf (λl j rest e=>keyKind_strs (by rw[← e];exact c)) (by omega) λC F I=>⟨_,rfl, ?_⟩) (args_list_sort _)))
 obtain⟨N,k,b2,G⟩:=sorted_out_str c F I;have e:=wq _ _ (b2.trans (p.trans (hp.trans (Jy acc).symm))) (uL _ G) (JA acc);rw[e]at k;obtain⟨n,y⟩:=sortedHeap_at i;refine aa ⟨_,rfl,h _ tk d _ _ n (λb o e=> ?_) ?_ k ?_⟩
 ·have q:=D b o e;have a:=ao q;exact(sortedHeap_old (au a) (by rw[size_push'];exact bx a)).trans (a9 _ q)
 ·exact v
 ·exact y
end
section
variable {X:Cx}{Y:Fx}{a b:Expr}{fa fb:En->R T}{pos pos' p p' :Pos}
theorem qB (D:X.A.handled=none):Z4 X (.type "set") (λvs H Q=>∃l d ts c,vs=[.ref l]/\H l=some (.lst d)/\zr H d ts/\wl ts=some c/\ts.length < 64/\
  ∀q,H q=none->Q (.ref q) (ml H q (.ext λh=>Y5 X.prog X.w h q (dd [] c)))):=by
 intro j s M H vs S Q I g h;obtain⟨l,d,ts,c,rfl,B,r,o,N,q⟩:=h;obtain⟨u,rfl,F⟩:=Ze g;obtain rfl:u=Value.ref l:=F;obtain⟨y,g,pl,C,_⟩:=zH I (.inl B) r;refine yE D pl (Jc r g o) (by unfold scanBound;omega) λh' tk i k=> ?_
 refine⟨.ref _,_,I.laid (λb u e=>k b u (ao e) e) (ah _) ?_,rfl,q _ (I.hok.fresh (ah _))⟩;obtain⟨O,ep,t,P,v,_⟩:=id i;exact⟨i,⟨_,v.at_⟩,λG J x e=>x.keep e⟩
theorem yG (D:X.A.handled=none):Z4 X (.builtin "sorted") (λvs H Q=>∃q e acc,vs=[.ref q]/\H q=some (.ext e)/\(∀h:Heap,e h->Y5 X.prog X.w h q acc)/\acc.length < 64/\∀r,H r=none->Q (.ref r) (ml H r (.lst ((Y4 acc).map V.str)))):=by
 intro j s y H vs J Q I G h;obtain⟨l,e,acc,rfl,x,c,hn,q⟩:=h;obtain⟨u,rfl,F⟩:=Ze G;obtain rfl:u=Value.ref l:=F;obtain⟨v,_,_⟩:=(show zK _ X.w H _ l _ from I.hok l _ x);refine yF D (c _ v) hn λh' tk d r vs n k i B g=> ?_;have C:Inv X _ y H { s with drawn:=d }:=⟨I.ok,I.os,I.bare,I.base,I.loc,I.cell,I.free,I.freeC,I.pin,I.hok,I.len⟩;refine⟨.ref r,ml H r _,Inv.laid C k i ?_,rfl,q _ (I.hok.fresh i)⟩;have o:=(Jy acc).length_eq;exact⟨by rw[af,bV];omega,vs,n,qA B,g⟩
end
noncomputable def gO:T->T->R T
 | .int i,.int j=>if 0 < j/\j.natAbs.log2 < 9000 then .ok (.int (i / j)) else .bad
 | _,_=> .bad
section
theorem EJ:mL X (binaryOp .FloorDiv) (L2.rI (λ_ j=>0 < j/\j.natAbs.log2 < 9000) λi j=> .int (i / j)):=rO λi j _ _ _ _ _ a q=>by
 exact floordiv_int (by omega) (by rw[fL i (by omega)];exact q) (.inl (PyProof.noPylong_of_log2 a.2))
theorem K2:mL X (binaryOp .FloorDiv) (rG Y gO):=by
 intro c s l H x y v u Q I e g h;obtain⟨B,t,t',k,r,d,q⟩:=h;cases r with
 | int i=>
  cases d with
  | int j=>
   by_cases a:0 < j/\j.natAbs.log2 < 9000
   ·exact EJ _ s l H _ _ v u Q I e g ⟨i,j,rfl,rfl,a,mO k q (if_pos a) (.int _)⟩
   ·rw[show gO (.int i) (.int j)= .bad from if_neg a]at q;exact q.elim
  | _=>exact q.elim
 | _=>cases d <;> exact q.elim
theorem DK (d:Snd X Y a fa)(c:Snd X Y b fb):Snd X Y (.BinOp a .FloorDiv b pos) (zc gO fa fb):=uw K2 d c
end
noncomputable def big:Nat:=2 ^ 8000
def oi:T->T->R T
 | .int i,.int j=>if i.natAbs < big/\j.natAbs < big then .ok (.int (i*j)) else .bad
 | _,_=> .bad
theorem Us (h:i.natAbs < big):iR i<=2 ^ 20:=by
 unfold iR;split
 ·exact aX _
 ·rename_i a;have a:i.natAbs ≠ 0:=λz=>a (by rw[Int.natAbs_eq_zero.mp z];rfl)
  have c:=(Nat.log2_lt a).mpr h;omega
section
theorem Du:mL X (binaryOp .Mult) (L2.rI (λi j=>i.natAbs < big/\j.natAbs < big) λi j=> .int (i*j)):=rO λi j _ _ _ _ _ a q=>mul_int q (IntMulOk.of_bits (Us a.1) (Us a.2))
theorem D3:mL X (binaryOp .Mult) (rG Y oi):=by
 intro c s l H x y v u Q I e g h;obtain⟨B,t,t',k,r,d,q⟩:=h;cases r with
 | int i=>
  cases d with
  | int j=>
   by_cases a:i.natAbs < big/\j.natAbs < big
   ·exact Du _ s l H _ _ v u Q I e g ⟨i,j,rfl,rfl,a,mO k q (if_pos a) (.int _)⟩
   ·rw[show oi (.int i) (.int j)= .bad from if_neg a]at q;exact q.elim
  | _=>exact q.elim
 | _=>cases d <;> exact q.elim
theorem Cj (d:Snd X Y a fa)(c:Snd X Y b fb):Snd X Y (.BinOp a .Mult b pos) (zc oi fa fb):=uw D3 d c
end
theorem K3:typeLookup (.type "tuple") "keys"=pure none:=by rw[typeLookup_type,builtinLookup_eq_fast];kernel_rfl
theorem K4:typeLookup (.type "tuple") "__getattr__"=pure none:=by rw[typeLookup_type,builtinLookup_eq_fast];kernel_rfl
section
theorem Vw {sl:Array (Option Value)}{u:Tok}{Q:PySem.Fin->Shared->Prop}(a:A.handled=none)(c:s.heap.get? l=some { cls:= .type "tuple",dict:=none,data:= .seq its n,slots:=sl })
  (h:∀h' tk e,Heap.NewAttrErr s.heap h' e (.ref l) "keys"->E (.ref e) { s with heap:=h',toks:=tk }):
  wpAny (model prog w) A (Builtin.«object.__getattribute__» ⟨[.ref l,.str "keys" u],[]⟩) Q E s:=by
 obtain⟨hp,g,d,tk,os⟩:=s;have hT:(⟨hp,g,d,tk,os⟩:Shared).TypeIs (.ref l) "tuple":=⟨_,c,rfl⟩;have i:=K3;unfold Builtin.«object.__getattribute__»
 repeat (any_goals (first | assumption | wp_step))
 exact wpAny_raiseAttrError a h (attrMsg_fits (by decide+kernel) (by decide+kernel))
end
section
theorem K5 {l:Addr}{a:Array Value}{n:Nat}{sl:Array (Option Value)}{u:Tok}{R:Result->Shared->Prop}(d:A.handled=none)(c:s.heap.get? l=some { cls:= .type "tuple",dict:=none,data:= .seq a n,slots:=sl })
  (h:∀h' tk e,Heap.NewAttrErr s.heap h' e (.ref l) "keys"->R (.error (.ref e)) { s with heap:=h',toks:=tk }):
  codeAny (model prog w) A (.call (.builtin "tuple.__getattribute__") ⟨[.ref l,.str "keys" u],[]⟩) R s:=
 codeAny_call_builtin cK.plain F.entry_tuple_ga (cK.check _ _ _ _ _ _ _ _ (show s.TypeIs _ _ from ⟨_,c,rfl⟩) (F.args_tuple_getattribute_2 _ _) (Vw d c h))
theorem K6 {l:Addr}{c:Array Value}{n:Nat}{sl:Array (Option Value)}{Q:Option Value->Shared->Prop}(k:A.handled=none)(j:s.heap.get? l=some { cls:= .type "tuple",dict:=none,data:= .seq c n,slots:=sl })
  (h:∀h' tk,(∀b o,s.heap.get? b=some o->h'.get? b=some o)->Q none { s with heap:=h',toks:=tk }):
  wpAny (model prog w) A (getAttr? (.ref l) "keys") Q E s:=by
 obtain⟨hp,g,d,tk,os⟩:=s;have hT:∀t,(⟨hp,g,d,t,os⟩:Shared).TypeIs (.ref l) "tuple":=λ_=>⟨_,j,rfl⟩;have x:=sub_AttributeError;have v:=cK.lookup;have q:=cK.bind (.ref l);have u:=K4;unfold getAttr? getAttrBy? getAttrBy
 repeat (any_goals (first | assumption | exact hT _ | wp_step))
 refine K5 (s:=⟨hp,g,d,tk+1,os⟩) k j λh' a e i=> ?_;obtain⟨t',r,p⟩:=i.there;have hE:(⟨h',g,d,a,os⟩:Shared).TypeIs (.ref e) "AttributeError":=⟨_,p,rfl⟩;show wpAny _ _ (getattributeRaised _ _ _ _ _ _ _) _ _ _;unfold getattributeRaised
 repeat (any_goals (first | assumption | wp_step))
 exact h _ _ i.keeps
end
noncomputable def Z8 (h:Heap)(c:List Value)(d:List (Str×Int)):Prop:=Paired (λv (p:Str×Int)=>∃a t u n ob,v=Value.ref a/\h.get? a=some ob/\ob.cls= .type "tuple"/\ob.data= .seq #[.str p.1 t,.int p.2 u] n) c d
theorem Z8.keep {c:List (Str×Int)}(x:Z8 h its c)(k:∀b o,h.get? b=some o->h'.get? b=some o):Z8 h' its c:=
 Paired.mapP x λv p ⟨a,t,u,n,ob,d,e,g⟩=>⟨a,t,u,n,ob,d,k _ _ e,g⟩
theorem Z8.off {h h' :Heap}{D I:Addr}(k:∀b o,b ≠ D->b ≠ I->h.get? b=some o->h'.get? b=some o):∀{c:List Value} {d:List (Str×Int)},Z8 h c d->(∀v a,v∈c->v=Value.ref a->a ≠ D/\a ≠ I)->Z8 h' c d
 | _,_,.nil,_=> .nil
 | _,_,.cons r q,e=>by
  obtain⟨a,t,u,n,ob,g,i,l⟩:=r;obtain⟨p,j⟩:=e _ a ac g;exact .cons ⟨a,t,u,n,ob,g,k _ _ p j i,l⟩ (Z8.off k q λv b w=>e v b (ab _ w))
def KVs (kvs:List (mG×Value))(a:List (Str×Int)):Prop:=Paired (λ(q:mG×Value) (p:Str×Int)=>q.1=Sum.inr p.1/\∃t,q.2=Value.int p.2 t) kvs a
theorem KVs.snoc:∀{kvs:List (mG×Value)} {a:List (Str×Int)} {x:Str} {i:Int} {t:Tok},KVs kvs a->KVs (kvs++[(Sum.inr x,.int i t)]) (a++[(x,i)])
 | _,_,x,i,t,.nil=> .cons ⟨rfl,t,rfl⟩ .nil
 | _,_,x,i,t,.cons r q=> .cons r (KVs.snoc q)
theorem KVs.keys:∀{kvs:List (mG×Value)} {a:List (Str×Int)},KVs kvs a->kvs.map (·.1)=a.map λp=>(Sum.inr p.1:mG)
 | _,_,.nil=>rfl
 | _,_,.cons r q=>by rw[aA,aA,r.1,KVs.keys q]
theorem KVs.len {kvs:List (mG×Value)}{a:List (Str×Int)}(h:KVs kvs a):kvs.length=a.length:=by
 have:=congrArg iE h.keys;simpa using this
theorem yH {kvs:List (mG×Value)}{k:mG}(h:k ∉ kvs.map (·.1)):stored kvs k v=kvs++[(k,v)]:=by
 unfold stored;rw[if_neg];intro z;rw[i8]at z;obtain⟨q,a,e⟩:=z;exact h (aH.mpr ⟨q,a,of_decide_eq_true e⟩)
section
variable {prog:Program}{w:World}{A:Around}{R:Result->Shared->Prop}{I:Addr}{fp wr:List Addr}{n:Nat}{P:Nat->Value->Prop}{St:Nat->Heap->Prop}
theorem Ut:entryFor table "dict.update.loop"=some Builtin.«dict.update.loop»:=entryFor_of_tree (by kernel_rfl)
theorem Uu:plainId "dict.update.loop"=true:=by decide+kernel
theorem jJ {d a:Type}{F:d->a->Prop}:∀{g:List d} {c:List a} {i:Nat} {y:a},Paired F g c->c[i]? =some y->∃x,g[i]? =some x/\F x y
 | _,_,_,_,.nil,h=>by simp at h
 | _,_,0,y,.cons r _,h=>by simp at h;subst h;exact⟨_,rfl,r⟩
 | _,_,i+1,y,.cons _ q,h=>by
  obtain⟨x,e,r⟩:=jJ q (by simpa using h)
  exact⟨x,by simpa using e,r⟩
theorem wt {d a:Type}{F:d->a->Prop}:∀{e:List d} {c:List a},Paired F e c->e.length=c.length
 | _,_,.nil=>rfl
 | _,_,.cons _ q=>by simp[wt q]
theorem qC {l:Addr}{g:List Value}{c:List (Str×Int)}(hh:A.handled=none)(I D:Addr)(hlI:l ≠ I)(hD:D ≠ I)(X:D ≠ l)(nd:(c.map (·.1)).Nodup)(hps:c.length<=sizeLine)(kw:Value):
  ∀(m i:Nat) (s:Shared) (kvs:List (mG×Value)) (q:Tok),c.length - i=m->i<=c.length->s.heap.IsTupleIter I l i->s.heap.IsTuple l g.toArray->Z8 s.heap g c->(∀v a,v∈g->v=Value.ref a->a ≠ D/\a ≠ I)->
   s.heap.DictOf (zZ prog w) D kvs->KVs kvs (c.take i)->
   (∀h' tk d,(∀b o,b ≠ D->b ≠ I->s.heap.get? b=some o->h'.get? b=some o)->h'.DictOf (zZ prog w) D d ->KVs d c->R (.ok (.ret kw)) { s with heap:=h',toks:=tk })->
   codeAny (model prog w) A (.builtin "dict.update.loop" ⟨[.ref D,.ref I,.int (i:Int) q,kw],[]⟩) R s:=by
 intro m
 induction m with
 | zero=>
  intro i s kvs q hm hi k N hp S hd y hR;obtain rfl:i=c.length:=by omega
  refine bc Ut ?_;unfold Builtin.«dict.update.loop»;dsimp only;have hl:=wt hp;refine a8 (wpAny_pyNext_tuple_end hh k N (by simp[hl]) λh' he=> ?_)
  rw[List.take_length]at y;refine a8 (bz (a:=()) rfl (aa ?_));exact hR h' s.toks kvs (λb o _ hb e=>he b o hb e) (hd.extBut he hD) y
 | succ m ih=>
  intro i s kvs q hm hi k N hp S hd y hR;refine bc Ut ?_;unfold Builtin.«dict.update.loop»;dsimp only;have J :i < c.length:=by omega
  have ei:=ak J;obtain⟨v,ev,a,t,u,n,ob,rfl,ga,ca,da⟩:=jJ hp ei;refine a8 (wpAny_pyNext_tuple_item k N (x:= .ref a) (by simpa using ev) λh1 M sb=> ?_)
  obtain⟨naD,naI⟩:=S _ a (cN ev) rfl;have C:=(sb.2 a naI).trans ga;have Z:=hd.sameBut sb hD;have hTa:du { s with heap:=h1 } (.ref a) "tuple":=⟨_,C,ca⟩;refine a8 (bi (a8 (dF ?_)));refine a8 (cO hTa ?_);refine a8 (bQ C da (aa ?_));have B:(Sum.inr c[i].1) ∉ kvs.map (·.1):=by
   rw[y.keys];intro z;obtain⟨p,hp',e⟩:=aH.mp z;have e:p.1=c[i].1:=by injection e
   obtain⟨j,hj,ej⟩:=dG.mp hp';rw[dJ]at hj;rw[List.getElem_take]at ej;have U:j < i:=by omega
   have:=(dO.mp nd) j i (by rw[af];omega) (by rw[af];exact J) U
   rw[lX,lX]at this;exact this (by rw[ej,e])
  have hz:kvs.length<=sizeLine:=by rw[y.len,dJ];exact aB (Nat.min_le_right _ _) hps
  refine bi (wpAny_dictSet_pairs (ja _ _ _ _) Z λh2 F G=> ?_);rw[yH B]at F;refine aa ⟨bI Uu _, ?_⟩;have hk2:KVs (kvs++[(Sum.inr c[i].1,.int c[i].2 u)]) (c.take (i+1)):=by
   rw[List.take_succ,ei];exact y.snoc
  have r:∀b o,b ≠ D->b ≠ I->s.heap.get? b=some o->h2.get? b=some o:=λb o Q O e=>(G.2 b Q).trans ((sb.2 b O).trans e);have:=ih _ { s with heap:=h2,toks:=s.toks+1 } _ 0 (by omega) (by omega) (M.extBut G.extBut (bf hD)) (ly.at N λo e=>r l o (bf X) hlI e) ?_ S F hk2 (λh' tk d k' d' q' =>hR h' tk _ (λb o Q O e=>k' b o Q O (r b o Q O e)) d' q')
  ·exact this
  ·exact hp.off r S
end
theorem Z8.mem {h:Heap}:∀{d:List Value} {j:List (Str×Int)},Z8 h d j->∀{v:Value} {a:Addr},v∈d->v=Value.ref a->∃o,h.get? a=some o
 | _,_,.nil,_,_,c,_=>by simp at c
 | _,_,.cons r q,v,a,c,e=>by
  rcases ag.mp c with z | c
  ·obtain⟨b,t,u,n,ob,g,i,_⟩:=r;subst z;rw[e]at g;cases g;exact⟨_,i⟩
  ·exact Z8.mem q c e
section
theorem qD {l:Addr}{j:List Value}{y:List (Str×Int)}{n:Nat}{sl:Array (Option Value)}{Q:Value->Shared->Prop}(O:A.handled=none)(M:s.heap.get? l=some { cls:= .type "tuple",dict:=none,data:= .seq j.toArray n,slots:=sl })
  (hp:Z8 s.heap j y) (nd:(y.map (·.1)).Nodup) (D:y.length<=sizeLine)
  (h:∀h' tk kvs,(∀b o,s.heap.get? b=some o->h'.get? b=some o)->h'.DictOf (zZ prog w) s.heap.objs.size kvs->KVs kvs y->Q (.ref s.heap.objs.size) { s with heap:=h',toks:=tk }):
  wpAny (model prog w) A (call (.type "dict") [.ref l]) Q E s:=by
 refine callType_codes (Q₁:=λobj d=>obj= .ref _/\d={ s with heap:=s.heap.push _ }) F.kt_called_dict (F.kt_typeCall_dict_1 _) F.entry_dict_init (kt_code_dict_new _ ⟨rfl,rfl⟩) ?_
 rintro obj d ⟨rfl,rfl⟩
 generalize N:s.heap.push _=G;have c:G.DictOf (zZ prog w) s.heap.objs.size []:=by rw[← N];exact Heap.DictOf.new _
 have B:∀b o,s.heap.get? b=some o->G.get? b=some o:=λb o e=>by rw[← N];exact a9 _ e
 have C:=B _ _ M;have p:=ao M;have hT:du { s with heap:=G } (.ref l) _:=⟨_,C,rfl⟩;refine⟨c.typeIs,F.args_dict_init_2 _ _, ?_⟩;refine a8 ?_;refine a8 (wpAny_notOrdered_dict c.typeIs ?_);refine aa ?_;refine a8 (cO hT ?_);refine a8 (K6 O C λi S q=> ?_);refine a8 (cx ?_);have g:=q _ _ C;have J:i.IsTuple l _:=⟨_,g,rfl,n,rfl⟩;refine a8 (cH J ?_);generalize k:i.push _=G2;have u:s.heap.objs.size < i.objs.size:=by
  obtain⟨o,_,_,e,_⟩:=id c;exact ao (q _ _ e)
 have x:∀b o,i.get? b=some o->G2.get? b=some o:=λb o e=>by rw[← k];exact a9 _ e
 have Z:G2.get? i.objs.size=some { cls:= .type "tuple_iterator",data:= .fields #[.ref l,.int 0 0] }:=by rw[← k];exact ae _ rfl
 have I:G2.DictOf (zZ prog w) s.heap.objs.size []:=by
  obtain⟨o,es,ep,e,r⟩:=c;exact⟨o,es,ep,x _ _ (q _ _ e),r⟩
 refine aa ⟨bI Uu _, ?_⟩;refine qC (A:=A.in1) O _ _ (au (fH p u)) (au u) (c8 p) nd D _ _ 0 _ [] 0 rfl (aX _) ⟨_,Z,rfl,rfl⟩ ⟨_,x _ _ g,rfl,n,rfl⟩ (hp.keep λb o e=>x b o (q b o (B b o e))) (λv a hv e=> ?_) I .nil λh' tk kvs U dd X=> ?_
 ·obtain⟨o,P⟩:=hp.mem hv e;have:=ao P;exact⟨au this,au (fH this u)⟩
 ·refine⟨rfl,h h' tk kvs (λb o e=>U b o (au (ao e)) (au (fH (ao e) u)) (x b o (q b o (B b o e)))) dd X⟩
end
abbrev pr (ps:List (Str×Int)):List (mG×V):=ps.map λp=>(Sum.inr p.1,V.int p.2)
theorem Do:∀{kvs:List (mG×Value)} {a:List (Str×Int)},KVs kvs a->KV (pr a) kvs
 | _,_,.nil=> .nil
 | _,_,.cons r q=>by
  obtain⟨e,t,c⟩:=r;exact .cons ⟨e.symm,⟨t,c⟩⟩ (Do q)
theorem qE:∀{a:List (Str×Int)} {kvs:List (mG×Value)},KV (pr a) kvs->KVs kvs a
 | [],_,.nil=> .nil
 | p :: a,_,.cons r q=>by
  obtain⟨e,t,c⟩:=r;exact .cons ⟨e.symm,t,c⟩ (qE q)
theorem xU:∀{kvs:List (mG×Value)} {c:List (Str×Int)} {x:Str} {i:Int},KVs kvs c->c.lookup x=some i->∃t,valueAt kvs (Sum.inr x)=some (.int i t)
 | _,_,x,i,.nil,h=>by simp at h
 | _,_,x,i,.cons (b:=p) r rs,h=>by
  obtain⟨e,t,d⟩:=r;rw[aG]at h
  by_cases a:x=p.1
  ·have:(x == p.1)=true:=by simp[a]
   rw[this]at h;cases h;unfold valueAt;rw[dk,show decide _=true from decide_eq_true (by rw[e,a])]
   simp[d]
  ·have:=beq_eq_false_iff_ne.mpr a;rw[this]at h;obtain⟨t',h'⟩:=xU rs h;refine⟨t', ?_⟩;unfold valueAt at h' ⊢;rw[dk,show decide _=false from decide_eq_false (by rw[e];intro z;injection z with z;exact a z.symm)]
   exact h'
theorem qG {a:List (Str×Int)}(h:jH (t :: ts)=some a):∃x i l,t= .tup [.str x,.int i]/\jH ts=some l/\a=(x,i) :: l:=by
 unfold jH at h;split at h
 ·rename_i e;cases e
 ·rename_i x i r e;injection e with e1 e2;subst e1 e2;split at h
  ·rename_i l c;cases h;exact⟨x,i,l,rfl,c,rfl⟩
  ·cases h
 ·cases h
theorem qH:∀{ts:List T} {a:List (Str×Int)},jH ts=some a->a.length=ts.length
 | [],_,h=>by cases h;rfl
 | t :: ts,a,h=>by
  obtain⟨x,i,l,rfl,c,rfl⟩:=qG h;simp[qH c]
theorem DF (h:zr H ys [.str x,.int i]):ys=[.str x,.int i]:=by
 cases h with
 | cons c h=>
  cases c;cases h with
  | cons a h=>
   cases a;cases h;rfl
theorem K7 (h:Vals [V.str x,V.int i] its):∃t u,its=[.str x t,.int i u]:=by
 obtain⟨d,e,rfl,⟨c,rfl⟩,⟨a,rfl⟩⟩:=ym h;exact⟨c,a,rfl⟩
theorem Vx {B:L2.St}(I:Inv X pins B H s)(r:Rep H v (.tup [.str x,.int i]))(j:RelV v u):
  ∃a t o n ob,u=Value.ref a/\s.heap.get? a=some ob/\ob.cls= .type "tuple"/\ob.data= .seq #[.str x t,.int i o] n:=by
 cases r with
 | @tup a C _ k q=>
  obtain rfl:u=Value.ref a:=j;have hy:=DF q;subst hy;obtain⟨_,d,c,⟨ob,p,e,n,g⟩,_⟩:=(show zK _ X.w H _ a _ from I.hok a _ k);obtain⟨l,y,rfl⟩:=K7 c;exact⟨a,l,y,n,ob,rfl,p,e,g⟩
theorem Uv {X:Cx}{d:List (Addr×Obj)}{w:L2.St}{H:Hp}{s:Shared}(I:Inv X d w H s):∀{j:List V} {ts:List T} {c:List Value} {g:List (Str×Int)},zr H j ts->Vals j c->jH ts=some g->Z8 s.heap c g/\∀(i:Int) t,c[0]? ≠ some (Value.int i t)
 | _,_,_,g,.nil,.nil,h=>by cases h;exact⟨.nil,λ_ _ z=>by simp at z⟩
 | _,_,_,g,.cons r q,.cons o vs,h=>by
  obtain⟨x,i,l,rfl,k,rfl⟩:=qG h;obtain⟨v,_⟩:=Uv I q vs k;obtain⟨a,p,u,n,ob,rfl,e⟩:=Vx I r o;exact⟨.cons ⟨a,p,u,n,ob,rfl,e⟩ v,λ_ _ z=>by simp at z⟩
section
theorem big_of {a:L2.St}(I:Inv X pins a H s):sysModules < s.heap.objs.size:=fH (by decide) (I.mod.glob.keeps I.bk).lt
theorem yI (P:X.A.handled=none):Z4 X (.type "dict") (λvs H Q=>∃l j ts a,vs=[.ref l]/\H l=some (.tup j)/\zr H j ts/\jH ts=some a/\(a.map (·.1)).Nodup/\
  ∀q,H q=none->Q (.ref q) (ml H q (.dK (pr a)))):=by
 intro y s Z H vs us Q I p h;obtain⟨l,j,ts,a,rfl,J,r,v,nd,q⟩:=h;obtain⟨u,rfl,S⟩:=Ze p;obtain rfl:u=Value.ref l:=S;obtain⟨hz,G,p,⟨⟨c,dd,U,sl⟩,B,F,n,hd⟩,d⟩:=(show zK _ X.w H _ l _ from I.hok l _ J);subst F hd;obtain⟨D,O⟩:=Uv I r p v;have x:a.length<=sizeLine:=by rw[qH v,← r.length];exact hz
 have g:dd=none:=by
  rcases d with ⟨i,t,e⟩ | ⟨o,C,N⟩
  ·exact absurd (by simpa using e) (O i t)
  ·rw[B]at C;cases C;exact N
 subst g;refine qD P B D nd x λh' tk kvs k dd M=> ?_;refine⟨.ref _,_,I.laid k (ah _) ?_,rfl,q _ (I.hok.fresh (ah _))⟩;exact⟨by rw[af];exact x,beq_eq_false_iff_ne.mpr (bf (au (big_of I))),kvs,Do M,dd⟩
theorem Hd:IxR X (λx y H Q=>∃a g k i,x= .ref a/\y= .str k/\H a=some (.dK (pr g))/\g.lookup k=some i/\Q (.int i) H):=by
 intro d c j s D H x y v u Q I l B h C;obtain⟨p,g,k,i,rfl,rfl,hp,o,q⟩:=h;cases l;obtain⟨t,rfl⟩:=B;obtain⟨hz,F,vs,r,m⟩:=(show zK _ X.w H _ p _ from I.hok p _ hp);obtain⟨t',e⟩:=xU (qE r) o;exact tail_any m.typeIs slot_dict_getitem.lookup (wpAny_getItem_of (ja _ _ _ _) m.mapOf e ⟨.int i,H,I.tok _,⟨_,rfl⟩,q⟩) C
theorem qI:pC X "dict.values" (λx g H Q=>∃a d,x= .ref a/\g=[]/\H a=some (.dK (pr d))/\∀r,H r=none->Q (.ref r) (ml H r (.ext λh=>h.IsValuesView r a))):=by
 intro i s D H x g v0 C Q I p k h;obtain⟨a,d,rfl,rfl,l,q⟩:=h;obtain rfl:v0=Value.ref a:=p;cases k;obtain⟨hz,v,vs,r,m⟩:=(show zK _ X.w H _ a _ from I.hok a _ l);refine call_meetsIn dZ m.typeIs PySem.F.entry_dict_values (PySem.F.args_dict_values_1 _) (meets_dict_values _ a v) ⟨⟨vs,m⟩, ?_⟩;have c:s.heap.objs.size<=s.heap.objs.size:=ah _;refine⟨.ref _,_,I.laid (λb o e=>a9 _ e) c ?_,rfl,q _ (I.hok.fresh c)⟩;exact⟨⟨_,ae _ rfl,rfl,rfl⟩,⟨_,ae _ rfl⟩,λy B ⟨o,u,j⟩ e=>⟨o,e _ u,j⟩⟩
theorem qJ (val:Nat->Int):∀n:Nat,preSum val n=((ba n).map val).sum
 | 0=>rfl
 | n+1=>by
  rw[ix,cz,List.sum_append,← qJ val n];simp[preSum]
theorem qK (P:X.A.handled=none):Z4 X (.builtin "sum") (λvs H Q=>∃r B a c,vs=[.ref r]/\H r=some (.ext B)/\(∀h:Heap,B h->h.IsValuesView r a)/\H a=some (.dK (pr c))/\Q (.int (c.map (·.2)).sum) H):=by
 intro C s σ H vs us Q I U h;obtain⟨r,B,a,c,rfl,hr,l,D,q⟩:=h;obtain⟨u,rfl,S⟩:=Ze U;obtain rfl:u=Value.ref r:=S;obtain⟨J,_,_⟩:=(show zK _ X.w H _ r _ from I.hok r _ hr);obtain⟨hz,Z,vs,M,m⟩:=(show zK _ X.w H _ a _ from I.hok a _ D);obtain⟨ep,p⟩:=m.dictAt;have j:=qE M;have K:=PySem.W.kdl_values (prog:=X.prog) (knd:=zZ _ X.w) (r:=r) (d:=a) (kvs:=vs) (ep:=ep);refine call_sum_walkAnyS ?_;obtain⟨oI,St,y,W,st⟩:=K.iter X.A.in1 s P ⟨l _ J,p⟩;refine y _ _ ⟨s.heap.objs.size,_,_,_,_,_,_,λi=>((c[i]?).map (·.2)).getD 0,rfl,W.toS,st,λb x=> ?_,λi v g=> ?_,λs' t' G=> ?_⟩
 ·rw[size_push'];rcases ag.mp x with e | x
  ·rw[e];exact cF _
  ·rw[av.mp x];exact bx (I.hok.lt D)
 ·obtain⟨k,g⟩:=g;have hi:i < c.length:=by rw[← j.len];exact(aK.mp g).1
  obtain⟨q',F,e2,t,O⟩:=jJ j (ak hi);rw[g]at F;cases F;exact⟨t,by dsimp only;rw[ak hi];exact O⟩
 ·have kp:=λb o e=>
   G.heap b o (λz=>absurd (ao e) (by rw[av.mp z];exact aY _)) (a9 _ e)
  rw[Moved.eq_with G];have N:preSum (λi=>((c[i]?).map (·.2)).getD 0) vs.length=(c.map (·.2)).sum:=by
   rw[qJ,j.len];congr 1
   refine cq λi=> ?_;rw[aw,aw]
   by_cases hi:i < c.length
   ·simp[hi]
   ·rw[aN (by simp;omega),aN (by omega)];rfl
  rw[N];exact⟨.int _,H,I.kept kp,⟨_,rfl⟩,q⟩
end
theorem K8 (h:qh t k= .ok v):∃ts a x i,t= .tup ts/\k= .str x/\jH ts=some a/\(a.map (·.1)).Nodup/\a.lookup x=some i/\v= .int i:=by
 unfold qh at h;split at h
 ·rename_i ts x;split at h
  ·rename_i l e;split at h
   ·rename_i nd;split at h
    ·rename_i i c;cases h;exact⟨ts,l,x,i,rfl,rfl,e,nd,c,rfl⟩
    ·cases h
   ·cases h
  ·cases h
 ·cases h
theorem qL (t k:T):(∃v,qh t k= .ok v)\/qh t k= .bad:=by
 unfold qh;split
 ·split
  ·split
   ·split
    ·exact .inl ⟨_,rfl⟩
    ·exact .inr rfl
   ·exact .inr rfl
  ·exact .inr rfl
 ·exact .inr rfl
section
theorem Vy {a:List (Str×Int)}(c:t= .tup ts)(e:jH ts=some a)(nd:(a.map (·.1)).Nodup):WM t= .ok (.int (a.map (·.2)).sum):=by
 subst c;unfold WM;dsimp only;rw[e];dsimp only;rw[if_pos nd]
theorem K9 (hij:i ≠ j)(hy:Y.cl=cl)(F:JW X.prog X.w X.K X.mg X.base mJ jf fo fd ps (spP cl 2 g))(hr:ZF k X.A)(hjf:jf<=k)(gf:Gl X f)
  (mf:X.mg f=some (.ref fo)) (kp:cW X.K (.ref fo)=true) (bd:L2.Binds X.K fd ps []) (hN:X.N.Nodup) (hi:X.N[i]? =some x) (hx:L2.Loc X.env.scope x) (gl:Gl X "dict") (mg:X.mg "dict"=none) (gs:Gl X "sum") (ms:X.mg "sum"=none)
  (pi:PE X (.Name x p3) (Jo i)) (pj:PE X (.Name y p4) (Jo j)) (ha:Snd X Y a fa) (pi' :PE X (.Name x p5) (Jo i):=by exact ZN (by rfl) (by rfl)) (hs:mP X a:=by exact mD rfl)
  (hsw:swapsWith (.Call (.Name "dict" p2) [a] [] pa) (some (.Name x p1)) pb.line X.env=pure false:=by rfl) (hf:X.fn x=true\/X.env.scope.names.lookup x=some .local:=by first | exact .inl rfl | exact .inr rfl | assumption) (hd:(f == ("__debug__":Str))=false:=by decide)
  (J:attributeBase (.Name x p5) "values" X.env (eval (.Name x p5) X.env)=eval (.Name x p5) X.env:=by rfl) (hli:(p6.endLine == p7.line)=true:=by rfl):
  wS X Y [.Assign [.Name x p1] (.Call (.Name "dict" p2) [a] [] pa) pb,.Return (some (.Call (.Name f p8) [.Subscript (.Name x p3) (.Name y p4) p9,.Call (.Name "sum" pc) [.Call (.Attribute (.Name x p5) "values" p6) [] [] p7] [] pd] [] pos)) pos'] (Vs j fa g):= .mk λρ=>by
 subst hy;have hh:=hr.hd;have G :starEach [.Subscript (.Name x p3) (.Name y p4) p9,.Call (.Name "sum" pc) [.Call (.Attribute (.Name x p5) "values" p6) [] [] p7] [] pd] X.env=(false,eval _ X.env) :: starEach _ X.env:=zo rfl;have W:=(Za (jP hN hi hx (Zf (yI hh) gl mg PyProof.Rows.Boot.«dict» (zi (ha ρ) zw hs) (by decide) (by decide) hs rfl) hsw hf)
  (ZO (jo (pos:=pos') (Zv (E:=Y.E) (p:=p8) (pos:=pos) F (hr.mono hjf) gf mf kp bd .nil Ju
   (zi (XF Hd pi pj (λ_ _=>rfl)) (zi (Zl (qK hh) gs ms PyProof.Rows.Boot.«sum» (zi (xF eH dZ hU qI pi' J hli) zw (mD rfl)) (by decide) (by decide) (mD rfl) rfl) zw (mD rfl)) G) hd G (zL rfl)))))
 intro U s Z H D Iv ⟨B,I,q⟩;have P:i < Z.length:=by rw[Iv.len];exact(aK.mp hi).1
 refine W U s Z H D Iv ?_;have q' :PoS Y B ((fa ρ).s λt=>(((vE j ρ).bind λk=>(qh t k).bind λx=>(WM t).bind λy=>g [x,y]).s λt=> .rt t)) D:=by
  have e:Vs j fa g ρ=((fa ρ).s λt=>(((vE j ρ).bind λk=>(qh t k).bind λx=>(WM t).bind λy=>g [x,y]).s λt=> .rt t)):=by
   unfold Vs;cases fa ρ <;> rfl
  rw[← e];exact q
 refine jG I q' λt v H1 _ s1 r1 O C=> ?_;unfold vE at C;split at C
 ·rename_i kk e;obtain⟨u,eu,ru⟩:=O.vl j kk e;have C:PoS Y _ (((qh t kk).bind λx=>(WM t).bind λy=>g [x,y]).s λt=> .rt t) D:=C;rcases qL t kk with ⟨v',e'⟩ | e'
  ·obtain⟨ts,qs,z,m,rfl,rfl,e1,nd,ei,rfl⟩:=K8 e';rw[e']at C;rw[Vy rfl e1 nd]at C;have C:PoS Y _ ((g _).s λt=> .rt t) D:=C;cases r1 with
   | @tup l xs _ h r=>
    cases ru;refine⟨l,xs,ts,qs,rfl,O.sB _ _ h,r.mono O.sB,e1,nd,λw hw=> ?_⟩;have gi:(Z.set i (some (V.ref w)))[i]? =some (some (V.ref w)):=by rw[bj P]
    have gj:(Z.set i (some (V.ref w)))[j]? =some (some (V.str z)):=by rw[aC hij];exact eu
    refine⟨_,gi,_,gj,w,qs,z,m,rfl,rfl,zh,ei, ?_⟩;refine⟨_,gi,.inr (.inr (.inl ⟨rfl,.inl ⟨_,zh⟩⟩)),w,qs,rfl,rfl,zh,λy hy=> ?_⟩;have S:y ≠ w:=λe=>by rw[e,zh]at hy;cases hy
    have hy1:=by rw[zg S]at hy;exact hy
    refine⟨y,_,w,qs,rfl,zh,λh z=>z,by rw[zg (bf S)];exact zh, ?_⟩
    have Q:zj H1 (ml (ml H1 w (.dK (pr qs))) y (.ext λh=>h.IsValuesView y w)):=λb o J=>by
     have n1:b ≠ w:=λe=>by rw[e,hw]at J;cases J
     have n2:b ≠ y:=λe=>by rw[e,hy1]at J;cases J
     rw[zg n2,zg n1];exact J
    have M:=O.grow Q;refine⟨_,[.int m,.int _],rfl,M.sB,.cons (.int _) (.cons (.int _) .nil), ?_⟩;revert C;cases g _ with
    | bad=>exact λC=>C
    | ex c=>exact λC d H' s sB=>C d H' (M.sH.trans s) ((zv.ge O.sB Q).trans sB)
    | ok t=>exact λC b H' s r=>C b H' (M.sH.trans s) (r.mono (WD M.sH M.old s M.sB))
  ·rw[e']at C;exact C.elim
 ·exact C.elim
end
section
end
section
end
end PV
namespace PySem.RV
open PySem PySem.Spec PyProof.Rows PySem.Builtin.SmallTypes
section
end
end PySem.RV
namespace PV
open PySem PySem.Spec PyProof.Rows L2
section
end
section
section
end
end
section
end
section
end
end PV
namespace PV
open PySem PySem.W PyProof.Rows
section
variable {α β:Type}
noncomputable def Gd (lt:Nat->Nat->Bool)(n:Nat):KasT α->(α->Prop)->Prop
 | .ret a,P=>P a
 | .ask i j k,P=>(i < n/\j < n/\i ≠ j)/\Gd lt n (k (lt i j)) P
theorem Gd.mono {lt:Nat->Nat->Bool}{P c :α->Prop}(h:∀a,P a->c a):∀(t:KasT α),Gd lt n t P->Gd lt n t c
 | .ret a,g=>h a g
 | .ask i j k,⟨d,g⟩=>⟨d,Gd.mono h _ g⟩
theorem Gd.bind {lt:Nat->Nat->Bool}{P:β->Prop}{f:α->KasT β}:∀(t:KasT α),Gd lt n t (λa=>Gd lt n (f a) P)->Gd lt n (t.bind f) P
 | .ret a,g=>g
 | .ask i j k,⟨c,g⟩=>⟨c,Gd.bind _ g⟩
theorem Gd.wp {lt:Nat->Nat->Bool}{c:Nat->Nat->(Bool->Shared->Prop)->Shared->Prop}{J:Shared->Prop}(l:∀i j C s,i < n->j < n->i ≠ j->J s->(∀d,J d ->C (lt i j) d)->c i j C s){P:α->Prop}{Q:α->Shared->Prop}(o:∀a s,P a->J s->Q a s):∀(t:KasT α) (s:Shared),Gd lt n t P->J s->t.kasWp c Q s
 | .ret a,s,g,j=>o a s g j
 | .ask i j k,s,⟨⟨q,r,p⟩,g⟩,js=>l i j _ s q r p js λd e =>Gd.wp l o _ d g e
end
section
variable {O:KeyOrd}{key:Nat->O.α}
noncomputable abbrev kp (key:Nat->O.α)(p:Array Nat)(i:Nat):O.α:=key (p.getD i 0)
structure Pm (n:Nat) (p:Array Nat):Prop where
 sz:p.size=n
 pm:p.toList.Perm (ba n)
theorem Pm.lt {p:Array Nat}(h:Pm n p)(hi:i < n):p.getD i 0 < n:=by
 have a:i < p.size:=by rw[h.sz];exact hi
 have e:p.getD i 0=p[i]:=by simp[iq,a]
 rw[e];exact bN.mp (h.pm.mem_iff.mp (Array.getElem_mem_toList a))
theorem Pm.inj {p:Array Nat}(h:Pm n p)(hi:i < n)(k:j < n)(e:p.getD i 0=p.getD j 0):i=j:=by
 have c:i < p.size:=by rw[h.sz];exact hi
 have a :j < p.size:=by rw[h.sz];exact k
 have g:p.getD i 0=p[i]:=by simp[iq,c]
 have d:p.getD j 0=p[j]:=by simp[iq,a]
 rw[g,d]at e;have nd:=h.pm.nodup_iff.mpr List.nodup_range;have:=(dI (h₀:=by simpa using c) (h₁:=by simpa using a) nd).mp (by simpa using e)
 exact this
def So (key:Nat->O.α)(p:Array Nat)(m:Nat):Prop:=∀i j,i < j->j < m->O.klt (kp key p i) (kp key p j)
theorem W7 {p q:Array Nat}(h:p[i]? =q[j]?):p.getD i 0=q.getD j 0:=by
 have e:∀(a:Array Nat) (k:Nat),a.getD k 0=(a[k]?).getD 0:=λa k=>by simp
 rw[e,e,h]
variable (hk:∀i j,i < n->j < n->key i=key j->i=j)
include hk
theorem Ka {p:Array Nat}(h:Pm n p)(hi:i < n)(c:j < n)(a:i ≠ j)(d:O.blt (kp key p i) (kp key p j)=false):O.klt (kp key p j) (kp key p i):=by
 cases q:O.blt _ _ with
 | true=>exact q
 | false=>exact absurd (h.inj hi c (hk _ _ (h.lt hi) (h.lt c) (O.total _ _ d q))) a
omit hk in
theorem So.snoc {p:Array Nat}(h:So key p m)(g:1<=m)(e:O.klt (kp key p (m - 1)) (kp key p m)):So key p (m+1):=λi j d k=>by
 by_cases a:j=m
 ·subst a
  by_cases c:i=j - 1
  ·rw[c];exact e
  ·exact cU (h i _ (by omega) (by omega)) (eR e)
 ·exact h i j d (by omega)
theorem qM {p:Array Nat}(hp:Pm n p):∀(f m:Nat),1<=m->m+f=n->So key p m->Gd (λi j=>O.blt (key i) (key j)) n (kas_asc p f m) λr=>m<=r/\r<=n/\So key p r/\(r < n->O.klt (kp key p r) (kp key p (r - 1)))
 | 0,m,_,d,h=>⟨ah _,by omega,h,λz=>by omega⟩
 | f+1,m,e,d,h=>by
  refine⟨⟨hp.lt (by omega),hp.lt (by omega),λz=>absurd (hp.inj (by omega) (by omega) z) (by omega)⟩, ?_⟩
  show Gd _ n (if O.blt _ _=true then .ret m else kas_asc p f _) _
  cases q:O.blt _ _ with
  | true=>exact⟨ah _,by omega,h,λ_=>q⟩
  | false=>
   exact Gd.mono (λr ⟨a,b,c⟩=>⟨by omega,b,c⟩) _ (qM hp f _ (by omega) (by omega) (h.snoc e (Ka hk hp (by omega) (by omega) (by omega) q)))
def De (key:Nat->O.α)(p:Array Nat)(m:Nat):Prop:=∀i j,i < j->j < m->O.klt (kp key p j) (kp key p i)
theorem qN {p:Array Nat}(hp:Pm n p):∀(f m:Nat),2<=m->m+f=n->De key p m->Gd (λi j=>O.blt (key i) (key j)) n (kas_desc f p m 0) λr=>r.1=p/\r.2.2=0/\m<=r.2.1/\r.2.1<=n/\De key p r.2.1
 | 0,m,_,o,h=>⟨rfl,rfl,ah _,by show m<=n;omega,h⟩
 | f+1,m,u,o,h=>by
  refine⟨⟨hp.lt (by omega),hp.lt (by omega),λz=>absurd (hp.inj (by omega) (by omega) z) (by omega)⟩, ?_⟩
  show Gd _ n (if O.blt _ _=true then (if 0 > 0 then kas_desc f _ _ 0 else kas_desc f p _ 0) else .ask _ _ λd=>if d=true then .ret _ else kas_desc f p _ _) _
  cases q:O.blt _ _ with
  | true=>
   refine Gd.mono (λr ⟨a,b,c,d⟩=>⟨a,b,by omega,d⟩) _ (qN hp f _ (by omega) (by omega) λi j k v=> ?_)
   by_cases e:j=m
   ·subst e
    by_cases g:i=j - 1
    ·rw[g];exact q
    ·exact cU (show O.klt _ _ from q) (eR (h i _ (by omega) (by omega)))
   ·exact h i j k (by omega)
  | false=>
   refine⟨⟨hp.lt (by omega),hp.lt (by omega),λz=>absurd (hp.inj (by omega) (by omega) z) (by omega)⟩, ?_⟩
   have l:O.blt _ _=true:=Ka hk hp (by omega) (by omega) (by omega) q
   show Gd _ n (if O.blt _ _=true then .ret _ else _) _
   rw[if_pos l];exact⟨rfl,rfl,ah _,by show m<=n;omega,h⟩
omit hk in
theorem xV {p:Array Nat}(hp:Pm n p)(i j:Nat):Pm n (kas_rev p i j):=⟨(mirror_size _ _ _ _).trans hp.sz,(fT.mp (mirror_perm p i j _)).trans hp.pm⟩
omit hk in
theorem qO {p:Array Nat}(hp:Pm n p)(c:m<=n)(a :k < m):(kas_rev p 0 m).getD k 0=p.getD (m - 1 - k) 0:=by
 refine W7 ?_;unfold kas_rev;rw[getElem?_mirror_all (by rw[hp.sz];exact c),if_pos ⟨aX _,a⟩]
 congr 1
 omega
theorem j4 {p:Array Nat}(hp:Pm n p)(I:2<=n):Gd (λi j=>O.blt (key i) (key j)) n (kas_count n p) λr=>1<=r.1/\r.1<=n/\Pm n r.2/\So key r.2 r.1:=by
 refine Gd.bind _ (Gd.mono (λm ⟨a,b,c,d⟩=> ?_) _ (qM hk hp _ 1 (ah _) (by omega) λi j k o=>by omega))
 by_cases g:m=n
 ·rw[if_pos (by simpa using g)]
  exact⟨a,b,hp,c⟩
 ·rw[if_neg (by simpa using g)]
  by_cases l:m > 1
  ·rw[if_pos l];refine⟨⟨hp.lt (by omega),hp.lt (by omega),λz=>absurd (hp.inj (by omega) (by omega) z) (by omega)⟩, ?_⟩
   have q:O.blt _ (kp key p (m - 1))=true:=c 0 _ (by omega) (by omega)
   show Gd _ n (if O.blt _ _=true then .ret _ else _) _
   rw[if_pos q];exact⟨a,b,hp,c⟩
  ·have e:m=1:=by omega
   subst e;have B:=d (by omega)
   refine Gd.bind _ (Gd.mono (λr ⟨x,C,G,u,w⟩=> ?_) _ (qN hk hp _ _ (by omega) (by omega) λi j k o=>by
    have:i=0/\j=1:=by omega
    rw[this.1,this.2];exact B))
   rw[C,x];refine Gd.bind _ (Gd.mono (λF ⟨D,y,v,_⟩=>⟨by omega,y,xV hp 0 _,v⟩) _ (qM hk (xV hp 0 _) _ _ (by omega) (by omega) λi j k o=> ?_))
   unfold kp;rw[qO hp u (by omega),qO hp u o]
   exact w _ _ (by omega) (by omega)
theorem W8 {p:Array Nat}(hp:Pm n p)(c:k < n)(u:So key p k):∀(f l r:Nat),r<=k->l<=r->r - l<=f->(∀i,i < l->O.klt (kp key p i) (kp key p k))->(∀i,r<=i->i < k->O.klt (kp key p k) (kp key p i))->
  Gd (λi j=>O.blt (key i) (key j)) n (kas_place p k f l r) λm=>m<=k/\(∀i,i < m->O.klt (kp key p i) (kp key p k))/\∀i,m<=i->i < k->O.klt (kp key p k) (kp key p i)
 | 0,l,r,w,y,x,o,g=>⟨by omega,o,λi hi a=>g i (by omega) a⟩
 | f+1,l,r,w,y,x,o,g=>by
  unfold kas_place
  by_cases d:l ≥ r
  ·rw[if_pos d];exact⟨by omega,o,λi hi a=>g i (by omega) a⟩
  ·rw[if_neg d];refine⟨⟨hp.lt c,hp.lt (by omega),λz=>absurd (hp.inj c (by omega) z) (by omega)⟩, ?_⟩
   show Gd _ n (if O.blt _ _=true then kas_place p k f l _ else kas_place p k f _ r) _
   cases q:O.blt _ _ with
   | true=>
    refine W8 hp c u f l _ (by omega) (by omega) (by omega) o λi hi a=> ?_
    by_cases e:i=(l+r) / 2
    ·rw[e];exact q
    ·exact cU (q) (eR (u _ _ (by omega) a))
   | false=>
    refine W8 hp c u f _ r w (by omega) (by omega) (λi hi=> ?_) g
    have v:=Ka hk hp c (by omega) (by omega) q
    by_cases e:i=(l+r) / 2
    ·rw[e];exact v
    ·exact cU (u _ _ (by omega) (by omega)) (eR v)
omit hk in
theorem qQ {p:Array Nat}(hp:Pm n p)(a:k < n)(c:l<=k):(bubble p k (k - l)).getD i 0=if i=l then p.getD k 0 else if l < i/\i<=k then p.getD (i - 1) 0 else p.getD i 0:=by
 have h:=getElem?_bubble (by rw[hp.sz];exact a) (k - l) (by omega) i
 rw[show k - (k - l)=l by omega]at h
 repeat' split at h
 all_goals first | (rw[if_pos (by assumption)];exact W7 h) | (rw[if_neg (by assumption),if_pos (by assumption)];exact W7 h) | (rw[if_neg (by assumption),if_neg (by assumption)];exact W7 h)
theorem xW:∀(f:Nat) (p:Array Nat) (k:Nat),Pm n p->k+f=n->So key p k->Gd (λi j=>O.blt (key i) (key j)) n (kas_bin f p k) λq=>Pm n q/\So key q n
 | 0,p,k,hp,e,h=>⟨hp,by rw[← e];exact h⟩
 | f+1,p,k,hp,e,h=>by
  unfold kas_bin;refine Gd.bind _ (Gd.mono (λl ⟨a,b,c⟩=> ?_) _ (W8 hk hp (by omega) h k 0 k (ah _) (aX _) (by omega) (λi hi=>by omega) λi hi o=>by omega))
  refine xW f _ _ ⟨(bubble_size _ _ _).trans hp.sz,(fT.mp (bubble_perm p k _)).trans hp.pm⟩ (by omega) λi j g r=> ?_
  unfold kp;rw[qQ hp (by omega) a,qQ hp (by omega) a]
  by_cases hi:i=l
  ·rw[if_pos hi,if_neg (by omega),if_pos ⟨by omega,by omega⟩]
   exact c _ (by omega) (by omega)
  ·rw[if_neg hi]
   by_cases d :j=l
   ·rw[if_pos d,if_neg (by omega)]
    exact b i (by omega)
   ·rw[if_neg d]
    by_cases x:l < i/\i<=k
    ·rw[if_pos x,if_pos ⟨by omega,by omega⟩]
     exact h _ _ (by omega) (by omega)
    ·rw[if_neg x]
     by_cases y:l < j/\j<=k
     ·rw[if_pos y];exact h _ _ (by omega) (by omega)
     ·rw[if_neg y];exact h _ _ g (by omega)
theorem Kc (e:2<=n):Gd (λi j=>O.blt (key i) (key j)) n (kas_sort n) λq=>Pm n q/\So key q n:=by
 refine Gd.bind _ (Gd.mono (λr ⟨a,b,c,d⟩=> ?_) _ (j4 hk ⟨by simp,by simp⟩ e))
 by_cases h:r.1 < n
 ·rw[if_pos h,show max r.1 1=r.1 by omega]
  exact xW hk _ _ _ c (by omega) d
 ·rw[if_neg h];exact⟨c,by rw[show n=r.1 by omega];exact d⟩
end
end PV
namespace PV
open PySem PySem.Spec PyProof.Rows L2
section
end
section
end
section
open PySem.W PySem.Calls
variable {O:KeyOrd}{key:Nat->O.α}
end
section
open PySem.W PySem.Calls
end
section
variable {X:Cx}{Y:Fx}{a:Expr}{fa:En->R T}{p pos:Pos}
theorem WS (r:zr H xs ts):∀(c:List Nat),(∀i∈c,i < ts.length)->zr H (c.map λi=>xs.getD i V.non) (c.map λi=>ts.getD i T.non)
 | [],_=> .nil
 | i :: c,h=>by
  have hi:=h i ac;obtain⟨v,d,e⟩:=r.get (ak hi);have g:xs.getD i V.non=v:=by rw[cI,d];rfl
  have k:ts.getD i T.non=ts[i]:=by rw[cI,ak hi];rfl
  rw[aA,aA,g,k];exact .cons e (WS r c λj l=>h j (ab _ l))
theorem WT (r:L2.Vals xs us):∀(c:List Nat),(∀i∈c,i < xs.length)->L2.Vals (c.map λi=>xs.getD i V.non) (c.map λi=>us.getD i Value.none)
 | [],_=> .nil
 | i :: c,h=>by
  have hi:=h i ac;obtain⟨u,d,e⟩:=r.get (ak hi);have g:us.getD i Value.none=u:=by rw[cI,d];rfl
  have k:xs.getD i V.non=xs[i]:=by rw[cI,ak hi];rfl
  rw[aA,aA,g,k];exact .cons e (WT r c λj l=>h j (ab _ l))
end
end PV
namespace PV
open PySem PySem.Spec PyProof.Rows L2
section
end
section
open HT in
open HT in
end
section
end
end PV
namespace PV
open PySem PySem.Spec PyProof.Rows L2
end PV
namespace L2
open PySem PySem.Spec PyProof.Rows PySem.W
structure Lm (X:Cx) (c P:Addr) (q:Str):Prop where
 code:X.env.code= .ref c
 hd:codeHdIn X.K c P=true
 bt:X.base.BuiltinsAt X.mg P
 ql:X.env.qual++"<lambda>"=q
def JC (H:Hp)(q:Str)(c:Addr):Prop:=∃a vs t,H c=some (.frz a (.own c))/\a.data= .fields vs/\vs[1]? =some (.str q t)
theorem JC.mono (s:zj H H')(h:JC H q c):JC H' q c:=let ⟨oc,vs,t,e,r⟩:=h;⟨oc,vs,t,s _ _ e,r⟩
theorem JC.rec (x:JC H q c)(ok:HOk P w H h):h.CodeRec (.ref c) q:=by
 obtain⟨a,vs,t,e,d,v⟩:=x;exact⟨c,a,vs,t,rfl,(ok c _ e).1,d,v⟩
theorem wu {p e :Pos}{c d:Value}:∀(l:List Value),TriplesOk l->codeAmong p (l++[rawInt e.line,rawInt e.col,c])=some d->codeAmong p l=some d\/d=c
 | [],_,h=>by
  right
  simp only[cy,rawInt,codeAmong]at h;split at h
  ·exact(aE h).symm
  ·cases h
 | .int a t :: .int b u :: x :: r,ok,h=>by
  simp only[i9,codeAmong]at h ⊢;split at h
  ·rename_i z;rw[if_pos z];exact .inl h
  ·rename_i z;rw[if_neg z];exact wu r (by simpa only[TriplesOk] using ok) h
noncomputable abbrev Vz (q:Str)(params:Arguments)(body:Expr)(scope:Scope)(clos:List (Str×Addr))(pm ctv:Value)(c:Addr):Obj:=kla_obj "<lambda>" q params body scope clos pm c ctv
theorem xX (L:Lm X c P q)(N:defaultsOf params X.env=([],[]))(x:closureFor scope X.env=pure clos):
  PE X (.Lambda params body scope pos) (λσ H Q=>H P=some (.tbl #[] q)/\∀f c' pm ctv S,zj H S ->S f=some (.frz (Vz q params body scope clos pm ctv c') (.own f))->JC S q c' ->Q (.ref f) S):=by
 intro J s σ H Q I ⟨U,h⟩;obtain⟨g,eP,tr,al⟩:=I.hok P _ U;have C:=codeHd_of_K I.kIn L.hd;have hg:=I.ok.mod.glob.keeps I.bk;have hB:s.heap.BuiltinsAt X.mg P:=by
  obtain⟨bm,o,b1,b2,b3,b4,b5,b6⟩:=L.bt;exact⟨bm,o,b1,b2,b3,b4,I.bk _ _ b5,b6⟩
 have hgP:mainGlobals ≠ P:=λz=>by
  obtain⟨o,es,ep,e,hd,_⟩:=hg;rw[z,eP]at e;cases e;cases hd
 have d:∀{H2:Hp} {f:Addr} {o:Obj} {h2:Heap},h2.get? f=some o->zK X.prog X.w H2 h2 f (.frz o (.own f)):=λe=>⟨e,_,e⟩;refine kla_eval N ?_;rw[L.ql];cases hf:codeAmong pos _ with
 | some cv=>
  obtain⟨c',k,vs,t,rfl,e2,e3,e4⟩:=al pos cv hf;refine kla_makeFunctionHit x I.ok.glob hg L.code C eP tr hf hB λctv h' tk hk hsz=> ?_;have i:=I.hok.fresh hsz;have e5:(h'.push (Vz q params body scope clos ((X.mg "__name__").getD .none) ctv c')).get? _=some _:=ae _ rfl;refine⟨.ref _,_,I.laid (λb u e=>a9 _ (hk b u e)) hsz (d e5),rfl, ?_⟩;exact h _ c' _ ctv _ (PV.zj.new i _) zh (JC.mono (PV.zj.new i _) ⟨k,vs,t,e2,e3,e4⟩)
 | none=>
  refine kla_makeFunction x I.ok.glob hg L.code C eP tr hf hgP hB λc' ctv h' tk B F O D M=> ?_;obtain⟨c₂,k,vs,t,e2,Z,hd,hv⟩:=D;cases e2;have hc0:=I.hok.fresh F;have l:∀b,H b=none->b ≠ P:=λb n z=>by rw[z,U]at n;cases n
  have nA:∀b o,s.heap.get? b=some o->b ≠ c' :=λb o e=>au (aM (ao e) F);have j:zj H (ml H c' (.frz k (.own c'))):=PV.zj.new hc0 _;have hl:(#[]++g++ #[rawInt pos.line,rawInt pos.col,Value.ref c']).toList=(#[]++g).toList++[rawInt pos.line,rawInt pos.col,Value.ref c']:=by simp
  have hok:HOk _ X.w (ml H c' _) h' :=λb u e=>by
   by_cases G:b=c'
   ·subst G;rw[zh]at e;cases e;exact d Z
   ·rw[zg G]at e
    by_cases y:b=P
    ·subst y;rw[U]at e;cases e;refine⟨g++ #[rawInt _,rawInt _,Value.ref c'],by rw[← fU];exact M,by rw[← fU,hl];exact TriplesOk_snoc _ _ _ _ tr,λp cv z=> ?_⟩
     rw[← fU,hl]at z;rcases wu _ tr z with z | rfl
     ·obtain⟨c2,oc2,vs2,t2,a1,a2,a3⟩:=al p cv z;exact⟨c2,oc2,vs2,t2,a1,j _ _ a2,a3⟩
     ·exact⟨c',k,vs,t,rfl,zh,hd,hv⟩
    ·refine(I.hok b u e).stay (λa v ha r =>B a v (λz=> ?_) r) (λ_ r =>j _ _ r) (λ_ _ r =>j _ _ r) λ_ _ _ r =>j _ _ r;subst z;rcases ha with z | z
     ·exact y z.symm
     ·rw[U]at z;cases z
  have I1:Inv X J σ (ml H c' (.frz k (.own c'))) { s with heap:=h',toks:=s.toks }:=by
   refine I.step (ch:=[]) (λ_ z=>nomatch z) (λb o _ _ _ e n=>B b o (l b n) e) (λb o _ _ _ e n=>⟨o.slots,B b o (l b n) e⟩) (λb o _ e n=>by rw[zg (nA b o e)];exact n) (λb o _ e=> ?_) (λ_ _ e=>j _ _ e) (λ_ _ _ e=>j _ _ e) (λ_ _ _ e=>j _ _ e) (λm hm=>hm.extBut B (l _ I.free)) hok I.bare
   by_cases G:b=P
   ·exact⟨_,G ▸ M⟩
   ·exact⟨o,B b o G e⟩
  have i:ml H c' (.frz k (.own c')) h'.objs.size=none:=by rw[zg (c8 O)];exact I1.hok.fresh (ah _) |> λz=>by rw[zg (c8 O)]at z;exact z
  have e5:(h'.push (Vz q params body scope clos ((X.mg "__name__").getD .none) ctv c')).get? _=some _:=ae _ rfl;refine⟨.ref _,_,I1.laid (λb u e=>a9 _ e) (ah _) (d e5),rfl, ?_⟩;have s2:zj _ (ml _ _ (.frz (Vz q params body scope clos ((X.mg "__name__").getD .none) ctv c') (.own h'.objs.size))):=PV.zj.new i _;exact h _ c' _ ctv _ (j.trans s2) zh (JC.mono s2 ⟨k,vs,t,zh,hd,hv⟩)
end L2
namespace L2
open PySem PySem.Spec PyProof.Rows PySem.W
def VA (s:Shared)(H:Hp)(a:List Addr):Heap:=hideAll s.heap (tK s.heap H++a)
theorem Uw (e:s.heap.get? b=some o)(n:H b=none)(a:b ∉ fr):(VA s H fr).get? b=some o:=
 hideAll_get _ e λc=>by
  rcases ce.mp c with z | z
  ·have q:=(fv.mp z).2;rw[n]at q;cases q
  ·exact a z
theorem Ke (e:(VA s H fr).get? b=some o):s.heap.get? b=some o/\H b=none:=by
 have a :=of_hideAll _ e;refine⟨a, ?_⟩;cases q:H b with
 | none=>rfl
 | some x=>
  have c:b∈tK _ H++fr:=dB _ (fv.mpr ⟨bN.mpr (ao a),by simp[q]⟩)
  have z:(VA s H fr).get? b=none:=hideAll_none _ c;rw[z]at e;cases e
theorem Mod.keeps {K:Frag}{d:Str->Option Value}{b c :Heap}(m:Mod K d b)(k:∀a o,b.get? a=some o->c.get? a=some o):Mod K d c :=
 ⟨m.kin.keeps k,m.glob.keeps k,let ⟨mb,h1,h2⟩:=m.blt;⟨mb,h1.keeps k,h2⟩,m.nolimit.keeps k⟩
section
theorem Inv.big_of (I:Inv X pins σ H s):∀b o,X.base.get? b=some o->(VA s H (mQ X.stack)).get? b=some o:=λb o e=>by
 refine Uw (I.bs b o e).1 (I.bs b o e).2 λa=> ?_;have:=(I.stack.mem a).1;rw[e]at this;cases this
theorem Inv.big (I:Inv X pins σ H s):vJ X.prog X.w X.K X.mg (VA s H (mQ X.stack)) X.A X.stack s H:=
 ⟨I.ok.frames,I.ok.mod.keeps I.big_of,λb o e=>Ke e,lE (hideAll_size _ _),funFrames_hide I.stack λenv d a c=>bh _ (fK.mpr ⟨env,d,c⟩),I.stkFree,I.hok,I.bare⟩
theorem qR (I:Inv X pins σ H s)(F:JW X.prog X.w X.K X.mg (VA s H (mQ X.stack)) CX k f fd ps sp)(hr:ZF k X.A)(d:Binds X.K fd ps [])(j:ZB CX X E)
  (r:Vals vs us) (h:sp vs H Q E):wpAny (model X.prog X.w) X.A (call (.ref f) us) (EP X pins σ Q) X.xe s:=by
 have l:us.length=ps.length:=by rw[← r.length];exact F.len _ _ _ _ h
 have a :=d s us I.kIn (by rw[bb];exact l)
 rw[bb]at a;refine wpAny_call (ci (F.run X.A _ s H _ us vs Q E hr I.big a r h) λr i c=> ?_);cases r with
 | error e=>exact j _ σ H s e i I c
 | ok g=>
  cases g with
  | ret u=>exact I.after c
  | next=>exact bZ c
  | brk=>exact bZ c
  | cont=>exact bZ c
end
def nX (P:Program)(w:World)(K:Frag)(mg:Str->Option Value)(base:Heap)(N:List Str)(q:Str)(scope:Scope)(f:Addr)(cd:Value)(clos:List (Str×Addr))(A:Around)(outer:List Env)(s:Shared)(H:Hp)(E:XK):Cx where
 prog:=P
 w:=w
 K:=K
 mg:=mg
 base:=base
 A:=A.deeper (envX q scope s.heap.objs.size f cd clos)
 N:=N
 s₀:=s
 H₀:=H
 env:=envX q scope s.heap.objs.size f cd clos
 outer:=outer
 stack:=envX q scope s.heap.objs.size f cd clos :: outer
 ex:=[]
 calm:=true
 fn:=λ_=>false
 pn:=[]
 xe:=λe c =>wpAny (model P w) (A.deeper (envX q scope s.heap.objs.size f cd clos)) (leaving (envX q scope s.heap.objs.size f cd clos) e) (λ_ a =>mN P w outer H s E e a) (λd a =>mN P w outer H s E d a) c
section
variable {P:Program}{w:World}{K:Frag}{mg:Str->Option Value}{base:Heap}{N:List Str}{q:Str}{scope:Scope}{f:Addr}{cd:Value}{clos:List (Str×Addr)}{A:Around}{outer:List Env}{s:Shared}{H:Hp}{E:XK}
theorem DO:ZB (mN P w) (nX P w K mg base N q scope f cd clos A outer s H E) E:=by
 intro a p o l e k I ⟨d,cls,i,B,g,j,L,hE⟩;subst j;exact wpAny_leaves_onW I.ok.frames rfl L.fly λh' c sl=>⟨d,cls,i,B,g,rfl,L.out I rfl rfl rfl c sl,hE⟩
structure sW (scope:Scope):Prop where
 kind:scope.kind= .function
 co:scope.isCoroutine=false
 gen:scope.isGenerator=false
 nocell:∀x∈scope.names,x.2 ≠ .cell
structure WU (base:Heap) (H:Hp) (scope:Scope) (clos:List (Str×Addr)) (N:List Str) (σ:St):Prop where
 inj:∀x y c,clos.lookup x=some c->clos.lookup y=some c->x=y
 has:∀x∈scope.names,x.2= .free->∃c,clos.lookup x.1=some c
 cell:∀x c,clos.lookup x=some c->(∃v,base.IsCell c v)/\H c=none
 loc:∀(i:Nat) (x:Str) (v:V),N[i]? =some x->σ[i]? =some (some v)->∃u c,RelV v u/\clos.lookup x=some c/\base.IsCell c (some u)/\scope.names.lookup x=some .free
 len:σ.length=N.length
theorem wv {h h' :Heap}{c:Addr}{v:Option Value}(k:∀a o,h.get? a=some o->h'.get? a=some o)(x:h.IsCell c v):h'.IsCell c v:=let ⟨o,e,d⟩:=x;⟨o,k _ _ e,d⟩
theorem Kf {x:St}{g:Heap}{tk:Nat}(S:sW scope)(hd:A.handled=none)(a:vJ P w K mg base A outer s H)(C:WU base H scope clos N x)(B:g.Ns s.heap.objs.size (λ_=>none))(j:∀b o,s.heap.get? b=some o->g.get? b=some o):
  Inv (nX P w K mg base N q scope f cd clos A outer s H E) [] x H { s with heap:=g,toks:=tk }:=by
 have bk:=λb o e=>j b o (a.bs b o e).1;have d:∀b,b ∉ (nX P w K mg base N q scope f cd clos A outer s H E).ex:=λb z=>absurd (show b∈([]:List _) from z) (by simp)
 refine⟨⟨a.mod,S.kind,rfl,rfl,ah _,C.inj,λy hy=> ?_,λy c h _=>(ax h).elim,λ_=>hd,iF a.frames,.inr ⟨rfl,rfl⟩,λb z=>absurd z (d b),a.bs,a.bsz,λb _ _=>d b,λb z=>absurd z (d b),a.funs,a.frf⟩,
  rfl,a.bare,Un.kept j,⟨_,B,λi y v g D F=> ?_⟩,λy c h=> ?_,a.hok.fresh (ah _),λy c h=>(C.cell y c h).2,λp hp=>absurd (show p∈([]:List _) from hp) (by simp),a.hok.kept j,C.len⟩
 ·rcases hy with hy | hy
  ·exact absurd rfl (S.nocell _ (br hy))
  ·exact C.has _ (br hy) rfl
 ·obtain⟨u,c,r,e,l,k⟩:=C.loc i y v g D;exact⟨u,r,.inr ⟨.inr k,c,e,wv bk l⟩⟩
 ·obtain⟨v,l⟩:=(C.cell y c h).1;exact⟨v,wv bk l⟩
theorem qS {k:Nat}{params:Arguments}{body:Expr}{pm ctv:Value}{c' :Addr}{g:St}{Q:VK}{te:TE}(S:sW scope)(hr:ZF (k+1) A)(a:vJ P w K mg base A outer s H)(C:WU base H scope clos N g)
  (p:H f=some (.frz (Vz q params body scope clos pm ctv c') (.own f))) (u:JC H q c') (hp:bindArgs (kla_fn "<lambda>" q params body scope clos pm (.ref c') ctv) ⟨[],[]⟩=pure [])
  (D:PE (nX P w K mg base N q scope f (.ref c') clos A outer s H E) body te) (l:te g H Q):
  codeAny (model P w) A (.call (.ref f) ⟨[],[]⟩) (CR (mN P w) outer P w H s Q E) s:=by
 have c:=a.mod.nolimit.keeps λb o e=>(a.bs b o e).1;refine kla_callFunE hr.depth (a.hok f _ p).1 rfl S.co S.gen rfl (u.rec a.hok) ?_;rw[hp];refine aa (wpAny_newFunctionEnv S.nocell (λy hy=>by simp at hy) (λF d i=> ?_) S.kind)
 have j:=λb o e=>i.extBut b o (au (ao e)) (a9 _ e);refine⟨c.keeps j, ?_⟩;have I:=Kf (q:=q) (f:=f) (cd:= .ref c') (E:=E) (tk:=s.toks+([]:List (Str×Value)).length) S hr.hd a C d j;exact kla_codeExpr (cG (D [] _ g H Q I l) (λv G ⟨x,B,J,r,q⟩=>⟨x,B,J.os,J.bare,J.base,J.hok,r,q⟩) λ_ _ z=>z)
end
end L2
namespace L2
open PySem PySem.Spec PyProof.Rows PySem.W
def FD (X:Cx)(E:XK)(i:Nat)(f:Addr)(o:Obj):TE:=λa H Q=>a[i]? =some (some (.ref f))/\H f=some (.frz o (.own f))/\
 ∀s,vJ X.prog X.w X.K X.mg X.base X.A X.stack s H->codeAny (model X.prog X.w) X.A (.call (.ref f) ⟨[],[]⟩) (CR (mN X.prog X.w) X.stack X.prog X.w H s Q E) s
theorem qT (D:PE X (.Name x p) (Jo i))(J:ZB (mN X.prog X.w) X E):
  PE X (.Call (.Name x p) [] [] pos) (FD X E i f (Vz q params body scope clos pm ctv c')):=by
 intro j s g H Q I ⟨d,o,run⟩;refine bW (mo (D _ s g H (λv y =>v= .ref f/\y =H) I ⟨_,d,rfl,rfl⟩) λu k ⟨v,B,c,r,G,C⟩=> ?_);subst G C;obtain rfl:u=Value.ref f:=r;refine callWith_F0 ⟨_,_,_,_,(c.hok f _ o).1⟩ ?_;refine wpAny_call (ci (run k c.env0) λr F a=> ?_);cases r with
 | error e=>exact J _ g B k e F c a
 | ok l=>
  cases l with
  | ret u=>exact c.after a
  | next=>exact bZ a
  | brk=>exact bZ a
  | cont=>exact bZ a
end L2
namespace PV
open PySem PySem.Spec PyProof.Rows L2 PySem.W
section
theorem xY {js:List Nat}(I:L2.Inv X pins σ H s)(B:∀x,X.fn x=true)(a:∀x c,clos.lookup x=some c->X.env.cells.lookup x=some c)
  (l:∀x∈scope.names,x.2=NameKind.free->∃c,clos.lookup x.1=some c) (F:gJ X scope N' 0 js):WU (VA s H (mQ X.stack)) H scope clos N' (wj 0 js σ):=by
 have up:∀x c,X.env.cells.lookup x=some c->∀v,s.heap.IsCell c v->(VA s H _).IsCell c v:=λx c e v ⟨o,Z,hd⟩=>⟨o,Uw Z (I.freeC x c e) λS=>by
  rcases ag.mp (I.stkSub c S) with z | z
  ·exact I.cne x c e z
  ·obtain⟨_,o2,w,_⟩:=I.ok.funs.mem z;exact absurd (ao w) (l6.mpr (I.ok.cab x c (B x) e)),hd⟩
 refine⟨λx y c q g=>I.ok.inj x y c (a _ _ q) (a _ _ g),l,λx c e=>⟨?_,I.freeC x c (a x c e)⟩,λi x v q g=> ?_,by unfold wj;simp[F.len]⟩
 ·obtain⟨v,p⟩:=I.cell x c (a x c e);exact⟨v,up x c (a x c e) v p⟩
 ·unfold wj at g;rw[List.replicate_zero,cy,aw]at g;cases D:js[i]? with
  | none=>rw[D]at g;cases g
  | some j=>
   rw[D]at g;have d :(σ[j]?).getD _=some v:=aE g;have C:σ[j]? =some (some v):=by
    cases N:σ[j]? with
    | none=>rw[N]at d;cases d
    | some z=>rw[N]at d;exact congrArg _ d
   obtain⟨y,O,w,U,J,Q⟩:=F.cap i j D;rw[fI,q]at O;cases O;obtain⟨m,hn,r⟩:=I.loc;obtain⟨u,ru,P⟩:=r j x v w C U;obtain⟨c,G⟩:=l _ (br J) rfl;rcases P with ⟨k,_⟩ | ⟨_,c2,M,p⟩
   ·rcases Q with z | z <;> (rw[k]at z;cases z)
   ·have:=a x c G;rw[M]at this;cases this;exact⟨u,c,ru,G,up x c M _ p,J⟩
end
section
variable {P:Program}{w:World}{K:ai}{mg:Str->Option Value}{base:Heap}
def xZ (cl:Nat->Value)(n:Nat)(g:List T->R T)(a:Addr)(q:Str):Sp:=λvs H Q E=>H a=some (.tbl #[] q)/\spP cl n g vs H Q E
end
end PV
namespace L2
open PySem PySem.Spec PyProof.Rows PySem.W
theorem qU {P:Program}{w:World}{K:Frag}{y mb:Str->Option Value}{CX:nP}{k:Nat}{fa a c j:Addr}{fd:FuncData}{x q:Str}{sp:Sp}{g:Shared}{vs:List Value}{J:List Int}
  (KX:K.In g.heap) (hns:g.heap.Ns mainGlobals y) (hb:g.heap.Ns builtinsNs mb) (hbb:∀x:Str,x ≠ "__name__"->mb x=bootBuiltins x) (N:g.heap.NoLimit) (hg:g.gens= #[])
  (I:g.heap.get? a=some { cls:= .type "list",data:= .seq vs.toArray }) (hi:IntsAre vs J) (hl:J.length<=sizeLine) (hr:ZF k callerA)
  (hbt:g.heap.BuiltinsAt y j) (i:g.heap.get? j=some (tabObj #[])) (hKP:K.lookup j=none) (hC:codeHdIn K c j=true) (hKa:K.lookup a=none)
  (F:∀base:Heap,K.In base->base.BuiltinsAt y j->JW P w K y base CX k fa fd [x] sp) (B:∀(s:Shared) (u:Value),BindsTo s fd ⟨[u],[]⟩ [(x,u)])
  (hsp:∀(H:Hp) (o:Obj),H a=some (.frz o (.lst (J.map V.int)))->H j=some (.tbl #[] q)->sp [.ref a] H (λv _=>v= .bl true) λ_ _ _=>False)
  (hCX:∀H e C,CX [] H g (λ_ _ _=>False) e C ->False):
  codeAny (model P w) callerA (.call (.ref fa) ⟨[.ref a],[]⟩) (λr C =>r= .ok (.ret (.bool true))/\OldK g.heap C.heap/\C.os=g.os/\AllBare C.gens) g:=by
 have rv:=Wv hi;have hne:j ≠ a:=λz=>by rw[z,I]at i;cases i
 obtain⟨H,hH⟩:∃H:Hp,H=ml (ml (λ_=>none) j (.tbl #[] q)) a (.frz { cls:= .type "list",data:= .seq vs.toArray } (.lst (J.map V.int))):=⟨_,rfl⟩;have U:H a=some (.frz { cls:= .type "list",data:= .seq vs.toArray } (.lst (J.map V.int))):=by rw[hH,zh]
 have O:H j=some (.tbl #[] q):=by rw[hH,zg hne,zh]
 have M:∀b,b ≠ a->b ≠ j->H b=none:=λb n1 n2=>by rw[hH,zg n1,zg n2]
 have hok:HOk P w H _:=λb o e=>by
  by_cases G:b=a
  ·subst G;rw[U]at e;cases e;exact⟨I,by rw[af];exact hl,vs,_,rv,I⟩
  ·by_cases b2:b=j
   ·subst b2;rw[O]at e;cases e;exact⟨#[],i,trivial,λp cv z=>by cases z⟩
   ·rw[M b G b2]at e;cases e
 have noD:∀{b:Addr} {o:Obj} {Z:Array _} {ep:Nat},g.heap.get? b=some o->o.data= .dict Z ep->H b=none:=λ{b o Z ep} e d=>M b (λz=>by rw[z,I]at e;cases e;cases d) λz=>by rw[z,i]at e;cases e;cases d
 have D:∀{b:Addr} {m:Str->Option _},g.heap.Ns b m->(gG _ H).Ns b m:=λ{b m} ⟨o,Z,ep,e,d,r⟩=>⟨o,Z,ep,wJ e (noD e d),d,r⟩;have S:=λb o e=>wJ (KX b o e) (M b (λz=>by rw[z,hKa]at e;cases e) λz=>by rw[z,hKP]at e;cases e)
 have hM:Mod K y _:=⟨S,D hns,⟨mb,D hb,hbb⟩,let ⟨mc,U,O⟩:=N;⟨mc,D U,O⟩⟩;have hBT:(gG g.heap H).BuiltinsAt y j:=by
  obtain⟨bm,o,G,b2,b3,b4,b5,b6,b7,b8⟩:=hbt;exact⟨bm,o,G,b2,b3,b4,wJ b5 (M bm (λz=>by rw[z,I]at b5;cases b5;cases b8) b4),b6,b7,b8⟩
 have e0:vJ P w K y _ callerA [] _ H:=⟨rfl,hM,λb o e=>Xp e,lE (Yb _ _),trivial,λb hb=>absurd (show b∈([]:List _) from hb) (by simp),hok,.of_eq hg⟩
 refine ci ((F _ S hBT).run _ [] _ H _ _ [.ref a] _ _ hr e0 (B _ _) (.cons rfl .nil) (hsp H _ U O)) λr C h=> ?_;cases r with
 | error e=>exact(hCX H e C h).elim
 | ok fl=>
  cases fl with
  | next=>exact bZ h
  | brk=>exact bZ h
  | cont=>exact bZ h
  | ret u=>
   obtain⟨v,H',os,Q,un,l,r',qv⟩:=h;have q' :=qv;subst q';obtain rfl:u=Value.bool _:=r';refine⟨rfl,⟨λb o e=> ?_,λb o e=>un.there b o e (by simp)⟩,os,Q⟩
   by_cases G:b=a
   ·subst G;have z2:=un.frzs b _ _ U;obtain⟨e2,_⟩:=l b _ z2;rw[I]at e;cases e;exact .inl e2
   ·by_cases b2:b=j
    ·subst b2;obtain⟨X,e2,_⟩:=l b _ (un.tbls b _ _ O);rw[i]at e;cases e;exact .inr (.inl ⟨((codeHd_of_K KX hC).tab i).isCodeTable,rfl, #[],X,rfl,e2⟩)
    ·exact .inl (un.keep b o e (M b G b2) (by intro z;exact absurd (show b∈([]:List _) from z) (by simp)) (by simp))
theorem walk_ofT {l:OpenLaw}{n k:Nat}{q:Program}{r:List Str}{XP:(Str->Option Value)->Heap->Prop}{YP:World->Heap->Prop}{d:DefRec}{K:Params->Frag}{ts:List Addr}{CX:World->nP}{sp:World->Addr->Sp}{x nm:Str}
  (hn:l.most=some n) (M:n<=sizeLine) (hdf:d.params.defaults=[]) (hr:ZF k callerA)
  (hY:∀(w:World) (h:Heap),YP w h->(K w.params).In h/\∀P∈ts,h.get? P=some (tabObj #[])) (S:∀(w:World) (a:Addr) (o:Obj),(K w.params).lookup a=some o->o.cls ≠ .type "list")
  (F:∀(w:World) (B:Str->Option Value) (J:Addr) (h:Heap),(K w.params).In h->h.Ns mainGlobals B->B d.name=some (.ref J)->(∀P∈ts,h.get? P=some (tabObj #[]))->
   ∃(fd:FuncData) (c i:Addr),(∀(s:Shared) (u:Value),BindsTo s fd ⟨[u],[]⟩ [(x,u)])/\h.get? i=some (tabObj #[])/\(K w.params).lookup i=none/\codeHdIn (K w.params) c i=true/\
    ∀base:Heap,(K w.params).In base->base.BuiltinsAt B i->JW l.prog w (K w.params) B base (CX w) k J fd [x] (sp w i))
  (O:∀(w:World) (H:Hp) (a i:Addr) (o:Obj) (I:List Int),I.length<=n->H a=some (.frz o (.lst (I.map V.int)))->H i=some (.tbl #[] nm)->sp w i [.ref a] H (λv _=>v= .bl true) λ_ _ _=>False)
  (Z:∀(w:World) (H:Hp) (s:Shared) (e:Value) (X :Shared),CX w [] H s (λ_ _ _=>False) e X ->False):
  WalkO q r XP YP l.row.toRowW d [] (λf vs=>mj f vs):=by
 refine Att.attach_call hn hdf λw s₀ s₁ B mb J o pm cd doc a vs I G Y ho hd hcd Q j y p hg=> ?_;obtain⟨KX,hT⟩:=hY w _ Y;obtain⟨fd,c,i,hb,C,N,hC,hF⟩:=F w B J _ KX G.T.g Q hT;obtain⟨bm,ob,b1,b2,D,b4,b5,b6⟩:=G.T.bmain;have U:bm ≠ i:=λz=>by rw[z,C]at D;cases D;cases b4
 have hbG:bm ≠ mainGlobals:=λz=>by
  obtain⟨o,es,ep,e,hd,_⟩:=G.T.g;rw[z,e]at D;cases D;rw[hd]at b6;cases b6
 refine qU KX G.T.g G.T.b G.T.builtins G.T.nolimit hg j y (aB p M) hr ⟨bm,ob,b1,b2,hbG,U,D,b4,b5,b6⟩ C N hC ?_ hF hb (λH o h1 h2=>O w H a i o I p h1 h2) λH e X =>Z w H _ e X;cases hk:(K _).lookup a with
 | none=>rfl
 | some o2=>
  have e:=KX a o2 hk;rw[j]at e;cases e;exact(S w a _ hk rfl).elim
end L2
namespace PV
open PySem PySem.Spec PyProof.Rows L2
def Kg (c d:En->R T):En->R T:=λρ=>(c ρ).bind λt=>(d ρ).bind λu=>match t with
 | .lst []=> .ok u
 | .lst ts=>match Z6 ts with | some (i :: l)=> .ok (.int (j6 (λa b=>decide (a < b)) i l)) | _=> .bad
 | _=> .bad
section
variable {prog:Program}{w:World}{A:Around}{R:Result->Shared->Prop}{I:Addr}{fp wr:List Addr}{n:Nat}{P:Nat->Value->Prop}{St:Nat->Heap->Prop}
theorem VB (W:Walks prog w A.in1 I fp wr n P St)(F:Nat->Nat->Bool)(X:CmpOf prog w A.in1 .Lt P F)(D:Addr)(Q:D ∉ fp)(kw:List (Str×Value)):
  ∀(q j:Nat) (s:Shared) (d:Value) (C:Nat),n - (j+1)=q->j+1<=n->St (j+1) s.heap->P (argBest F j) d->
  s.heap.get? D=some { cls:= .type "list",dict:=none,data:= .seq #[d,d] C,slots:= #[] }->
  (∀v h' tk,P (argBest F (n - 1)) v->(∀b o,b ∉ wr->b ≠ D->s.heap.get? b=some o->h'.get? b=some o)->R (.ok (.ret v)) { s with heap:=h',toks:=tk })->
  codeAny (model prog w) A (.builtin "min.loop" ⟨[.ref I,.none,.ref D],kw⟩) R s:=by
 have l:D ∉ wr:=λz=>Q (W.sub _ z);intro q
 induction q with
 | zero=>
  intro j s d C hq hj e G p B;have r:j+1=n:=by omega
  refine bc ia ?_;refine a8 (bQ p rfl ?_);refine a8 (dF (W.done s _ _ (r ▸ e) λZ S k=> ?_));have a:=k D _ l p;refine a8 (wpAny_updateSeq a rfl (a8 (dC (aa ?_))));exact B d _ S (by rw[← r];exact G) λb o x y z=>(bo _ _ (bf y)).trans (k b o x z)
 | succ q O=>
  intro j s d C hq hj e G p B;have i:j+1 < n:=by omega
  refine bc ia ?_;refine a8 (bQ p rfl ?_);refine a8 (dF (W.item (j+1) s _ _ i e λv Z S U c k=> ?_));have a:=k D _ l p;show wpAny (model prog w) A.in1 (tryCatch _ _ >>= _) _ _ _;refine a8 (dF (bi (a8 (X _ _ v d _ _ _ U G ?_))));refine a8 (bi (bp (a8 (dC (aa ?_)))));cases u:F _ _ with
  | true=>
   refine a8 (wpAny_updateSeq a rfl (a8 (dC ?_)));refine aa ⟨bI f6 _,O _ _ v _ (by omega) i (W.frame _ _ _ c λb x o z=> ?_) (by simp only[argBest,u,if_true];exact U) (bT _ a rfl) λv2 M N g J=> ?_⟩
   ·exact(bo _ _ (λy=>Q (by rw[y];exact x))).trans z
   ·exact B v2 M N g λb o x y z=>J b o x y ((bo _ _ (bf y)).trans (k b o x z))
  | false=>
   refine a8 (dC ?_);refine aa ⟨bI f6 _,O _ _ d C (by omega) i c (by simp only[argBest,u,az,if_false];exact G) a λv2 M N g J=> ?_⟩
   exact B v2 M N g λb o x y z=>J b o x y (k b o x z)
theorem qV (W:Walks prog w A.in1 I fp wr n P St)(j:Nat->Nat->Bool)(G:CmpOf prog w A.in1 .Lt P j)(D:Addr)(g:D ∉ fp)(J:Str)(r:Value){s:Shared}{F:Nat}(c:St 0 s.heap)
  (p:s.heap.get? D=some { cls:= .type "list",dict:=none,data:= .seq #[] F,slots:= #[] })
  (B:n=0->∀h' tk,(∀b o,b ∉ wr->b ≠ D->s.heap.get? b=some o->h'.get? b=some o)->R (.ok (.ret r)) { s with heap:=h',toks:=tk })
  (u:0 < n->∀v h' tk,P (argBest j (n - 1)) v->(∀b o,b ∉ wr->b ≠ D->s.heap.get? b=some o->h'.get? b=some o)->R (.ok (.ret v)) { s with heap:=h',toks:=tk }):
  codeAny (model prog w) A (.builtin "min.loop" ⟨[.ref I,.none,.ref D],[(J,r)]⟩) R s:=by
 have k:=λz=>g (W.sub _ z);refine bc ia ?_;refine a8 (bQ p rfl ?_);rcases l5 n with hz | hp
 ·refine a8 (dF (W.done s _ _ (hz ▸ c) λl q e=> ?_));exact a8 (cx (aa (B hz l q λb o x y z=>e b o x z)))
 ·refine a8 (dF (W.item 0 s _ _ hp c λv l q O a e=> ?_));have d:=e D _ k p;show wpAny _ _ (updateSeq D (λ_=> #[v,v]) >>= _) _ _ _;refine a8 (wpAny_updateSeq d rfl ?_);refine aa ⟨bI f6 _,VB W j G D g _ _ 0 _ v _ rfl hp (W.frame _ _ _ a λb x o z=> ?_) O (bT _ d rfl) λv2 M N i C=> ?_⟩
  ·exact(bo _ _ (λy=>g (by rw[y];exact x))).trans z
  ·exact u hp v2 M N i λb o x y z=>C b o x y ((bo _ _ (bf y)).trans (e b o x z))
end
theorem VC (a v:Value):argsOk "min" ⟨[a],[(aD "default",v)]⟩:=by kernel_rfl
section
variable {xs:Array (Int×Tok)}
theorem Ux {Q:Value->Shared->Prop}{e:Value}(D:A.handled=none)(x:s.heap.IsList l (intItems xs))
  (r:xs.size=0->∀h' tk,(∀b o,s.heap.get? b=some o->h'.get? b=some o)->Q e { s with heap:=h',toks:=tk })
  (u:0 < xs.size->∀v h' tk,(intItems xs)[argBest (λi j=>decide (numAt xs i < numAt xs j)) (xs.size - 1)]? =some v->(∀b o,s.heap.get? b=some o->h'.get? b=some o)->Q v { s with heap:=h',toks:=tk }):
  wpAny (model prog w) A (call (.builtin "min") [.ref l] [(aD "default",e)]) Q E s:=by
 have hsz:(intItems xs).size=xs.size:=by simp[intItems]
 refine kmb_tree PySem.F.kind_min PySem.F.plain_min PySem.F.entry_min (VC _ _) ?_;refine a8 (bz (show Builtin.Builtins.bindParams _ _ 0 _=pure _ from rfl) (a8 (aa ?_)));refine a8 (iter_intList x λI B st a d=> ?_);subst B;refine a8 (aJ ?_);have W:=ij (prog:=prog) (w:=w) (A:=A.in1) D _ l d (intItems xs);generalize C:s.heap.push _=G at st a ⊢;have c:=λz=>aY _ (a _ z);have kp:∀h' :Heap,(∀b o,b ∉ [s.heap.objs.size]->b ≠ G.objs.size->(G.push { cls:= .type "list",data:= .seq ([]:List _).toArray }).get? b=some o->h'.get? b=some o)->∀b o,s.heap.get? b=some o->h'.get? b=some o:=λh' k b o z=>by
  have g:=ao z;have p:G.get? b=some o:=by rw[← C];exact a9 _ z
  refine k b o (λy=> ?_) (λy=> ?_) (a9 _ p)
  ·rw[av.mp y]at g;exact aY _ g
  ·have:=ao p;rw[y]at this;exact aY _ this
 refine aa ⟨bI f6 _,qV W _ (CmpOf.ints_lt _ (λ_ _=>intItems_at)) _ c _ e (W.frame _ _ _ st λb _ o z=>a9 _ z) (ae _ rfl) (λhz h' tk k=> ?_) λhp v h' tk q k=> ?_⟩
 ·exact r (by omega) h' tk (kp h' k)
 ·exact u (by omega) v h' tk (by rw[hsz]at q;exact q) (kp h' k)
end
section
variable {X:Cx}{Y:Fx}{a b:Expr}{fa fb:En->R T}{pos p p' pos' pt kp:Pos}{elts:List Expr}{kk:Nat}
theorem Kh {U tb:TE}(S:X.A.handled=none)(gl:Gl X "min")(mg:X.mg "min"=none)(ha:PE X a U)(hb:PE X b tb)(G:mP X a):
  PE X (.Call (.Name "min" p) [a] [⟨some "default",b,kp⟩] pos) (λx H Q=>U x H λv B=>tb x B λu c=>∃l q ts,([v].length=1/\[u].length=1)/\v= .ref l/\c l=some (.lst q)/\zr c q ts/\
   ((ts=[]/\Q u c)\/∃i g,Z6 ts=some (i :: g)/\Q (.int (j6 (λa b=>decide (a < b)) i g)) c)):=by
 intro Z s x H Q I h;refine bW (ZJ I gl mg PyProof.Rows.Boot.«min» ?_ (by decide) (by decide))
 refine callWith_kw (mo (zi ha zw G pos _ s x H (λvs B=>tb x B λu c=>∃l q ts,(vs.length=1/\[u].length=1)/\vs.headD .non= .ref l/\c l=some (.lst q)/\zr c q ts/\
   ((ts=[]/\Q u c)\/∃i g,Z6 ts=some (i :: g)/\Q (.int (j6 (λa b=>decide (a < b)) i g)) c)) I h) λus s1 ⟨vs,B,I1,O,q1⟩=> ?_) (by rw[G];rfl) (by rw[G];rfl) rfl rfl
 refine mo (Xv hb Gv pos _ s1 x B (λC c=>∃l q ts,(vs.length=1/\C.length=1)/\vs.headD _= .ref l/\c l=some (.lst q)/\zr c q ts/\
   ((ts=[]/\Q (C.headD .non) c)\/∃i g,Z6 ts=some (i :: g)/\Q (.int (j6 (λa b=>decide (a < b)) i g)) c)) I1 q1) λws s2 ⟨C,c,P,N,l,q,ts,⟨l1,l2⟩,M,hl,r,D⟩=> ?_
 have hu:∃u,us=[u]/\RelV (.ref l) u:=by
  match vs,O,l1,M with
  | [v],O,_,M=>obtain rfl:v= .ref l:=M;exact Ze O
 have hw:∃z u,C=[z]/\ws=[u]/\RelV z u:=by
  match C,N,l2 with
  | [z],N,_=>obtain⟨u,e,r⟩:=Ze N;exact⟨z,u,rfl,e,r⟩
 obtain⟨u,rfl,ru⟩:=hu;obtain⟨z,d,rfl,rfl,rd⟩:=hw;obtain rfl:u=Value.ref l:=ru;obtain⟨w,rv,pl,_⟩:=zH P (.inl hl) r;rcases D with ⟨rfl,D⟩ | ⟨i,g,hk,D⟩
 ·have hn:w=[]:=by
   cases r with
   | nil=>cases rv;rfl
  have e:w.toArray=intItems (#[]:Array _):=by rw[hn];simp[intItems]
  rw[e]at pl;exact Ux S pl (λ_ h' tk k=>⟨z,c,P.kept k,rd,D⟩) (λz=>absurd z (by simp))
 ·obtain⟨o,h1,F⟩:=uD r rv hk;have e:w.toArray=intItems o.toArray:=by rw[h1];simp[intItems]
  rw[e]at pl;have y:=by have:=congrArg iE F;simpa using this
  refine Ux S pl (λz=>absurd z (by simp[y])) λ_ v h' tk hv k=> ?_
  obtain⟨t,rfl⟩:=intItems_at hv;obtain⟨b1,b2⟩:=argBest_lt _ (o.toArray.size - 1);have hsz:o.toArray.size=o.length:=by simp
  rw[hsz]at b1 b2 ⊢;obtain⟨m1,m2⟩:=W2 g i;have e2:numAt o.toArray (argBest (λi j=>decide (numAt o.toArray i < numAt o.toArray j)) (o.length - 1))=j6 (λa b=>decide (a < b)) i g:=by
   refine Int.le_antisymm ?_ (m2 _ ?_)
   ·rw[← F]at m1;obtain⟨j,hj,ej⟩:=dG.mp m1;rw[← ej];have J :=by simpa using hj
    rw[← WL o j J];exact b2 j (by omega)
   ·rw[WL o _ (by omega),← F]
    exact i7 _
  rw[e2];exact⟨.int _,c,P.kept k,⟨t,rfl⟩,D⟩
theorem DW (J:X.A.handled=none)(w:Gl X "min")(y:X.mg "min"=none)(F:jc X Y a fa)(C:Snd X Y b fb)(N:mP X a:=by exact mD rfl):Snd X Y (.Call (.Name "min" p) [a] [⟨some "default",b,kp⟩] pos) (Kg fa fb):= .mk λρ=>
 PE.imp (Kh J w y (F ρ) (C ρ) N) λS H Q ⟨B,I,q⟩=>step I q λt v O _ U d u x=>step u x λt' P D _ o G j c=>by
  have d:=d.mono o;cases d with
  | @lst l g ts h r=>
   cases ts with
   | nil=>exact⟨l,g,[],⟨rfl,rfl⟩,rfl,h,r,.inl ⟨rfl,mO j.sB c rfl G⟩⟩
   | cons M ts=>
    have c:Po Y rC _ D (match Z6 _ with | some (i :: l)=> .ok (.int (j6 (λa b=>decide _) i l)) | _=> .bad) Q:=c
    split at c
    ·rename_i i k e;exact⟨l,g,M :: ts,⟨rfl,rfl⟩,rfl,h,r,.inr ⟨i,k,e,mO j.sB c rfl (.int _)⟩⟩
    ·exact c.elim
  | _=>exact c.elim
end
end PV
namespace PV
open PySem PySem.Spec PyProof.Rows L2 PySem.W
section
theorem SI.forget (I:SI Y B ρ σ H)(i:Nat)(v:Option V):SI Y B (ρ.set i .un) (σ.set i v) H where
 s0:=I.s0
 sH:=I.sH
 sB:=I.sB
 old:=I.old
 len:=by rw[bP,bP];exact I.len
 vl:=λj t h=>by
  rcases zn h with ⟨_,z⟩ | ⟨n,z⟩
  ·cases z
  ·obtain⟨C,e,r⟩:=I.vl j t z;exact⟨C,by rw[aC (bf n)];exact e,r⟩
 ow:=λj ts h=>by
  rcases zn h with ⟨_,z⟩ | ⟨n,z⟩
  ·cases z
  ·obtain⟨a,l,e,p,o,u,r,d⟩:=I.ow j ts z;refine⟨a,l,by rw[aC (bf n)];exact e,p,o,u,r,λy w q h' => ?_⟩
   rcases zn h' with ⟨_,g⟩ | ⟨k,g⟩
   ·cases g
   ·rw[aC (bf k)];exact d y w q g
 xc:=λj c h=>by
  rcases zn h with ⟨_,z⟩ | ⟨n,z⟩
  ·cases z
  ·obtain⟨a,e,r⟩:=I.xc j c z;exact⟨a,by rw[aC (bf n)];exact e,r⟩
 st:=let ⟨as,O,x⟩:=I.st;⟨as,O,x.set i _ _ rfl (λ_=>Sl.noConfusion)⟩
end
end PV
namespace PV
open PySem PySem.Spec PyProof.Rows L2
section
end
end PV
namespace PV
open PySem PySem.Spec PyProof.Rows L2 PySem.W
section
end
theorem qW:∀(a:List (Str×NameKind)) (n:Nat) (acc:List (Str×Addr)),(∀k,(x,k)∈a->k ≠ NameKind.cell)->(cellsFrom n a acc).lookup x=acc.lookup x
 | [],_,_,_=>rfl
 | (y,k) :: a,n,acc,h=>by
  unfold cellsFrom;have h' :=λk c=>h k (ab _ c);split
  ·rename_i c;rw[qW a _ _ h',aG];have:x ≠ y:=λz=>h k (by rw[z];exact ac) (eq_of_beq c)
   rw[beq_eq_false_iff_ne.mpr this]
  ·exact qW a _ _ h'
theorem Uy:∀(d:List (Str×NameKind)) (n:Nat) (acc:List (Str×Addr)),(cellsFrom n d acc).lookup x=some c->((x,NameKind.cell)∈d/\n<=c)\/acc.lookup x=some c
 | [],_,_,h=> .inr h
 | (y,k) :: d,n,acc,h=>by
  unfold cellsFrom at h;split at h
  ·rename_i i;rcases Uy d _ _ h with ⟨a,b⟩ | z
   ·exact .inl ⟨ab _ a,cR b⟩
   ·rw[aG]at z
    by_cases g:x=y
    ·subst g;rw[beq_self_eq_true]at z;have e:=aE z;rw[eq_of_beq i];exact .inl ⟨ac,lE e⟩
    ·rw[beq_eq_false_iff_ne.mpr g]at z;exact .inr z
  ·rcases Uy d _ _ h with ⟨a,b⟩ | z
   ·exact .inl ⟨ab _ a,b⟩
   ·exact .inr z
theorem W9:∀(a:List (Str×NameKind)) (n:Nat) (acc:List (Str×Addr)),(∃c,acc.lookup x=some c)->∃c,(cellsFrom n a acc).lookup x=some c
 | [],_,_,h=>h
 | (y,k) :: a,n,acc,h=>by
  unfold cellsFrom;split
  ·refine W9 a _ _ ?_;rw[aG]
   by_cases d:x=y
   ·subst d;rw[beq_self_eq_true];exact⟨_,rfl⟩
   ·rw[beq_eq_false_iff_ne.mpr d];exact h
  ·exact W9 a _ _ h
theorem X0:∀(a:List (Str×NameKind)) (n:Nat) (acc:List (Str×Addr)),(x,NameKind.cell)∈a->∃c,(cellsFrom n a acc).lookup x=some c
 | (y,k) :: a,n,acc,h=>by
  unfold cellsFrom;rcases ag.mp h with e | h
  ·cases e;refine W9 a _ _ ⟨n, ?_⟩;rw[aG,beq_self_eq_true]
  ·split <;> exact X0 a _ _ h
theorem qX:∀(a:List (Str×NameKind)) (n m:Nat) (acc:List (Str×Addr)),m<=n->((x,NameKind.cell)∈a\/∀d,acc.lookup x=some d->m<=d)->(cellsFrom n a acc).lookup x=some c->m<=c
 | [],_,_,_,_,h,e=>(h.resolve_left (by simp)) _ e
 | (y,k) :: a,n,m,acc,g,h,e=>by
  unfold cellsFrom at e;split at e
  ·refine qX a _ m _ (f_ g) ?_ e
   by_cases i:x=y
   ·subst i;refine .inr λd z=> ?_;rw[aG,beq_self_eq_true]at z;have e:=aE z;rw[← e];exact g
   ·rcases h with h | h
    ·rcases ag.mp h with z | z
     ·cases z;exact absurd rfl i
     ·exact .inl z
    ·refine .inr λd z=> ?_;rw[aG,beq_eq_false_iff_ne.mpr i]at z;exact h d z
  ·rename_i j;refine qX a _ m _ g ?_ e;rcases h with h | h
   ·rcases ag.mp h with z | z
    ·cases z;exact absurd rfl j
    ·exact .inl z
   ·exact .inr h
theorem qY:∀(d:List (Str×NameKind)) (n:Nat) (acc:List (Str×Addr)),(∀x y c,acc.lookup x=some c->acc.lookup y=some c->x=y)->(∀x c,acc.lookup x=some c->c < n)->∀x y c,(cellsFrom n d acc).lookup x=some c->(cellsFrom n d acc).lookup y=some c->x=y
 | [],_,_,h,_=>h
 | (y,k) :: d,n,acc,h,g=>by
  unfold cellsFrom;split
  ·have i:∀x c,((y,n) :: acc).lookup x=some c->(x=y/\c=n)\/acc.lookup x=some c:=λx c e=>by
    rw[aG]at e
    by_cases o:x=y
    ·subst o;rw[beq_self_eq_true]at e;exact .inl ⟨rfl,(aE e).symm⟩
    ·rw[beq_eq_false_iff_ne.mpr o]at e;exact .inr e
   refine qY d _ _ (λa b c w u=> ?_) λa c e=> ?_
   ·rcases i a c w with ⟨B,v⟩ | j <;> rcases i b c u with ⟨p,r⟩ | l
    ·rw[B,p]
    ·exact absurd (g _ _ l) (by rw[v];exact aY _)
    ·exact absurd (g _ _ j) (by rw[r];exact aY _)
    ·exact h a b c j l
   ·rcases i a c e with ⟨_,q⟩ | z
    ·rw[q];exact cF _
    ·exact bx (g _ _ z)
  ·exact qY d _ _ h g
theorem uM:∀(a:List (Str×NameKind)) (h:Heap) (acc:List (Str×Addr)),(cellsFrom h.objs.size a acc).lookup x=some c->(∀d,acc.lookup x=some d->∃v,h.IsCell d v)->∃v,(pushCells h a).IsCell c v
 | [],_,_,e,k=>k c e
 | (y,k) :: a,h,acc,e,i=>by
  unfold pushCells;unfold cellsFrom at e;split at e
  ·rename_i g;rw[if_pos g];have sz:(h.push { cls:= .type "cell",data:= .cell none }).objs.size=h.objs.size+1:=be ..;rw[← sz]at e;refine uM a _ _ e λd z=> ?_;rw[aG]at z
   by_cases j:x=y
   ·subst j;rw[beq_self_eq_true]at z;have e:=aE z;rw[← e];exact⟨none,_,ae _ rfl,rfl⟩
   ·rw[beq_eq_false_iff_ne.mpr j]at z;obtain⟨v,o,l,p⟩:=i d z;exact⟨v,o,a9 _ l,p⟩
  ·rename_i g;rw[if_neg g];exact uM a _ _ e i
theorem jh (h:(relabel scope env).names.lookup x=some k):∃a,(x,a)∈scope.names/\(k=a \/a = .free/\k= .cell):=by
 have go:∀d:List _,(d.map λ(n,k)=>if (k == NameKind.free && env.scope.kind == .function && env.kindOf n == some .cell) then (n,NameKind.cell) else (n,k)).lookup x=some k->∃a,(x,a)∈d/\(k=a \/a = .free/\k= .cell):=by
  intro d
  induction d with
  | nil=>intro h;simp at h
  | cons y d i=>
   intro h;obtain⟨n,a⟩:=y;rw[aA]at h
   by_cases e:x=n
   ·subst e;refine⟨a,ac, ?_⟩
    by_cases c:(a == NameKind.free && env.scope.kind == .function && env.kindOf x == some .cell)=true
    ·simp only[if_pos c,aG,beq_self_eq_true]at h;rw[aj,aj]at c;exact .inr ⟨eq_of_beq c.1.1,(aE h).symm⟩
    ·simp only[if_neg c,aG,beq_self_eq_true]at h;exact .inl (aE h).symm
   ·obtain⟨z,hz,g⟩:=i (by
     by_cases c:(a == NameKind.free && env.scope.kind == .function && env.kindOf n == some .cell)=true
     ·simp only[if_pos c,aG,(beq_eq_false_iff_ne.mpr e)]at h;exact h
     ·simp only[if_neg c,aG,(beq_eq_false_iff_ne.mpr e)]at h;exact h)
    exact⟨z,ab _ hz,g⟩
 exact go _ h
def AR (X:Cx)(scope:Scope)(N' :List Str)(cl:List (Str×Addr))(C:Addr)(c:Shared)(H3:Hp)(fp:List Addr)(a:List (Addr×Obj)):Cx:=
 { X with N:=N',s₀:=c,H₀:=H3,env:=compEnvC scope (cellsFrom (C+1) scope.names cl) C X.env,outer:=X.stack,stack:=X.stack,ex:=fp,fn:=λx=>scope.names.lookup x == some .cell,pn:=X.pn++a,xe:=λ_ _=>False }
structure tQ (X:Cx) (scope:Scope):Prop where
 kind:scope.kind= .function
 can:∀x∈scope.names,scope.names.lookup x.1=some x.2
 fre:∀x∈scope.names,x.2= .free->X.env.kindOf x.1=some .cell\/X.env.kindOf x.1=some .free
section
theorem yJ (I:L2.Inv X pins σ H s)(S:tQ X scope)(hc:X.calm=true)
  (a:∀x c,cl.lookup x=some c->X.env.cells.lookup x=some c) (B:∀x∈scope.names,x.2=NameKind.free->∃c,cl.lookup x.1=some c)
  (w:∀b∈fp,JY X pins H b) (hfo:∀b∈fp,∃o,s.heap.get? b=some o)
  (h0s:h0.objs.size=s.heap.objs.size+1) (h0k:∀b o,s.heap.get? b=some o->h0.get? b=some o) (eh:h' =pushCells h0 scope.names)
  (Q:h'.Ns s.heap.objs.size (λ_=>none)) (l:∀b o,s.heap.get? b=some o->h'.get? b=some o)
  (hl:σ'.length=N'.length) (hσ:∀(i:Nat) (x:Str) (v:V),N'[i]? =some x->σ'[i]? =some (some v)->∃j:Nat,X.N[j]? =some x/\σ[j]? =some (some v)/\pH X.env.scope x/\(scope.names.lookup x=some .free)/\(X.env.kindOf x=some .cell\/X.env.kindOf x=some .free)):
  L2.Inv (AR X scope N' cl s.heap.objs.size s H fp pins) [] σ' H { s with heap:=h',toks:=tk }:=by
 have G:=I.stkSub;have M:=λb g=>let ⟨o,e⟩:=hfo b g;ao e;have fresh:=I.hok.fresh (ah _);have P:∀x c,cl.lookup x=some c->c < s.heap.objs.size:=λx c e=>by
  obtain⟨v,o,D,_⟩:=I.cell x c (a x c e);exact ao D
 have any:∀x c,(cellsFrom _ scope.names cl).lookup x=some c->s.heap.objs.size+1<=c\/X.env.cells.lookup x=some c:=λx c e=>by
  rcases Uy _ _ _ e with ⟨_,z⟩ | z
  ·exact .inl z
  ·exact .inr (a x c z)
 refine⟨⟨I.ok.mod,S.kind,I.ok.glob,I.ok.blt,ah _,qY _ _ _ (λx y c h1 U=>I.ok.inj x y c (a _ _ h1) (a _ _ U)) (λx c e=>bx (P x c e)),λx hx=> ?_,λx c h e=> ?_,λ_=>I.ok.hd hc,I.ok.frames,.inl rfl,λb g=> ?_,I.bs,
   aB I.ok.bsz I.sz,λb o e g=> ?_,λb g hb' => ?_,I.stack,I.stkFree⟩,rfl,I.bare,Un.kept l,⟨_,Q,λi x v h1 U h3=> ?_⟩,λx c e=> ?_,fresh,λx c e=> ?_,λp hp=> ?_,I.hok.kept l,hl⟩
 ·have hx' :=hx;have:(x,NameKind.cell)∈scope.names\/(x,NameKind.free)∈scope.names:=by
   rcases hx' with h | h
   ·obtain⟨k',m,e | ⟨e,_⟩⟩:=jh h
    ·exact .inl (e ▸ m)
    ·exact .inr (e ▸ m)
   ·obtain⟨k',m,e | ⟨e,_⟩⟩:=jh h
    ·exact .inr (e ▸ m)
    ·exact .inr (e ▸ m)
  rcases this with h | h
  ·exact X0 _ _ _ h
  ·exact W9 _ _ _ (B _ h rfl)
 ·have hm:=br (eq_of_beq h);exact cR (qX _ _ _ _ (ah _) (.inl hm) e)
 ·refine⟨au (M b g),λx c e=> ?_⟩;rcases any x c e with z | z
  ·exact λq=>absurd (M b g) (by rw[← q];exact l6.mpr (cR z))
  ·exact(w b g).2.2.2.2.1 x c z
 ·rcases(w b g).2.2.2.1 with h | h
  ·exact I.ok.noex b o e h
  ·exact absurd (aM (ao e) (aB I.ok.bsz h)) (aY _)
 ·have q:=w b g;rcases ag.mp (G b hb') with z | z
  ·exact q.2.1 z
  ·exact q.2.2.1 z
 ·obtain⟨j,e1,e2,e3,e4,e5⟩:=hσ i x v h1 U;obtain⟨m,hn,J⟩:=I.loc;obtain⟨u,ru,lk⟩:=J j x v e1 e2 e3;have only:∀k,(x,k)∈scope.names->k= .free:=λk l=>by
   have:=S.can _ l;rw[e4]at this;exact(aE this).symm
  refine⟨u,ru,.inr ⟨?_, ?_⟩⟩
  ·rcases h3 with h | h | h
   ·obtain⟨k',m',e | ⟨_,e⟩⟩:=jh h
    ·have:=only _ m';rw[← e]at this;cases this
    ·cases e
   ·exact .inl h
   ·exact .inr h
  ·rcases lk with ⟨F,_⟩ | ⟨_,c,O,r⟩
   ·rcases e5 with z | z <;> (rw[z]at F;cases F)
   ·obtain⟨c',C⟩:=B _ (br e4) rfl;have:=a x c' C;rw[O]at this;cases this;obtain⟨o,D,Z⟩:=r;refine⟨c, ?_,o,l _ _ D,Z⟩;show (cellsFrom _ _ cl).lookup x=_;rw[qW _ _ _ λk l=>by rw[only k l];decide]
    exact C
 ·have e:(cellsFrom _ _ cl).lookup x=some c:=e;rw[← h0s]at e;rw[eh];refine uM _ _ _ e λd z=> ?_;obtain⟨v,o,D,Z⟩:=I.cell x d (a _ _ z);exact⟨v,o,h0k _ _ D,Z⟩
 ·rcases any x c e with z | z
  ·exact I.hok.fresh (cR z)
  ·exact I.freeC x c z
 ·have hp' :=by
   have:=hp;rwa[bb]at this
  obtain⟨e,n,ne,nf,dc⟩:=I.pin p hp';refine⟨l _ _ e,n,au (ao e),λg=> ?_,dc⟩;rcases ag.mp (G _ g) with z | z
  ·exact ne z
  ·exact nf z
end
theorem Ki {Q:Env->Shared->Prop}
  (c:Q { scope,locals:=s.heap.objs.size,globals,cells:=cellsFrom (s.heap.objs.size+1) scope.names closure,qual,func:=none,code:=outer.code,frame:=outer.frame,builtins:=outer.builtins } { s with heap:=pushCells (s.heap.push { cls:= .type "dict",data:= .dict #[] }) scope.names }):
  wpAny M A (newFunctionEnv scope globals closure [] qual none .none (some outer)) Q E s:=by
 refine a8 (wpAny_alloc ?_);refine a8 (wpAny_layCells _ (λname kind cells=>by cases a:kind == NameKind.cell <;> simp[a]) _ _ _ _ ?_)
 refine a8 (aa (aa ?_));rw[show ({ s with heap:=s.heap.push _ }:Shared).heap.objs.size=s.heap.objs.size+1 from be ..];exact c
abbrev qZ (X:Cx)(scope:Scope)(N' :List Str)(P:Cx->Prop):Prop:=∀cl C s3 H3 fp pins,P (AR X scope N' cl C s3 H3 fp pins)
section
theorem Q0 {js:List Nat}{use:Option (Value->Sem Unit)}(S:tQ X scope)(CP:gJ X scope N' k js)(hc:X.calm=true)
  (hi:PI X tg iter wi) (hg:qZ X scope N' λXC=>PG XC tg g) (ht:qZ X scope N' λXC=>PIf XC ifs tt) (he:qZ X scope N' λXC=>PE XC elt te) {a:List (Addr×Obj)} {M:Sg} {H:Hp} {s:Shared} {Q:Value->Shared->Prop} {F:Addr->Hp->Prop} (I:L2.Inv X a M H s)
  (h:wi M H λJ H1=>∀D,H1 D=none->∃W,(∃m,W 0 m [] (wj k js M) (ml H1 D (.lst [])))/\yw J D g tt te (λ_ H' =>F D H') W)
  (hQ:∀D C H' s',L2.Inv X a M H' s' ->F D H' ->H' C=none->(X.s₀.heap.objs.size<=C)->C ≠ X.env.locals->(∀x c,X.env.cells.lookup x=some c->c ≠ C)->(∀p∈X.pn++a,p.1 ≠ C)->(∃m,s'.heap.Ns C m)->compPost (model X.prog X.w) X.A X.xe use Q (.ref D) C (.ok .next) s')
  (hs:∀x,foldedSetIterable iter X.env x=pure x:=by intro _;rfl):
  wpAny (model X.prog X.w) X.A (comprehension (.ListComp elt [⟨tg,iter,ifs,0⟩] scope pos) scope X.env pos' (newList []) false (eval iter X.env) use) Q X.xe s:=by
 obtain⟨cl,ecl,hcl,hcf⟩:=wU (scope:=scope) (env:=X.env) λx hx hf=>I.ok.has x.1 (S.fre x hx hf);refine wpAny_comprehension_free rfl hs ecl S.kind (λx hx hl=>by rw[S.can x hx,hl]) ?_
 refine mo (hi a s M H _ I h) λv s1 h1=>mo h1 λitv r B=> ?_;obtain⟨it,fp,tn,J,H2,e,I2,U,nj,f2,q2⟩:=B;subst e;refine aJ ?_;have hD:=I2.hok.fresh (ah _);have P:L2.Inv X a M (ml H2 r.heap.objs.size (.lst [])) { r with heap:=r.heap.push { cls:= .type "list",data:= .seq _ } }:=
  I2.laid (t' :=r.toks) (λb u e=>a9 _ e) (ah _) ⟨aX _,[],_,.nil,ae _ rfl⟩
 obtain⟨W,⟨m0,w0⟩,turn⟩:=q2 r.heap.objs.size hD;have f3:∀b∈fp,JY X a (ml H2 r.heap.objs.size (.lst [])) b:=λb l=>by
  obtain⟨o,N,_⟩:=U.obj _ _ nj b l;exact⟨by rw[zg (au (ao N))];exact(f2 b l).1,(f2 b l).2⟩
 have o3:∀b∈fp,∃o,(r.heap.push { cls:= .type "list",data:= .seq ([]:List Value).toArray }).get? b=some o:=λb l=>by
  obtain⟨o,N,_⟩:=U.obj _ _ nj b l;exact⟨o,a9 _ N⟩
 have t3:tn 0 (r.heap.push { cls:= .type "list",data:= .seq ([]:List Value).toArray }):=U.keep _ _ _ nj λb l o e=>a9 _ e;refine Ki ?_;generalize hD' :r.heap.objs.size=D at*;generalize hH:ml H2 D (.lst [])=H3 at*;generalize hG:({ r with heap:=r.heap.push _ }:Shared)=s3 at*;have hg3:r.heap.push { cls:= .type "list",data:= .seq ([]:List Value).toArray }=s3.heap:=by rw[← hG]
 rw[hg3]at o3 t3;have k4:∀b o,s3.heap.get? b=some o->(pushCells (s3.heap.push { cls:= .type "dict",data:= .dict #[] }) scope.names).get? b=some o:=λb o e=>pushCells_keeps _ _ b o (a9 _ e);have IC:=yJ (N' :=N') (cl:=cl) (fp:=fp) (σ' :=wj k js M) (tk:=s3.toks) P S hc hcl hcf f3 o3 (be ..) (λb o e=>a9 _ e) rfl ((Heap.Ns.new _ _).keeps (pushCells_keeps _ _)) k4 (by unfold wj;simp[CP.len]) (λi x v h1 B=>by
  unfold wj at B
  by_cases hik:i < k
  ·rw[aU (by simpa using hik),aV,if_pos hik]at B
   cases B
  ·have hk' :=by omega
   rw[aR (by simpa using hk'),aZ,aw]at B
   cases ej:js[i - k]? with
   | none=>rw[ej]at B;cases B
   | some j=>
    rw[ej]at B;obtain⟨y,e1,e2,e3,e4,e5⟩:=CP.cap _ j ej;have:k+(i - k)=i:=by omega
    rw[this,h1]at e1;cases e1;refine⟨j,e2, ?_,e3,e4,e5⟩;have G :some ((M[j]?).getD _)=some _:=B;cases ez:M[j]? with
    | none=>rw[ez]at G;cases G
    | some z=>rw[ez]at G;exact congrArg _ (aE G))
 generalize d:AR X _ N' cl _ s3 H3 fp _=XD at IC;have TC:U3 XD.prog XD.w XD.K tg J fp it tn:=by rw[← d];exact U
 have t4:=U.keep _ _ _ t3 λb l o e=>k4 b o e;have fC:∀b∈fp,JY XD [] H3 b:=λb l=>by
  obtain⟨q0,q1,q2,q3,q4,q5⟩:=f3 b l;obtain⟨o,N⟩:=o3 b l;rw[← d];refine⟨q0,au (ao N),λhb' => ?_,.inl l,λx c e=> ?_,λp hp=> ?_⟩
  ·rcases ag.mp (P.stkSub b hb') with z | z
   ·exact q1 z
   ·exact q2 z
  ·rcases Uy _ _ _ e with ⟨_,z⟩ | z
   ·exact λq=>absurd (ao N) (by rw[← q];exact l6.mpr (cR z))
   ·exact q4 x c (hcl _ _ z)
  ·exact q5 p (by
    have:=hp;rwa[bb]at this)
 have fin:∀(s5:Shared) (σ5:Sg) (H5:Hp),L2.Inv XD [] σ5 H5 s5->F D H5->compPost _ X.A _ use Q _ _ _ s5:=λs5 σ5 H5 Z q5=>by
  subst d;have J5:=P.call' Z.os Z.base Z.hok Z.bare λb l=>by
   obtain⟨q0,q1,q2,q3,q4,q5⟩:=f3 b l;exact⟨q3,q1,q4,q5⟩
  refine hQ _ _ H5 s5 J5 q5 Z.free P.sz (c8 P.lt) (λx c e z=> ?_) (λp hp z=> ?_) (let ⟨m,hm,_⟩:=Z.loc;⟨m,hm⟩)
  ·obtain⟨v',o,N,_⟩:=P.cell x c e;exact absurd (ao N) (by rw[z];exact aY _)
  ·exact absurd (ao (P.pin p hp).1) (by rw[z];exact aY _)
 have hxe:XD.xe=λ_ _=>False:=by rw[← d];rfl
 have O:=WH (iter:=iter) (scope:=scope) (pos:=pos) (λ_ _ z=>by rw[hxe]at z;exact z.elim) (by rw[← d];exact hc) TC (d ▸ hg cl _ _ _ _ _) (d ▸ ht cl _ _ _ _ _) (d ▸ he cl _ _ _ _ _) W turn fin w0 IC t4 fC
 subst d;exact codeAny_compStart_list O (U.self _ _ _ _ _ t4 O)
end
section
variable {X:Cx}{Y:Fx}{tg iter elt:Expr}{ifs:List Expr}{scope:Scope}{pos pos' :Pos}{N' :List Str}{k:Nat}{js:List Nat}{fi:En->R (List T)}{tG:TG}{g:T->En->R En}{ft:En->R Bool}{fe:En->R T}
theorem yK {P O:Hp}{σ:Sg}{ρ:En}{J:It}{ts:List T}{r:R (List T)}{D:Addr}{E0:XK}(hG:oq tG g)(hN:oz g)(I:SI Y P ρ σ O)(rI' :rI P O J ts)(hl:ts.length<=mq)(ev:zt g ft fe ts (j8 k js ρ)=r)(hD:O D=none){F:Hp->Prop}
  (hF:sv r (λvs=>∀l xs B,zj O l ->l D=some (.lst xs)->zr B xs vs->zj B (zv P O l)->B D=none->zj P B ->F l) λc=>∀d l,zj O l ->zj P l ->E0 (Y.cl c) d l):
  ∃W,(∃m,W 0 m [] (wj k js σ) (ml O D (.lst [])))/\yw J D tG (λσ H Q=>∃Y' p,Y'.cl=Y.cl/\zj Y.H0 Y'.H0/\tS Y' rE ft p σ H Q) (λσ H Q=>∃Y' p,Y'.cl=Y.cl/\zj Y.H0 Y'.H0/\tS Y' rC fe p σ H Q) (λ_ l =>F l) W:=by
 refine⟨λi m ys σ' l =>m=ts.length - i/\i<=ts.length/\ys.length<=i/\l D=some (.lst ys)/\∃p B us,SI ⟨P,O,E0,Y.cl,[]⟩ B p σ' l /\kx p /\zj P B /\B D=none/\zr B ys us/\((zt g ft fe (ts.drop i) p).bind λws=> .ok (us++ws))=r,
  ⟨ts.length,by simp,aX _,aX _,zh,_,P,[],I.block (H3:=O) k js _ hD _,Uh k js ρ,zj.refl _,I.sB.free hD,.nil,by rw[iG,ev];cases r <;> rfl⟩, ?_⟩
 rintro i m ys σ' l ⟨rfl,hi,hyl,S,p,B,us,I',no',C,bD,r',ew⟩
 refine⟨S, ?_⟩;obtain⟨hgo,hyld,hstop⟩:=rI' B l C I'.sB;have tD:∀U,zj l U->zv B l U D=none:=λU s=>by rw[zE S];exact bD
 by_cases N:i < ts.length
 ·refine .inr ⟨hgo i N,λx U y=> ?_⟩;obtain⟨s2,r2⟩:=hyld i _ x U (ak N) y;rw[cJ N]at ew;unfold zt at ew;have I2:=I'.grow s2;refine hG _ _ p σ' U x _ _ I2 r2 ?_;cases eg:g _ p with
  | bad=>rw[eg]at ew;subst ew;exact hF
  | ex c=>exact(hN.2 _ _ _ eg).elim
  | ok ρ1=>
   rw[eg]at ew;have no1:=hN.1 _ _ _ no' eg;intro σ1 J1;refine⟨⟨P,O,E0,Y.cl,[]⟩,ρ1,rfl,I.sH,_,J1, ?_⟩;have M:((ft ρ1).bind (λk=>if k=true then (fe ρ1).bind λv=>(zt g ft fe _ ρ1).bind λvs=> .ok _ else zt g ft fe _ ρ1)).bind (λws=> .ok _)=r:=ew
   cases ef:ft ρ1 with
   | bad=>rw[ef]at M;subst M;exact hF
   | ex c=>
    rw[ef]at M;subst M;exact λd l a b=>hF d l a ((C.trans (zv.ge I'.sB s2)).trans b)
   | ok kk=>
    rw[ef]at M;intro b H3 s3 eb;have eb' :=eb;subst eb';have ew2:=M;have J2:=J1.grow s3;have hD3:=s3 _ _ (s2 _ _ S);have bD3:zv (zv B l U) U H3 D=none:=by rw[zE (s2 _ _ S)];exact tD U s2
    have Z:=(zv.ge I'.sB s2).trans (zv.ge I2.sB s3);cases b with
    | false=>exact⟨ts.length - (i+1),by omega,rfl,N,by omega,hD3,ρ1,_,us,J2,no1,C.trans Z,bD3,r'.mono Z,ew2⟩
    | true=>
     refine⟨⟨P,O,E0,Y.cl,[]⟩,ρ1,rfl,I.sH,_,J2, ?_⟩;have G:=ew2;cases ee:fe ρ1 with
     | bad=>rw[ee]at G;subst G;exact hF
     | ex c=>
      rw[ee]at G;subst G;exact λd l a b=>hF d l a ((C.trans Z).trans b)
     | ok v=>
      rw[ee]at G;have ew4:=G;have ew5:(zt g ft fe (ts.drop (i+1)) ρ1).bind (λws=> .ok ((us++[v])++ws))=r:=by
       rw[← ew4];cases zt g ft fe _ ρ1 with
       | ok ws=>show R.ok _=R.ok _;rw[bU];rfl
       | _=>rfl
      intro w H4 s4 rw4;have hD4:=s4 _ _ hD3;have J3:=J2.grow s4;have bD4:zv (zv (zv B l U) U H3) H3 H4 D=none:=by rw[zE hD3];exact bD3
      have sB4:=Z.trans (zv.ge J2.sB s4);refine⟨hD4,aM (bC hyl N) (Zj hl),ts.length - (i+1),by omega,rfl,N,by rw[ay,aI];omega,zh,ρ1,_,us++[v], ?_,no1,C.trans sB4,bD4,(r'.mono sB4).append (.cons rw4 .nil),ew5⟩
      exact J3.acc bD4 hD (λj ts' e=>((no1 j _ e).1 ts' rfl).elim) (λj x e=>(no1 j x e).2) _
 ·have e:i=ts.length:=by omega
  subst e;refine .inl ⟨hstop _ (ah _), ?_⟩;rw[e_]at ew;have ew' :R.ok _=r:=ew;rw[bb]at ew';subst ew';refine hF l ys B I'.sH S r' (λb o h=> ?_) bD C;cases q:O b with
  | none=>rw[zF q];exact I'.sB b o h
  | some u=>
   rw[zE q];have z:B b=P b:=I'.old b u q;rw[← z];exact h
structure uN (X:Cx) (Y:Fx) (tg iter elt:Expr) (ifs:List Expr) (scope:Scope) (N' :List Str) (k:Nat) (js:List Nat) (fi:En->R (List T)) (tG:TG) (g:T->En->R En) (ft:En->R Bool) (fe:En->R T):Prop where
 sc:tQ X scope
 cp:gJ X scope N' k js
 cm:X.calm=true
 it:wT X Y tg iter fi
 gt:qZ X scope N' λXC=>PG XC tg tG
 gk:oq tG g
 gn:oz g
 tt:∀Y',Y'.cl=Y.cl->zj Y.H0 Y'.H0->qZ X scope N' λXC=>J8 XC Y' ifs ft
 el:∀Y',Y'.cl=Y.cl->zj Y.H0 Y'.H0->qZ X scope N' λXC=>Snd XC Y' elt fe
 hs:∀x,foldedSetIterable iter X.env x=pure x
theorem Kj (C:uN X Y tg iter elt ifs scope N' k js fi tG g ft fe):Snd X Y (.ListComp elt [⟨tg,iter,ifs,0⟩] scope pos) (zT fi g ft fe k js):= .mk λρ=>by
 intro j s i H Q I ⟨B,J,q⟩;refine Q0 (F:=λD u =>Q (.ref D) u) (te:=λi H Q=>∃Y' a,Y'.cl=Y.cl/\zj _ _/\tS Y' rC fe a i H Q) (tt:=λi H Q=>∃Y' a,Y'.cl=Y.cl/\zj _ _/\tS Y' rE ft a i H Q) C.sc C.cp C.cm (C.it ρ) C.gt
  (λcl p G H3 fp j l s i H Q I ⟨Y',a,x,N,q⟩=>C.tt Y' x N cl p G H3 fp _ a _ s i H Q I q) (λcl p G H3 fp j l s i H Q I ⟨Y',a,x,N,q⟩=>C.el Y' x N cl p G H3 fp _ a _ s i H Q I q) I ?_ ?_ C.hs
 ·refine step J q λts it' H1 _ s1 r1 J1 d=> ?_;intro D O;unfold zy at d;split at d
  ·rename_i hl;cases w:zt g ft fe ts _ with
   | bad=>rw[w]at d;exact d.elim
   | ex c=>rw[w]at d;exact d.elim
   | ok vs=>
    rw[w]at d;refine yK (E0:=λ_ _ _=>False) C.gk C.gn J1 r1 hl w O λu xs B' P e' r' l' b' sb' => ?_;refine(show Po Y rC _ H1 _ Q from d) _ u P ?_;exact .lst (by rw[zF O];exact e') (r'.mono l')
  ·exact d.elim
 ·intro D Cc u P U q' Z S hL r v y;obtain⟨m,hm⟩:=y;refine⟨m,hm,λh' M=>⟨.ref D,u, ?_,rfl,q'⟩⟩;exact U.turned (λb o hb e=>M.extBut b o hb e) Z (bf hL).symm (.inr S) r v
end
noncomputable def t7 (scope a:Scope):Bool:=(scope.kind == .function) && scope.names.all (λx=>scope.names.lookup x.1 == some x.2) &&
 scope.names.all (λx=>x.2 != .free || a.names.lookup x.1 == some .cell || a.names.lookup x.1 == some .free)
theorem E4 (a:Scope)(j:X.env.scope=a)(h:t7 scope a=true):tQ X scope:=by
 unfold t7 at h;simp only[aj,aS]at h;obtain⟨⟨e,d⟩,i⟩:=h;refine⟨eq_of_beq e,λx c=>eq_of_beq (d x c),λx c g=> ?_⟩;have:=i x c;rw[g]at this;show X.env.scope.names.lookup x.1=_\/X.env.scope.names.lookup x.1=_;rw[j];simpa using this
theorem Kk {js:List Nat}{g:T->En->R En}(N' :List Str)(N:List Str)(a:Scope)(j:X.N=N)(d:X.env.scope=a)
  (h:(t7 scope a && gK N N' scope a k js)=true) (o:X.calm=true) (it:wT X Y tg iter fi) (l:qZ X scope N' λc=>PG c tg tG) (i:oq tG g) (p:oz g) (tt:∀Y',Y'.cl=Y.cl->zj Y.H0 Y'.H0->qZ X scope N' λc=>J8 c Y' ifs ft)
  (e:∀Y',Y'.cl=Y.cl->zj Y.H0 Y'.H0->qZ X scope N' λc=>Snd c Y' elt fe) (q:∀x,foldedSetIterable iter X.env x=pure x:=by intro _;rfl):uN X Y tg iter elt ifs scope N' k js fi tG g ft fe:=by
 rw[aj]at h;exact⟨E4 a d h.1,wX N a j d h.2,o,it,l,i,p,tt,e,q⟩
section
end
section
end
section
end
section
end
section
end
section
end
section
end
section
end
section
end
section
end
section
noncomputable def B4:T->R T
 | .lst a=> .ok (.lst a)
 | .tup a=> .ok (.lst a)
 | _=> .bad
theorem Fu (j:Gl X "list")(i:X.mg "list"=none)(g:Snd X Y a fa)(o:mP X a:=by exact mD rfl):Snd X Y (.Call (.Name "list" p) [a] [] pos) (mn B4 fa):=
 YE jQ (λv t B H Q r d q=>by
  cases r with
  | @lst l e ts h r=>exact⟨l,e,rfl,.inl (SqL.of (d _ _ h)),λk c =>GH d q rfl r c⟩
  | @tup l e ts h r=>exact⟨l,e,rfl,.inr (SqT.of (d _ _ h)),λk c =>GH d q rfl r c⟩
  | _=>exact q.elim) j i (PyProof.Rows.Boot.«list») g o
end
theorem SI.st0 (I:SI Y B ρ σ H)(u:Y.as=[])(c:∀(i:Nat) (s:Sl),s.isO=true->ρ[i]? ≠ some s)(j:Nat):SI Y B (ρ.set j (.st [])) σ H where
 s0:=I.s0
 sH:=I.sH
 sB:=I.sB
 old:=I.old
 len:=by rw[bP];exact I.len
 vl:=λi t h=>by
  rcases zn h with ⟨_,z⟩ | ⟨_,z⟩
  ·cases z
  ·exact I.vl i t z
 ow:=λi ts h=>by
  rcases zn h with ⟨_,z⟩ | ⟨_,z⟩
  ·cases z
  ·obtain⟨a,w,x,q,r,o,l,v⟩:=I.ow i ts z;refine⟨a,w,x,q,r,o,l,λD y F g=> ?_⟩;rcases zn g with ⟨_,z⟩ | ⟨_,z⟩
   ·cases z
   ·exact v D y F z
 xc:=λi t h=>by
  rcases zn h with ⟨_,z⟩ | ⟨_,z⟩
  ·cases z
  ·exact I.xc i t z
 st:=by
  have one:∀i os,(ρ.set j (.st []))[i]? =some (Sl.st os)->i=j/\os=[]:=λi os h=>by
   rcases zn h with ⟨e,z⟩ | ⟨_,z⟩
   ·cases z;exact⟨e,rfl⟩
   ·exact(c i _ rfl z).elim
  refine⟨[],λ_=>none,by rw[u];exact eZ _,λi os h=>by rw[(one i os h).2];rfl,λi p os d h h' =>by rw[(one i os h).1,(one p d h').1],λi k n h=> ?_,λi k C h=> ?_,λi os h n k fs e=> ?_⟩
  ·rcases zn h with ⟨_,z⟩ | ⟨_,z⟩
   ·cases z
   ·exact(c i _ rfl z).elim
  ·rcases zn h with ⟨_,z⟩ | ⟨_,z⟩
   ·cases z
   ·exact(c i _ rfl z).elim
  ·rw[(one i os h).2]at e;simp at e
def tf (n:Nat)(ts:List T):En:=(mv n ts).set (n - 1) (.st [])
theorem SI.startS (s:zj Y.B0 Y.H0)(r:zr Y.B0 vs ts)(c:Y.as=[]):SI Y Y.B0 (tf N.length ts) (L2.start N vs) Y.H0:=
 (SI.start s r).st0 c (λi s a h=>uz (λt z=>by rw[z]at a;cases a) (λz=>by rw[z]at a;cases a) h) _
section
variable {P:Program}{w:World}{K:ai}{mg:Str->Option Value}{base:Heap}
theorem Kl {cl:Nat->Value}{x d q:Str}{st:Stmt}{f c y:Addr}{j:FuncData}{N o:List Str}{k n:Nat}{p:En->RS}{g:List T->R T}(F:Fun K x d st f j)(J:j.code= .ref c)(S:ZQ N o (ze st))(hn:n=o.length)
  (Z:∀(A:Around) (outer:List Env) (s:Shared) (H:Hp) (E:XK) (Y:Fx),Y.cl=cl->Y.E=E->Y.H0 y=some (.tbl #[] q)->ZF k (A.deeper (envOfC d (ze st) s.heap.objs.size f (.ref c)))->
   wS (ZC (mN P w) P w K mg base N d (ze st) f (.ref c) A outer s H E) Y (zR st) p)
  (hg:∀ts,ts.length=n->g ts=zm (p (tf N.length ts))):JW P w K mg base (mN P w) (k+1) f j o (xZ cl n g y q):=by
 subst hn;obtain⟨oc,od,kV,O,pm,an,cdv,ct,D,rfl,G,u⟩:=F.ex;obtain rfl:cdv= .ref c:=J;refine Xw G u S (λvs H Q E z=>spP.len vs H Q E z.2) λA outer s H vs Q E hr ⟨hT,B,ts,X,C,r,q⟩=> ?_;refine⟨_,Z A _ s H E ⟨B,H,E,cl,[]⟩ rfl rfl hT hr _,B,SI.startS C r rfl, ?_⟩;rw[hg ts X]at q;revert q;cases p _ with
 | rt t=>exact λq v i s r=>q v i s r
 | rf t=>exact λq a xs i U M n e r _ l=>q _ i M (.lst (by rw[zF n];exact e) (r.mono l))
 | nx ρ=>exact λq σ' i U _ I=>q _ i I.sH .non
 | ex c=>exact λq=>q
 | bk ρ=>exact λq=>q.elim
 | ct ρ=>exact λq=>q.elim
 | bad=>exact λq=>q
end
section
end
end PV
namespace PV
open PySem PySem.Spec PyProof.Rows L2
structure Fn (K:ai) (mg:Str->Option Value) (x:Str) (st:Stmt) (ps:List Str) (f:Addr) (fd:FuncData):Prop where
 F:Fun K x x st f fd
 b:L2.Binds K fd ps []
 m:mg x=some (.ref f)
noncomputable abbrev FE (K:ai)(mg:Str->Option Value)(x:Str)(st:Stmt)(ps:List Str):Prop:=∃f fd,Fn K mg x st ps f fd
structure Zz where
 P:Program
 w:World
 K:ai
 mg:Str->Option Value
 base:Heap
 cl:Nat->Value
structure QQ (x:Str) (CX:nP) (k:Nat) (sp:Sp) (Z:Zz):Prop where
 ex:∃st ps f fd,Fn Z.K Z.mg x st ps f fd/\JW Z.P Z.w Z.K Z.mg Z.base CX k f fd ps sp
abbrev qP (Z:Zz)(x:Str)(n k:Nat)(c:List T->R T):Prop:=QQ x mJ k (spP Z.cl n c) Z
abbrev qF (Z:Zz)(x:Str)(n k:Nat)(c:List T->R T):Prop:=QQ x (mN Z.P Z.w) k (spF Z.cl n c) Z
def oP (m:Nat)(b:En->RS):List T->R T:=λts=>zm (b (mv m ts))
def oS (m:Nat)(b:En->RS):List T->R T:=λts=>zm (b (tf m ts))
section
variable {P:Program}{w:World}{K:ai}{mg:Str->Option Value}{base:Heap}{cl:Nat->Value}{x:Str}{CX:nP}{k c:Nat}{sp:Sp}{G:Prop}{as:List Str}
theorem QQ.go (O:QQ x CX k sp ⟨P,w,K,mg,base,cl⟩)(h:∀st a f d,Fn K mg x st a f d->JW P w K mg base CX k f d a sp->G):G:=by
 obtain⟨⟨st,a,f,d,C,F⟩⟩:=O;exact h st a f d C F
end
section
variable {Z:Zz}{x y:Str}{st:Stmt}{ps:List Str}{c k n m j:Nat}{fb:En->RS}{fm:En->R (T×En)}
abbrev Sc (N ps:List Str)(st:Stmt):Prop:=ZQ N ps (ze st)
theorem mI (C:FE Z.K Z.mg x st ps)(N:List Str) (a:∀(f:Addr) (cdv:Value) (A:Around) (outer:List Env) (s:Shared) (H:Hp) (E:XK) (Y:Fx),Y.cl=Z.cl->True->ZF k (A.deeper (envOfC x (ze st) s.heap.objs.size f cdv))->N.Nodup->True->
   wS (ZC mJ Z.P Z.w Z.K Z.mg Z.base N x (ze st) f cdv A outer s H E).nox Y (zR st) fb)
  (S:Sc N ps st:=by refine⟨rfl,rfl,rfl, ?_,rfl, ?_, ?_⟩ <;> decide+kernel) (hn:n=ps.length:=by rfl) (d:m=N.length:=by rfl):qP Z x n (k+1) (oP m fb):=by
 obtain⟨f,e,C⟩:=C;subst d;exact⟨_,_,f,e,C,F9 C.F S hn (λcdv A outer s H E Y hy hr=>a f cdv A outer s H E Y hy trivial hr S.nd trivial) λ_ _=>rfl⟩
theorem BF (C:FE Z.K Z.mg x st ps)(N:List Str)(a :vM fb) (d:∀(f:Addr) (cdv:Value) (A:Around) (outer:List Env) (s:Shared) (H:Hp) (E:XK) (Y:Fx),Y.cl=Z.cl->Y.E=E->ZF k (A.deeper (envOfC x (ze st) s.heap.objs.size f cdv))->N.Nodup->ZB (mN Z.P Z.w) (ZC (mN Z.P Z.w) Z.P Z.w Z.K Z.mg Z.base N x (ze st) f cdv A outer s H E) Y.E->
   wS (ZC (mN Z.P Z.w) Z.P Z.w Z.K Z.mg Z.base N x (ze st) f cdv A outer s H E) Y (zR st) fb)
  (S:Sc N ps st:=by refine⟨rfl,rfl,rfl, ?_,rfl, ?_, ?_⟩ <;> decide+kernel) (hn:n=ps.length:=by rfl) (e:m=N.length:=by rfl):qF Z x n (k+1) (oP m fb):=by
 obtain⟨f,g,C⟩:=C;subst e;exact⟨_,_,f,g,C,kQ C.F S hn (λcdv A outer s H E Y hy hE hr=>d f cdv A outer s H E Y hy hE hr S.nd (hE ▸ GC)) (λ_ _=>rfl) a⟩
theorem mH (C:FE Z.K Z.mg x st ps)(hn:n=ps.length:=by rfl):qP Z x n k (λ_=> .bad):=by
 obtain⟨f,a,C⟩:=C;exact⟨_,_,f,a,C,λvs H Q E h=>by rw[← hn];exact spP.len vs H Q E h,λA outer s H args d vs Q E _ _ _ _ ⟨B,ts,_,_,_,q⟩=>q.elim⟩
end
section
theorem cZ (hy:Y.cl=cl)(O:QQ x mJ j (spP cl n g) ⟨X.prog,X.w,X.K,X.mg,X.base,cl⟩)(hr:ZF k X.A)(c:ur X Y (a :: es) ga)(e:j<=k:=by omega)(d:Gl X x:=by rfl)(hd:(x == ("__debug__":Str))=false:=by decide)
  (i:starEach (a :: es) X.env=(false,eval a X.env) :: starEach es X.env:=by exact zo rfl) (hz:((backTo pos (starEach es X.env)).any λx=>x.fst)=false:=by exact zL rfl):Snd X Y (.Call (.Name x p) (a :: es) [] pos) (zb n g ga):=
 O.go λ_ _ _ _ C F=>kB hy F hr e d C.m C.F.kp C.b c hd i hz
end
noncomputable def mV (N:List Str)(js:List Nat):List Str:=js.map λj=>N.getD j ""
noncomputable def sw:List Str->Bool
 | []=>true
 | x :: r=> !(r.contains x) && sw r
theorem WV:∀{l:List Str},sw l=true->l.Nodup
 | [],_=> .nil
 | x :: r,h=>by
  rw[sw,aj]at h;exact eA.mpr ⟨by simpa using h.1,WV h.2⟩
def vN (N N' :List Str)(a scope:Scope)(k:Nat)(js:List Nat):Bool:=(Ax scope a && gK N N' scope a k js) && sw N'
section
variable {cl:Nat->Value}{X:Cx}{Y:Fx}{x y:Str}{p p' p2:Pos}{kk:Nat}{iter elt:Expr}{ifs:List Expr}{scope:Scope}{js:List Nat}{fi:En->R (List T)}{ft:En->R Bool}{fe:En->R T}
theorem Cv (hy:Y.cl=cl)(h:vN X.N (x :: mV X.N js) X.env.scope scope 1 js=true)(a:((relabel scope X.env).names.lookup x == some .local)=true)(e:X.calm=true)(it:wT X Y (.Name x p) iter fi)(tt:∀Y',Y'.cl=cl->xL X scope (x :: mV X.N js) λc=>J8 c Y' ifs ft)
  (d:∀Y',Y'.cl=cl->sy X scope (x :: mV X.N js) Y'.E λc=>Snd c Y' elt fe) (g:∀x,foldedSetIterable iter X.env x=pure x:=by intro _;rfl):jS X Y (.Name x p) iter elt ifs scope (x :: mV X.N js) 1 js fi (JX 0) (zG 0) ft fe:=by
 subst hy;rw[vN,aj]at h;have a:(relabel scope X.env).names.lookup x=some .local:=eq_of_beq a;exact xN _ _ _ rfl rfl h.1 e it (λ_ _ _ _ _ _=>ZP (WV h.2) rfl (.inl a) (.inr a)) (Ug 0) (Ui 0) tt d g
theorem A7 (hy:Y.cl=cl)(h:vN X.N (x :: y :: mV X.N js) X.env.scope scope 2 js=true)(a:((relabel scope X.env).names.lookup x == some .local && (relabel scope X.env).names.lookup y == some .local)=true)(g:X.calm=true)(it:wT X Y (.Tuple [.Name x p,.Name y p'] kk p2) iter fi)(tt:∀Y',Y'.cl=cl->xL X scope (x :: y :: mV X.N js) λc=>J8 c Y' ifs ft)
  (i:∀Y',Y'.cl=cl->sy X scope (x :: y :: mV X.N js) Y'.E λc=>Snd c Y' elt fe) (j:∀x,foldedSetIterable iter X.env x=pure x:=by intro _;rfl):jS X Y (.Tuple [.Name x p,.Name y p'] kk p2) iter elt ifs scope (x :: y :: mV X.N js) 2 js fi (AH X.K 2 (Ye (JX 0) (Ye (JX 1) Bt))) (zO 0 1) ft fe:=by
 subst hy;rw[vN,aj]at h;rw[aj]at a;have d:(relabel scope X.env).names.lookup x=some .local:=eq_of_beq a.1;have e:(relabel scope X.env).names.lookup y=some .local:=eq_of_beq a.2;exact xN _ _ _ rfl rfl h.1 g it (λ_ _ _ _ _ _=>xz g (Ja (ZP (WV h.2) rfl (.inl d) (.inr d)) (Ja (ZP (WV h.2) rfl (.inl e) (.inr e)) Yf))) (V9 _ 0 1) (Va 0 1) tt i j
end
end PV
namespace L2
open PySem PySem.Spec PyProof.Rows
section
end
end L2
namespace PV
open PySem PySem.Spec PyProof.Rows L2 PySem.W
section
end
end PV
namespace PV
open PySem PySem.Spec PyProof.Rows L2
end PV
namespace PV
open PySem PySem.Spec PyProof.Rows L2 PySem.W
noncomputable abbrev ox (x:Str):Str:=x++".<locals>."++"<lambda>"
section
end
section
variable {js:List Nat}
theorem F0 (e:scope.names.lookup x=some .cell)(hy:Y.cl=cl)(h:((t7 scope X.env.scope && gK X.N (x :: mV X.N js) scope X.env.scope 1 js) && sw (x :: mV X.N js))=true)(d:((relabel scope X.env).names.lookup x == some .cell)=true)(i:X.calm=true)(it:wT X Y (.Name x p) iter fi)(tt:∀Y',Y'.cl=cl->zj Y.H0 Y'.H0->qZ X scope (x :: mV X.N js) λa=>J8 a Y' ifs ft)
  (c:∀Y',Y'.cl=cl->zj Y.H0 Y'.H0->qZ X scope (x :: mV X.N js) λa=>Snd a Y' elt fe) (j:∀x,foldedSetIterable iter X.env x=pure x:=by intro _;rfl):uN X Y (.Name x p) iter elt ifs scope (x :: mV X.N js) 1 js fi (JX 0) (zG 0) ft fe:=by
 subst hy;rw[aj]at h;have g:(relabel scope X.env).names.lookup x=some .cell:=eq_of_beq d;exact Kk _ _ _ rfl rfl h.1 i it (λ_ _ _ _ _ _=>ZP (WV h.2) rfl (.inr g) (.inl (by show (scope.names.lookup x == some .cell)=true;rw[e];rfl))) (Ug 0) (Ui 0) tt c j
end
section
end
section
end
section
end
section
end
end PV
namespace PV
open PySem PySem.Spec PyProof.Rows L2
section
end
section
end
end PV
namespace PV
open PySem PySem.Spec PyProof.Rows L2 PySem.W
section
end
section
noncomputable def AC (k:Bool):Value->Bool
 | .bool b=>b == k
 | _=>false
theorem Zh (h:AC k v=true):v= .bool k:=by
 cases v <;> simp_all [AC]
noncomputable def iB (b:Bool):Int:=if b then 1 else 0
theorem Jn {Q:Int->Shared->Prop}(h:Q (hashInt (iB b)) { s with toks:=s.toks+1 }):wpAny (model prog w) A (pyHash (.bool b)) Q E s:=by
 have hT:s.TypeIs (.bool b) "bool":=rfl;unfold pyHash;have a:[Value.bool b].any Value.onHeap=false:=rfl;refine a8 ?_;rw[cRoomFor,if_neg (by rw[a];exact ax)];refine aa ?_
 refine a8 (b_ hT cf.lookup ?_);show wpAny _ _ (if (some (Value.builtin "int.__hash__") == some Value.none)=true then _ else _) Q E s
 rw[if_neg (by rw[beq_builtin_none];exact ax)]
 refine a8 (b_ hT cf.lookup ?_);show wpAny _ _ (callSpecialIfBoundUnlessNone? (.bool b) "__hash__" _ >>= _) Q E s;refine a8 (wpAny_callSpecialIfBoundUnlessNone?_slot hT cf
  (aL cf hT lK
   (show wpAny _ _ (do ret (← mkInt (rawHash (iB b)))) _ _ s from by cases b <;> refine wpAny_ret_mkInt ?_ <;> exact aa h) (lb _)))
theorem Km {Q:Bool->Shared->Prop}(h:Q (decide (a=b)) s):wpAny (model prog w) A (eqBool (.bool a) (.bool b)) Q E s:=by
 exact PySem.SeqAt.EqAt.bool_bool a b _ _ _ _ (by rw[show (a == b)=decide (a=b) from by cases a <;> cases b <;> rfl];exact h)
end
def Zm (prog:Program)(w:World):KeyKind prog w Bool where
 is:=AC
 hash:=λb=>hashInt (iB b)
 inj:=λv a b e d=>by have:=(Zh e).symm.trans (Zh d);injection this
 byValue:=λk v h=>by rw[Zh h];rfl
 pyHash:=λc h=>by rw[Zh c];exact Jn h
 eqBool:=λg c h=>by rw[Zh g,Zh c];exact Km h
 «strs»:=λk x t v h=>by simp[AC]at h
section
variable {K:Type}[DecidableEq K]{knd:HeapKind prog w K}
theorem JD {d a:Addr}{l:List (K×Addr×Value)}{k:K}{dflt:Value}{Q:Value->Shared->Prop}(D:knd.room A)(c:knd.is s.heap k a)(I:s.heap.DictOfH knd d l)
  (g:∀p,atKey l k=some p->Q p.2 { s with toks:=s.toks+knd.draws k })
  (v:atKey l k=none->∀h',h'.DictOfH knd d (l++[(k,a,dflt)])->aQ d s.heap h' ->Q dflt { s with heap:=h',toks:=s.toks+knd.draws k })
  (hsz:l.length<=sizeLine):wpAny (model prog w) A (dictSetDefault d (.ref a) dflt) Q E s:=by
 obtain⟨o,J,ep,q,G,hd,C,B,hn⟩:=I;unfold dictSetDefault
 try with_reducible refine bi ?_
 refine a8 (knd.pyHash D c ?_);refine a8 (wpAny_dictFind_heap (s:={ s with toks:=s.toks+knd.draws k }) D c q hd C B hn ?_ ?_)
 ·intro u;have r:k ∉ l.map (·.1):=not_mem_keys_of_get u;refine a8 (cx (a8 (wpAny_updateDictKeys (hz:=by have e:=size_of_entries C;omega) (s:={ s with toks:=s.toks+knd.draws k }) q hd (aa (v (atKey_none_of_get u) _ ⟨_,_,ep+1,bT _ q (Obj.isFreed_of_dict (iL hd _)),
   G.mapDictKeys _,iL hd _, ?_, ?_, ?_⟩ (bF ..))))))
  ·simp[C,entryOfKey]
  ·intro x i;rcases ce.mp i with i | i
   ·exact knd.keeps (B x i) q hd (bF ..)
   ·simp only[av]at i;subst i;exact knd.keeps c q hd (bF ..)
  ·rw[cz,lF];refine⟨hn,by simp, ?_⟩
   intro x i y hy;simp only[aA,c9,av]at hy;subst hy;exact λe=>r (e ▸ i)
 ·intro j p F;refine a8 (cu (s:={ s with toks:=s.toks+knd.draws k }) q hd ?_);rw[entry_at C j,F];exact a8 (cx (aa (g p (atKey_of_get hn F))))
end
section
end
section
variable {Z:Zz}{x:Str}{st:Stmt}{ps:List Str}{k n m:Nat}{fb:En->RS}{f c:Addr}{fd:FuncData}{Pt:Addr}
theorem Ee (C:Fn Z.K Z.mg x st ps f fd)(e:fd.code= .ref c)(hd:codeHdIn Z.K c Pt=true)(a:Z.base.BuiltinsAt Z.mg Pt)(N:List Str) (d:∀(A:Around) (outer:List Env) (s:Shared) (H:Hp) (E:XK) (Y:Fx),Lm (ZC (mN Z.P Z.w) Z.P Z.w Z.K Z.mg Z.base N x (ze st) f (.ref c) A outer s H E) c Pt (ox x)->Y.H0 Pt=some (.tbl #[] (ox x))->Y.cl=Z.cl->Y.E=E->ZF k (A.deeper (envOfC x (ze st) s.heap.objs.size f (.ref c)))->N.Nodup->ZB (mN Z.P Z.w) (ZC (mN Z.P Z.w) Z.P Z.w Z.K Z.mg Z.base N x (ze st) f (.ref c) A outer s H E) Y.E->
   wS (ZC (mN Z.P Z.w) Z.P Z.w Z.K Z.mg Z.base N x (ze st) f (.ref c) A outer s H E) Y (zR st) fb)
  (S:Sc N ps st:=by refine⟨rfl,rfl,rfl, ?_,rfl, ?_, ?_⟩ <;> decide+kernel) (hn:n=ps.length:=by rfl) (g:m=N.length:=by rfl):JW Z.P Z.w Z.K Z.mg Z.base (mN Z.P Z.w) (k+1) f fd ps (xZ Z.cl n (oS m fb) Pt (ox x)):=by
 subst g;exact Kl C.F e S hn (λA outer s H E Y hy hE hT hr=>d A outer s H E Y ⟨rfl,hd,a,rfl⟩ hT hy hE hr S.nd (hE ▸ GC)) λ_ _=>rfl
end
section
end
def Ci (P:Program)(w:World)(K:Frag)(i:Str->Option Value)(base:Heap)(k:Nat)(f:Addr)(H:Hp)(ts:List T):Prop:=∀(A:Around) (outer:List Env) (s:Shared) (c:Hp) (g :VK),ZF (k+1) A->vJ P w K i base A outer s c->zj H c->(∀a e d,zj c d ->c a=none->d a=some (.lst e)->zr (pP d a) e ts->g (.ref a) d)->codeAny (model P w) A (.call (.ref f) ⟨[],[]⟩) (CR (mN P w) outer P w c s g (λ_ _ _=>False)) s
def Ea (P:Program)(w:World)(K:Frag)(c:Str->Option Value)(base:Heap)(k:Nat)(f:Addr)(o:Obj):Sp:=λvs H Q _=>vs=[V.ref f]/\H f=some (.frz o (.own f))/\∃ts b,ts.length < mq/\mm (.lst ts) (.lst ts)= .ok b/\Ci P w K c base k f H ts/\∀a,zj H a ->Q (.bl b) a
structure QS (x:Str) (k:Nat) (Z:Zz):Prop where
 ex:∃st d f fd,Fn Z.K Z.mg x st [d] f fd/\∀(base:Heap) (fl c' :Addr) (q:Str) (params:Arguments) (body:Expr) (scope:Scope) (clos:List (Str×Addr)) (pm ctv:Value),Z.K.In base->JW Z.P Z.w Z.K Z.mg base mJ (k+2) f fd [d] (Ea Z.P Z.w Z.K Z.mg base k fl (Vz q params body scope clos pm ctv c'))
theorem Bl {Z:Zz}{x:Str}{st:Stmt}{k:Nat}{d n m:Str}{q1 q2 q3 q4 q5 q6 q7 q8 q9 J q11 q12 q13 q14 q15 M N q18 B r g q22 q23 q24 q25 q26 U:Pos}{k1 X:Nat}(F:FE Z.K Z.mg x st [d])(G:Z.mg "list"=none)(him:Z.mg "isinstance"=none)(hk:∀t,bO Z.K (.type (nu t)) (.type "list")=some (ng "list" t))
  (S:Sc [d,n,m] [d] st) (hst:zR st=[.Assign [.Name n q1] (.Call (.Name d q2) [] [] q3) q4,
   .If (.UnaryOp .Not (.Call (.Name "isinstance" q5) [.Name n q6,.Name "list" q7] [] q8) q9) [.Return (some (.Constant (.bool false) k1 J)) q11] [] q12,
   .Assign [.Name m q13] (.Call (.Name "list" q14) [.Name n q15] [] M) N,
   .Expr (.Call (.Attribute (.Name n q18) "append" B) [.Constant (.str "?") X r] [] g) q22,
   .Return (some (.Compare (.Call (.Name d q23) [] [] q24) [.Eq] [.Name m q25] q26)) U])
  (hd:(ze st).names.lookup d=some .local) (hn:(ze st).names.lookup n=some .local) (hm:(ze st).names.lookup m=some .local) (hgl:(ze st).names.lookup ("list":Str)=some .globalImplicit) (O:(ze st).names.lookup ("isinstance":Str)=some .globalImplicit) (hz:(B.endLine == g.line)=true)
  (h1:(d == ("__debug__":Str))=false:=by decide) (h2:(d == ("__classdict__":Str))=false:=by decide) (h3:(n == ("__debug__":Str))=false:=by decide) (h4:(n == ("__classdict__":Str))=false:=by decide) (h5:(m == ("__debug__":Str))=false:=by decide) (h6:(m == ("__classdict__":Str))=false:=by decide):QS x k Z:=by
 obtain⟨ft,fdt,F⟩:=F;refine⟨_,_,ft,fdt,F,λbase f c' q params body scope clos pm ctv KB=> ?_⟩;refine F.F.ok S (λvs H Q E ⟨e,_⟩=>by rw[e];rfl) λcdv A outer s H vs Q E hr ⟨e,hf,ts,b,D,heq,y,hQ⟩=> ?_
 subst e;rw[hst];have gl:Gl (ZC mJ Z.P Z.w Z.K Z.mg base [d,n,m] x (ze st) ft cdv A outer s H E).nox "list":=hgl;have gi:Gl (ZC mJ Z.P Z.w Z.K Z.mg base [d,n,m] x (ze st) ft cdv A outer s H E).nox "isinstance":=O;have hx:ZB (mN Z.P Z.w) (ZC mJ Z.P Z.w Z.K Z.mg base [d,n,m] x (ze st) ft cdv A outer s H E).nox (λ_ _ _=>False):=λ_ _ _ _ _ _ _ ⟨_,_,_,_,_,_,_,z⟩=>z.elim;have vd:∀{p},PE (ZC mJ Z.P Z.w Z.K Z.mg base [d,n,m] x (ze st) ft cdv A outer s H E).nox (.Name d p) (Jo 0):=ZN rfl (.inl hd) h1 h2;have vn:∀{p},PE (ZC mJ Z.P Z.w Z.K Z.mg base [d,n,m] x (ze st) ft cdv A outer s H E).nox (.Name n p) (Jo 1):=ZN rfl (.inl hn) h3 h4;have vm:∀{p},PE (ZC mJ Z.P Z.w Z.K Z.mg base [d,n,m] x (ze st) ft cdv A outer s H E).nox (.Name m p) (Jo 2):=ZN rfl (.inl hm) h5 h6;have e1:(((((backTo g (starEach [.Constant (.str "?") X r] (ZC mJ Z.P Z.w Z.K Z.mg base [d,n,m] x (ze st) ft cdv A outer s H E).nox.env)).all λx=> !x.fst) && (backToKw g (keywordEach [] (ZC mJ Z.P Z.w Z.K Z.mg base [d,n,m] x (ze st) ft cdv A outer s H E).nox.env)).all λx=>x.fst.isSome) && decide (([Expr.Constant (.str "?") X r].length+([]:List Keyword).length+if ([]:List Keyword).isEmpty=true then 0 else 1) < 30))=true):=by rw[mD rfl];rfl
 refine⟨_,Za (jP S.nd (i:=1) rfl (.inl hn) (qT (f:=f) (c' :=c') (q:=q) (params:=params) (body:=body) (scope:=scope) (clos:=clos) (pm:=pm) (ctv:=ctv) vd hx) rfl (.inr hn))
  (Za (Gi (xy (U6 (Zl Ua gi him PyProof.Rows.Boot.«isinstance» (zi vn (zi (wL (v:= .ty "list") gl G PyProof.Rows.Boot.«list» rfl (by decide) (by decide)) zw (mD rfl)) (zo rfl)) (by decide) (by decide) (zo rfl) (zL rfl)) (by intro _;rfl))) (ZO (jo Gb)) Yd)
  (Za (jP S.nd (i:=2) rfl (.inl hm) (Zf jQ gl G PyProof.Rows.Boot.«list» (zi vn zw (mD rfl)) (by decide) (by decide) (mD rfl) rfl) rfl (.inr hm))
  (Za (jD (yr cY dW dX jq vn (zi Yc zw (mD rfl)) rfl e1 hz (mD rfl) rfl) rfl)
  (ZO (jo (Yk (YA hr.units) (qT (f:=f) (c' :=c') (q:=q) (params:=params) (body:=body) (scope:=scope) (clos:=clos) (pm:=pm) (ctv:=ctv) vd hx) vm rfl)))))), ?_⟩
 refine⟨by unfold L2.start;rfl,hf,λs2 e0=>y _ _ s2 H _ hr e0 (zj.refl _) λa j u z1 n1 I r1=> ?_⟩
 have d1:zj (pP u a) u:=λb o h=>by
  by_cases c:b=a
  ·rw[c,kP]at h;cases h
  ·rw[YY c]at h;exact h
 refine⟨.ref a,rfl,.ref a,"list",.lst ts,rfl,.lst I (r1.mono d1),hk _,true,rfl, ?_⟩;refine⟨.ref a,rfl,a,j,rfl,.inl (SqL.of I),λl hl=> ?_⟩;have C:l ≠ a:=λz=>by rw[z,I]at hl;cases hl
 have x2:ml u l (HO.lst j) a=some (.lst j):=by rw[zg (bf C)];exact I
 refine⟨.ref a,rfl,.inl ⟨rfl,_,SqL.of x2⟩,a,j,_,rfl,rfl,x2,by rw[r1.length];exact WG D, ?_⟩
 have keep:∀b o,u b=some o->b ≠ a->ml (ml u l (HO.lst j)) a (HO.lst (j++[V.str "?"])) b=some o:=λb o h c=>by
  rw[zg c,zg (λz=>by rw[z,hl]at h;cases h)];exact h
 have s3:zj H (ml (ml u l (HO.lst j)) a (HO.lst (j++[V.str "?"]))):=λb o h=>keep b o (z1 b o h) λz=>by rw[z,n1]at h;cases h
 refine⟨rfl,s3 _ _ hf,λs3' e03=>y _ _ s3' _ _ hr e03 s3 λa2 xs2 H4 z4 n4 x4 r4=>⟨.ref l,rfl,.lst ts,.lst ts,b,.lst x4 (r4.mono λb o h=> ?_),.lst (z4 _ _ (by rw[zg C,zh])) (r1.mono λb o h=> ?_),heq,hQ _ (s3.trans z4)⟩⟩
 ·by_cases c:b=a2
  ·rw[c,kP]at h;cases h
  ·rw[YY c]at h;exact h
 ·by_cases c:b=a
  ·rw[c,kP]at h;cases h
  ·rw[YY c]at h;exact z4 _ _ (keep b o h c)
def uO (a:En->R T):En->RS:=λρ=>(a ρ).s λt=>match t with
 | .lst ts=> .rf ts
 | _=> .bad
section
end
theorem Q1:vM (uO fa):=λρ t e=>by
 unfold uO at e;cases q:fa ρ with
 | ok t=>rw[q]at e;cases t <;> cases e
 | ex c=>rw[q]at e;cases e
 | bad=>rw[q]at e;cases e
def jW (r:R T):R T:=match r with
 | .ok (.lst ts)=>if ts.length < mq then (mm (.lst ts) (.lst ts)).bind λb=> .ok (.bl b) else .bad
 | _=> .bad
theorem WW (h:Po Y rC B H (jW r) Q):∃ts b,r= .ok (.lst ts)/\ts.length < mq/\mm (.lst ts) (.lst ts)= .ok b/\∀a,zj H a ->Q (.bl b) a :=by
 unfold jW at h;split at h
 ·rename_i ts;split at h
  ·rename_i d;cases e:mm (.lst ts) (.lst ts) with
   | bad=>rw[e]at h;exact h.elim
   | ex c=>exact absurd e (XW _ _ _)
   | ok b=>rw[e]at h;exact⟨ts,b,rfl,d,e,λa s=>h _ a s (.bl b)⟩
  ·exact h.elim
 ·exact h.elim
def jX (js:List Nat)(n:Nat)(g:List T->R T)(a:En->R (List T)):En->R T:=λρ=>jW (zb n g a (j8 0 js ρ))
theorem Q2 (d:zj B H)(s:zj H H')(e:B' a=none)(l:zj B' (zv B H H')):zj B' (pP H' a):=λb o h=>by
 have c:b ≠ a:=λz=>by rw[z,e]at h;cases h
 rw[YY c];have:=l b o h;cases q:H b with
 | none=>rw[zF q]at this;exact this
 | some u=>rw[zE q]at this;exact s _ _ (d _ _ this)
section
theorem Q3 {P:Program}{w:World}{K:Frag}{i:Str->Option Value}{base:Heap}{A:Around}{outer:List Env}{s:Shared}{H a:Hp}{scope:Scope}{clos:List (Str×Addr)}{N:List Str}{d:Sg}(L:WU base H scope clos N d)(g:vJ P w K i base A outer s a):WU base a scope clos N d:=
 ⟨L.inj,L.has,λx c e=>let ⟨⟨v,o,ho,hd⟩,_⟩:=L.cell x c e;⟨⟨v,o,ho,hd⟩,(g.bs c o ho).2⟩,L.loc,L.len⟩
theorem Wa {js:List Nat}(L:Lm X c P q)(hT:Y.H0 P=some (.tbl #[] q))(hy:Y.cl=cl)
  (O:QS x kE ⟨X.prog,X.w,X.K,X.mg,X.base,cl⟩) (UF:∀b,X.K.In b->QQ y (mN X.prog X.w) kF (spF cl n g) ⟨X.prog,X.w,X.K,X.mg,b,cl⟩) (hr:ZF k X.A)
  (d:vN X.N (mV X.N js) X.env.scope scope 0 js=true) (l:(!scope.isCoroutine && !scope.isGenerator)=true)
  (ha:∀(base:Heap) (A:Around) (outer:List Env) (s:Shared) (H:Hp) (E:XK) (f c' :Addr) (clos:List (Str×Addr)) (Y' :Fx),X.K.In base->Y'.cl=cl->Y'.E=E->ZF kE (A.deeper (envX q scope s.heap.objs.size f (.ref c') clos))->ur (nX X.prog X.w X.K X.mg base (mV X.N js) q scope f (.ref c') clos A outer s H E) Y' (a :: es) ga)
  (hgl:scope.names.lookup y=some .globalImplicit:=by rfl)
  (hj:kE+2<=k:=by omega) (hF:kF<=kE:=by omega) (gl:Gl X x:=by rfl) (hfn:∀x,X.fn x=true:=by exact λ_=>rfl)
  (hp:∀(body:Expr) (clos:List (Str×Addr)) (pm cd ctv:Value),bindArgs (kla_fn "<lambda>" q params body scope clos pm cd ctv) ⟨[],[]⟩=pure []:=by intros;rfl) (D:defaultsOf params X.env=([],[]):=by rfl) (hd:(x == ("__debug__":Str))=false:=by decide) (hd2:(y == ("__debug__":Str))=false:=by decide)
  (hs:∀e,starEach (a :: es) e=(false,eval a e) :: starEach es e:=by intro _;exact zo rfl) (hz:∀e,((backTo pos' (starEach es e)).any λx=>x.fst)=false:=by intro _;exact zL rfl):
  Snd X Y (.Call (.Name x p) [.Lambda params (.Call (.Name y px) (a :: es) [] pos') scope lp] [] pos) (jX js n g ga):= .mk λρ=>by
 intro pins s σ H Q I ⟨B,J,po⟩;subst hy;rw[vN,aj]at d;have d:=d.1;rw[aj]at d;rw[aj]at l;have CS:=YS _ rfl d.1;have CP:=wX _ _ rfl rfl d.2;have S:sW scope:=⟨CS.kind,by simpa using l.1,by simpa using l.2,CS.nocell⟩
 obtain⟨clos,ecl,hcl,hcf⟩:=wU λx hx v=>I.ok.has x.1 (CS.fre x hx v);obtain⟨⟨_,dn,ft,fdt,CT,O⟩⟩:=O;obtain⟨ts,b,i,C,heq,hQ⟩:=WW (show Po Y rC B H (jW (zb n g ga (j8 0 js ρ))) Q from po);refine bW (wK I gl CT.m ?_ hd);have hP:=J.sH _ _ hT;have hpa:=zi (xX (body:= .Call (.Name y px) (a :: es) [] pos') (pos:=lp) L D ecl) zw (mD rfl) pos _ s σ H (λvs u=>∃f c' pm ctv,vs=[V.ref f]/\zj H u/\u f=some (.frz (Vz q _ _ _ _ pm ctv c') (.own f))/\JC u q c') I ⟨hP,λf c' pm ctv U s1 v hc=>⟨f,c',pm,ctv,rfl,s1,v,hc⟩⟩;refine callWith_K I.ok.mod.kin CT.F.kp (mo hpa λZ s1 ⟨vs,u,G,r,f,c',pm,ctv,e,sm,v,hc⟩=>⟨G.kIn, ?_⟩) (mD rfl) rfl;subst e;have J1:=J.grow sm;refine qR (E:=Y.E) G (O _ f c' q _ _ _ _ pm ctv G.big.mod.kin) (hr.mono hj) CT.b Ju r ⟨rfl,v,ts,b,C,heq,λA outer s2 H2 Q' o M j hQ' => ?_,λU s' =>hQ U (sm.trans s')⟩;obtain⟨⟨_,ps,fm,fdm,CF,FF⟩⟩:=UF _ M.mod.kin;have gy:Gl (nX X.prog X.w X.K X.mg (VA s1 u (mQ X.stack)) (mV X.N js) q scope f (.ref c') clos A outer s2 H2 (λ_ _ _=>False)) y:=hgl;refine qS S o M (Q3 (xY G hfn hcl hcf CP) M) (j _ _ v) (hc.mono j) (hp _ _ pm _ ctv) (Zv FF ((o.deeper _).mono hF) gy CF.m CF.F.kp CF.b .nil DO (ha _ A _ s2 H2 _ f c' _ ⟨zv B H u,u,λ_ _ _=>False,Y.cl,[]⟩ M.mod.kin rfl rfl (o.deeper _) (j8 0 js ρ)) hd2 (hs _) (hz _)) ⟨_,J1.blockS 0 js _ j, ?_⟩;unfold zb at i;cases ea:ga (j8 0 js ρ) with
 | bad=>rw[ea]at i;cases i
 | ex c=>rw[ea]at i;cases i
 | ok Z=>
  rw[ea]at i;intro vs H3 s3 r3;have i:(if Z.length=n then g Z else .bad)= .ok (.lst ts):=i
  split at i
  ·rename_i hn;rw[bb];have sG:=zv.le (J1.sB.trans j) s3;refine⟨_,Z,hn,sG,r3, ?_⟩;rw[i];exact λa xs U B' z1 z2 z3 z4 z5 z6=>hQ' a xs U (s3.trans z1) (s3.free z2) z3 (z4.mono (Q2 sG z1 z5 z6))
  ·cases i
end
end PV
namespace L2
open PySem PySem.Spec PyProof.Rows
theorem Ed {k:mG}(r:RelV (kV k) u):(zZ P w).is k u=true:=by
 cases k with
 | inl i=>cases (show u= .bool i from r);exact beq_self_eq_true i
 | inr x=>obtain⟨t,e⟩:=r;rw[e];exact ja P w x t
section
variable {κ:Type}[DecidableEq κ]
noncomputable def Y6 (kvs:List (κ×Addr×V))(k:κ):Option V:=(kvs.find? λa=>decide (a.1=k)).map (·.2.2)
end
section
variable {κ:Type}[DecidableEq κ]
theorem Wb {p:κ×Addr×V}{r:List (κ×Addr×V)}{k:κ}(e:p.1=k):Y6 (p :: r) k=some p.2.2:=by simp[Y6,dk,e]
end
section
variable {κ:Type}[DecidableEq κ]
theorem Wc {p:κ×Addr×V}{r:List (κ×Addr×V)}{k:κ}(e:¬ p.1=k):Y6 (p :: r) k=Y6 r k:=by simp[Y6,dk,e]
end
theorem WX {P:Program}{w:World}:∀{a:List mG} {c:List Value},Vals (a.map kV) c->ItemsAre (zZ P w) a c
 | [],_,r=>by rw[c9]at r;cases r;exact .nil
 | k :: a,_,r=>by
  rw[aA]at r;cases r with
  | cons h t=>exact .cons (Ed h) (WX t)
abbrev KT (H:Hp):List (List mG×Addr×V)->List (List mG×Addr×Value)->Prop:=Paired λp q=>p.1=q.1/\H q.2.1=some (.tup (p.1.map kV))/\RelV p.2.2 q.2.2/\p.2.1=q.2.1
theorem KT.val {kvs:List (List mG×Addr×V)}{c:List (List mG×Addr×Value)}(r:KT H kvs c)(k:List mG):sM (Y6 kvs k) ((atKey c k).map (·.2)):=by
 induction r with
 | nil=>exact True.intro
 | @cons p q j qs h t g=>
  obtain⟨d,_,i,_⟩:=h
  by_cases e:p.1=k
  ·have a :q.1=k:=d.symm.trans e;have b:atKey (q :: qs) k=some q.2:=by simp[atKey,dk,a]
   rw[Wb e,b];exact i
  ·have a :¬ q.1=k:=λz=>e (d.trans z);have b:atKey (q :: qs) k=atKey qs k:=by simp[atKey,dk,a]
   rw[Wc e,b];exact g
theorem KT.keeps {kvs:List (List mG×Addr×V)}{c:List (List mG×Addr×Value)}(r:KT H kvs c)(d:∀b a,H b=some (.tup a)->H' b=some (.tup a)):KT H' kvs c:=
 Paired.mapP r λ_ _ z=>⟨z.1,d _ _ z.2.1,z.2.2⟩
section
theorem F8 (ok:HOk P w H h)(e:Rd H a u):zK P w H h a u:=e.ok ok
end
section
theorem X1 {c:List mG}(ok:HOk P w H h)(e:H a=some (.tup (c.map kV))):(tupleKind (zZ P w)).is h c a:=by
 obtain⟨_,d,r,⟨o,i,j,n,g⟩,_⟩:=(show zK P w H h a (.tup (c.map kV)) from ok a _ e);exact⟨o,d.toArray,n,i,j,g,by simpa using WX r⟩
end
section
theorem E2 {kvs:List (List mG×Addr×V)}(ok:HOk P w H h)(e:Rd H a (.dT kvs)):kvs.length<=sizeLine/\(a == sysModules)=false/\
  ∃d,KT H kvs d/\h.DictOfH (tupleKind (zZ P w)) a d:=by
 obtain⟨z,y,d,r,o,i,ep,v,B,u,C,j⟩:=(show zK P w H h a (.dT kvs) from F8 ok e);refine⟨z,y,d,r,o,i,ep,v,B,u,C,λx c=> ?_,j⟩;have all:∀{l:List (List mG×Addr×V)} {m:List (List mG×Addr×Value)},KT H l m->∀x∈m,(tupleKind (zZ P w)).is h x.1 x.2.1:=by
  intro l m q
  induction q with
  | nil=>intro x c;exact nomatch c
  | @cons p q D qs g t k=>
   intro x c;rcases ag.mp c with e | c
   ·subst e;exact X1 ok (by rw[← g.1];exact g.2.1)
   ·exact k x c
 exact all r x c
end
section
theorem VD {kvs:List (List mG×Addr×V)}(ok:HOk P w H h)(e:H a=some (.dT kvs)):kvs.length<=sizeLine/\(a == sysModules)=false/\
  ∃c,KT H kvs c/\h.DictOfH (tupleKind (zZ P w)) a c:=E2 ok (.inl e)
end
section
variable {o:Option V}
theorem Inv.bigM (I:Inv X pins σ H s):sysModules < s.heap.objs.size:=by
 have h:mainGlobals < s.heap.objs.size:=(I.mod.glob.keeps I.bk).lt;exact fH (by decide) h
end
section
variable {o:Option V}
theorem Kn (I:Inv X pins σ H s)(g:sj (H a))(i:aQ a s.heap h')(d:∃q,h'.get? a=some q)(new:zK X.prog X.w (ml H a ob) h' a ob):
  Inv X pins σ (ml H a ob) { s with heap:=h',toks:=t' }:=
 I.write (x:=a) (e:=a) g (.inl rfl) (λb q c z=>(i.2 b c).trans z) d new
end
theorem VE (h:Heap)(a:sysModules < h.objs.size):zK P w H (h.push { cls:= .type "dict",data:= .dict #[] }) h.objs.size (.dT []):=
 ⟨aX _,beq_eq_false_iff_ne.mpr (bf (au a)),[],.nil,_, #[],0,ae _ rfl,⟨rfl,rfl,rfl⟩,rfl,rfl,List.nodup_nil⟩
def EZ:TE:=λ_ H Q=>∀p,H p=none->Q (.ref p) (ml H p (.dT []))
section
theorem VF:PE X (.Dict [] [] pos) EZ:=λc s d H Q I h=>
 wpAny_Dict_empty ⟨.ref s.heap.objs.size,_,I.laid (a:=s.heap.objs.size) (o:= .dT []) (t' :=s.toks) (λ_ _ q=>a9 _ q) (ah _) (VE s.heap I.bigM),rfl,h _ (I.hok.fresh (ah _))⟩
end
end L2
namespace PV
open PySem PySem.Spec PyProof.Rows L2 PySem.W
def Ej:V->List V->Hp->VK->Prop:=λx vs H Q=>∃d kvs k b v0,x= .ref d/\vs=[.ref b,v0]/\H d=some (.dT kvs)/\H b=some (.tup (k.map kV))/\kvs.length < sizeLine/\(match Y6 kvs k with
 | some v=>Q v H
 | none=>Q v0 (ml H d (.dT (kvs++[(k,b,v0)]))))
theorem Ko (hu:X.A.units+64 < cLine):pC X "dict.setdefault" Ej:=by
 intro D s σ H x vs v us Q I N g h;obtain⟨d,kvs,k,b,v0,rfl,rfl,hd,B,hz,h⟩:=h;cases N;cases g with
 | @cons _ u1 _ us1 r1 g=>
  cases g with
  | @cons _ i _ Z G g=>
   cases g;cases r1;obtain⟨z,J,C,e,dd⟩:=VD I.hok hd;refine aL F.slot_dict_setdefault dd.typeIs F.entry_dict_setdefault ?_ (F.args_dict_setdefault_3 _ _ _);unfold Builtin.«dict.setdefault»;refine a8 ?_;unfold Builtin.Dict.keyAndDefault;refine a8 (wpAny_notOrdered_dict dd.typeIs ?_);show wpAny _ _ (pure (d,Value.ref b,some i)) _ _ s;refine aa ?_;show wpAny _ _ (if (d == sysModules)=true then _ else (dictSetDefault d (.ref b) i >>= _)) _ _ s
   rw[if_neg (by rw[J];exact ax)]
   have r:C.length<=sizeLine:=by rw[← dR e];exact z
   have a:=e.val k;refine a8 (JD (tupleKind_room_in1 (by omega)) (X1 I.hok B) dd (λp hp=> ?_) (λhn h' l o => ?_) r)
   ·rw[hp]at a;revert h;cases j:Y6 kvs k with
    | none=>rw[j]at a;exact(show False from a).elim
    | some w=>
     rw[j]at a;exact λh=>aa ⟨p.2,rfl,w,H,I.tok _,a,h⟩
   ·rw[hn]at a;revert h;cases j:Y6 kvs k with
    | some w=>rw[j]at a;exact(show False from a).elim
    | none=>
     intro h;obtain⟨q,U,ep,y,P,O,S,_,M⟩:=l;refine aa ⟨i,rfl,v0,_,Kn (ob:= .dT (kvs++[(k,b,v0)])) I (by rw[hd];exact True.intro) o ⟨q,y⟩ ⟨?_,J,_,KT.keeps (show KT H (kvs++[(k,b,v0)]) (C++[(k,b,i)]) from Paired.snoc e ⟨rfl,B,G,rfl⟩) λc ys u=> ?_,q,U,ep,y,P,O,S,M⟩,G,h⟩
     ·rw[ay,aI];omega
     ·rw[zg (Ya u hd (λz=>nomatch z))];exact u
noncomputable abbrev WE:=List Bool×List T
def wa (k:List Bool)(w:T):List WE->List WE
 | []=>[(k,[w])]
 | (a,c) :: r=>if a =k then (a,c++[w]) :: r else (a,c) :: wa k w r
noncomputable def Zu:List T->Option (List Bool)
 | []=>some []
 | .bl b :: ts=>(Zu ts).map λl=>b :: l
 | _=>none
def J9 (g:T->R T):List T->List WE->R (List WE)
 | [],a=> .ok a
 | w :: c,a=>(g w).bind λt=>match t with
  | .tup ts=>(match Zu ts with
   | some k=>J9 g c (wa k w a)
   | none=> .bad)
  | _=> .bad
def Cz (g d:List T->R T):List T->R (List WE):=λts=>match ts with
 | [c,e]=>(g [c]).bind λt=>match t with
  | .lst a=>if a.length<=mq then J9 (λw=>d [e,w]) a [] else .bad
  | _=> .bad
 | _=> .bad
abbrev kI (k:List Bool):List mG:=k.map Sum.inl
theorem X2 {a b:List Bool}(h:kI a=kI b):a=b:=(l7 λx y e=>by injection e).mp h
theorem Dw (k:List Bool):(kI k).map kV=k.map V.bl:=by rw[bg];rfl
def Kb (a B H:Hp)(k:List Bool)(b:Addr):Prop:=H b=some (.tup (k.map V.bl))/\(a b=none\/B b=some (.tup (k.map V.bl)))
inductive jC (H0 B H:Hp) (n:Nat):List (List mG×Addr×V)->List WE->List Addr->Prop
 | nil:jC H0 B H n [] [] []
 | cons {k:List Bool} {b l:Addr} {xs:List V} {ws:List T} {kvs:List (List mG×Addr×V)} {es:List WE} {ls:List Addr} (kb:Kb H0 B H k b) (e:H l=some (.lst xs)) (b0:B l=none) (r:zr B xs ws) (hn:ws.length<=n) (no:l ∉ ls) (t:jC H0 B H n kvs es ls):jC H0 B H n ((kI k,b,.ref l) :: kvs) ((k,ws) :: es) (l :: ls)
section
variable {kvs:List (List mG×Addr×V)}{es:List WE}
theorem Kb.mono {k:List Bool}(h:Kb H0 B H k b)(c:∀b a,H b=some (.tup a)->H' b=some (.tup a)):Kb H0 B H' k b:=⟨c _ _ h.1,h.2⟩
theorem jC.mono (hn:n<=n')(h:jC H0 B H n kvs es ls)(s:∀l∈ls,H' l=H l)(d:∀b c,H b=some (.tup c)->H' b=some (.tup c)):jC H0 B H' n' kvs es ls:=by
 induction h with
 | nil=>exact .nil
 | cons g e b r a no t i=>exact .cons (g.mono d) (by rw[s _ ac];exact e) b r (aB a hn) no (i λl a=>s l (ab _ a))
theorem jC.bnone (h:jC H0 B H n kvs es ls)(a:l∈ls):B l=none:=by
 induction h with
 | nil=>cases a
 | cons d e b r hn no t c=>
  rcases ag.mp a with rfl | z
  ·exact b
  ·exact c z
theorem jC.islst (h:jC H0 B H n kvs es ls)(a:l∈ls):∃c,H l=some (.lst c):=by
 induction h with
 | nil=>cases a
 | cons g e b r hn no t d=>
  rcases ag.mp a with rfl | z
  ·exact⟨_,e⟩
  ·exact d z
theorem jC.old {k:List Bool}(y :Rep B u w)(h:jC H0 B H n kvs es i)(g:Y6 kvs (kI k)=some v):
  ∃l a,v= .ref l/\l∈i/\H l=some (.lst a)/\a.length<=n/\∀c,c l=some (.lst (a++[u]))->(∀m∈i,m ≠ l->c m=H m)->(∀b a,H b=some (.tup a)->c b=some (.tup a))->jC H0 B c (n+1) kvs (wa k w es) i:=by
 induction h with
 | nil=>cases g
 | @cons P S l a Q kvs es i D e b r M no t I=>
  by_cases p:P =k
  ·subst p;rw[Wb rfl]at g;cases g;refine⟨l,a,rfl,ac,e,by rw[r.length];exact M,λc q j d=> ?_⟩
   rw[wa,if_pos rfl];exact .cons (D.mono d) q b (r.append (.cons y .nil)) (by rw[ay,aI];omega) no (t.mono (cC _) (λm o=>j m (ab _ o) λz=>no (z ▸ o)) d)
  ·rw[Wc λz=>p (X2 z)]at g;obtain⟨F,x,O,C,N,J,G⟩:=I g;refine⟨F,x,O,ab _ C,N,J,λc q j d=> ?_⟩;rw[wa,if_neg p];exact .cons (D.mono d) (by rw[j l ac λz=>no (z ▸ C)];exact e) b r (by omega) no (G c q (λm o=>j m (ab _ o)) d)
theorem jC.new {k:List Bool}(o :Rep B u w)(G:B l0=none)(h:jC H0 B H n kvs es c)(y:l0 ∉ c)(d:Y6 kvs (kI k)=none):
  ∀a,Kb H0 B a k b0->a l0=some (.lst [u])->(∀m∈c,a m=H m)->(∀b p,H b=some (.tup p)->a b=some (.tup p))->jC H0 B a (n+1) (kvs++[(kI k,b0,.ref l0)]) (wa k w es) (c++[l0]):=by
 induction h with
 | nil=>exact λa q j _ _=> .cons q j G (.cons o .nil) (by show 1<=n+1;omega) (by simp) .nil
 | @cons F M l p J kvs es c q e b r I no t C=>
  intro a i j x v
  by_cases g:F =k
  ·subst g;rw[Wb rfl]at d;cases d
  ·rw[Wc λz=>g (X2 z)]at d;rw[wa,if_neg g];refine .cons (q.mono v) (by rw[x l ac];exact e) b r (by omega) ?_ (C (λz=>y (ab _ z)) d a i j (λm D=>x m (ab _ D)) v)
   intro z;rcases ce.mp z with z | z
   ·exact no z
   ·exact y (by rw[← av.mp z];exact ac)
end
theorem uP:∀{B:Hp} {vs:List V} {ts:List T} {k:List Bool},zr B vs ts->Zu ts=some k->vs=k.map V.bl
 | _,_,_,_,.nil,h=>by cases h;rfl
 | _,_,_,_,.cons r a,h=>by
  cases r with
  | bl b=>
   unfold Zu at h;obtain⟨l,c,d⟩:=Option.map_eq_some_iff.mp h;subst d;rw[aA,uP a c]
  | _=>cases h
def Cp (B H:Hp)(r:R (List WE))(Q:VK):Prop:=match r with
 | .ok g=>∀d kvs e a c n,zj H a ->zj B c ->zj c (zv B H a)->H d=none->c d=none->a d=some (.dT kvs)->jC H c a n kvs g e->d ∉ e->(∀l∈e,H l=none)->Q (.ref d) a
 | _=>False
def X3 (g:List T->R (List WE)):Sp:=λvs H Q _=>∃B ts,ts.length=2/\zj B H/\zr B vs ts/\Cp B H (g ts) Q
theorem Bi {Z:Zz}{x:Str}{st:Stmt}{k ka kw:Nat}{D j wy g an wn:Str}{ga gw:List T->R T}{q1 q2 q3 q4 q5 q6 q7 q8 q9 U X q12 q13 q14 q15 q16 q17 q18 q19 q20 q21 q22:Pos}(F:FE Z.K Z.mg x st [D,j])(A0:QQ an mJ ka (spP Z.cl 1 ga) Z)(W0:QQ wn mJ kw (spP Z.cl 2 gw) Z)(S:Sc [D,j,wy,g] [D,j] st)
  (hst:zR st=[.Assign [.Name wy q1] (.Dict [] [] q2) q3,
   .For (.Name g q4) (.Call (.Name an q5) [.Name D q6] [] q7) [.Expr (.Call (.Attribute (.Call (.Attribute (.Name wy q8) "setdefault" q9) [.Call (.Name wn U) [.Name j X,.Name g q12] [] q13,.List [] q14] [] q15) "append" q16) [.Name g q17] [] q18) q19] [] q20,
   .Return (some (.Name wy q21)) q22])
  (hkd:(ze st).names.lookup D=some .local) (hru:(ze st).names.lookup j=some .local) (hwy:(ze st).names.lookup wy=some .local) (hwo:(ze st).names.lookup g=some .local) (han:(ze st).names.lookup an=some .globalImplicit) (hwn:(ze st).names.lookup wn=some .globalImplicit) (z1:(q9.endLine == q15.line)=true) (z2:(q16.endLine == q18.line)=true) (ha:ka<=k:=by omega) (hw:kw<=k:=by omega)
  (d1:(D == ("__debug__":Str))=false:=by decide) (d2:(D == ("__classdict__":Str))=false:=by decide) (d3:(j == ("__debug__":Str))=false:=by decide) (d4:(j == ("__classdict__":Str))=false:=by decide) (d5:(wy == ("__debug__":Str))=false:=by decide) (d6:(wy == ("__classdict__":Str))=false:=by decide) (d7:(g == ("__debug__":Str))=false:=by decide) (d8:(g == ("__classdict__":Str))=false:=by decide) (d9:(an == ("__debug__":Str))=false:=by decide) (d10:(wn == ("__debug__":Str))=false:=by decide):QQ x mJ (k+1) (X3 (Cz ga gw)) Z:=by
 obtain⟨ft,fdt,F⟩:=F;obtain⟨⟨_,pa,fa,fda,CA,FA⟩⟩:=A0;obtain⟨⟨_,pw,fw,fdw,CW,FW⟩⟩:=W0;refine⟨_,_,ft,fdt,F,F.F.ok S (λvs H Q E ⟨B,ts,hl,_,r,_⟩=>by rw[r.length,hl];rfl) λcdv A outer s H vs Q E hr ⟨B,ts,hl,sB,r,q⟩=> ?_⟩
 rw[hst];have gA:Gl (ZC mJ Z.P Z.w Z.K Z.mg Z.base [D,j,wy,g] x (ze st) ft cdv A outer s H E).nox an:=han;have gW:Gl (ZC mJ Z.P Z.w Z.K Z.mg Z.base [D,j,wy,g] x (ze st) ft cdv A outer s H E).nox wn:=hwn;have v0:∀{p},PE (ZC mJ Z.P Z.w Z.K Z.mg Z.base [D,j,wy,g] x (ze st) ft cdv A outer s H E).nox (.Name D p) (Jo 0):=ZN rfl (.inl hkd) d1 d2;have v1:∀{p},PE (ZC mJ Z.P Z.w Z.K Z.mg Z.base [D,j,wy,g] x (ze st) ft cdv A outer s H E).nox (.Name j p) (Jo 1):=ZN rfl (.inl hru) d3 d4;have v2:∀{p},PE (ZC mJ Z.P Z.w Z.K Z.mg Z.base [D,j,wy,g] x (ze st) ft cdv A outer s H E).nox (.Name wy p) (Jo 2):=ZN rfl (.inl hwy) d5 d6;have v3:∀{p},PE (ZC mJ Z.P Z.w Z.K Z.mg Z.base [D,j,wy,g] x (ze st) ft cdv A outer s H E).nox (.Name g p) (Jo 3):=ZN rfl (.inl hwo) d7 d8;have e1:(((((backTo q18 (starEach [.Name g q17] (ZC mJ Z.P Z.w Z.K Z.mg Z.base [D,j,wy,g] x (ze st) ft cdv A outer s H E).nox.env)).all λx=> !x.fst) && (backToKw q18 (keywordEach [] (ZC mJ Z.P Z.w Z.K Z.mg Z.base [D,j,wy,g] x (ze st) ft cdv A outer s H E).nox.env)).all λx=>x.fst.isSome) && decide (([Expr.Name g q17].length+([]:List Keyword).length+if ([]:List Keyword).isEmpty=true then 0 else 1) < 30))=true):=by rw[mD rfl];rfl
 have s2:starEach [.Call (.Name wn U) [.Name j X,.Name g q12] [] q13,.List [] q14] (ZC mJ Z.P Z.w Z.K Z.mg Z.base [D,j,wy,g] x (ze st) ft cdv A outer s H E).nox.env=[(false,eval (.Call (.Name wn U) [.Name j X,.Name g q12] [] q13) _),(false,eval (.List [] q14) _)]:=nj rfl rfl;have e2:(((((backTo q15 (starEach [.Call (.Name wn U) [.Name j X,.Name g q12] [] q13,.List [] q14] (ZC mJ Z.P Z.w Z.K Z.mg Z.base [D,j,wy,g] x (ze st) ft cdv A outer s H E).nox.env)).all λx=> !x.fst) && (backToKw q15 (keywordEach [] (ZC mJ Z.P Z.w Z.K Z.mg Z.base [D,j,wy,g] x (ze st) ft cdv A outer s H E).nox.env)).all λx=>x.fst.isSome) && decide (([Expr.Call (.Name wn U) [.Name j X,.Name g q12] [] q13,.List [] q14].length+([]:List Keyword).length+if ([]:List Keyword).isEmpty=true then 0 else 1) < 30))=true):=by rw[s2];rfl
 have body:=ZO (jD (pos:=q19) (yr (cpos:=q18) (apos:=q16) cY dW dX jq
   (yr (cpos:=q15) (apos:=q9) eH PySem.F.slot_dict_setdefault PySem.F.type_dict_setdefault (Ko hr.units) (v2 (p:=q8))
    (zi (Zv (pos:=q13) (p:=U) FW (hr.mono hw) gW CW.m CW.F.kp CW.b .nil (Ju (E:=λ_ _ _=>False)) (zi (v1 (p:=X)) (zi (v3 (p:=q12)) zw (mD rfl)) (zo rfl)) d10 (zo rfl) (zL rfl)) (zi (Yp zw) zw (mD rfl)) (zo rfl)) rfl e2 z1 (zo rfl) (zL rfl))
   (zi (v3 (p:=q17)) zw (mD rfl)) rfl e1 z2 (mD rfl) rfl) rfl)
 refine⟨_,Za (jP S.nd (i:=2) rfl (.inl hwy) VF rfl (.inr hwy))
  (Za (xA fB rfl (GX (Zv (pos:=q7) (p:=q5) FA (hr.mono ha) gA CA.m CA.F.kp CA.b .nil (Ju (E:=λ_ _ _=>False)) (zi (v0 (p:=q6)) zw (mD rfl)) d9 (zo rfl) (zL rfl))) (ZP S.nd (i:=3) rfl (.inl hwo) (.inr hwo)) body)
  (ZO (jo v2))), ?_⟩
 cases r with
 | nil=>cases hl
 | @cons va tk vs1 ts1 r1 rr=>
  cases rr with
  | nil=>cases hl
  | @cons vb tr vs2 ts2 r2 rr=>
   cases rr with
   | cons _ _=>exact absurd hl (by simp)
   | nil=>
    have q:Cp B H ((ga [tk]).bind λt=>match t with | .lst C=>(if C.length<=mq then J9 (λw=>gw [tr,w]) C [] else .bad) | _=> .bad) Q:=q
    cases ega:ga [tk] with
    | bad=>rw[ega]at q;exact q.elim
    | ex c=>rw[ega]at q;exact q.elim
    | ok t=>
     rw[ega]at q;intro d hd;have sd:=zj.new hd (HO.dT []);refine⟨va,rfl,B,[tk],rfl,sB.trans sd,.cons r1 .nil, ?_⟩;rw[ega];intro v Hc sc rv;cases rv with
     | @lst l xs C hxl rxs=>
      have q:Cp B H (if C.length<=mq then J9 (λw=>gw [tr,w]) C [] else .bad) Q:=q
      split at q
      case isFalse=>exact q.elim
      rename_i hbn;have sBc:zj (zv B (ml H d (HO.dT [])) Hc) Hc:=zv.le (sB.trans sd) sc;have bB:zj B (zv B (ml H d (HO.dT [])) Hc):=zv.ge (sB.trans sd) sc;have bd:zv B (ml H d (HO.dT [])) Hc d=none:=by
       rw[zE zh];exact sB.free hd
      have bG:∀G,zj (zv B (ml H d (HO.dT [])) Hc) G ->zj (zv B (ml H d (HO.dT [])) Hc) (zv B H G):=λG s' b o h=>by
       cases hb:H b with
       | none=>rw[zF hb];exact s' _ _ h
       | some u=>
        rw[zE hb];rw[zE (sd _ _ hb)]at h;exact h
      generalize zv B (ml H d (HO.dT [])) Hc=Bc at hxl rxs sBc bB bd bG;cases eF:J9 (λw=>gw [tr,w]) C [] with
      | bad=>rw[eF]at q;exact q.elim
      | ex c=>rw[eF]at q;exact q.elim
      | ok esF=>
       rw[eF]at q;refine⟨l,rfl,.inl ⟨⟨xs,SqL.of (sBc _ _ hxl)⟩, ?_⟩⟩;refine⟨λi m σ' G =>m=C.length - i/\i<=C.length/\σ'[1]? =some (some vb)/\σ'[2]? =some (some (V.ref d))/\σ'.length=4/\zj Bc G /\zj H G /\∃es kvs ls,G d=some (.dT kvs)/\jC H Bc G i kvs es ls/\d ∉ ls/\(∀l∈ls,H l=none)/\kvs.length<=i/\J9 (λw=>gw [tr,w]) (C.drop i) es= .ok esF,
        ⟨C.length,by simp,aX _,rfl,rfl,rfl,sBc,sd.trans sc,[],[],[],sc _ _ zh,.nil,by simp,by simp,ah _,eF⟩, ?_⟩
       rintro i m σ' G ⟨rfl,hi,c1,c2,c4,N,sH',es,kvs,ls,M,en,dn,hn,hkl,J⟩
       have hl' :G l=some (.lst xs):=N _ _ hxl
       by_cases hlt:i < C.length
       ·have hgw:C[i]? =some C[i]:=ak hlt;obtain⟨O,hx0,rx0⟩:=rxs.get hgw;refine .inr ⟨⟨xs,O,SqL.of hl',hx0⟩,λσ2 H2=>σ2=σ'.set 3 (some O)/\zj Bc H2/\zj H H2/\∃es kvs ls,H2 d=some (.dT kvs)/\jC H Bc H2 (i+1) kvs es ls/\d ∉ ls/\(∀l∈ls,H l=none)/\kvs.length<=i+1/\J9 (λw=>gw [tr,w]) (C.drop (i+1)) es= .ok esF,
         λσ2 H2 ⟨z1,z2,z3,z4⟩=>⟨C.length - (i+1),by omega,rfl,hlt,by rw[z1,aC (by decide)];exact c1,by rw[z1,aC (by decide)];exact c2,by rw[z1,bP];exact c4,z2,z3,z4⟩,λy G hy=> ?_⟩
        obtain⟨rfl,hy⟩:=hy;have hy:=hy _ (SqL.of hl');rw[hx0]at hy;cases hy;rw[cJ hlt]at J;unfold J9 at J;have g1:(σ'.set 3 (some O))[1]? =some (some vb):=by rw[aC (by decide)];exact c1
        have g2:(σ'.set 3 (some O))[2]? =some (some (V.ref d)):=by rw[aC (by decide)];exact c2
        have g3:(σ'.set 3 (some O))[3]? =some (some O):=bj (by omega)
        refine⟨.ref d,g2,.inr (.inr (.inl ⟨rfl,.inr ⟨kvs,M⟩⟩)),vb,g1,O,g3,Bc,[tr,C[i]],rfl,N,.cons (r2.mono bB) (.cons rx0 .nil), ?_⟩;cases egw:gw [tr,C[i]] with
        | bad=>rw[egw]at J;cases J
        | ex c=>rw[egw]at J;cases J
        | ok tw=>
         rw[egw]at J;intro v2 H2 s2 rv2;cases rv2 with
         | @tup b vs' ts' hb rb=>
          have J:(match Zu ts' with | some k=>J9 (λw=>gw [tr,w]) (C.drop (i+1)) (wa k C[i] es) | none=> .bad)= .ok esF:=J
          cases ek:Zu ts' with
          | none=>rw[ek]at J;cases J
          | some kk=>
           rw[ek]at J;have hvs:=uP rb ek;have hb2:H2 b=some (.tup vs'):=zv.le N s2 _ _ hb;refine⟨aX _,λp hp=> ?_⟩;have kp:∀c o,H2 c=some o->ml H2 p (HO.lst []) c=some o:=λc o a=>by rw[zg (λz=>by rw[z,hp]at a;cases a)];exact a
           refine⟨d,kvs,kI kk,b,.ref p,rfl,rfl,kp _ _ (s2 _ _ M),by rw[Dw,← hvs];exact kp _ _ hb2,WG (by omega), ?_⟩
           have rx:Rep Bc O C[i]:=rx0;have kb2:H b=none\/Bc b=some (.tup (kk.map V.bl)):=by
            rw[← hvs];cases q:G b with
            | none=>exact .inl (sH'.free q)
            | some u=>rw[zE q]at hb;exact .inr hb
           cases hv:Y6 kvs (kI kk) with
           | some v=>
            obtain⟨l1,xs1,rfl,m1,h1,n1,fin⟩:=en.old rx hv;have h2:=kp _ _ (s2 _ _ h1);have keep:∀c o,G c=some o->c ≠ l1->ml (ml H2 p (HO.lst [])) l1 (HO.lst (xs1++[O])) c=some o:=λc o a hne=>by rw[zg hne];exact kp _ _ (s2 _ _ a)
            have bl1:Bc l1=none:=en.bnone m1;refine⟨.inl ⟨rfl,xs1,SqL.of h2⟩,O,g3,l1,xs1,O,rfl,rfl,h2,WG (by omega),rfl,(λc o a=>keep c o (N _ _ a) λz=>by rw[z,bl1]at a;cases a),(λc o a=>keep c o (sH' _ _ a) λz=>by rw[z,hn l1 m1]at a;cases a),_,kvs,ls,keep _ _ M λz=>dn (z ▸ m1),fin _ zh (λc a hne=> ?_) (λc ys a=>keep c _ a λz=>by rw[z,h1]at a;cases a),dn,hn,by omega,J⟩
            obtain⟨xc,I⟩:=en.islst a;rw[I];exact keep _ _ I hne
           | none=>
            have pd:p ≠ d:=λz=>by rw[z,s2 _ _ M]at hp;cases hp
            have pH' :G p=none:=s2.free hp;have pl:p ∉ ls:=λz=>by obtain⟨xc,I⟩:=en.islst z;rw[pH']at I;cases I
            have h2:ml (ml H2 p (HO.lst [])) d (HO.dT (kvs++[(kI kk,b,V.ref p)])) p=some (.lst []):=by rw[zg pd,zh]
            have keep:∀c o,G c=some o->c ≠ d->ml (ml (ml H2 p (HO.lst [])) d (HO.dT (kvs++[(kI kk,b,V.ref p)]))) p (HO.lst ([]++[O])) c=some o:=λc o a hne=>by
             rw[zg (λz=>by rw[z,pH']at a;cases a),zg hne];exact kp _ _ (s2 _ _ a)
            refine⟨.inl ⟨rfl,[],SqL.of h2⟩,O,g3,p,[],O,rfl,rfl,h2,by show 0 < sizeLine;exact bC (aX _) (WG (show 0 < mq by decide)),rfl,(λc o a=>keep c o (N _ _ a) λz=>by rw[z,bd]at a;cases a),(λc o a=>keep c o (sH' _ _ a) λz=>by rw[z,hd]at a;cases a),_,_,_,by rw[zg (bf pd),zh],en.new rx (N.free pH') pl hv _ ⟨?_,kb2⟩ zh (λc a=> ?_) (λc ys a=>keep c _ a λz=>by rw[z,M]at a;cases a),λz=> ?_,λc a=> ?_,by rw[ay,aI];omega,J⟩
            ·have bt:H2 b=some (.tup (kk.map V.bl)):=by rw[← hvs];exact hb2
             rw[zg (λz=>by rw[z,hp]at bt;cases bt),zg (λz=>by rw[z,s2 _ _ M]at bt;cases bt)];exact kp _ _ bt
            ·obtain⟨xc,I⟩:=en.islst a;rw[I];exact keep _ _ I λz=>dn (z ▸ a)
            ·rcases ce.mp z with z | z
             ·exact dn z
             ·exact pd (av.mp z).symm
            ·rcases ce.mp a with z | z
             ·exact hn c z
             ·rw[av.mp z];exact sH'.free pH'
         | _=>cases J
       ·have e:i=C.length:=by omega
        subst e;rw[e_]at J;cases J;exact .inl ⟨⟨xs,SqL.of hl',by rw[rxs.length];exact ah _⟩,.ref d,c2,q d kvs ls G Bc _ sH' bB (bG G N) hd bd M en dn hn⟩
     | _=>exact q.elim
section
variable {es:Array DictEntry}{Q:Option Value->Shared->Prop}
theorem VG (j:IsItemIter s.heap it d i es.size ep ok ov)(X:s.heap.get? d=some od)(hd:od.data= .dict es ep)(hx:i < es.size)
  (hQ:∀h',IsItemIterOut h' it d (i+1) es.size ep es[i].key es[i].val s.heap.objs.size->h'.get? s.heap.objs.size=some { cls:= .type "tuple",data:= .seq #[es[i].key,es[i].val] }->
   (∀b o,b ≠ it->s.heap.get? b=some o->h'.get? b=some o)->Q (some (.ref s.heap.objs.size)) { s with heap:=h' }):wpAny (model prog w) A (pyNext (.ref it)) Q E s:=by
 obtain⟨hp,g,l,tk,os⟩:=s;have hT:du ⟨hp,g,l,tk,os⟩ (.ref it) "dict_itemiterator":=⟨_,j,rfl⟩;unfold pyNext;refine a8 (cj (aW (name:=aD "__next__") hT bL (aL bL hT f7 ?_ (eX _))));refine a8 (aa (a8 (a8 ?_)))
 first | refine a8 (wpAny_typeNameOfWhole_itemiter hT (aa ?_)) | refine a8 (wpAny_typeNameOf_itemiter hT (aa ?_))
 refine a8 (dE j rfl ?_);have O:bS "dict_itemiterator"=true:=by decide
 simp only[O,if_true];show wpAny _ _ (if (Value.ref d == Value.none)=true then _ else _) _ _ _
 rw[if_neg (show ¬ ((Value.ref d == Value.none)=true) from ax)];refine a8 (aa (a8 (cu X hd ?_)));rw[if_neg (by simp)]
 refine a8 (aa (a8 (dq X hd ?_)));rw[if_neg (by simp)]
 refine aa ?_;simp only[show ¬ ((i:Int) < 0) from by omega,if_false,bv,bu hx]
 refine a8 ?_
 first | refine a8 (wpAny_typeNameOfWhole_itemiter hT (aa ?_)) | refine a8 (wpAny_typeNameOf_itemiter hT (aa ?_))
 refine a8 (wpAny_isOneOf_itemiter hT ?_);show wpAny _ _ (setField (.ref it) 3 (rawInt ((i:Int)+1)) >>= _) _ _ ⟨hp,g,l,tk,os⟩;refine a8 (aO j (by simp) λq u r=> ?_)
 have r:aQ it hp q:=r;have u:IsItemIter q it d (i+1) es.size ep ok ov:=by
  unfold IsItemIter;rw[show ((i+1:Nat):Int)=(i:Int)+1 by omega];simpa[rawInt] using u
 have p:du ⟨q,g,l,tk,os⟩ (.ref it) "dict_itemiterator":=⟨_,u,rfl⟩;refine a8 (bi (a8 (wpAny_isOneOf_itemiter p (a8 (wpAny_isOneOf_itemiter p ?_)))));show wpAny _ _ (eT (.ref it) 6 es[i].key es[i].val) _ _ ⟨q,g,l,tk,os⟩;unfold eT;refine a8 (wpAny_newTuple ?_);obtain⟨k,a⟩:∃k,k=q.push { cls:= .type "tuple",data:= .seq #[es[i].key,es[i].val] }:=⟨_,rfl⟩;have v:IsItemIter k it d (i+1) es.size ep ok ov:=by rw[a];exact a9 _ u
 have F:hp.objs.size ≠ it:=c8 (ao j);have t2:k.get? hp.objs.size=some { cls:= .type "tuple",data:= .seq #[es[i].key,es[i].val] }:=by rw[a,← r.1];exact ae _ rfl
 have k2:∀b o,b ≠ it->hp.get? b=some o->k.get? b=some o:=λb o c e=>by rw[a];exact a9 _ (r.extBut b o c e)
 show wpAny _ _ (d_ (.ref it) >>= _) _ _ ⟨_,g,l,tk,os⟩;rw[← a,r.1]
 clear a
 refine a8 ?_;unfold d_;refine a8 (b9 v rfl (x:= .none) rfl (aa ?_));simp only[if_true];refine a8 (b9 v rfl (x:=ok) rfl (a8 (b9 v rfl (x:=ov) rfl ?_)));refine a8 (aO v (by simp) λD M J=> ?_)
 have J:aQ it k D:=J;have M:IsItemIter D it d (i+1) es.size ep es[i].key ov:=M;refine a8 (aO M (by simp) λG C y=> ?_)
 have y:aQ it D G:=y;have C:IsItemIter G it d (i+1) es.size ep es[i].key es[i].val:=C;refine a8 (aO C (by simp) λB I S=> ?_)
 have S:aQ it G B:=S;have I:IsItemIterOut B it d (i+1) es.size ep es[i].key es[i].val hp.objs.size:=I;refine a8 (aO I (by simp) λP Z N=> ?_)
 have N:aQ it B P:=N;have U:∀b o,b ≠ it->k.get? b=some o->P.get? b=some o:=λb o c e=>N.extBut b o c (S.extBut b o c (y.extBut b o c (J.extBut b o c e)));exact a8 (dC (aa (aa ⟨_,rfl,aa (hQ P Z (U _ _ F t2) λb o c e=>U b o c (k2 b o c e))⟩)))
theorem Q4 (k:A.handled=none)(c:IsItemIter s.heap it d i es.size ep ok ov)(g:s.heap.get? d=some od)(hd:od.data= .dict es ep)(j:es.size<=i)(l:∀h',fg it s.heap h' ->Q none { s with heap:=h' }):wpAny (model prog w) A (pyNext (.ref it)) Q E s:=by
 have hT:s.TypeIs (.ref it) "dict_itemiterator":=⟨_,c,rfl⟩;unfold pyNext;refine a8 (cj (aW (name:=aD "__next__") hT bL (aL bL hT f7 ?_ (eX _))));refine a8 (aa (a8 (a8 ?_)))
 first | refine a8 (wpAny_typeNameOfWhole_itemiter hT (aa ?_)) | refine a8 (wpAny_typeNameOf_itemiter hT (aa ?_))
 refine a8 (dE c rfl ?_);have e:bS "dict_itemiterator"=true:=by decide
 simp only[e,if_true];show wpAny _ _ (if (Value.ref d == Value.none)=true then _ else _) _ _ _
 rw[if_neg (show ¬ ((Value.ref d == Value.none)=true) from ax)];refine a8 (aa (a8 (cu g hd ?_)));rw[if_neg (by simp)]
 refine a8 (aa (a8 (dq g hd ?_)));rw[if_neg (by simp)]
 refine aa ?_;simp only[show ¬ ((i:Int) < 0) from by omega,if_false,bv,bw j]
 refine a8 ?_
 first | refine a8 (wpAny_typeNameOfWhole_itemiter hT (aa ?_)) | refine a8 (wpAny_typeNameOf_itemiter hT (aa ?_))
 show wpAny _ _ (setField (.ref it) 2 .none >>= _) _ _ s;refine a8 (wpAny_setField c rfl (by simp) ?_)
 show wpAny _ _ (newExc (.type "StopIteration") [] >>= _) _ _ _;refine a8 ?_;simp only[newExc,newTuple];refine a8 (aJ ?_ (by size_fits))
 refine a8 (m:=firstArgMember _ _) (bz (a:=Value.none) (by first | rfl | (simp only[firstArgMember];rfl)) ?_)
 refine aJ ?_ (by size_fits)
 simp only[raiseNew];refine a8 (wpAny_handled ?_);rw[show A.in1.handled=none from k];refine a8 (aa (wpAny_throw ?_));refine a8 (c6 (T:="StopIteration") (b:=true) ⟨_,ae _ rfl,rfl⟩ isSubtype_stop ?_);exact aa (l _ (((bF ..).extBut.push _).push _))
end
end PV
namespace L2
open PySem PySem.Spec PyProof.Rows PySem.W
section
theorem Inv.freeze (I:Inv X pins σ H s){kvs:List (List mG×Addr×V)}(hd:H d=some (.dT kvs))(v:s.heap.get? d=some o):Inv X pins σ (ml H d (.frz o (.dT kvs))) s:=by
 have k:∀b j,H b=some (.tup j)->ml H d (.frz o (.dT kvs)) b=some (.tup j):=λb j e=>by rw[zg (Ya e hd (λz=>nomatch z))];exact e
 have i:∀b g u,H b=some (.frz g u)->ml H d (.frz o (.dT kvs)) b=some (.frz g u):=λb g u e=>by rw[zg (Ya e hd (λz=>nomatch z))];exact e
 have r:∀a b,H b=some (.own a)->ml H d (.frz o (.dT kvs)) b=some (.own a):=λa b e=>by rw[zg (Ya e hd (λz=>nomatch z))];exact e
 have l:HOk X.prog X.w (ml H d (.frz o (.dT kvs))) s.heap:=λb u e=>by
  by_cases p:b=d
  ·subst p;rw[zh]at e;cases e;exact⟨v,(I.hok _ _ hd).stay (λ_ _ _ q=>q) (λc q=>r _ c q) k i⟩
  ·rw[zg p]at e;exact(I.hok b u e).stay (λ_ _ _ q=>q) (λc q=>r _ c q) k i
 exact I.step (ch:=[]) (λ_ z=>nomatch z) (λb o _ _ _ e _=>e) (λb o _ _ _ e _=>⟨o.slots,e⟩) (λb g _ e n=>by rw[zg (λz=>by rw[z,hd]at n;cases n)];exact n) (λb o _ e=>⟨o,e⟩) k i (λb x q e=>by rw[zg (Ya e hd (λz=>nomatch z))];exact e) (λm h=>h) l I.bare
end
end L2
namespace PV
open PySem PySem.Spec PyProof.Rows L2 PySem.W
def sU (d:Addr)(o:Obj):It:=⟨λi H=>∃kvs,H d=some (.frz o (.dT kvs))/\i < kvs.length,λi H x a =>∃kvs k v b T,H d=some (.frz o (.dT kvs))/\kvs[i]? =some (k,b,v)/\H b=some (.tup (k.map kV))/\x= .ref T/\H T=none/\a =ml H T (.tup [.ref b,v]),λi H=>∃kvs,H d=some (.frz o (.dT kvs))/\kvs.length<=i⟩
theorem JE:∀{kvs:List (List mG×Addr×V)} {a:List (List mG×Addr×Value)},KT H kvs a->∀(i:Nat) (p:List mG×Addr×V),kvs[i]? =some p->∃u,a[i]? =some (p.1,p.2.1,u)/\H p.2.1=some (.tup (p.1.map kV))/\RelV p.2.2 u
 | _,_,.nil,i,p,h=>by simp at h
 | _,_,.cons (b:=q) c t,0,p,h=>by
  cases h;obtain⟨e,g,j,d⟩:=c;refine⟨q.2.2, ?_,by rw[d];exact g,j⟩
  rw[e,d];rfl
 | _,_,.cons c t,i+1,p,h=>JE t i p h
theorem CD {kvs:List (List mG×Addr×V)}{a:Array DictEntry}(ok:HOk P w H h)(hd:H d=some (.frz o (.dT kvs)))(G:o.data= .dict a ep):
  h.get? d=some o/\a.size=kvs.length/\∀(i:Nat) (hi:i < a.size),∃k v b u,kvs[i]? =some (k,b,v)/\H b=some (.tup (k.map kV))/\RelV v u/\a[i].key= .ref b/\a[i].val=u:=by
 obtain⟨g,z,y,C,c,M,es',F,l,J,j,q,I⟩:=ok d _ hd;rw[g]at l;cases l;rw[G]at j;cases j;have r:a.size=C.length:=by rw[← aP,q,af]
 refine⟨g,by rw[r,dR c],λi hi=> ?_⟩
 have e :i < kvs.length:=by rw[dR c,← r];exact hi
 obtain⟨u,D,x,B⟩:=JE c i kvs[i] (ak e);refine⟨kvs[i].1,kvs[i].2.2,kvs[i].2.1,u,by rw[ak e],x,B, ?_⟩
 have p:a.toList[i]? =some (entryOfKey (tupleKind (zZ P w)) (kvs[i].1,kvs[i].2.1,u)):=by rw[q,aw,D];rfl
 rw[dz,bu hi]at p;rw[aE p];exact⟨rfl,rfl⟩
theorem VH:entryFor table "dict_itemiterator.__iter__"=some Builtin.«dict_keyiterator.__iter__»:=entryFor_alias (id' :="dict_keyiterator.__iter__") (by kernel_rfl) rfl (by decide+kernel) (by kernel_rfl)
theorem yL {P:Program}{w:World}{K:Frag}{j:List Expr}{kk:Nat}{pt:Pos}(it d:Addr)(o:Obj)(M:Array DictEntry)(ep:Nat)(q:o.data= .dict M ep)(hne:d ≠ it):
  U3 P w K (.Tuple j kk pt) (sU d o) [it] it (λi h=>∃ok g,IsItemIter h it d i M.size ep ok g) where
 mem:=by simp
 obj:=λi h ⟨ok,g,st⟩ b J=>by
  rw[av.mp J];exact⟨_,st,λv z=>nomatch z⟩
 keep:=λi h h' ⟨ok,g,st⟩ k=>⟨ok,g,k it (by simp) _ st⟩
 item:=by
  intro X C B G a i l s σ H E I r ⟨ok,g,st⟩ ⟨kvs,hd,hi⟩;subst C B G;obtain⟨N,hsz,y⟩:=CD I.hok hd q;have p :i < M.size:=by rw[hsz];exact hi
  obtain⟨k,v,b,u,a1,a2,a3,a4,a5⟩:=y i p;have x:H s.heap.objs.size=none:=I.hok.fresh (ah _);have hT:s.heap.objs.size ≠ it:=c8 (ao st);refine VG st N q p λh' x6 t6 k6=>⟨_,rfl,wpAny_letOwnedTupleGo_items x6 λh2 O S=>⟨.ref s.heap.objs.size,ml H s.heap.objs.size (.tup [.ref b,v]), ?_,rfl,⟨kvs,k,v,b,_,hd,a1,a2,rfl,x,rfl⟩,⟨_,_,O⟩,λc a=> ?_⟩⟩
  ·have U:=S.extBut _ _ hT t6;refine Inv.laidT (s:=s) (h' :=h2) (ch:=[it]) (tk:=s.toks) I r (λc D a e=>S.extBut c D (λz=>a (by simp[z])) (k6 c D (λz=>a (by simp[z])) e)) (λc D a _=> ?_) (ah _) ⟨by rw[bV];show 2<=16777216;decide,[.ref b,u],.cons rfl (.cons a3 .nil),⟨_,U,rfl,0,by rw[a4,a5]⟩,.inr ⟨_,U,rfl⟩⟩
   rw[av.mp a];exact⟨_,O⟩
  ·rw[av.mp a,zg hT.symm];exact(r it (by simp)).1
 done:=by
  intro X C B G a i l s σ H E I r ⟨ok,g,st⟩ ⟨kvs,hd,hi⟩;subst C B G;obtain⟨N,hsz,_⟩:=CD I.hok hd q;refine Q4 (I.ok.hd a) st N q (by rw[hsz];exact hi) λh' Z=>⟨rfl, ?_⟩
  obtain⟨f0,f1,f2,f3,f4,f5⟩:=r it (by simp)
  exact I.turned (t' :=s.toks) (λb o J e=>Z b o J e) f0 f1 f3 f4 f5
 self:=λA i s Q E ⟨ok,g,st⟩ h=>by
  have hT:s.TypeIs (.ref it) "dict_itemiterator":=⟨_,st,rfl⟩;refine cP hT fj (aL fj hT VH ?_ (F.args_dict_itemiterator_iter_1 _));show wpAny _ _ (ret (.ref it)) _ _ s;exact aa ⟨_,rfl,"dict_itemiterator",_,hT,bL.lookup,h⟩
theorem yM {g:Array DictEntry}(c:s.heap.IsItemsView v d)(e:s.heap.get? d=some od)(hd:od.data= .dict g ep)
  (k:Q (.ref s.heap.objs.size) { s with heap:=s.heap.push { cls:= .type "dict_itemiterator",data:= .fields #[.none,.bool false,.ref d,.int 0 0,.int g.size 0,.int ep 0,.none,.none] } }):wpAny (model prog w) A (pyIter (.ref v)) Q E s:=by
 obtain⟨o,j,l,i⟩:=id c;refine cP c.typeIs ir (aL ir c.typeIs F.entry_dict_items_iter ?_ (F.args_dict_items_iter_1 _));unfold Builtin.«dict_items.__iter__»;refine a8 (aa (a8 ?_));unfold fX;refine a8 (b9 j i (x:= .ref d) rfl (aa (a8 ?_)));unfold f8;refine a8 (cu e hd (a8 (dq e hd ?_)));have a:bS "dict_itemiterator"=true:=by decide
 simp only[a,if_true];refine aJ (aa ⟨_,rfl,"dict_itemiterator",_,⟨_,ae _ rfl,rfl⟩,bL.lookup, ?_⟩)
  (by simp only[sizeOk,e9,aF,ay,ar,bR,bV];omega)
 simpa[rawInt,e9] using k
theorem VI {X:Cx}{i:Nat}{x:Str}{g D pos pt:Pos}{k:List Expr}{S:Nat}(hv:PE X (.Name x g) (Jo i))(q:attributeBase (.Name x g) "items" X.env (eval (.Name x g) X.env)=eval (.Name x g) X.env:=by rfl)(hl:(D.endLine == pos.line)=true:=by rfl):
  PI X (.Tuple k S pt) (.Call (.Attribute (.Name x g) "items" D) [] [] pos) (λl H R=>∃d kvs,l[i]? =some (some (V.ref d))/\H d=some (.dT kvs)/\∀o,R (sU d o) (ml H d (.frz o (.dT kvs)))):=by
 intro J s l H R I ⟨d,kvs,u,hd,P⟩;refine wpAny_Call_method0_late q hl (mo (hv _ s l H (λv U =>v= .ref d/\U =H) I ⟨_,u,rfl,rfl⟩) λv c ⟨x1,Z,y,r1,e1,e2⟩=> ?_);subst e1 e2;cases r1;obtain⟨z,N,xs,Q,o,G,ep,j,C,B,h4⟩:=VD y.hok hd;have hT:c.TypeIs (.ref d) "dict":=⟨o,j,C.1⟩;have r:=y.freeze hd j;refine⟨"dict","dict.items",F.plainAttrs_dict,lG,F.type_dict_items,hT,λa O=>by cases O;exact⟨o,j,C.2.1⟩,eK rfl (iQ ?_)⟩
 refine aL lG hT F.entry_dict_items ?_ (F.args_dict_items_1 _);unfold Builtin.«dict.items»;refine a8 ?_;unfold iS;refine a8 (wpAny_notOrdered_dict hT ?_);show wpAny _ _ (pure d) _ _ c;refine aa ?_;show wpAny _ _ (dA d >>= _) _ _ c;unfold dA;rw[if_neg (by rw[N];exact ax)]
 refine a8 (aa (a8 (aJ (aa ⟨_,rfl, ?_⟩))));have M:∀b ob,c.heap.get? b=some ob->(c.heap.push { cls:= .type "dict_items",data:= .fields #[.ref d] }).get? b=some ob:=λb ob e=>a9 _ e;have p:(c.heap.push { cls:= .type "dict_items",data:= .fields #[.ref d] }).IsItemsView c.heap.objs.size d:=⟨_,ae _ rfl,rfl,rfl⟩;refine yM (s:={ c with heap:=c.heap.push { cls:= .type "dict_items",data:= .fields #[.ref d] } }) p (M _ _ j) B ?_;have hz:(c.heap.push { cls:= .type "dict_items",data:= .fields #[.ref d] }).objs.size=c.heap.objs.size+1:=be ..;have I3:Inv X _ l (ml Z d (.frz o (.dT kvs))) { c with heap:=(c.heap.push { cls:= .type "dict_items",data:= .fields #[.ref d] }).push { cls:= .type "dict_itemiterator",data:= .fields #[.none,.bool false,.ref d,.int 0 0,.int G.size 0,.int ep 0,.none,.none] } }:=r.kept λb ob e=>a9 _ (M b ob e);have w:=ao j;refine⟨_,[_],_,_,_,rfl,I3,yL _ d o G ep B (au (aM w (by show c.heap.objs.size<=(c.heap.push _).objs.size;rw[hz];exact cC _))),⟨.none,.none,ae _ rfl⟩,λb q=> ?_,P o⟩
 rw[av.mp q,hz];exact r.fpOk (cC _) (r.hok.fresh (cC _))
end PV
namespace PV
open PySem PySem.Spec PyProof.Rows L2 PySem.W PySem.Calls
section
noncomputable abbrev nB (k:List Bool):List Nat:=k.map Bool.toNat
theorem X4 {a b:List Bool}(h:nB a=nB b):a=b:=(l7 λx y e=>by cases x <;> cases y <;> first | rfl | cases e).mp h
theorem Dr {x y:List Bool}{P:Fin->Shared->Prop}(hx:IsTupleKey (Zm prog w) s.heap x a)(hy:IsTupleKey (Zm prog w) s.heap y b)(h:P (.done (.ret (.bool (decide (nB x < nB y))))) s):
  wpAny (model prog w) A (Builtin.«tuple.__lt__» ⟨[.ref a,.ref b],[]⟩) P E s:=by
 have I:=hy.typeIs;obtain⟨oa,B,na,J,_,U,Z⟩:=hx;obtain⟨ob,p,nb,N,_,F,Q⟩:=hy;show wpAny _ _ (isInstance (.ref b) (.type "tuple") >>= _) _ _ s;refine a8 (c6 I isSubtype_tuple_tuple ?_);simp only[dY,az,if_false];refine a8 (wpAny_tupleItemsOf J U (a8 (wpAny_tupleItemsOf N F (a8 ?_))));refine wpAny_forIn_list _ (λrest r C =>r.1=none/\C =s/\∃q l e g,rest=List.zip e g /\ItemsAre (Zm prog w) q e /\ItemsAre (Zm prog w) l g /\decide (nB q < nB l)=decide (nB x < nB y)/\e.length+p.size=g.length+B.size) _ ?_ ?_ _ _ ⟨rfl,rfl,x,y,B.toList,p.toList,rfl,Z,Q,rfl,by simp;omega⟩
 ·rintro⟨u,v⟩ rest r C ⟨hr,rfl,q,l,e,g,hz,j,i,d,c⟩
  cases j with
  | nil=>simp at hz
  | @cons D u' x2 O h1 S=>
   cases i with
   | nil=>simp at hz
   | @cons o v' y2 M h2 X=>
    simp only[l8,List.cons.injEq,Prod.mk.injEq]at hz;obtain⟨⟨rfl,rfl⟩,rfl⟩:=hz;refine a8 ((Zm prog w).eqBool (a:=D) (b:=o) h1 h2 ?_);obtain rfl:=Zh h1;obtain rfl:=Zh h2
    by_cases G:D=o
    ·subst G;rw[decide_eq_true rfl];simp only[dY,az,if_false];refine aa ⟨rfl,rfl,x2,y2,O,M,rfl,S,X, ?_,by simp at c;omega⟩
     rw[← d];simp[nB]
    ·rw[decide_eq_false G];simp only[Bool.not_false,if_true];refine a8 (cx (a8 (PyProof.Rows.lt_bool ?_)));have hf:decide (b2i D < b2i o)=decide (nB x < nB y):=by
      rw[← d];cases D <;> cases o <;> first | exact absurd rfl G | (rw[decide_eq_decide];show _↔_ :: _ < _ :: _;rw[List.cons_lt_cons_iff];simp[b2i])
     rw[hf];exact a8 (aa (aa (aa h)))
 ·rintro⟨r1,r2⟩ C ⟨hr,rfl,q,l,e,g,hz,j,i,d,c⟩
  simp only at hr;subst hr;refine aa ?_;have k:decide (B.size < p.size)=decide (nB x < nB y):=by
   rw[← d];cases j with
   | nil=>
    cases i with
    | nil=>simp at c;simp[nB];omega
    | cons _ _=>simp at c;simp[nB];omega
   | cons _ _=>
    cases i with
    | nil=>simp at c;simp[nB];omega
    | cons _ _=>simp at hz
  show P (.done (.ret (.bool (decide (B.size < p.size))))) C;rw[k];exact h
theorem Fi {x y:List Bool}{Q:Bool->Shared->Prop}(d:A.units < cLine)(c:IsTupleKey (Zm prog w) s.heap x a)(hy:IsTupleKey (Zm prog w) s.heap y b)(h:Q (decide (nB x < nB y)) s):wpAny (model prog w) A (oneLt' false (.ref a) (.ref b)) Q E s:=
 kat_one _ _ (wpAny_richCompare_same_room (op:= .Lt) c.typeIs hy.typeIs iC (aL iC c.typeIs PySem.F.entry_tuple_lt (Dr c hy ⟨_,rfl,(λe=>nomatch e),h⟩) (PySem.F.args_tuple_lt_2 _ _)) d)
def X5 (prog:Program)(w:World)(h:Heap)(v:Value)(x:List Bool):Prop:=∃a o b r n,v= .ref a/\h.get? a=some o/\o.cls= .type "tuple"/\o.data= .seq (#[Value.ref b]++r) n/\IsTupleKey (Zm prog w) h x b
theorem X5.keep {x:List Bool}(k:∀b o,h.get? b=some o->(o.cls= .type "tuple")->h'.get? b=some o):X5 prog w h v x->X5 prog w h' v x
 | ⟨a,o,b,r,n,j,g,c,l,i,it,m,p,d,e⟩=>⟨a,o,b,r,n,j,k _ _ g c,c,l,i,it,m,k _ _ p d,d,e⟩
theorem Q5:∀(vs:List Value) (d:List (List Bool)),vs.length=d.length->(∀(i:Nat) (v:Value) (x:List Bool),vs[i]? =some v->d[i]? =some x->X5 prog w h v x)->∃fs:List Value,KatTups h vs fs/\fs.length=vs.length/\∀f∈fs,∃b o,f=Value.ref b/\h.get? b=some o/\o.cls= .type "tuple"
 | [],_,_,_=>⟨[],trivial,rfl,λf c=>by cases c⟩
 | v :: vs,[],e,_=>by cases e
 | v :: vs,x :: d,e,H=>by
  obtain⟨fs,k,l,q⟩:=Q5 vs d (by simpa using e) λi v x g p=>H (i+1) v x (by simpa using g) (by simpa using p)
  obtain⟨a,o,b,r,n,rfl,B,C,u,D,it,m,y,j,F⟩:=H 0 v x rfl rfl;refine⟨.ref b :: fs,⟨⟨a,o,_,n,rfl,B,C,u,by rw[Array.getElem?_append_left (by simp)];rfl⟩,k⟩,by simp[l],λf c=> ?_⟩
  rcases ag.mp c with rfl | c
  ·exact⟨b,D,rfl,y,j⟩
  ·exact q f c
theorem Ek {c:List (List Bool)}(D:A.units < cLine)(X:vs.length=c.length)(H:∀(i:Nat) (v:Value) (x:List Bool),vs[i]? =some v->c[i]? =some x->X5 prog w s.heap v x)(hn:c.Nodup)(hi:i < vs.length)(G:j < vs.length)(e:i ≠ j){C:Bool->Shared->Prop}(J:C (decide (nB (c.getD i []) < nB (c.getD j []))) s):
  kas_ask prog w A (tuples' false) vs i j C s:=by
 unfold kas_ask;have u:∀k,k < vs.length->vs[k]? =some (vs.getD k Value.none):=λk h=>by simp[h]
 have q:∀k,k < vs.length->c[k]? =some (c.getD k []):=λk h=>by
  have:k < c.length:=by omega
  simp[this]
 obtain⟨a,o,b,r,n,S,P,Z,N,p⟩:=H i _ _ (u i hi) (q i hi);obtain⟨a',o',F,B,n',O,M,U,I,y⟩:=H j _ _ (u j G) (q j G);rw[S,O];refine kat_lt P N M I ?_;have Q:((#[Value.ref b]++r).toList.zip (#[Value.ref F]++B).toList)=(Value.ref b,Value.ref F) :: r.toList.zip B.toList:=by simp
 rw[Q];refine kat_cons (wpAny_eqBool_tuple D p y ?_);have d:c.getD i [] ≠ c.getD j []:=λz=>by
  have l :i < c.length:=by omega
  have g :j < c.length:=by omega
  exact e ((dI hn).mp (by simpa[l,g] using z))
 rw[decide_eq_false d];exact kat_no (Fi D p y J)
theorem Q6 {g:List (List Bool)}{P:PySem.Fin->Shared->Prop}(hu:A.units < cLine)(M:s.heap.get? a=some (seqObj "list" vs.toArray n))(U:vs.length=g.length)(H:∀(i:Nat) (v:Value) (x:List Bool),vs[i]? =some v->g[i]? =some x->X5 prog w s.heap v x)(hn:g.Nodup)(S:vs.length < 64)
  (h:∀p:Array Nat,Pm vs.length p->So (O:=strKind.toKeyOrd) (λi=>nB (g.getD i [])) p vs.length->P (.done (.ret .none)) { s with heap:=sortedHeap s.heap a vs (p.toList.map λi=>vs.getD i Value.none).toArray }):
  wpAny (model prog w) A (Builtin.«list.sort» ⟨[.ref a],[]⟩) P E s:=by
 rw[list_sort_plain];refine a8 (listItems_at M rfl (a8 (listUpdate_at M rfl ?_)));obtain⟨e1,B⟩:∃e1,(s.heap.update a (cS λ_=> #[])).get? a=some _:=⟨_,get?_update_seq M λ_=> #[]⟩;refine a8 (seqEpoch_at B rfl (a8 (wpAny_newTuple (a8 (wpAny_newList (bi ?_))))));have l:(((s.heap.update a (cS λ_=> #[])).push (seqObj "tuple" vs.toArray 0)).push (seqObj "list" #[] 0)).get? a=some _:=a9 _ (a9 _ B);have keep:∀b o,s.heap.get? b=some o->o.cls= .type "tuple"->(((s.heap.update a (cS λ_=> #[])).push (seqObj "tuple" vs.toArray 0)).push (seqObj "list" #[] 0)).get? b=some o:=λb o e c=>by
  have hb:b ≠ a:=λz=>by subst z;rw[M]at e;cases e;have c' :=c;injection c' with c2;exact absurd c2 (by decide)
  exact a9 _ (a9 _ ((iT _ _ _ _ hb).trans e))
 dsimp only;have hsz:vs.toArray.size=vs.length:=by simp
 by_cases I:vs.toArray.size < 2
 ·rw[if_pos I,if_pos I];refine a8 (aa ?_);refine a8 (aa ?_);dsimp only;refine a8 (seqEpoch_at l rfl (a8 (listUpdate_at l rfl ?_ (hsz2:=by rw[Array.size_map];show (pairsOf vs).size<=_;rw[pairsOf_size,bV];omega))))
  simp only[bne_self_eq_false,az,if_false];have hp:=h (ba vs.length).toArray ⟨by simp,by simp⟩ λi j u N=>by omega
  have e:((arrOf (SortSt.mk' general' (vs.toArray.zip vs.toArray) #[] 7 none)).map (·.2))=(((ba vs.length).toArray).toList.map λi=>vs.getD i Value.none).toArray:=by
   show (vs.toArray.zip vs.toArray).map (·.2)=_;have:vs.length=0\/vs.length=1:=by omega
   match vs,this with
   | [],_=>simp
   | [v],_=>simp
  rw[e];exact aa hp
 ·rw[if_neg I,if_neg I];have y :2<=vs.length:=by omega
  obtain⟨fs,kt,fl,Z⟩:=Q5 vs g U λi v x q r=>(H i v x q r).keep keep;refine a8 (kat_kind (T:= .type "tuple") kt (by omega) (λv hv=> ?_) (by decide) ?_)
  ·obtain⟨b,o,rfl,g1,g2⟩:=Z v hv;have z:Looks (model prog w) _ (typeOf (.ref b)) o.cls:=(Looks.ld g1).andThen .now;rw[g2]at z;exact z
  refine a8 (cG (kat_run rfl (vs:=vs) (Q:=λd k =>k ={ s with heap:=((s.heap.update a (cS λ_=> #[])).push (seqObj "tuple" vs.toArray 0)).push (seqObj "list" #[] 0) }/\failedOf d =none/\∃p:Array Nat,Pm vs.length p/\So (O:=strKind.toKeyOrd) (λi=>nB (g.getD i [])) p vs.length/\(arrOf d).map (·.2)=(p.toList.map λi=>vs.getD i Value.none).toArray)
   (G:=λp k =>k ={ s with heap:=((s.heap.update a (cS λ_=> #[])).push _).push _ }/\Pm vs.length p/\So (O:=strKind.toKeyOrd) (λi=>nB (g.getD i [])) p vs.length) y S (λp d k z1 z2 z3 ⟨z4,z5,z6⟩=>⟨z4,z3,p,z5,z6,kat_snds rfl z2⟩) ?_) ?_ λ_ _ z=>z)
  ·refine Gd.wp (J:=λk =>k ={ s with heap:=((s.heap.update a (cS λ_=> #[])).push _).push _ }) (n:=vs.length) (λi j C k hi N u js hc=> ?_) (λp k ⟨q,r⟩ js=>⟨js,q,r⟩) _ _ (Kc (λi j hi N e=> ?_) y) rfl
   ·subst js;exact Ek hu U (λi v x q r=>(H i v x q r).keep keep) hn hi N u (hc _ rfl)
   ·have F :i < g.length:=by omega
    have D :j < g.length:=by omega
    exact(dI (i:=i) (j:=j) (h₀:=F) (h₁:=D) hn).mp (by simpa[F,D] using X4 e)
  ·rintro⟨⟨⟩,d⟩ k ⟨rfl,hf,p,q,r,X⟩
   refine a8 (seqEpoch_at l rfl (a8 (listUpdate_at l rfl ?_ (hsz2:=by rw[X,aF,af,aP,q.sz,bV];omega))))
   rw[hf];simp only[bne_self_eq_false,az,if_false];rw[X];exact aa (h p q r)
theorem yN {c:List (List Bool)}(r:A.units+2 < cLine)(k:s.heap.IsList l vs.toArray)(q:vs.length=c.length)(H:∀(i:Nat) (v:Value) (x:List Bool),vs[i]? =some v->c[i]? =some x->X5 prog w s.heap v x)(hn:c.Nodup)(g:vs.length < 64)
  (h:∀p:Array Nat,Pm vs.length p->So (O:=strKind.toKeyOrd) (λi=>nB (c.getD i [])) p vs.length->Q (.ref (s.heap.objs.size+1)) { s with heap:=sortedAll s.heap vs (p.toList.map λi=>vs.getD i Value.none).toArray }):
  wpAny (model prog w) A (call (.builtin "sorted") [.ref l]) Q E s:=by
 refine call_function_entry kind_sorted plain_sorted entry_sorted (args_sorted1 _) ?_;refine a8 (aa (a8 (collect_list k (a8 (wpAny_newList ?_)))));have z:((s.heap.push (seqObj "list" #[] 0)).update s.heap.objs.size (cS (·++vs.toArray))).objs.size=s.heap.objs.size+1:=by rw[Heap.size_update,size_push']
 have a:(((s.heap.push _).update _ _).push (seqObj "list" vs.toArray 0)).get? _=some _:=z ▸ ae _ rfl;rw[z];have kp:∀b o,s.heap.get? b=some o->o.cls= .type "tuple"->(((s.heap.push (seqObj "list" #[] 0)).update _ (cS (·++vs.toArray))).push (seqObj "list" vs.toArray 0)).get? b=some o:=λb o e _=>
  a9 _ ((iT _ _ _ _ (au (ao e))).trans (a9 _ e))
 refine a8 (bi (aL slot_list_sort ⟨_,a,rfl⟩ entry_list_sort (Q6 (by show A.units+1+1 < _;omega) a q (λi v x j d=>(H i v x j d).keep kp) hn g λp j d=>⟨_,rfl,aa ⟨_,rfl,h p j d⟩⟩) (args_list_sort _)))
end
end PV
namespace PV
open PySem PySem.Spec PyProof.Rows L2 PySem.W
def kW:T->List Bool
 | .tup (.tup bs :: _)=>(Zu bs).getD []
 | _=>[]
def rQ:T->Bool
 | .tup (.tup bs :: _)=>(Zu bs).isSome
 | _=>false
def rn (a b:T):Bool:= !decide (nB (kW b) < nB (kW a))
def vO (ts:List T):List T:=ts.mergeSort rn
def ww:T->R T
 | .lst ts=>if ts.all rQ=true/\(ts.map kW).Nodup/\ts.length < 64 then .ok (.lst (vO ts)) else .bad
 | _=> .bad
theorem JF (a b:T):rn a b=true↔nB (kW a)<=nB (kW b):=by
 unfold rn;rw[Bool.not_eq_true',decide_eq_false_iff_not,m3]
theorem WY (ts:List T):(vO ts).Perm ts:=iU _ _
theorem Kp (ts:List T):(vO ts).Pairwise λa b=>rn a b=true:=List.pairwise_mergeSort (λa b c d e=>by
 rw[JF]at*;exact List.le_trans d e) (λa b=>by
 rw[iw,JF,JF];exact List.le_total _ _) ts
theorem Q7 (hp:l.Perm ts)(hn:(ts.map kW).Nodup)(q:l.Pairwise λa b=>rn a b=true):l=vO ts:=by
 refine List.Perm.eq_of_pairwise (λa b p o g k=> ?_) q (Kp ts) (hp.trans (WY ts).symm);rw[JF]at g k;have e:=X4 (lW g k);have c :=hp.mem_iff.mp p;have d :=(WY ts).mem_iff.mp o;obtain⟨i,hi,rfl⟩:=dG.mp c;obtain⟨j,r,rfl⟩:=dG.mp d;have:=(dI (h₀:=by simpa using hi) (h₁:=by simpa using r) hn).mp (by simpa using e)
 subst this;rfl
theorem Eb (hn:(ts.map kW).Nodup){q:Array Nat}(a:Pm ts.length q)(r:So (O:=strKind.toKeyOrd) (λi=>nB ((ts.map kW).getD i [])) q ts.length):(q.toList.map λi=>ts.getD i T.non)=vO ts:=by
 refine Q7 ?_ hn ?_
 ·have e:(ba ts.length).map (λi=>ts.getD i T.non)=ts:=by
   refine List.ext_getElem (by simp) λi a r=> ?_
   simp at a ⊢;simp[a]
  exact(a.pm.map _).trans (by rw[e])
 ·rw[List.pairwise_map,dO];intro i j hi l g;rw[aP,a.sz]at hi l;have v:=r i j g l;have u:=a.lt hi;have w:=a.lt l;have o:∀k (c:k < q.toList.length),q.toList[k]=q.getD k 0:=λk c=>by
   have d :=by simpa using c
   simp[iq,d]
  have p:∀k,k < ts.length->(ts.map kW).getD k []=kW (ts.getD k T.non):=λk c=>by simp[c]
  rw[o,o,JF];have x:decide (nB (kW (ts.getD (q.getD i 0) T.non)) < nB (kW (ts.getD (q.getD j 0) T.non)))=true:=by
   rw[← p _ u,← p _ w];exact v
  exact List.le_of_lt (of_decide_eq_true x)
theorem WZ {P:Program}{w:World}:∀{k:List Bool} {a:List Value},Vals (k.map V.bl) a->ItemsAre (Zm P w) k a
 | [],_,r=>by rw[c9]at r;cases r;exact .nil
 | b :: k,_,r=>by
  rw[aA]at r;cases r with
  | cons h t=>
   obtain rfl:=(show _=Value.bool b from h);exact .cons (beq_self_eq_true b) (WZ t)
section
theorem Em (I:L2.Inv X pins σ H s)(r:Rep H v t)(Q:L2.RelV v u)(h:rQ t=true):X5 X.prog X.w s.heap u (kW t):=by
 unfold rQ at h;split at h
 ·rename_i bs rest;obtain⟨k,j⟩:=g_.mp h;have x:kW (.tup (.tup bs :: rest))=k:=by show (Zu bs).getD []=k;rw[j];rfl
  rw[x];cases r with
  | @tup l Z _ e i=>
   obtain rfl:u=Value.ref l:=Q;obtain⟨_,F,p,⟨o,P,G,n,J⟩,_⟩:=I.hok l _ e;cases i with
   | cons N i=>
    cases N with
    | @tup c y _ f g=>
     obtain⟨_,d,a,⟨O,D,C,M,q⟩,_⟩:=I.hok c _ f;rw[uP g j]at a;cases p with
     | @cons _ U _ S B p=>
      obtain rfl:=(show _=Value.ref c from B);exact⟨l,o,c,S.toArray,n,rfl,P,G,J.trans (by simp),O,d.toArray,M,D,C,q,by simpa using WZ a⟩
 ·cases h
theorem yO (hu:X.A.units+64 < cLine):Z4 X (.builtin "sorted") (λvs H Q=>∃l d ts,vs=[.ref l]/\H l=some (.lst d)/\zr H d ts/\ts.all rQ=true/\(ts.map kW).Nodup/\ts.length < 64/\∀r C,H r=none->(∀B:Hp,zr B d ts->zr B C (vO ts))->Q (.ref r) (ml H r (.lst C))):=by
 intro F s σ H vs us Q I p h;obtain⟨l,d,ts,rfl,N,r,hp,hn,y,q⟩:=h;obtain⟨u,rfl,Z⟩:=Ze p;obtain rfl:u=Value.ref l:=Z;obtain⟨c,p,pl,a,hz⟩:=zH I (.inl N) r;have w:=r.length;have g:s.heap.objs.size<=s.heap.objs.size+1:=cC _;refine yN (by omega) pl (by rw[af,a]) (λi v x J j=> ?_) hn (by rw[← a];exact y) λpm o G=> ?_
 ·rw[aw]at j;cases e:ts[i]? with
  | none=>rw[e]at j;cases j
  | some t=>
   rw[e]at j;obtain rfl:kW t=x:=aE j;obtain⟨v',U,S⟩:=r.get e;obtain⟨u',D,M⟩:=p.get U;rw[J]at D;cases D;exact Em I S M (aS.mp hp t (cN e))
 ·rw[← a]at o G;obtain⟨n,O⟩:=sortedAll_at _ c (pm.toList.map λi=>c.getD i _).toArray;have k:∀i∈pm.toList,i < ts.length:=λi hi=>bN.mp (o.pm.mem_iff.mp hi);have P:∀B,zr B d ts->zr B (pm.toList.map λi=>d.getD i _) _:=λB rb=>by
   have:=WS rb _ k;rw[Eb hn o G]at this;exact this
  refine⟨.ref _,ml H _ (.lst (pm.toList.map λi=>d.getD i _)),I.laid (λb u e=>sortedAll_old e) g ?_,rfl,q _ _ (I.hok.fresh g) P⟩;exact⟨by rw[af,aP,o.sz];omega,(pm.toList.map λi=>c.getD i _),n,WT p _ (λi hi=>by rw[w];exact k i hi),O⟩
end
def BU:En->R (List T):=λ_=> .bad
def nW (e:WE):T:= .tup [.tup (e.1.map T.bl),.lst e.2]
theorem Kq {kvs:List (List mG×Addr×V)}{g:List WE}(h:jC H0 B H n kvs g p):∀(i:Nat) k b v,kvs[i]? =some (k,b,v)->∃a c l d,g[i]? =some (a,c)/\k=kI a/\v= .ref l/\l∈p/\Kb H0 B H a b/\H l=some (.lst d)/\zr B d c:=by
 induction h with
 | nil=>intro i k b v e;simp at e
 | @cons G J l d c kvs g p I e b r M no t C=>
  intro i k b v q;cases i with
  | zero=>cases q;exact⟨G,c,l,d,rfl,rfl,rfl,ac,I,e,r⟩
  | succ i=>
   obtain⟨a,o,w,j,y,D,u,F,x⟩:=C i k b v q;exact⟨a,o,w,j,y,D,u,ab _ F,x⟩
theorem VJ {kvs:List (List mG×Addr×V)}{a:List WE}(h:jC H0 B H n kvs a ls):kvs.length=a.length:=by
 induction h with
 | nil=>rfl
 | cons g e b r d no t c=>rw[ar,ar,c]
theorem Q8:∀k:List Bool,zr H (k.map V.bl) (k.map T.bl)
 | []=> .nil
 | b :: k=> .cons (.bl b) (Q8 k)
theorem VL {kvs:List (List mG×Addr×V)}{N:List WE}(I:zj B' (zv B H H'))(C:H d=none)(Z:B' d=none)(hd:H' d=some (.dT kvs))(U:jC H B' H' n kvs N ls)(hn:∀l∈ls,H l=none):
  rI (zv B H (ml H' d (.frz o (.dT kvs)))) (ml H' d (.frz o (.dT kvs))) (sU d o) (N.map nW):=by
 intro r p a j;have up:∀b u,b ≠ d->zv B H H' b=some u->zv B H (ml H' d (.frz o (.dT kvs))) b=some u:=λb u hb h=>by
  cases q:H b with
  | none=>rw[zF q]at h ⊢;rw[zg hb];exact h
  | some w=>rw[zE q]at h ⊢;exact h
 have e:p d=some (.frz o (.dT kvs)):=j _ _ (a _ _ (by rw[zF C,zh]))
 have M:=VJ U;refine⟨λi hi=>⟨kvs,e,by rw[M];simpa using hi⟩,λi t x H3 O ⟨X,k,v,b,S,Q,e2,e3,e4,J,e6⟩=> ?_,λi hi=>⟨kvs,e,by rw[M];simpa using hi⟩⟩
 rw[e]at Q;cases Q;subst e4 e6;obtain⟨D,ws,l,xs,a1,a2,a3,a4,y,F,a7⟩:=Kq U i k b v e2;subst a2 a3;rw[aw,a1]at O;cases O;have P:zj p (ml p S (.tup [.ref b,.ref l])):=zj.new J _;have ge:zj r (zv r p (ml p S (.tup [.ref b,.ref l]))):=zv.ge j P;have G :b ≠ d:=λz=>by have:=y.1;rw[z,hd]at this;cases this
 have ld:l ≠ d:=λz=>by rw[z,hd]at F;cases F
 have g:zv B H H' b=some (.tup (D.map V.bl)):=by
  rcases y.2 with z | z
  ·rw[zF z];exact y.1
  ·exact I _ _ z
 have rb:Rep r (.ref b) (.tup (D.map T.bl)):= .tup (a _ _ (up _ _ G g)) (Q8 D);have rl:Rep r (.ref l) (.lst ws):= .lst (a _ _ (up _ _ ld (by rw[zF (hn l a4)];exact F))) ((a7.mono λc u h=>up c u (λz=>by rw[z,Z]at h;cases h) (I _ _ h)).mono a)
 refine⟨P,.tup (by rw[zF J,zh]) (.cons (rb.mono ge) (.cons (rl.mono ge) .nil))⟩
section
variable {js:List Nat}{g:T->En->R En}
theorem Hg:wT X Y tg iter BU:= .mk λρ a s c H R I ⟨B,J,q⟩=>q.elim
theorem VM (C:jS X Y (.Tuple elts kt pt) (.Call (.Attribute (.Name x px) "items" ap) [] [] cp) elt ifs scope N' k js BU tG g ft fe)(hv:PE X (.Name x px) (Jo i))(S:attributeBase (.Name x px) "items" X.env (eval (.Name x px) X.env)=eval (.Name x px) X.env:=by rfl)(O:(ap.endLine == cp.line)=true:=by rfl):
  PE X (.ListComp elt [⟨.Tuple elts kt pt,.Call (.Attribute (.Name x px) "items" ap) [] [] cp,ifs,0⟩] scope pos) (λc H Q=>∃d kvs,c[i]? =some (some (V.ref d))/\H d=some (.dT kvs)/\∀o,∃B ρ ts vs,SI Y B ρ c (ml H d (.frz o (.dT kvs)))/\rI B (ml H d (.frz o (.dT kvs))) (sU d o) ts/\ts.length<=mq/\zt g ft fe ts (j8 k js ρ)= .ok vs/\
   ∀D j G w,ml H d (.frz o (.dT kvs)) D=none->zj (ml H d (.frz o (.dT kvs))) j ->j D=some (.lst G)->zr w G vs->zj w (zv B (ml H d (.frz o (.dT kvs))) j)->w D=none->Q (.ref D) j):=by
 intro l s c H Q I ⟨d,kvs,e1,e2,h⟩;refine Jb (j1 rfl) (F:=λD j =>Q (.ref D) j) (te:=λc H Q=>∃Y' a,Y'.cl=Y.cl/\(Y'.E=λ_ _ _=>False)/\tS Y' rC fe a c H Q) (tt:=λc H Q=>∃Y' a,Y'.cl=Y.cl/\tS Y' rE ft a c H Q) C.sc C.cp C.cm (VI hv S O) C.gt
  (λcl u P H3 fp l p s c H Q I ⟨Y',a,M,q⟩=>C.tt Y' M cl u P H3 fp _ a _ s c H Q I q) (λcl u P H3 fp l xe hp p s c H Q I ⟨Y',a,M,eE,q⟩=>C.el Y' M cl u P H3 fp _ xe (eE ▸ hp) a _ s c H Q I q) I ?_ ?_ C.hs
 ·refine⟨d,kvs,e1,e2,λo D Z=> ?_⟩;obtain⟨B,ρ,ts,vs,J,r,O,ev,q⟩:=h o;exact ju C.gk C.gn J r O ev Z λj G w a1 a2 a3 a4 a5 _=>q D j G w Z a1 a2 a3 a4 a5
 ·intro D Cc j s' I' q' hC h0 hL v y N;obtain⟨m,hm⟩:=N;refine⟨m,hm,λh' U=>⟨.ref D,j, ?_,rfl,q'⟩⟩;exact I'.turned (λb o S e=>U.extBut b o S e) hC (bf hL).symm (.inr h0) v y
def u3 (c:List T->R (List WE))(a:List T):R (List WE):=if a.length=2 then quiet (c a) else .bad
def pA (g:T->En->R En)(ft:En->R Bool)(fe:En->R T)(k:Nat)(js:List Nat)(ρ:En)(a:List WE):R (List T):=if a.length<=mq then quiet (zt g ft fe (a.map nW) (j8 k js ρ)) else .bad
def Uz (i:Nat)(e:List T->R (List WE))(a:En->R (List T))(g:T->En->R En)(ft:En->R Bool)(fe:En->R T)(k:Nat)(js:List Nat):En->RS:=λρ=>(a ρ).s λj=>match u3 e j with
 | .ok c=>(match pA g ft fe k js (ρ.set i .un) c with
  | .ok vs=>(match ww (.lst vs) with
   | .ok (.lst d)=> .rf d
   | _=> .bad)
  | _=> .bad)
 | _=> .bad
theorem VN {Q:List T->R (List WE)}(O:QQ f mJ kF (X3 Q) ⟨X.prog,X.w,X.K,X.mg,X.base,cl⟩)(hr:ZF kr X.A)(hN:X.N.Nodup)(hi:X.N[i]? =some x)(hx:L2.Loc X.env.scope x)
  (ha:ur X Y (a :: y) ga) (C:jS X Y (.Tuple elts kt pt) (.Call (.Attribute (.Name x px) "items" ap) [] [] cp) elt ifs scope N' k js BU tG g ft fe) (hv:PE X (.Name x px) (Jo i)) (ms:X.mg "sorted"=none) (gs:Gl X "sorted":=by rfl) (hF:kF<=kr:=by omega) (gf:Gl X f:=by rfl) (hd:(f == ("__debug__":Str))=false:=by decide)
  (hsw:swapsWith (.Call (.Name f p2) (a :: y) [] p3) (some (.Name x p1)) p4.line X.env=pure false:=by rfl) (hf:X.fn x=true\/X.env.scope.names.lookup x=some .local:=by first | exact .inl rfl | exact .inr rfl | assumption)
  (hs:starEach (a :: y) X.env=(false,eval a X.env) :: starEach y X.env:=by exact zo rfl) (hz:((backTo p3 (starEach y X.env)).any λx=>x.fst)=false:=by exact zL rfl) (hb:attributeBase (.Name x px) "items" X.env (eval (.Name x px) X.env)=eval (.Name x px) X.env:=by rfl) (hl:(ap.endLine == cp.line)=true:=by rfl):
  wS X Y [.Assign [.Name x p1] (.Call (.Name f p2) (a :: y) [] p3) p4,.Return (some (.Call (.Name "sorted" p5) [.ListComp elt [⟨.Tuple elts kt pt,.Call (.Attribute (.Name x px) "items" ap) [] [] cp,ifs,0⟩] scope pc] [] p6)) p7] (Uz i Q ga g ft fe k js):= .mk λρ=>by
 obtain⟨⟨_,pf,fw,fdw,CW,FW⟩⟩:=O;have W:=(Za (jP hN hi hx (pos:=p4) (Zv (pos:=p3) (p:=p2) FW (hr.mono hF) gf CW.m CW.F.kp CW.b .nil (Ju (E:=λ_ _ _=>False)) (ha ρ) hd hs hz) hsw hf)
  (ZO (jo (pos:=p7) (Zl (p:=p5) (pos:=p6) (yO hr.units) gs ms PyProof.Rows.Boot.«sorted» (zi (VM (pos:=pc) C hv hb hl) zw (mD rfl)) (by decide) (by decide) (mD rfl) rfl))))
 intro P s σ H D Iv ⟨B,I,q⟩;have M:i < σ.length:=by rw[Iv.len];exact(aK.mp hi).1
 refine W P s σ H D Iv ?_;refine jG I q λus vs H1 _ s1 r1 I1 e=> ?_;have e:PoS Y _ (match u3 Q us with
  | .ok y=>(match pA g ft fe k js (ρ.set i .un) y with
   | .ok vs=>(match ww (.lst vs) with
    | .ok (.lst ws)=> .rf ws
    | _=> .bad)
   | _=> .bad)
  | _=> .bad) D:=e
 unfold u3 at e;split at e
 case h_2=>exact e.elim
 rename_i we l;split at l
 case isFalse=>cases l
 rename_i h2;cases S:Q us with
 | bad=>rw[S]at l;cases l
 | ex c=>rw[S]at l;cases l
 | ok we' =>
  rw[S]at l;cases l;unfold pA at e;split at e
  case h_2=>exact e.elim
  rename_i ts j;split at j
  case isFalse=>cases j
  rename_i h3;cases U:zt g ft fe (we.map nW) (j8 k js (ρ.set i .un)) with
  | bad=>rw[U]at j;cases j
  | ex c=>rw[U]at j;cases j
  | ok ts' =>
   rw[U]at j;cases j;unfold ww at e;dsimp only at e
   by_cases G:ts.all rQ=true/\(ts.map kW).Nodup/\ts.length < 64
   case neg=>rw[if_neg G]at e;exact e.elim
   rw[if_pos G]at e;have e:PoS Y _ (.rf (vO ts)) D:=e;rw[bb];refine⟨_,us,h2,I1.sB,r1, ?_⟩;rw[S];intro d kvs ls H' B' n z1 z2 z3 z4 z5 z6 z7 z8 z9;refine⟨d,kvs,bj M,z6,λo=> ?_⟩;have sF:zj H1 (ml H' d (.frz o (.dT kvs))):=λb u h=>by
    rw[zg (λz=>by rw[z,z4]at h;cases h)];exact z1 _ _ h
   have J:=(I1.grow sF).forget i (some (.ref d));refine⟨_,ρ.set i .un,we.map nW,ts,J,VL z3 z4 z5 z6 z7 z9,by rw[af];exact h3,U,λDd H2 xs B2 a1 Z a3 a4 a5 a6=> ?_⟩
   have lB:=a5.trans (zv.le J.sB Z);refine⟨Dd,xs,ts,rfl,a3,a4.mono lB,G.1,G.2.1,G.2.2,λr ys v ry=> ?_⟩;have sN:zj H2 (ml H2 r (.lst ys)):=zj.new v _;refine e r ys _ B2 (J.sH.trans (Z.trans sN)) ((J.sH.trans Z).free v) zh (ry B2 a4) (lB.free v) ((a5.trans λb u h=> ?_).trans (WD J.sH J.old (Z.trans sN) J.sB));cases q:ml H' d (.frz o (.dT kvs)) b with
   | none=>rw[zF q]at h ⊢;exact sN _ _ h
   | some w=>rw[zE q]at h ⊢;exact h
end
section
variable {es:Array DictEntry}{Q:Option Value->Shared->Prop}
theorem Kr (c:s.heap.IsValIter it d i es.size ep)(a:s.heap.get? d=some od)(e:od.data= .dict es ep)(hi:i < es.size)
  (p:∀h',h'.IsValIter it d (i+1) es.size ep->aQ it s.heap h' ->Q (some es[i].val) { s with heap:=h' }):wpAny (model prog w) A (pyNext (.ref it)) Q E s:=by
 obtain⟨o,g,l,hd⟩:=id c;have hT:=c.typeIs;unfold pyNext;refine a8 (cj (aW (name:=aD "__next__") hT bY (aL bY hT eY ?_ (eU _))));refine a8 (aa (a8 (a8 ?_)))
 first | refine a8 (wpAny_typeNameOfWhole_valiter hT (aa ?_)) | refine a8 (wpAny_typeNameOf_valiter hT (aa ?_))
 refine a8 (dE g hd ?_);have k:bS "dict_valueiterator"=false:=by decide
 simp only[k,az,if_false];show wpAny _ _ (if (Value.ref d == Value.none)=true then _ else _) _ _ s
 rw[if_neg (show ¬ ((Value.ref d == Value.none)=true) from ax)];refine a8 (aa (a8 (cu a e ?_)));rw[if_neg (by simp)]
 refine a8 (aa (a8 (dq a e ?_)));rw[if_neg (by simp)]
 refine aa ?_;simp only[show ¬ ((i:Int) < 0) from by omega,if_false,bv,bu hi]
 refine a8 ?_
 first | refine a8 (wpAny_typeNameOfWhole_valiter hT (aa ?_)) | refine a8 (wpAny_typeNameOf_valiter hT (aa ?_))
 refine a8 (wpAny_isOneOf_valiter hT ?_);show wpAny _ _ (setField (.ref it) 1 (rawInt ((i:Int)+1)) >>= _) _ _ s;refine a8 (wpAny_setField g hd (by simp) ?_)
 have j:(s.heap.update it (h9 (·.setIfInBounds 1 (rawInt ((i:Int)+1))))).IsValIter it d (i+1) es.size ep:=
  ⟨_,bT _ g (iz (eC hd _)),(lx ..).trans l,by rw[eC hd];simp[rawInt]⟩
 refine a8 (bi ?_);refine a8 (wpAny_isOneOf_valiter (s:={ s with heap:=s.heap.update it (h9 (·.setIfInBounds 1 (rawInt ((i:Int)+1)))) }) j.typeIs ?_);refine a8 (wpAny_isOneOf_valiter (s:={ s with heap:=s.heap.update it (h9 (·.setIfInBounds 1 (rawInt ((i:Int)+1)))) }) j.typeIs ?_);show wpAny _ _ (pure es[i].val) _ _ _;exact aa (aa ⟨_,rfl,aa (p _ j (bF ..))⟩)
theorem VO (p:A.handled=none)(e:s.heap.IsValIter it d i es.size ep)(c:s.heap.get? d=some od)(g:od.data= .dict es ep)(l:es.size<=i)(q:∀h',fg it s.heap h' ->Q none { s with heap:=h' }):wpAny (model prog w) A (pyNext (.ref it)) Q E s:=by
 obtain⟨o,k,r,hd⟩:=id e;have hT:=e.typeIs;unfold pyNext;refine a8 (cj (aW (name:=aD "__next__") hT bY (aL bY hT eY ?_ (eU _))));refine a8 (aa (a8 (a8 ?_)))
 first | refine a8 (wpAny_typeNameOfWhole_valiter hT (aa ?_)) | refine a8 (wpAny_typeNameOf_valiter hT (aa ?_))
 refine a8 (dE k hd ?_);have j:bS "dict_valueiterator"=false:=by decide
 simp only[j,az,if_false];show wpAny _ _ (if (Value.ref d == Value.none)=true then _ else _) _ _ s
 rw[if_neg (show ¬ ((Value.ref d == Value.none)=true) from ax)];refine a8 (aa (a8 (cu c g ?_)));rw[if_neg (by simp)]
 refine a8 (aa (a8 (dq c g ?_)));rw[if_neg (by simp)]
 refine aa ?_;simp only[show ¬ ((i:Int) < 0) from by omega,if_false,bv,bw l]
 refine a8 ?_
 first | refine a8 (wpAny_typeNameOfWhole_valiter hT (aa ?_)) | refine a8 (wpAny_typeNameOf_valiter hT (aa ?_))
 show wpAny _ _ (setField (.ref it) 0 .none >>= _) _ _ s;refine a8 (wpAny_setField k hd (by simp) ?_)
 show wpAny _ _ (newExc (.type "StopIteration") [] >>= _) _ _ _;refine a8 ?_;simp only[newExc,newTuple];refine a8 (aJ ?_ (by size_fits))
 refine a8 (m:=firstArgMember _ _) (bz (a:=Value.none) (by first | rfl | (simp only[firstArgMember];rfl)) ?_)
 refine aJ ?_ (by size_fits)
 simp only[raiseNew];refine a8 (wpAny_handled ?_);rw[show A.in1.handled=none from p];refine a8 (aa (wpAny_throw ?_));refine a8 (c6 (T:="StopIteration") (b:=true) ⟨_,ae _ rfl,rfl⟩ isSubtype_stop ?_);exact aa (q _ (((bF ..).extBut.push _).push _))
theorem Q9 {v:Addr}{Q:Value->Shared->Prop}(c:s.heap.IsValuesView v d)(e:s.heap.get? d=some od)(hd:od.data= .dict es ep)
  (j:Q (.ref s.heap.objs.size) { s with heap:=s.heap.push { cls:= .type "dict_valueiterator",data:= .fields #[.ref d,.int 0 0,.int es.size 0,.int ep 0] } }):wpAny (model prog w) A (pyIter (.ref v)) Q E s:=by
 obtain⟨l,i,k,g⟩:=id c;refine cP c.typeIs ib (aL ib c.typeIs F.entry_dict_values_iter ?_ (F.args_dict_values_iter_1 _));unfold Builtin.«dict_values.__iter__»;refine a8 (aa (a8 ?_));unfold fX;refine a8 (b9 i g (x:= .ref d) rfl (aa (a8 ?_)));unfold f8;refine a8 (cu e hd (a8 (dq e hd ?_)));have a:bS "dict_valueiterator"=false:=by decide
 simp only[a,az,if_false];refine aJ (aa ⟨_,rfl,"dict_valueiterator",_,⟨_,ae _ rfl,rfl⟩,bY.lookup, ?_⟩);simpa[rawInt] using j
theorem Qa (r:A.handled=none)(I:Addr)(l:d ≠ I)(g:od.data= .dict es ep):Walks prog w A I [I,d] [I] es.size (λi v=>∃h:i < es.size,v=es[i].val) (λi h=>h.IsValIter I d i es.size ep/\h.get? d=some od) where
 sub:=λb a=>by simp at a;simp[a]
 frame:=λ_ _ _ st q=>⟨st.1.at λo e=>q I (by simp) o e,q d (by simp) _ st.2⟩
 item:=λi s Q E hi st j=>Kr st.1 st.2 g hi λh' c k =>j _ h' s.toks ⟨hi,rfl⟩ ⟨c,k.extBut _ _ l st.2⟩ λb o a e=>k.extBut b o (λh=>a (by simp[h])) e
 done:=λs Q E st j=>VO r st.1 st.2 g (ah _) λh' p =>j h' s.toks λb o a e=>p b o (λh=>a (by simp[h])) e
 self:=λ_ _ _ _ st j=>wpAny_pyIter_valiter st.1 j
theorem VP {r:Addr}(c:od.data= .dict es ep):KdlSrc prog w "dict_values" r d es.size (λi v=>∃h:i < es.size,v=es[i].val) (λh=>h.IsValuesView r d/\h.get? d=some od) where
 type:=λ_ a=>a.1.typeIs
 there:=λ_ a=>⟨let ⟨_,ho,_⟩:=a.1;ao ho,ao a.2⟩
 keep:=λ_ _ a g=>⟨let ⟨o,ho,x⟩:=a.1;⟨o,g r (.inl rfl) o ho,x⟩,g d (.inr rfl) _ a.2⟩
 notList:=by decide
 notTuple:=by decide
 hint:=λ_ _ _ _ a e=>kdl_hint_values a.1.typeIs e
 iter:=λ_ _ j a=>⟨_,_,(λ_ _ e=>Q9 a.1 a.2 c e),Qa j _ (au (ao a.2)) c,⟨⟨_,ae _ rfl,rfl,rfl⟩,a9 _ a.2⟩⟩
end
theorem Qb:∀(a:List V) (c:List Value),a.length=c.length->(∀(i:Nat) x u,a[i]? =some x->c[i]? =some u->RelV x u)->Vals a c
 | [],[],_,_=> .nil
 | [],_ :: _,h,_=>by cases h
 | _ :: _,[],h,_=>by cases h
 | x :: a,u :: c,g,h=> .cons (h 0 x u rfl rfl) (Qb a c (by simpa using g) λi x u d e=>h (i+1) x u (by simpa using d) (by simpa using e))
theorem Qc {kvs:List (List mG×Addr×V)}{c:List WE}(h:jC H0 B H n kvs c ls)(d:zj B Z):(∀l a,l∈ls->H l=some (.lst a)->Z l=some (.lst a))->zr Z (kvs.map (·.2.2)) (c.map λe=>T.lst e.2):=by
 induction h with
 | nil=>exact λ_=> .nil
 | cons j e b r k no t g=>exact λhz=> .cons (.lst (hz _ _ ac e) (r.mono d)) (g λl a i=>hz l a (ab _ i))
section
theorem Ks:pC X "dict.values" (λx i H Q=>∃a kvs,x= .ref a/\i=[]/\H a=some (.dT kvs)/\∀r,H r=none->Q (.ref r) (ml H r (.ext λh=>h.IsValuesView r a))):=by
 intro j s G H x i v0 M Q I k w h;obtain⟨a,kvs,rfl,rfl,u,q⟩:=h;obtain rfl:v0=Value.ref a:=k;cases w;obtain⟨z,y,B,l,o,J,ep,d,g,C,D⟩:=VD I.hok u;have hT:s.TypeIs (.ref a) "dict":=⟨o,d,g.1⟩;refine aL F.slot_dict_values hT F.entry_dict_values ?_ (F.args_dict_values_1 _);unfold Builtin.«dict.values»;refine a8 ?_;unfold iS;refine a8 (wpAny_notOrdered_dict hT ?_);show wpAny _ _ (pure a) _ _ s;refine aa ?_;show wpAny _ _ (dA a >>= _) _ _ s;unfold dA;rw[if_neg (by rw[y];exact ax)]
 refine a8 (aa (a8 (aJ (aa ⟨_,rfl, ?_⟩))));have c:s.heap.objs.size<=s.heap.objs.size:=ah _;refine⟨.ref _,_,I.laid (t' :=s.toks) (λb o e=>a9 _ e) c ?_,rfl,q _ (I.hok.fresh c)⟩;exact⟨⟨_,ae _ rfl,rfl,rfl⟩,⟨_,ae _ rfl⟩,λd g ⟨o,v,p⟩ e=>⟨o,e _ v,p⟩⟩
theorem yP (hh:X.A.handled=none):Z4 X (.type "list") (λvs H Q=>∃r v a kvs,vs=[.ref r]/\H r=some (.ext v)/\(∀h:Heap,v h->h.IsValuesView r a)/\H a=some (.dT kvs)/\∀l,H l=none->Q (.ref l) (ml H l (.lst (kvs.map (·.2.2))))):=by
 intro D s σ H vs us Q I rv h;obtain⟨r,v,a,kvs,rfl,hr,p,Z,q⟩:=h;obtain⟨u,rfl,ru⟩:=Ze rv;obtain rfl:u=Value.ref r:=ru;obtain⟨P,_,_⟩:=(show zK _ X.w H _ r _ from I.hok r _ hr);obtain⟨z,hs,xs,g,o,C,ep,M,g2,N,F,g5⟩:=VD I.hok Z;have B:C.size=kvs.length:=by rw[← aP,F,af,dR g]
 refine kdl_call (VP N) hh ⟨p _ P,M⟩ (by rw[B];exact z) λh' tk j c' kp O c=> ?_
 have d:s.heap.objs.size<=s.heap.objs.size:=ah _;refine⟨.ref _,ml H _ (.lst (kvs.map (·.2.2))),I.laid (t' :=tk) (λb o e=>kp b o e) d ⟨by rw[af];exact z,j.toList,c',Qb _ _ (by have:=c.1;simp;omega) λi x u G U=> ?_,by simpa using O⟩,rfl,q _ (I.hok.fresh d)⟩
 obtain⟨hi,rfl⟩:=c.2 i u (by rw[← dz];exact U)
 have k :i < kvs.length:=by rw[← B];exact hi
 rw[aw,ak k]at G;cases G;obtain⟨u,S,f2,J⟩:=JE g i kvs[i] (ak k);have y:C.toList[i]? =some (entryOfKey (tupleKind (zZ X.prog X.w)) (kvs[i].1,kvs[i].2.1,u)):=by rw[F,aw,S];rfl
 rw[dz,bu hi]at y;rw[aE y];exact J
end
theorem jC.base {kvs:List (List mG×Addr×V)}{a:List WE}(h:jC H0 B H n kvs a ls)(s:zj H1 H0):jC H1 B H n kvs a ls:=by
 induction h with
 | nil=>exact .nil
 | cons c e b r g no t d=>exact .cons ⟨c.1,c.2.imp (λz=>s.free z) id⟩ e b r g no d
def BO (B H:Hp)(r:R (List WE))(Q:VK):Prop:=match r with
 | .ok g=>∀a kvs e c d n,zj H c ->zj B d ->zj d (zv B H c)->H a=none->d a=none->c a=some (.lst (kvs.map (·.2.2)))->jC H d c n kvs g e->a ∉ e->(∀l∈e,H l=none)->Q (.ref a) c
 | _=>False
def vP (g:List T->R (List WE)):Sp:=λvs H Q _=>∃B ts,ts.length=2/\zj B H/\zr B vs ts/\BO B H (g ts) Q
def C1 (e:List T->R T)(d:List T->R (List WE)):List T->R (List WE):=λts=>match ts with
 | [c,a]=>(e [a]).bind λ_=>d [c,a]
 | _=> .bad
theorem rj {Z:Zz}{x:Str}{st:Stmt}{k kn kw:Nat}{e a I J:Str}{gn:List T->R T}{G:List T->R (List WE)}{q1 q2 q3 q4 q5 q6 q7 q8 q9 u y X U:Pos}(F:FE Z.K Z.mg x st [e,a])(N0:QQ I mJ kn (spP Z.cl 1 gn) Z)(W0:QQ J mJ kw (X3 G) Z)(hlm:Z.mg "list"=none)(S:Sc [e,a] [e,a] st)
  (hst:zR st=[.Expr (.Call (.Name I q1) [.Name a q2] [] q3) q4,
   .Return (some (.Call (.Name "list" q5) [.Call (.Attribute (.Call (.Name J q6) [.Name e q7,.Name a q8] [] q9) "values" u) [] [] y] [] X)) U])
  (hkd:(ze st).names.lookup e=some .local) (hru:(ze st).names.lookup a=some .local) (hnn:(ze st).names.lookup I=some .globalImplicit) (hwn:(ze st).names.lookup J=some .globalImplicit) (hgl:(ze st).names.lookup ("list":Str)=some .globalImplicit) (z1:(u.endLine == y.line)=true) (hn:kn<=k:=by omega) (hw:kw<=k:=by omega)
  (d1:(e == ("__debug__":Str))=false:=by decide) (d2:(e == ("__classdict__":Str))=false:=by decide) (d3:(a == ("__debug__":Str))=false:=by decide) (d4:(a == ("__classdict__":Str))=false:=by decide) (d5:(I == ("__debug__":Str))=false:=by decide) (d6:(J == ("__debug__":Str))=false:=by decide):QQ x mJ (k+1) (vP (C1 gn G)) Z:=by
 obtain⟨ft,fdt,F⟩:=F;obtain⟨⟨_,pa,fa,fda,CN,FN⟩⟩:=N0;obtain⟨⟨_,pw,fw,fdw,CW,FW⟩⟩:=W0;refine⟨_,_,ft,fdt,F,F.F.ok S (λvs H Q E ⟨B,ts,M,_,r,_⟩=>by rw[r.length,M];rfl) λcdv A outer s H vs Q E hr ⟨B,ts,M,sB,r,q⟩=> ?_⟩
 rw[hst];have gN:Gl (ZC mJ Z.P Z.w Z.K Z.mg Z.base [e,a] x (ze st) ft cdv A outer s H E).nox I:=hnn;have gW:Gl (ZC mJ Z.P Z.w Z.K Z.mg Z.base [e,a] x (ze st) ft cdv A outer s H E).nox J:=hwn;have gl:Gl (ZC mJ Z.P Z.w Z.K Z.mg Z.base [e,a] x (ze st) ft cdv A outer s H E).nox "list":=hgl;have v0:∀{p},PE (ZC mJ Z.P Z.w Z.K Z.mg Z.base [e,a] x (ze st) ft cdv A outer s H E).nox (.Name e p) (Jo 0):=ZN rfl (.inl hkd) d1 d2;have v1:∀{p},PE (ZC mJ Z.P Z.w Z.K Z.mg Z.base [e,a] x (ze st) ft cdv A outer s H E).nox (.Name a p) (Jo 1):=ZN rfl (.inl hru) d3 d4;refine⟨_,Za (jD (pos:=q4) (Zv (pos:=q3) (p:=q1) FN (hr.mono hn) gN CN.m CN.F.kp CN.b .nil (Ju (E:=λ_ _ _=>False)) (zi (v1 (p:=q2)) zw (mD rfl)) d5 (zo rfl) (zL rfl)) rfl)
  (ZO (jo (pos:=U) (Zf (p:=q5) (pos:=X) (yP hr.hd) gl hlm PyProof.Rows.Boot.«list» (zi (xF (cpos:=y) (apos:=u) eH dZ hU Ks
   (Zv (pos:=q9) (p:=q6) FW (hr.mono hw) gW CW.m CW.F.kp CW.b .nil (Ju (E:=λ_ _ _=>False)) (zi (v0 (p:=q7)) (zi (v1 (p:=q8)) zw (mD rfl)) (zo rfl)) d6 (zo rfl) (zL rfl)) rfl z1) zw (mD rfl)) (by decide) (by decide) (mD rfl) rfl))), ?_⟩
 cases r with
 | nil=>cases M
 | @cons va tk vs1 ts1 r1 rr=>
  cases rr with
  | nil=>cases M
  | @cons vb tr vs2 ts2 r2 rr=>
   cases rr with
   | cons _ _=>exact absurd M (by simp)
   | nil=>
    have q:BO B H ((gn [tr]).bind λ_=>G [tk,tr]) Q:=q;cases eg:gn [tr] with
    | bad=>rw[eg]at q;exact q.elim
    | ex c=>rw[eg]at q;exact q.elim
    | ok t=>
     rw[eg]at q;have q:BO B H (G [tk,tr]) Q:=q;refine⟨vb,rfl,B,[tr],rfl,sB,.cons r2 .nil, ?_⟩;rw[eg];intro v Hn j rv;have gB:=zv.ge sB j;refine⟨va,rfl,vb,rfl,zv B H Hn,[tk,tr],rfl,zv.le sB j,.cons (r1.mono gB) (.cons (r2.mono gB) .nil), ?_⟩;cases ew:G [tk,tr] with
     | bad=>rw[ew]at q;exact q.elim
     | ex c=>rw[ew]at q;exact q.elim
     | ok es=>
      rw[ew]at q;intro d kvs ls C B' n y1 y2 y3 y4 y5 D y7 y8 y9;refine⟨.inr (.inr (.inl ⟨rfl,.inr ⟨kvs,D⟩⟩)),d,kvs,rfl,rfl,D,λr N => ?_⟩;have rd:d ≠ r:=λz=>by rw[z,N]at D;cases D
      have sR:zj C (ml C r (.ext λh=>h.IsValuesView r d)):=zj.new N _;refine⟨r,_,d,kvs,rfl,zh,λh z=>z,by rw[zg rd];exact D,λl O => ?_⟩
      have sL:=zj.new O (HO.lst (kvs.map (·.2.2)));have s2:=y1.trans (sR.trans sL);have l0:C l=none:=sR.free O;have bl:∀b o,C b=some o->ml (ml C r (.ext λh=>h.IsValuesView r d)) l (HO.lst (kvs.map (·.2.2))) b=some o:=λb o h=>sL _ _ (sR _ _ h);have hG:zj B' (zv B H (ml (ml C r (.ext λh=>h.IsValuesView r d)) l (HO.lst (kvs.map (·.2.2))))):=λb o h=>by
       have g:=y3 _ _ h;cases p:Hn b with
       | none=>rw[zF p]at g;rw[zF (j.free p)];exact bl _ _ g
       | some w=>
        rw[zE p]at g;cases p2:H b with
        | none=>rw[zF p2]at g ⊢;exact s2 _ _ g
        | some w2=>rw[zE p2]at g ⊢;exact g
      refine q l kvs ls _ B' n (j.trans s2) (gB.trans y2) hG (j.free (y1.free l0)) ((y3.trans (zv.le (zv.le sB j) y1)).free l0) zh ((y7.base j).mono (ah _) (λm hm=> ?_) λb xs h=>bl _ _ h) (λz=> ?_) λm hm=>j.free (y9 m hm)
      ·obtain⟨xc,i⟩:=y7.islst hm;rw[i];exact bl _ _ i
      ·obtain⟨xc,i⟩:=y7.islst z;rw[l0]at i;cases i
section
theorem UA {cl:Nat->Value}{kE k:Nat}{x q:Str}{c P:Addr}{params:Arguments}{scope:Scope}{lp p pos:Pos}{js:List Nat}{body:Expr}{rb:En->R T}(L:Lm X c P q)(hT:Y.H0 P=some (.tbl #[] q))(hy:Y.cl=cl)
  (O:QS x kE ⟨X.prog,X.w,X.K,X.mg,X.base,cl⟩) (hr:ZF k X.A) (d:vN X.N (mV X.N js) X.env.scope scope 0 js=true) (j:(!scope.isCoroutine && !scope.isGenerator)=true)
  (hB:∀(base:Heap) (A:Around) (outer:List Env) (s:Shared) (H:Hp) (f c' :Addr) (clos:List (Str×Addr)),X.K.In base->ZF kE (A.deeper (envX q scope s.heap.objs.size f (.ref c') clos))->∀Y' :Fx,Y'.cl=cl->∀ρ ts,rb ρ= .ok (.lst ts)->∃te,PE (nX X.prog X.w X.K X.mg base (mV X.N js) q scope f (.ref c') clos A outer s H (λ_ _ _=>False)) body te/\∀B D (Q' :VK),SI Y' B ρ D H->(∀a xs g,zj H g ->H a=none->g a=some (.lst xs)->zr (pP g a) xs ts->Q' (.ref a) g)->te D H Q')
  (hj:kE+2<=k:=by omega) (gl:Gl X x:=by rfl) (hfn:∀x,X.fn x=true:=by exact λ_=>rfl)
  (hp:∀(body:Expr) (clos:List (Str×Addr)) (pm cd ctv:Value),bindArgs (kla_fn "<lambda>" q params body scope clos pm cd ctv) ⟨[],[]⟩=pure []:=by intros;rfl) (y:defaultsOf params X.env=([],[]):=by rfl) (hd:(x == ("__debug__":Str))=false:=by decide):
  Snd X Y (.Call (.Name x p) [.Lambda params body scope lp] [] pos) (λρ=>jW (rb (j8 0 js ρ))):= .mk λρ=>by
 intro pins s D H Q I ⟨B,J,po⟩;subst hy;rw[vN,aj]at d;have d:=d.1;rw[aj]at d;rw[aj]at j;have Z:=YS _ rfl d.1;have CP:=wX _ _ rfl rfl d.2;have S:sW scope:=⟨Z.kind,by simpa using j.1,by simpa using j.2,Z.nocell⟩
 obtain⟨clos,ecl,M,U⟩:=wU λx hx l=>I.ok.has x.1 (Z.fre x hx l);obtain⟨⟨_,dn,ft,fdt,CT,O⟩⟩:=O;obtain⟨ts,b,eg,u,heq,hQ⟩:=WW (show Po Y rC B H (jW (rb (j8 0 js ρ))) Q from po);refine bW (wK I gl CT.m ?_ hd);have hP:=J.sH _ _ hT;have hpa:=zi (xX (body:=body) (pos:=lp) L y ecl) zw (mD rfl) pos _ s D H (λvs o=>∃f c' pm ctv,vs=[V.ref f]/\zj H o/\o f=some (.frz (Vz q _ _ _ _ pm ctv c') (.own f))/\JC o q c') I ⟨hP,λf c' pm ctv g s1 l hc=>⟨f,c',pm,ctv,rfl,s1,l,hc⟩⟩;refine callWith_K I.ok.mod.kin CT.F.kp (mo hpa λus s1 ⟨vs,o,C,r,f,c',pm,ctv,e,sm,l,hc⟩=>⟨C.kIn, ?_⟩) (mD rfl) rfl;subst e;have J1:=J.grow sm;refine qR (E:=Y.E) C (O _ f c' q _ _ _ _ pm ctv C.big.mod.kin) (hr.mono hj) CT.b Ju r ⟨rfl,l,ts,b,u,heq,λA outer s2 H2 Q' v G i hQ' => ?_,λg s' =>hQ g (sm.trans s')⟩;obtain⟨te,pe,ht⟩:=hB _ A outer s2 H2 f c' clos G.mod.kin (v.deeper _) ⟨zv B H o,o,λ_ _ _=>False,Y.cl,[]⟩ rfl (j8 0 js ρ) ts eg;exact qS S v G (Q3 (xY C hfn M U CP) G) (i _ _ l) (hc.mono i) (hp _ _ pm _ ctv) pe (ht _ _ _ (J1.blockS 0 js _ i) hQ')
end
def Kt (r:R (List WE)):R T:=match r with
 | .ok a=> .ok (.lst (a.map λe=>T.lst e.2))
 | _=> .bad
def Ku (r:R (List WE)):R T:=match r with
 | .ok (e :: _)=> .ok (.lst e.2)
 | _=> .bad
def wx (w:R (List WE)->R T)(js:List Nat)(g:List T->R (List WE))(c:En->R (List T)):En->R T:=λρ=>jW ((c (j8 0 js ρ)).bind λa=>w (u3 g a))
section
theorem Kv {g:List T->R (List WE)}{a:List WE}(h:u3 g us= .ok a):us.length=2/\g us= .ok a:=by
 unfold u3 at h;split at h
 ·rename_i d;refine⟨d, ?_⟩;cases e:g us with
  | ok l=>rw[e]at h;exact h
  | ex c=>rw[e]at h;cases h
  | bad=>rw[e]at h;cases h
 ·cases h
theorem X6 {g:List T->R (List WE)}{j:List WE}(D:zj B H)(r:zr B vs us)(h:u3 g us= .ok j)(C:∀a kvs d c i n,zj H c ->zj i (zv B H c)->H a=none->c a=some (.lst (kvs.map (·.2.2)))->jC H i c n kvs j d->i a=none->a ∉ d->(∀l∈d,H l=none)->Q (.ref a) c):vP g vs H Q E:=by
 obtain⟨x,e⟩:=Kv h;refine⟨B,us,x,D,r, ?_⟩;rw[e];exact λa kvs d c i n k F o p w v q u y=>C a kvs d c i n k o p v q w u y
theorem VQ {js:List Nat}{g:List T->R (List WE)}(L:Lm X c P q)(hT:Y.H0 P=some (.tbl #[] q))(hy:Y.cl=cl)
  (O:QS x kE ⟨X.prog,X.w,X.K,X.mg,X.base,cl⟩) (UF:∀b,X.K.In b->QQ y mJ kF (vP g) ⟨X.prog,X.w,X.K,X.mg,b,cl⟩) (hr:ZF k X.A)
  (I:vN X.N (mV X.N js) X.env.scope scope 0 js=true) (G:(!scope.isCoroutine && !scope.isGenerator)=true)
  (ha:∀(base:Heap) (A:Around) (outer:List Env) (s:Shared) (H:Hp) (E:XK) (f c' :Addr) (clos:List (Str×Addr)) (Y' :Fx),X.K.In base->Y'.cl=cl->Y'.E=E->ZF kE (A.deeper (envX q scope s.heap.objs.size f (.ref c') clos))->ur (nX X.prog X.w X.K X.mg base (mV X.N js) q scope f (.ref c') clos A outer s H E) Y' (a :: j) ga)
  (Q:scope.names.lookup y=some .globalImplicit:=by rfl)
  (hj:kE+2<=k:=by omega) (hF:kF<=kE:=by omega) (gl:Gl X x:=by rfl) (v:∀x,X.fn x=true:=by exact λ_=>rfl)
  (hp:∀(body:Expr) (clos:List (Str×Addr)) (pm cd ctv:Value),bindArgs (kla_fn "<lambda>" q params body scope clos pm cd ctv) ⟨[],[]⟩=pure []:=by intros;rfl) (o:defaultsOf params X.env=([],[]):=by rfl) (hd:(x == ("__debug__":Str))=false:=by decide) (M:(y == ("__debug__":Str))=false:=by decide)
  (hs:∀e,starEach (a :: j) e=(false,eval a e) :: starEach j e:=by intro _;exact zo rfl) (hz:∀e,((backTo pos' (starEach j e)).any λx=>x.fst)=false:=by intro _;exact zL rfl):
  Snd X Y (.Call (.Name x p) [.Lambda params (.Call (.Name y px) (a :: j) [] pos') scope lp] [] pos) (wx Kt js g ga):=
 UA (rb:=λρ=>(ga ρ).bind λS=>Kt (u3 g S)) L hT hy O hr I G (λbase A outer s H f c' clos KB i Y' ey ρ ts d=>by
  obtain⟨⟨_,ps,fm,fdm,D,FF⟩⟩:=UF _ KB;have gy:Gl (nX X.prog X.w X.K X.mg base (mV X.N js) q scope f (.ref c') clos A outer s H (λ_ _ _=>False)) y:=Q;refine⟨_,Zv FF (i.mono hF) gy D.m D.F.kp D.b .nil (Ju (E:=λ_ _ _=>False)) (ha base A outer s H (λ_ _ _=>False) f c' clos { Y' with E:=λ_ _ _=>False } KB ey rfl i ρ) M (hs _) (hz _),λB σ Q' J hQ=> ?_⟩;refine⟨B,J.wish _, ?_⟩;cases C:ga ρ with
  | bad=>rw[C]at d;cases d
  | ex c=>rw[C]at d;cases d
  | ok S=>
   rw[C]at d;have d:Kt (u3 g S)= .ok (.lst ts):=d;intro vs H3 r r3;rw[bb];unfold Kt at d;split at d
   ·rename_i j ew;cases d;have Z:=zv.le J.sB r;refine X6 Z r3 ew λa kvs ls H' B' n U z3 z4 z6 z7 z5 z8 z9=> ?_;refine hQ a _ H' (r.trans U) (r.free z4) z6 (Qc z7 (Q2 Z U z5 z3) λl xs hm hx=> ?_);have u:l ≠ a:=λz=>z8 (by rw[← z];exact hm)
    rw[YY u];exact hx
   ·cases d) hj gl v hp o hd
theorem Qd {js:List Nat}{g:List T->R (List WE)}(L:Lm X c P q)(hT:Y.H0 P=some (.tbl #[] q))(hy:Y.cl=cl)
  (O:QS x kE ⟨X.prog,X.w,X.K,X.mg,X.base,cl⟩) (UF:∀b,X.K.In b->QQ y mJ kF (vP g) ⟨X.prog,X.w,X.K,X.mg,b,cl⟩) (hr:ZF k X.A)
  (I:vN X.N (mV X.N js) X.env.scope scope 0 js=true) (G:(!scope.isCoroutine && !scope.isGenerator)=true)
  (ha:∀(base:Heap) (A:Around) (outer:List Env) (s:Shared) (H:Hp) (E:XK) (f c' :Addr) (clos:List (Str×Addr)) (Y' :Fx),X.K.In base->Y'.cl=cl->Y'.E=E->ZF kE (A.deeper (envX q scope s.heap.objs.size f (.ref c') clos))->ur (nX X.prog X.w X.K X.mg base (mV X.N js) q scope f (.ref c') clos A outer s H E) Y' (a :: i) ga)
  (Q:scope.names.lookup y=some .globalImplicit:=by rfl)
  (hj:kE+2<=k:=by omega) (hF:kF<=kE:=by omega) (gl:Gl X x:=by rfl) (v:∀x,X.fn x=true:=by exact λ_=>rfl)
  (hp:∀(body:Expr) (clos:List (Str×Addr)) (pm cd ctv:Value),bindArgs (kla_fn "<lambda>" q params body scope clos pm cd ctv) ⟨[],[]⟩=pure []:=by intros;rfl) (o:defaultsOf params X.env=([],[]):=by rfl) (hd:(x == ("__debug__":Str))=false:=by decide) (M:(y == ("__debug__":Str))=false:=by decide)
  (hs:∀e,starEach (a :: i) e=(false,eval a e) :: starEach i e:=by intro _;exact zo rfl) (hz:∀e,((backTo pos' (starEach i e)).any λx=>x.fst)=false:=by intro _;exact zL rfl):
  Snd X Y (.Call (.Name x p) [.Lambda params (.Subscript (.Call (.Name y px) (a :: i) [] pos') (.Constant (.int 0) ik ip) sp) scope lp] [] pos) (wx Ku js g ga):=
 UA (rb:=λρ=>(ga ρ).bind λS=>Ku (u3 g S)) L hT hy O hr I G (λbase A outer s H f c' clos KB j Y' ey ρ ts d=>by
  obtain⟨⟨_,ps,fm,fdm,D,FF⟩⟩:=UF _ KB;have gy:Gl (nX X.prog X.w X.K X.mg base (mV X.N js) q scope f (.ref c') clos A outer s H (λ_ _ _=>False)) y:=Q;refine⟨_,XF xD (Zv FF (j.mono hF) gy D.m D.F.kp D.b .nil (Ju (E:=λ_ _ _=>False)) (ha base A outer s H (λ_ _ _=>False) f c' clos { Y' with E:=λ_ _ _=>False } KB ey rfl j ρ) M (hs _) (hz _)) xx (λ_ _=>rfl),λB σ Q' J hQ=> ?_⟩;refine⟨B,J.wish _, ?_⟩;cases C:ga ρ with
  | bad=>rw[C]at d;cases d
  | ex c=>rw[C]at d;cases d
  | ok S=>
   rw[C]at d;have d:Ku (u3 g S)= .ok (.lst ts):=d;intro vs H3 u r3;rw[bb];unfold Ku at d;split at d
   ·rename_i e i ew;cases d;have Z:=zv.le J.sB u;refine X6 Z r3 ew λa kvs ls H' B' n U z3 z4 z6 z7 z5 z8 z9=> ?_;cases z7 with
    | @cons k b l xs ws kvs i ls kb e1 b0 r hl no t=>
     exact .inl ⟨a,_,0,.ref l,rfl,rfl,SqL.of z6,by unfold mZ oX;simp,hQ l xs H' (u.trans U) (u.free (z9 l ac)) e1 (r.mono (Q2 Z U b0 z3))⟩
   ·cases d) hj gl v hp o hd
end
section
theorem Kw (k:X.A.handled=none)(O:Gl X "sorted")(Q:X.mg "sorted"=none)(C :Gl X "set")(x :X.mg "set"=none)(ha:jc X Y a fa)(M:mP X a:=by exact mD rfl)(i :mP X (.Call (.Name "set" p') [a] [] pos'):=by exact mD rfl):
  wR X Y (.Return (some (.Call (.Name "sorted" p) [.Call (.Name "set" p') [a] [] pos'] [] pos)) rp) (uO (mn uH fa)):= .mk λρ=>
 PS.imp (jo (Zl (yG k) O Q PyProof.Rows.Boot.«sorted» (zi (Zf (qB k) C x PyProof.Rows.Boot.«set» (zi (ha ρ) zw M) (by decide) (by decide) M rfl) zw i) (by decide) (by decide) i rfl)) λD σ H ⟨B,I,q⟩=>by
  have q' :PoS Y B ((fa ρ).s λt=>(uH t).s λt=>match t with | .lst ts=> .rf ts | _=> .bad) D:=by
   have e:uO (mn uH fa) ρ=((fa ρ).s λt=>(uH t).s λt=>match t with | .lst ts=> .rf ts | _=> .bad):=by
    unfold uO mn;cases fa ρ <;> rfl
   rw[← e];exact q
  refine jG I q' λt v J _ s1 Z d c=> ?_;cases Z with
  | @lst l xs ts h r=>
   unfold uH at c;dsimp only at c;cases e:wl ts with
   | none=>rw[e]at c;exact c.elim
   | some y=>
    rw[e]at c;dsimp only at c;split at c
    ·rename_i S;have hn:(dd [] y).length < 64:=by
      have P:=xR y [];have h2:=Vv e;simp only[bR]at P;omega
     refine⟨l,xs,ts,y,rfl,h,r,e,S,λz hz=>⟨z,_,_,rfl,zh,λh k=>k,hn,λr hr=> ?_⟩⟩;have G:r ≠ z:=λe=>by rw[e,zh]at hr;cases hr
     have g:=by rw[zg G]at hr;exact hr
     have F:∀u w,zj J (ml (ml J z u) r w):=λu w b o j=>by
      have N:b ≠ z:=λe=>by rw[e,hz]at j;cases j
      have U:b ≠ r:=λe=>by rw[e,g]at j;cases j
      rw[zg U,zg N];exact j
     exact(show PoS Y _ (.rf _) D from c) r _ _ _ (d.sH.trans (F _ _)) (d.sH.free g) zh (WR _) (d.sB.free g) ((zv.ge d.sB (F _ _)).trans (WD d.sH d.old (F _ _) d.sB))
    ·exact c.elim
  | _=>exact c.elim
end
theorem Qe {a:List T->R (List WE)}{g:T->En->R En}{js:List Nat}:vM (Uz i a ga g ft fe k js):=λρ t e=>by
 unfold Uz at e;cases q:ga ρ with
 | ok l=>
  rw[q]at e;have e:(match u3 a l with
   | .ok d=>(match pA g ft fe k js (ρ.set i .un) d with
    | .ok vs=>(match ww (.lst vs) with
     | .ok (.lst j)=>RS.rf j
     | _=> .bad)
    | _=> .bad)
   | _=> .bad)= .rt t:=e
  split at e
  ·split at e
   ·split at e <;> cases e
   ·cases e
  ·cases e
 | ex c=>rw[q]at e;cases e
 | bad=>rw[q]at e;cases e
end PV
namespace G
open PySem PySem.Spec PyProof.Rows L2 PV
def rh:En->RS:=
  zq (mB (zD n9 (vB 1) (mn ZL (vB 0))) (zA (zc kj (vE 0) (vE 1))) (my))
  (zq (mB (zD mm (vB 0) (jB (zf))) (zA (cE (.int 0))) (my))
  (zA (zc zx (zc zV (zc kj (vE 0) (zc je (vE 1) (mn ZL (vB 0)))) (cE (.int 31))) (vE 1))))
def pR:List T->R T:=λts=>zm (rh  (mv 2 ts))
def CO (a:List T->R T):En->RS:=
  zq (zJ 3 (zc je (zc zV (zc zx (zb 2 a (za (vE 0) (za (vE 1) (zf)))) (zc zV (cE (.int 6151)) (zc zx (vE 1) (cE (.int 1))))) (cE (.int 40692))) (cE (.int 2147483399))))
  (zA (zc je (zc je (zc zx (zc zV (vE 3) (vE 3)) (zc wP (vE 3) (cE (.int 31)))) (cE (.int 2147483629))) (vE 2)))
def mW:List T->R T:=λts=>zm (CO (pR) (mv 4 ts))
def AE (a:List T->R T):En->RS:=
  zq (zJ 2 (cE (.str "abcdefghijklmnopqrstuvwxyz")))
  (zq (mB (zD ny (zb 3 a (za (vE 0) (za (vE 1) (za (cE (.int 6)) (zf))))) (cE (.int 0))) (zA (zc kj (jB (za (cE (.str "a")) (za (cE (.str "b")) (za (cE (.str "ab")) (za (cE (.str "cab")) (zf)))))) (zb 3 a (za (vE 0) (za (zc zx (vE 1) (cE (.int 1))) (za (cE (.int 4)) (zf))))))) (my))
  (zA (mn (CB "") (zT (Zt (zc zx (cE (.int 1)) (zb 3 a (za (vE 0) (za (zc zx (vE 1) (cE (.int 1))) (za (cE (.int 3)) (zf))))))) (zG 0) (Z3) (zc kj (vE 3) (zb 3 a (za (vE 1) (za (zc zx (zc zx (vE 2) (cE (.int 2))) (vE 0)) (za (cE (.int 26)) (zf)))))) 1 [0,1,2]))))
def gP:List T->R T:=λts=>zm (AE (mW) (mv 3 ts))
def Af (a:List T->R T)(c:List T->R T):En->RS:=
  zq (mB (zD ny (zb 3 a (za (vE 0) (za (vE 1) (za (cE (.int 3)) (zf))))) (cE (.int 0))) (zq (zJ 2 (zc jR (zb 3 a (za (vE 0) (za (zc zx (vE 1) (cE (.int 1))) (za (cE (.int 7)) (zf))))) (cE (.int 3))))
  (zq (mB (zD mm (zb 3 a (za (vE 0) (za (zc zx (vE 1) (cE (.int 3))) (za (cE (.int 8)) (zf))))) (cE (.int 0))) (zJ 2 (zc kj (jB (za (V2 (cE (.int 20))) (za (cE (.int 17)) (za (cE (.int 20)) (zf))))) (zb 3 a (za (vE 0) (za (zc zx (vE 1) (cE (.int 4))) (za (cE (.int 3)) (zf))))))) (my))
  (zA (Zb (za (cE (.str "whole")) (za (vE 2) (za (zc YH (cE (.int 20)) (zc zx (vE 2) (zb 3 a (za (vE 0) (za (zc zx (vE 1) (cE (.int 2))) (za (cE (.int 4)) (zf))))))) (zf)))))))) (my))
  (zq (WF 3 (zf))
  (zq (j2 (Zt (zc zx (cE (.int 1)) (zb 3 a (za (vE 0) (za (zc zx (vE 1) (cE (.int 1))) (za (cE (.int 4)) (zf))))))) (zG 4) (zq (zJ 5 (zb 2 c (za (vE 0) (za (zc zx (zc zx (vE 1) (cE (.int 5))) (zc zV (cE (.int 5)) (vE 4))) (zf)))))
  (mB (zD V3 (vB 5) (vB 3)) (Ud 3 (vE 5)) (my))))
  (zA (Zb (za (cE (.str "pick")) (za (mn gI (zT (Vc (vE 3)) (zO 0 1) (Z3) (Zb (za (vE 1) (za (zc zx (cE (.int 1)) (zb 3 a (za (vE 2) (za (zc zx (zc zx (vE 3) (cE (.int 30))) (vE 0)) (za (cE (.int 20)) (zf)))))) (zf)))) 2 [0,1])) (zf)))))))
def pY:List T->R T:=λts=>zm (Af (mW) (gP) (mv 6 ts))
def tH (a:List T->R T)(d:List T->R T)(c:List T->R T):En->RS:=
  zq (zJ 3 (zb 3 a (za (vE 0) (za (vE 1) (za (cE (.int 5)) (zf))))))
  (zq (mB (nz (zD mm (vB 2) (cE (.int 1))) (zD n9 (vB 3) (cE (.int 2)))) (zA (zb 2 d (za (vE 0) (za (zc zx (vE 1) (cE (.int 1))) (zf))))) (my))
  (zq (mB (zD n9 (vB 3) (cE (.int 4))) (zq (zJ 4 (zT (Zt (zc zx (cE (.int 1)) (zb 3 a (za (vE 0) (za (zc zx (vE 1) (cE (.int 1))) (za (cE (.int 3)) (zf))))))) (zG 0) (Z3) (zb 3 c (za (vE 1) (za (zc zx (zc zx (zc zV (cE (.int 3)) (vE 2)) (cE (.int 40))) (zc zV (cE (.int 50)) (vE 0))) (za (zc jR (vE 3) (cE (.int 1))) (zf))))) 1 [0,1,2]))
  (zA (Zb (za (cE (.str "row")) (za (mn gI (vE 4)) (zf)))))) (my))
  (zq (zJ 5 (zb 3 a (za (vE 0) (za (zc zx (vE 1) (cE (.int 1))) (za (cE (.int 3)) (zf))))))
  (zA (Zb (za (cE (.str "many")) (za (zb 3 c (za (vE 0) (za (zc zx (zc zV (cE (.int 3)) (vE 1)) (cE (.int 40))) (za (zc jR (vE 2) (cE (.int 1))) (zf))))) (za (vE 5) (za (zc YH (cE (.int 3)) (zc zx (vE 5) (zb 3 a (za (vE 0) (za (zc zx (vE 1) (cE (.int 2))) (za (cE (.int 3)) (zf))))))) (zf))))))))))
def oA:Nat->Nat->List T->R T
 | 0,_=>λ_=> .bad
 | n+1,_=>λts=>zm (tH (mW) (pY) (oA n 0) (mv 6 ts))
abbrev oW (n:Nat):List T->R T:=oA n 0
def tq:En->RS:=
  zq (zJ 1 (jB (za (Zb (zf)) (zf))))
  (zq (j2 (ZK (vE 0)) (zG 2) (zq (WF 3 (zf))
  (zq (j2 (ZK (vE 1)) (zG 4) (uu 3 (zT (ZK (vE 2)) (zG 0) (Z3) (zc zx (vE 1) (Zb (za (vE 0) (zf)))) 1 [4])))
  (Au 1 3))))
  (zA (vE 1)))
def mS:List T->R T:=λts=>zm (tq  (mv 5 ts))
def nk (c:List T->R T)(a:List T->R T):En->RS:=
  zq (mB (zD mm (zc kj (vE 0) (cE (.int 0))) (cE (.str "whole"))) (zA (tU (J7 (zc kj (vE 0) (cE (.int 1))) (zc zx (zc kj (vE 0) (cE (.int 2))) (cE (.int 1)))))) (my))
  (zq (mB (zD mm (zc kj (vE 0) (cE (.int 0))) (cE (.str "pick"))) (zA (zT (ZK (zc kj (vE 0) (cE (.int 1)))) (zO 0 1) (Z3) (vE 0) 2 [])) (my))
  (zq (mB (zD mm (zc kj (vE 0) (cE (.int 0))) (cE (.str "row"))) (zA (zb 1 a (za (zT (ZK (zc kj (vE 0) (cE (.int 1)))) (zG 0) (Z3) (zb 1 c (za (vE 0) (zf))) 1 []) (zf)))) (my))
  (zq (WF 1 (zf))
  (zq (j2 (J7 (zc kj (vE 0) (cE (.int 2))) (zc zx (zc kj (vE 0) (cE (.int 3))) (cE (.int 1)))) (zG 2) (uu 1 (zb 1 a (za (zc zV (jB (za (zb 1 c (za (zc kj (vE 0) (cE (.int 1))) (zf))) (zf))) (vE 2)) (zf)))))
  (zA (vE 1))))))
def pQ:Nat->Nat->List T->R T
 | 0,_=>λ_=> .bad
 | n+1,_=>λts=>zm (nk (pQ n 0) (mS) (mv 3 ts))
abbrev oh (n:Nat):List T->R T:=pQ n 0
def nE (c:List T->R T)(a:List T->R T):En->RS:=
  zq (mB (zD nc (zc kj (vE 0) (cE (.int 0))) (Zb (za (cE (.str "whole")) (za (cE (.str "pick")) (zf))))) (zA (mn ZL (zb 1 c (za (vE 0) (zf))))) (my))
  (zq (zJ 1 (nD (zD mm (zc kj (vE 0) (cE (.int 0))) (cE (.str "row"))) (zT (ZK (zc kj (vE 0) (cE (.int 1)))) (zG 0) (Z3) (zb 1 a (za (vE 0) (zf))) 1 []) (jB (zf))))
  (zq (zJ 2 (cE (.int 1)))
  (zq (j2 (ZK (vE 1)) (zG 3) (zJ 2 (zc zV (vE 2) (vE 3))))
  (zq (mB (zD mm (zc kj (vE 0) (cE (.int 0))) (cE (.str "many"))) (zq (zJ 4 (zb 1 a (za (zc kj (vE 0) (cE (.int 1))) (zf))))
  (zq (zJ 2 (zc zx (mn YU (j7 mm (zc kj (vE 0) (cE (.int 2))) (cE (.int 0)))) (zc zV (vE 4) (mn YU (nh mF mF (zc kj (vE 0) (cE (.int 2))) (cE (.int 1)) (zc kj (vE 0) (cE (.int 3))))))))
  (zq (zJ 2 (zc zx (vE 2) (zc zV (zc zV (vE 4) (vE 4)) (mn YU (nh mF mF (zc kj (vE 0) (cE (.int 2))) (cE (.int 2)) (zc kj (vE 0) (cE (.int 3))))))))
  (zJ 2 (zc zx (vE 2) (zc zV (zc zV (zc zV (vE 4) (vE 4)) (vE 4)) (mn YU (j7 mm (zc kj (vE 0) (cE (.int 3))) (cE (.int 3)))))))))) (my))
  (zA (vE 2))))))
def Ak:Nat->Nat->List T->R T
 | 0,_=>λ_=> .bad
 | n+1,_=>λts=>zm (nE (oh 8) (Ak n 0) (mv 5 ts))
abbrev sI (n:Nat):List T->R T:=Ak n 0
def Ab (a:List T->R T)(c:List T->R T):En->RS:=
  zq (zJ 3 (zb 3 a (za (vE 0) (za (vE 1) (za (cE (.int 3)) (zf))))))
  (zq (j2 (Zt (cE (.int 3))) (zG 4) (zq (mB (zD mF (zb 1 c (za (vE 3) (zf))) (vB 2)) (zA (vE 3)) (my))
  (zJ 3 (zb 3 a (za (vE 0) (za (zc zx (zc zx (vE 1) (cE (.int 500))) (zc zV (cE (.int 700)) (vE 4))) (za (cE (.int 2)) (zf))))))))
  (zA (nD (zD mF (zb 1 c (za (vE 3) (zf))) (vB 2)) (vE 3) (Zb (za (cE (.str "whole")) (za (V2 (cE (.int 1))) (za (cE (.int 2)) (zf))))))))
def sJ:List T->R T:=λts=>zm (Ab (oW 8) (sI 8) (mv 5 ts))
def tE (a:List T->R T)(c:List T->R T):En->RS:=
  zq (zJ 3 (zb 3 a (za (vE 0) (za (vE 1) (za (cE (.int 9)) (zf))))))
  (zq (mB (GN (zD ny (vB 2) (cE (.int 1))) (zD ny (vB 3) (cE (.int 5)))) (zq (zJ 4 (zb 3 c (za (vE 0) (za (zc zx (zc zV (cE (.int 2)) (vE 1)) (cE (.int 11))) (za (zc jR (vE 2) (cE (.int 1))) (zf))))))
  (zq (mB (zD mm (vB 3) (cE (.int 6))) (zA (Zb (za (cE (.str "no")) (za (vE 4) (zf))))) (my))
  (zA (Zb (za (zc kj (jB (za (cE (.str "all")) (za (cE (.str "some")) (zf)))) (zc jR (vE 3) (cE (.int 7)))) (za (vE 4) (za (zb 3 c (za (vE 0) (za (zc zx (zc zV (cE (.int 2)) (vE 1)) (cE (.int 24))) (za (zc jR (vE 2) (cE (.int 1))) (zf))))) (zf)))))))) (my))
  (zq (zJ 5 (zc jR (zb 3 a (za (vE 0) (za (zc zx (vE 1) (cE (.int 1))) (za (cE (.int 9)) (zf))))) (cE (.int 4))))
  (zq (mB (zD n9 (zc je (vE 3) (cE (.int 6))) (cE (.int 2))) (zA (Zb (za (cE (.str "sum")) (za (vE 5) (za (zc jR (zc zx (vE 5) (zb 3 a (za (vE 0) (za (zc zx (vE 1) (cE (.int 2))) (za (cE (.int 5)) (zf)))))) (cE (.int 1))) (zf)))))) (my))
  (zq (mB (zD mm (zc je (vE 3) (cE (.int 6))) (cE (.int 2))) (zA (Zb (za (cE (.str "size")) (za (zb 3 a (za (vE 0) (za (zc zx (vE 1) (cE (.int 1))) (za (cE (.int 3)) (zf))))) (za (zb 3 a (za (vE 0) (za (zc zx (vE 1) (cE (.int 2))) (za (cE (.int 4)) (zf))))) (zf)))))) (my))
  (zq (mB (zD mm (zc je (vE 3) (cE (.int 6))) (cE (.int 3))) (zA (Zb (za (cE (.str "word")) (za (zc kj (jB (za (cE (.str "a")) (za (cE (.str "b")) (za (cE (.str "ab")) (za (cE (.str "zz")) (zf)))))) (zb 3 a (za (vE 0) (za (zc zx (vE 1) (cE (.int 1))) (za (cE (.int 4)) (zf)))))) (zf))))) (my))
  (zA (nD (zD mm (zc je (vE 3) (cE (.int 6))) (cE (.int 4))) (Zb (za (cE (.str "rising")) (zf))) (Zb (za (cE (.str "unlike")) (zf))))))))))
def oH:Nat->Nat->List T->R T
 | 0,_=>λ_=> .bad
 | n+1,_=>λts=>zm (tE (mW) (oH n 0) (mv 6 ts))
abbrev tJ (n:Nat):List T->R T:=oH n 0
def Dk:En->RS:=
  zA (jg (mn (Y3 "int") (vB 0)) (V6 (mn (Y3 "bool") (vB 0))))
def nL:List T->R T:=λts=>zm (Dk  (mv 1 ts))
def C3 (a:List T->R T):En->RS:=
  zA (jg (zb 1 a (za (vE 0) (zf))) (jg (zb 1 a (za (vE 1) (zf))) (sC mF mF mF (vB 2) (vB 0) (vB 1) (vB 3))))
def oV:List T->R T:=λts=>zm (C3 (nL) (mv 4 ts))
def C6:En->RS:=
  zA (jg (mn (Y3 "tuple") (vB 0)) (nh mF mF (vB 1) (mn ZL (vB 0)) (vB 2)))
def nK:List T->R T:=λts=>zm (C6  (mv 3 ts))
def Cy:En->RS:=
  zq (mB (nz (uy (wg (mn (Y3 "str") (vB 0)))) (uy (C8 mF mF (cE (.int 1)) (mn ZL (vB 0)) (cE (.int 3))))) (zA (cE (.bl false))) (my))
  (zA (mn km (zT (ZK (vE 0)) (zG 0) (Z3) (nh mF mF (cE (.str "a")) (vB 0) (cE (.str "z"))) 1 [])))
def nS:List T->R T:=λts=>zm (Cy  (mv 1 ts))
def AK (d:List T->R T)(a:List T->R T)(c:List T->R T):En->RS:=
  zA (jg (zb 3 a (za (vE 0) (za (cE (.int 2)) (za (cE (.int 2)) (zf))))) (jg (zb 1 c (za (zc kj (vE 0) (cE (.int 0))) (zf))) (jg (zb 1 d (za (zc kj (vE 0) (cE (.int 1))) (zf))) (nh mF mF (cE (.int 1)) (zc kj (vE 0) (cE (.int 1))) (cE (.int 20))))))
def ot:List T->R T:=λts=>zm (AK (nL) (nK) (nS) (mv 1 ts))
def sY (c:List T->R T)(a:List T->R T):En->RS:=
  zq (mB (nz (uy (wg (zb 3 c (za (vE 0) (za (cE (.int 1)) (za (cE (.int 4)) (zf))))))) (uy (wg (mn km (zT (ZK (vE 0)) (zG 0) (Z3) (zb 1 a (za (vE 0) (zf))) 1 []))))) (zA (cE (.bl false))) (my))
  (zq (zJ 1 (zT (ZK (vE 0)) (zG 0) (Z3) (zc kj (vE 0) (cE (.int 0))) 1 []))
  (zA (j7 mm (mn Ve (vB 1)) (mn ZL (vB 1)))))
def oB:List T->R T:=λts=>zm (sY (nK) (ot) (mv 2 ts))
def Ay (c:List T->R T)(e:List T->R T)(d:List T->R T)(a:List T->R T):En->RS:=
  zq (mB (nz (zD mm (vB 1) (cE (.int 0))) (nz (uy (wg (mn (Y3 "tuple") (vB 0)))) (zD mm (mn ZL (vB 0)) (cE (.int 0))))) (zA (cE (.bl false))) (my))
  (zq (mB (zD mm (zc kj (vE 0) (cE (.int 0))) (cE (.str "whole"))) (zA (jg (j7 mm (mn ZL (vB 0)) (cE (.int 3))) (zb 4 c (za (zc kj (vE 0) (cE (.int 1))) (za (zc kj (vE 0) (cE (.int 2))) (za (V2 (cE (.int 20))) (za (cE (.int 20)) (zf)))))))) (my))
  (zq (mB (zD mm (zc kj (vE 0) (cE (.int 0))) (cE (.str "pick"))) (zA (jg (j7 mm (mn ZL (vB 0)) (cE (.int 2))) (zb 1 d (za (zc kj (vE 0) (cE (.int 1))) (zf))))) (my))
  (zq (mB (zD mm (zc kj (vE 0) (cE (.int 0))) (cE (.str "row"))) (zA (jg (j7 mm (mn ZL (vB 0)) (cE (.int 2))) (zb 2 a (za (zc kj (vE 0) (cE (.int 1))) (za (zc jR (vE 1) (cE (.int 1))) (zf)))))) (my))
  (zq (mB (zD mm (zc kj (vE 0) (cE (.int 0))) (cE (.str "many"))) (zA (jg (j7 mm (mn ZL (vB 0)) (cE (.int 4))) (jg (zb 4 c (za (zc kj (vE 0) (cE (.int 2))) (za (zc kj (vE 0) (cE (.int 3))) (za (cE (.int 0)) (za (cE (.int 3)) (zf)))))) (zb 2 e (za (zc kj (vE 0) (cE (.int 1))) (za (zc jR (vE 1) (cE (.int 1))) (zf))))))) (my))
  (zA (cE (.bl false)))))))
def sX (c:List T->R T)(a:List T->R T):En->RS:=
  zA (jg (zb 3 c (za (vE 0) (za (cE (.int 1)) (za (cE (.int 3)) (zf))))) (mn km (zT (ZK (vE 0)) (zG 0) (Z3) (zb 2 a (za (vE 0) (za (vE 1) (zf)))) 1 [1])))
def mR:Nat->Nat->List T->R T
 | 0,_=>λ_=> .bad
 | n+1,0=>λts=>zm (Ay (oV) (mR n 0) (oB) (mR n 1) (mv 2 ts))
 | n+1,_=>λts=>zm (sX (nK) (mR n 0) (mv 2 ts))
abbrev pq (n:Nat):List T->R T:=mR n 0
abbrev sA (n:Nat):List T->R T:=mR n 1
def tP (a:List T->R T):En->RS:=
  zA (zb 2 a (za (vE 0) (za (cE (.int 3)) (zf))))
def oj:List T->R T:=λts=>zm (tP (pq 20) (mv 1 ts))
def tX (a:List T->R T):En->RS:=
  mB (uy (wg (zb 1 a (za (vE 0) (zf))))) (pU) (my)
def n6:List T->R T:=λts=>zm (tX (oj) (mv 1 ts))
def sP:En->RS:=
  zA (zT (ZK (zc kj (vE 0) (cE (.int 1)))) (zG 0) (Z3) (zc kj (vE 0) (cE (.int 0))) 1 [])
def nZ:List T->R T:=λts=>zm (sP  (mv 1 ts))
def oR:En->RS:=
  zq (mB (zD mm (zc kj (vE 0) (cE (.int 0))) (cE (.str "row"))) (zA (zc kj (vE 0) (cE (.int 1)))) (my))
  (zq (mB (zD mm (zc kj (vE 0) (cE (.int 0))) (cE (.str "many"))) (zA (Zb (za (zc kj (vE 0) (cE (.int 1))) (zf)))) (my))
  (zA (Zb (zf))))
def oo:List T->R T:=λts=>zm (oR  (mv 1 ts))
def tM (a:List T->R T)(d:List T->R T)(c:List T->R T):En->RS:=
  zq (mB (zD mm (zc kj (vE 0) (cE (.int 0))) (cE (.str "pick"))) (zA (zb 1 a (za (vE 0) (zf)))) (my))
  (zq (WF 1 (zf))
  (zq (j2 (ZK (zb 1 d (za (vE 0) (zf)))) (zG 2) (uu 1 (zb 1 c (za (vE 2) (zf)))))
  (zA (vE 1))))
def n8:Nat->Nat->List T->R T
 | 0,_=>λ_=> .bad
 | n+1,_=>λts=>zm (tM (nZ) (oo) (n8 n 0) (mv 3 ts))
abbrev pI (n:Nat):List T->R T:=n8 n 0
def pK (c:List T->R T)(a:List T->R T):En->RS:=
  zq (J6 (zb 1 c (za (vE 0) (zf))))
  (uO (mn uH (zb 1 a (za (vE 0) (zf)))))
def nR:List T->R T:=λts=>zm (pK (n6) (pI 20) (mv 1 ts))
def BY (a:List T->R T):En->RS:=
  zA (jg (zb 1 a (za (vE 0) (zf))) (nh mF mF (V2 (cE (.int 50))) (vB 0) (cE (.int 50))))
def Kx:List T->R T:=λts=>zm (BY (nL) (mv 1 ts))
def AB (d:List T->R T)(c:List T->R T)(a:List T->R T):En->RS:=
  zq (mB (nz (zD mm (vB 1) (cE (.int 0))) (nz (uy (wg (mn (Y3 "tuple") (vB 0)))) (zD mm (mn ZL (vB 0)) (cE (.int 0))))) (zA (cE (.bl false))) (my))
  (zq (mB (nz (zD mm (zc kj (vE 0) (cE (.int 0))) (cE (.str "sum"))) (zD mm (zc kj (vE 0) (cE (.int 0))) (cE (.str "size")))) (zA (jg (j7 mm (mn ZL (vB 0)) (cE (.int 3))) (jg (zb 1 a (za (zc kj (vE 0) (cE (.int 1))) (zf))) (zb 1 a (za (zc kj (vE 0) (cE (.int 2))) (zf)))))) (my))
  (zq (mB (zD mm (zc kj (vE 0) (cE (.int 0))) (cE (.str "word"))) (zA (jg (j7 mm (mn ZL (vB 0)) (cE (.int 2))) (zb 1 d (za (zc kj (vE 0) (cE (.int 1))) (zf))))) (my))
  (zq (mB (nz (zD mm (zc kj (vE 0) (cE (.int 0))) (cE (.str "rising"))) (zD mm (zc kj (vE 0) (cE (.int 0))) (cE (.str "unlike")))) (zA (j7 mm (mn ZL (vB 0)) (cE (.int 1)))) (my))
  (zq (mB (zD mm (zc kj (vE 0) (cE (.int 0))) (cE (.str "no"))) (zA (jg (j7 mm (mn ZL (vB 0)) (cE (.int 2))) (zb 2 c (za (zc kj (vE 0) (cE (.int 1))) (za (zc jR (vE 1) (cE (.int 1))) (zf)))))) (my))
  (zq (mB (nz (zD mm (zc kj (vE 0) (cE (.int 0))) (cE (.str "all"))) (zD mm (zc kj (vE 0) (cE (.int 0))) (cE (.str "some")))) (zA (jg (j7 mm (mn ZL (vB 0)) (cE (.int 3))) (jg (zb 2 c (za (zc kj (vE 0) (cE (.int 1))) (za (zc jR (vE 1) (cE (.int 1))) (zf)))) (zb 2 c (za (zc kj (vE 0) (cE (.int 2))) (za (zc jR (vE 1) (cE (.int 1))) (zf))))))) (my))
  (zA (cE (.bl false))))))))
def oQ:Nat->Nat->List T->R T
 | 0,_=>λ_=> .bad
 | n+1,_=>λts=>zm (AB (nS) (oQ n 0) (Kx) (mv 2 ts))
abbrev pE (n:Nat):List T->R T:=oQ n 0
def CV (a:List T->R T):En->RS:=
  zA (zb 2 a (za (vE 0) (za (cE (.int 3)) (zf))))
def pk:List T->R T:=λts=>zm (CV (pE 8) (mv 1 ts))
def sO (a:List T->R T):En->RS:=
  mB (uy (wg (zb 1 a (za (vE 0) (zf))))) (pU) (my)
def oJ:List T->R T:=λts=>zm (sO (pk) (mv 1 ts))
def AA (a:List T->R T):En->RS:=
  zq (mB (uy (wg (mn (CY "list" "tuple") (vE 0)))) (pU) (my))
  (j2 (ZK (vE 0)) (zG 1) (J6 (zb 1 a (za (vE 1) (zf)))))
def nO:List T->R T:=λts=>zm (AA (oJ) (mv 2 ts))
def AN (c:List T->R T)(a:List T->R T):En->RS:=
  zq (mB (zD mm (zc kj (vE 0) (cE (.int 0))) (cE (.str "whole"))) (zA (zc zx (zc jR (zc kj (vE 0) (cE (.int 2))) (zc kj (vE 0) (cE (.int 1)))) (cE (.int 1)))) (my))
  (zq (mB (zD mm (zc kj (vE 0) (cE (.int 0))) (cE (.str "pick"))) (zA (mn ZL (zc kj (vE 0) (cE (.int 1))))) (my))
  (zq (mB (zD mm (zc kj (vE 0) (cE (.int 0))) (cE (.str "row"))) (zA (zb 1 c (za (zc kj (vE 0) (cE (.int 1))) (zf)))) (my))
  (zA (zb 2 a (za (vE 0) (za (zc zx (zc kj (vE 0) (cE (.int 3))) (cE (.int 1))) (zf)))))))
def rT (a:List T->R T):En->RS:=
  zq (zJ 1 (cE (.int 1)))
  (zq (j2 (ZK (vE 0)) (zG 2) (zJ 1 (zc zV (vE 1) (zb 1 a (za (vE 2) (zf))))))
  (zA (vE 1)))
def pT (a:List T->R T):En->RS:=
  zA (mn kO (zT (J7 (zc kj (vE 0) (cE (.int 2))) (vE 1)) (zG 0) (Z3) (zb 1 a (za (zc zV (jB (za (zc kj (vE 1) (cE (.int 1))) (zf))) (vE 0)) (zf))) 1 [0]))
def mX:Nat->Nat->List T->R T
 | 0,_=>λ_=> .bad
 | n+1,0=>λts=>zm (AN (mX n 1) (mX n 2) (mv 1 ts))
 | n+1,1=>λts=>zm (rT (mX n 0) (mv 3 ts))
 | n+1,_=>λts=>zm (pT (mX n 1) (mv 2 ts))
abbrev nY (n:Nat):List T->R T:=mX n 0
abbrev tu (n:Nat):List T->R T:=mX n 1
abbrev oy (n:Nat):List T->R T:=mX n 2
def tz (d:List T->R T)(a:List T->R T)(c:List T->R T):En->RS:=
  zq (mB (zD mm (zc kj (vE 0) (cE (.int 0))) (cE (.str "whole"))) (zA (zc zx (zc kj (vE 0) (cE (.int 1))) (vE 1))) (my))
  (zq (mB (zD mm (zc kj (vE 0) (cE (.int 0))) (cE (.str "pick"))) (zA (zc kj (zb 1 d (za (vE 0) (zf))) (vE 1))) (my))
  (zq (mB (zD mm (zc kj (vE 0) (cE (.int 0))) (cE (.str "row"))) (zA (zb 2 c (za (zc kj (vE 0) (cE (.int 1))) (za (vE 1) (zf))))) (my))
  (zA (zb 2 a (za (vE 0) (za (vE 1) (zf)))))))
def rJ (a:List T->R T)(c:List T->R T):En->RS:=
  zq (zJ 2 (zc kj (vE 0) (cE (.int 2))))
  (zq (Zq (zD mF (zb 2 a (za (vE 0) (za (zc zx (vE 2) (cE (.int 1))) (zf)))) (vB 1)) (zJ 2 (zc zx (vE 2) (cE (.int 1)))) (8))
  (zA (zb 2 c (za (zc zV (jB (za (zc kj (vE 0) (cE (.int 1))) (zf))) (vE 2)) (za (zc jR (vE 1) (zb 2 a (za (vE 0) (za (vE 2) (zf))))) (zf))))))
def rF (c:List T->R T)(a:List T->R T):En->RS:=
  zq (WF 2 (zf))
  (zq (zJ 3 (vE 1))
  (zq (j2 (Bo (vE 0)) (zG 4) (zq (zJ 5 (zb 1 c (za (vE 4) (zf))))
  (zq (Ud 2 (zb 2 a (za (vE 4) (za (zc je (vE 3) (vE 5)) (zf)))))
  (zJ 3 (zc wP (vE 3) (vE 5))))))
  (zA (mn Vn (vE 2)))))
def mY:Nat->Nat->List T->R T
 | 0,_=>λ_=> .bad
 | n+1,0=>λts=>zm (tz (nZ) (mY n 1) (mY n 2) (mv 2 ts))
 | n+1,1=>λts=>zm (rJ (oy 20) (mY n 2) (mv 3 ts))
 | n+1,_=>λts=>zm (rF (nY 20) (mY n 0) (mv 6 ts))
abbrev oD (n:Nat):List T->R T:=mY n 0
abbrev tm (n:Nat):List T->R T:=mY n 1
abbrev Aq (n:Nat):List T->R T:=mY n 2
def tO (d:List T->R T)(c:List T->R T)(a:List T->R T):En->RS:=
  zq (J6 (zb 1 d (za (vE 0) (zf))))
  (zq (zJ 1 (zb 1 c (za (vE 0) (zf))))
  (zq (mB (zD ny (vB 1) (cE (.int 500))) (pU) (my))
  (zA (zT (Zt (vE 1)) (zG 0) (Z3) (zb 2 a (za (vE 1) (za (vE 0) (zf)))) 1 [0]))))
def om:List T->R T:=λts=>zm (tO (n6) (nY 20) (oD 20) (mv 2 ts))
def Ag (a:List T->R T):En->RS:=
  zq (mB (uy (wg (mn (Y3 "tuple") (vB 0)))) (zA (jB (za (vE 0) (zf)))) (my))
  (zq (WF 1 (zf))
  (zq (j2 (ZK (vE 0)) (zG 2) (uu 1 (zb 1 a (za (vE 2) (zf)))))
  (zA (vE 1))))
def oK:Nat->Nat->List T->R T
 | 0,_=>λ_=> .bad
 | n+1,_=>λts=>zm (Ag (oK n 0) (mv 3 ts))
abbrev oG (n:Nat):List T->R T:=oK n 0
def BJ (a:List T->R T)(c:List T->R T):En->RS:=
  zA (zT (ZK (zb 1 c (za (vE 0) (zf)))) (zG 0) (wg (zb 1 a (za (vE 0) (zf)))) (vE 0) 1 [])
def Ky:List T->R T:=λts=>zm (BJ (nL) (oG 8) (mv 1 ts))
def rP:En->RS:=
  zA (nD (wg (mn (Y3 "tuple") (vB 0))) (vE 0) (Zb (za (vE 0) (zf))))
def Kz:List T->R T:=λts=>zm (rP  (mv 1 ts))
def BW:En->RS:=
  zA (mn km (zT (gM (vE 0) (pB (vE 0) (yu (cE (.int 1))) (pO))) (zO 0 1) (Z3) (j7 mF (vB 0) (vB 1)) 2 []))
def gQ:List T->R T:=λts=>zm (BW  (mv 1 ts))
def BC:En->RS:=
  zA (V6 (mn BA (zT (Up (vE 0)) (zO 0 1) (Z3) (j7 nc (vB 1) (pB (vE 2) (pO) (yu (vE 0)))) 2 [0])))
def gR:List T->R T:=λts=>zm (BC  (mv 1 ts))
def Al (c:List T->R T)(g:List T->R T)(a:List T->R T)(e:List T->R T)(d:List T->R T):En->RS:=
  zq (mB (zD mm (zc kj (vE 0) (cE (.int 0))) (cE (.str "sum"))) (zA (nh mF mF (zc kj (vE 0) (cE (.int 1))) (mn kO (zb 1 a (za (vE 1) (zf)))) (zc kj (vE 0) (cE (.int 2))))) (my))
  (zq (mB (zD mm (zc kj (vE 0) (cE (.int 0))) (cE (.str "size"))) (zA (nh mF mF (zc kj (vE 0) (cE (.int 1))) (mn ZL (zb 1 c (za (vE 1) (zf)))) (zc kj (vE 0) (cE (.int 2))))) (my))
  (zq (mB (zD mm (zc kj (vE 0) (cE (.int 0))) (cE (.str "word"))) (zA (j7 nc (zc kj (vE 0) (cE (.int 1))) (zb 1 g (za (vE 1) (zf))))) (my))
  (zq (mB (zD mm (zc kj (vE 0) (cE (.int 0))) (cE (.str "rising"))) (zA (zb 1 e (za (zb 1 a (za (vE 1) (zf))) (zf)))) (my))
  (zA (zb 1 d (za (zb 1 c (za (vE 1) (zf))) (zf)))))))
def X7:List T->R T:=λts=>zm (Al (Kz) (oG 8) (Ky) (gQ) (gR) (mv 2 ts))
def tL (a:List T->R T)(c:List T->R T):En->RS:=
  zq (mB (zD mm (zc kj (vE 0) (cE (.int 0))) (cE (.str "no"))) (zA (V6 (zb 2 a (za (zc kj (vE 0) (cE (.int 1))) (za (vE 1) (zf)))))) (my))
  (zq (mB (zD mm (zc kj (vE 0) (cE (.int 0))) (cE (.str "all"))) (zA (jg (zb 2 a (za (zc kj (vE 0) (cE (.int 1))) (za (vE 1) (zf)))) (zb 2 a (za (zc kj (vE 0) (cE (.int 2))) (za (vE 1) (zf)))))) (my))
  (zq (mB (zD mm (zc kj (vE 0) (cE (.int 0))) (cE (.str "some"))) (zA (se (zb 2 a (za (zc kj (vE 0) (cE (.int 1))) (za (vE 1) (zf)))) (zb 2 a (za (zc kj (vE 0) (cE (.int 2))) (za (vE 1) (zf)))))) (my))
  (zA (zb 2 c (za (vE 0) (za (vE 1) (zf)))))))
def nH:Nat->Nat->List T->R T
 | 0,_=>λ_=> .bad
 | n+1,_=>λts=>zm (tL (nH n 0) (X7) (mv 2 ts))
abbrev oF (n:Nat):List T->R T:=nH n 0
def Av (a:List T->R T):En->RS:=
  zA (mn gI (zT (ZK (vE 0)) (zG 0) (Z3) (zb 2 a (za (vE 0) (za (vE 1) (zf)))) 1 [1]))
def gT:List T->R T:=λts=>zm (Av (oF 8) (mv 2 ts))
def zp:List T->R (List WE):=Cz (om) (gT)
def AG:En->RS:=
  zq (Zq (zD nA (vB 1) (cE (.int 0))) (zq (zJ 2 (zc je (vE 0) (vE 1)))
  (zq (zJ 0 (vE 1))
  (zJ 1 (vE 2)))) (2 ^ 9000))
  (zA (vE 0))
def gU:List T->R T:=λts=>zm (AG  (mv 3 ts))
def tV (a:List T->R T):En->RS:=
  zq (zJ 2 (zb 2 a (za (mn As (vB 0)) (za (vE 1) (zf)))))
  (zA (Zb (za (zc gO (vE 0) (vE 2)) (za (zc gO (vE 1) (vE 2)) (zf)))))
def oE:List T->R T:=λts=>zm (tV (gU) (mv 3 ts))
def tR (a:List T->R T):En->RS:=
  zA (zb 2 a (za (zc zx (zc oi (zc kj (vE 0) (cE (.int 0))) (zc kj (vE 1) (cE (.int 1)))) (zc oi (zc kj (vE 1) (cE (.int 0))) (zc kj (vE 0) (cE (.int 1))))) (za (zc oi (zc kj (vE 0) (cE (.int 1))) (zc kj (vE 1) (cE (.int 1)))) (zf))))
def gX:List T->R T:=λts=>zm (tR (oE) (mv 2 ts))
def sZ (a:List T->R T):En->RS:=
  zq (zJ 1 (Zb (za (cE (.int 0)) (za (cE (.int 1)) (zf)))))
  (zq (j2 (ZK (vE 0)) (zG 2) (zJ 1 (zb 2 a (za (vE 1) (za (vE 2) (zf))))))
  (zA (vE 1)))
def pW:List T->R T:=λts=>zm (sZ (gX) (mv 3 ts))
def sV (a:List T->R T):En->RS:=
  Vs 1 (zc kj (vE 0) (cE (.int 1))) a
def rN:List T->R T:=λts=>zm (sV (oE) (mv 3 ts))
def Ae (a:List T->R T):En->RS:=
  zA (zb 2 a (za (zc oi (zc kj (vE 0) (cE (.int 0))) (zc kj (vE 1) (cE (.int 0)))) (za (zc oi (zc kj (vE 0) (cE (.int 1))) (zc kj (vE 1) (cE (.int 1)))) (zf))))
def VR:List T->R T:=λts=>zm (Ae (oE) (mv 2 ts))
def o6 (e:List T->R T)(c:List T->R T)(d:List T->R T)(a:List T->R T):En->RS:=
  zq (mB (zD mm (zc kj (vE 0) (cE (.int 0))) (cE (.str "whole"))) (zA (Zb (za (cE (.int 1)) (za (zb 1 e (za (vE 0) (zf))) (zf))))) (my))
  (zq (mB (zD mm (zc kj (vE 0) (cE (.int 0))) (cE (.str "pick"))) (zA (zb 2 d (za (vE 0) (za (vE 1) (zf))))) (my))
  (zq (mB (zD mm (zc kj (vE 0) (cE (.int 0))) (cE (.str "row"))) (zA (zb 2 a (za (zc kj (vE 0) (cE (.int 1))) (za (vE 1) (zf))))) (my))
  (zq (zJ 2 (Zb (za (cE (.int 1)) (za (zc zx (zc jR (zc kj (vE 0) (cE (.int 3))) (zc kj (vE 0) (cE (.int 2)))) (cE (.int 1))) (zf)))))
  (zA (zb 2 c (za (vE 2) (za (zb 2 a (za (zc zV (jB (za (zc kj (vE 0) (cE (.int 1))) (zf))) (mn ZL (vB 1))) (za (vE 1) (zf)))) (zf))))))))
def rW (a:List T->R T)(c:List T->R T):En->RS:=
  zq (zJ 2 (Zb (za (cE (.int 1)) (za (cE (.int 1)) (zf)))))
  (zq (j2 (gM (vE 0) (vE 1)) (zO 3 4) (zJ 2 (zb 2 a (za (vE 2) (za (zb 2 c (za (vE 3) (za (vE 4) (zf)))) (zf))))))
  (zA (vE 2)))
def nv:Nat->Nat->List T->R T
 | 0,_=>λ_=> .bad
 | n+1,0=>λts=>zm (o6 (nY 20) (VR) (rN) (nv n 1) (mv 3 ts))
 | n+1,_=>λts=>zm (rW (VR) (nv n 0) (mv 5 ts))
abbrev pJ (n:Nat):List T->R T:=nv n 0
abbrev rV (n:Nat):List T->R T:=nv n 1
def tI (c:List T->R T)(a:List T->R T):En->RS:=
  zA (zb 1 c (za (zT (ZK (vE 1)) (zG 0) (Z3) (zb 2 a (za (vE 1) (za (vE 0) (zf)))) 1 [0]) (zf)))
def gY:List T->R T:=λts=>zm (tI (pW) (pJ 20) (mv 2 ts))
def pM (c:List T->R T)(d:List T->R T)(a:List T->R (List WE)):En->RS:=
  zq (J6 (zb 1 d (za (vE 1) (zf))))
  (Uz 2 a (za (vE 0) (za (vE 1) (zf))) (zO 0 1) (Z3) (Zb (za (vE 0) (za (mn ZL (vB 1)) (za (zb 2 c (za (vE 2) (za (vE 1) (zf)))) (zf))))) 2 [0])
def og:List T->R T:=λts=>zm (pM (gY) (nO) (zp) (mv 3 ts))
def Zd:List T->R (List WE):=C1 (nO) (zp)
def At (a:List T->R T):En->RS:=
  zA (zT (ZK (vE 1)) (zG 0) (Z3) (mn ZL (zT (ZK (vE 1)) (zG 0) (wg (zb 2 a (za (vE 1) (za (vE 0) (zf))))) (vE 0) 1 [0])) 1 [0])
def gZ:List T->R T:=λts=>zm (At (oF 8) (mv 2 ts))
def pL (c:List T->R T)(d:List T->R T)(a:List T->R T):En->RS:=
  zq (J6 (zb 1 d (za (vE 1) (zf))))
  (zq (zJ 2 (zb 2 a (za (zb 1 c (za (vE 0) (zf))) (za (vE 1) (zf)))))
  (zq (zJ 3 (Kg (vB 2) (cE (.int 0))))
  (rM (Vc (vE 2)) (zO 0 1) (zD mm (vB 1) (vB 2)) (vE 0) 2 [3])))
def n5:List T->R T:=λts=>zm (pL (om) (nO) (gZ) (mv 4 ts))
def Ao (c:List T->R T)(g:List T->R T)(i:List T->R T)(e:List T->R T)(a:List T->R (List WE))(d:List T->R T):En->RS:=
  zq (zJ 1 (zb 3 c (za (vE 0) (za (cE (.int 0)) (za (cE (.int 40)) (zf))))))
  (zq (zJ 2 (zT (Zt (cE (.int 3))) (zG 0) (Z3) (zb 3 i (za (vE 1) (za (zc zx (cE (.int 3000)) (zc zV (cE (.int 200)) (vE 0))) (za (cE (.int 2)) (zf))))) 1 [0]))
  (zq (zJ 3 (mn B4 (vE 2)))
  (zq (WF 4 (za (jX [1] 1 g (za (vE 0) (zf))) (zf)))
  (zq (Ud 4 (jX [1,2] 2 e (za (vE 0) (za (vE 1) (zf)))))
  (zq (Ud 4 (wx Kt [1,2] a (za (vE 0) (za (vE 1) (zf)))))
  (zq (Ud 4 (wx Ku [1,2] a (za (vE 0) (za (vE 1) (zf)))))
  (zq (Ud 4 (jX [1,2] 2 d (za (vE 0) (za (vE 1) (zf)))))
  (zA (jg (j7 mm (vB 4) (zc zV (jB (za (cE (.bl true)) (zf))) (cE (.int 5)))) (j7 mm (vB 2) (vB 3)))))))))))
def oN:List T->R T:=λts=>zm (Ao (sJ) (nR) (tJ 8) (og) (Zd) (n5) (tf 6 ts))
end G
namespace G
open PySem L2 PV
noncomputable abbrev mz (ns:List Int):T:= .fz (ns.map T.int)
theorem KA (d:List Int)(k:Int)(B:0<=k):∃c,pR [mz d,.int k]= .ok (.int c):=by
 have q:pR [mz d,.int k]=zm (if decide (k < ((d.map T.int).length))=true then (mT (d.map T.int) k).s (λt=> .rt t) else
   match (mm (mz d) (.lst [])).s (λb=>if b=true then RS.rt (.int 0) else .nx [.vl (mz d),.vl (.int k)]) with
   | .nx i =>zA (zc zx (zc zV (zc kj (vE 0) (zc je (vE 1) (mn ZL (vB 0)))) (cE (.int 31))) (vE 1)) i
   | r=>r):=by
  show zm (match (if decide _=true then (mT _ k).s (λt=>RS.rt t) else .nx _) with
   | .nx i =>_
   | r=>r)=_
  cases decide (k < ((d.map _).length:Int)) with
  | true=>
   unfold mT;cases mZ _ k <;> rfl
  | false=>rfl
 rw[q,af]
 by_cases o:k < (d.length)
 ·obtain⟨v,l⟩:∃v,d[k.toNat]? =some v:=⟨d[k.toNat]'(by omega),ak (by omega)⟩
  have j:mZ (d.map T.int) k=some (.int v):=by
   have:k=((k.toNat):Int):=by omega
   rw[this];exact jb (by rw[aw,l];rfl)
  rw[decide_eq_true o];exact⟨v,by unfold mT;rw[j];rfl⟩
 ·rw[decide_eq_false o];cases d with
  | nil=>exact⟨0,rfl⟩
  | cons x g=>
   have u:=ma k (show (((x :: g).length):Int) ≠ 0 by simp only[ar];omega)
   have p:=l9 k (show (0) < (((x :: g).length):Int) by simp only[ar];omega)
   obtain⟨v,l⟩:∃v,(x :: g)[(k % (((x :: g).length):Int)).toNat]? =some v:=⟨_,ak (by omega)⟩
   have j:mZ ((x :: g).map T.int) (k % (((x :: g).length):Int))=some (.int v):=by
    have e:k % (((x :: g).length):Int)=(((k % (((x :: g).length):Int)).toNat:Nat):Int):=by omega
    rw[e];exact jb (by rw[aw,l];rfl)
   have w:uq v 31:= .inr ⟨by decide,by decide⟩
   have hp:(0:Int) < (((x :: g).map T.int).length):=by simp only[af,ar];omega
   refine⟨v*31+k, ?_⟩;show zm (((((if 0 < (((x :: g).map _).length:Int) then R.ok _ else .bad).bind λy=>kj _ y).bind λa=>zV a _).bind λa=>zx a _).s λt=> .rt t)=_
   rw[if_pos hp];show zm ((((mT _ _).bind λa=>zV a _).bind λa=>zx a _).s λt=> .rt t)=_;rw[af];unfold mT;rw[j];show zm ((((if uq v 31 then R.ok _ else .bad)).bind λa=>zx a _).s λt=> .rt t)=_
   rw[if_pos w];rfl
theorem zN (e:List Int)(k m:Int)(l:0<=k)(j:0 < m):∃p,mW [mz e,.int k,.int m]= .ok (.int p)/\0<=p/\p < m:=by
 obtain⟨c,q⟩:=KA e k l;have i:uq (c+6151*(k+1)) 40692:= .inr ⟨by decide,by decide⟩
 generalize hd:(c+6151*(k+1))*40692 % 2147483399=d;have g:uq d d:= .inl ⟨by omega,by omega⟩
 refine⟨(d*d+d / 31) % 2147483629 % m, ?_,ma _ (by omega),l9 _ j⟩
 have o:mW [mz e,.int k,.int m]=zm (match ((((((pR _).bind λx=>(zV (.int 6151) (.int _)).bind λy=>zx x y).bind λx=>zV x _).bind λx=>je x _)).s λt=>RS.nx _) with
   | .nx a =>zA _ a
   | r=>r):=rfl
 rw[o,q];show zm (match ((((if uq _ _ then R.ok _ else .bad)).bind λx=>je x _).s λt=>RS.nx _) with
   | .nx a =>_
   | r=>r)=_
 rw[if_pos i];show zm (zA _ _)=_;rw[hd];show zm (((((if uq d d then R.ok _ else .bad).bind λx=>zx x _).bind λx=>je x _).bind λx=>je x _).s λt=>RS.rt t)=_
 rw[if_pos g];show zm ((if 0 < m then R.ok _ else .bad).s λt=>RS.rt t)=_
 rw[if_pos j];rfl
theorem Qf {ft:En->R Bool}{fe:En->R T}:∀(ts:List T) (ρ:En) (x:Sl),zt (zG 0) ft fe ts (ρ.set 0 x)=zt (zG 0) ft fe ts ρ
 | [],_,_=>rfl
 | t :: ts,ρ,x=>by
  unfold zt zG;rw[List.set_set]
theorem ZT {ft:En->R Bool}{fe:En->R T}{p:T->Bool}{h:T->T}:∀(ts:List T) (ρ:En),(∀t∈ts,ft (ρ.set 0 (.vl t))= .ok (p t)/\(p t=true->fe (ρ.set 0 (.vl t))= .ok (h t)))->zt (zG 0) ft fe ts ρ= .ok ((ts.filter p).map h)
 | [],_,_=>rfl
 | t :: ts,ρ,H=>by
  obtain⟨c,d⟩:=H t ac;have a:=ZT ts ρ λu g=>H u (ab _ g);have e:zt (zG 0) ft fe (t :: ts) ρ=(ft _).bind λk=>if k=true then (fe _).bind λv=>(zt _ ft fe ts _).bind λvs=> .ok _ else zt _ ft fe ts _:=rfl
  rw[e,c,Qf,a];show (if p t=true then _ else _)=_
  cases hp:p t with
  | true=>rw[d hp,List.filter_cons_of_pos hp];rfl
  | false=>rw[if_neg ax,List.filter_cons_of_neg (by rw[hp];exact ax)]
theorem Qg {fe:En->R T}{h:T->T}(ts:List T)(ρ:En)(H:∀t∈ts,fe (ρ.set 0 (.vl t))= .ok (h t)):zt (zG 0) Z3 fe ts ρ= .ok (ts.map h):=by
 have:=ZT (ft:=Z3) ts ρ λt a=>⟨rfl,λ_=>H t a⟩;rw[this,List.filter_eq_self.mpr (λ_ _=>rfl)]
theorem zU {fe:En->R T}{h:T->T}{k:Nat}{js:List Nat}{ρ:En}(ts:List T)(a:ts.length<=mq)(H:∀t∈ts,fe ((j8 k js ρ).set 0 (.vl t))= .ok (h t)):zy (zG 0) Z3 fe k js ρ ts= .ok (ts.map h):=by
 unfold zy;rw[if_pos a,Qg ts _ H];rfl
theorem Jd (p:T->Bool):∀ts:List T,ut (ts.map λt=>T.bl (p t))=some (ts.all p)
 | []=>rfl
 | t :: ts=>by
  show (match ut (ts.map λt=>T.bl _) with | some j=>some _ | none=>none)=_
  rw[Jd p ts];rfl
noncomputable def CQ:T->Bool
 | .int _=>true
 | _=>false
theorem UB (t:T):nL [t]= .ok (.bl (CQ t)):=by cases t <;> rfl
noncomputable def VS (a b:Nat):T->Bool
 | .tup c=>decide (a<=c.length) && decide (c.length<=b)
 | _=>false
theorem ji (t:T)(a b:Nat):nK [t,.int a,.int b]= .ok (.bl (VS a b t)):=by
 cases t with
 | tup c=>
  show zm ((if decide _=true then R.ok _ else .ok _).s λt=> .rt t)=_
  have e:decide ((a:Int)<=(c.length))=decide (a<=c.length):=by simp
  have d:decide ((c.length:Int)<=(b))=decide (c.length<=b):=by simp
  rw[e,d];show _=R.ok (T.bl (decide _ && decide _));cases decide (a<=c.length) <;> rfl
 | _=>rfl
noncomputable def jY (lo hi:Int):T->T->Bool
 | .int i,.int j=>decide (lo<=i) && decide (i<=j) && decide (j<=hi)
 | _,_=>false
theorem Qh (t u:T)(lo hi:Int):oV [t,u,.int lo,.int hi]= .ok (.bl (jY lo hi t u)):=by
 cases t with
 | int i=>
  cases u with
  | int j=>
   show zm ((if decide _=true then (if decide _=true then R.ok _ else .ok _) else .ok _).s λt=> .rt t)=_
   show _=R.ok (T.bl (decide _ && decide _ && decide _));cases decide (lo<=i) <;> cases decide (i<=j) <;> rfl
  | _=>rfl
 | _=>cases u <;> rfl
noncomputable def Zk (c:Nat):Bool:=decide (97<=c) && decide (c<=122)
def Zi:T->Bool
 | .str x=>decide (1<=x.length) && decide (x.length<=3) && x.cps.toList.all Zk
 | _=>false
theorem X8 (a b:Nat):decide ([a] < [b])=decide (a < b):=by
 by_cases h:a < b
 ·rw[decide_eq_true h];exact decide_eq_true (List.Lex.rel h)
 ·rw[decide_eq_false h];refine decide_eq_false λz=> ?_;cases z with
  | rel h' =>exact h h'
  | cons h' =>cases h'
theorem KC (c:Nat)(ρ:En):nh mF mF (cE (.str "a")) (vB 0) (cE (.str "z")) ((Sl.vl (.str ⟨#[c]⟩)) :: ρ)= .ok (.bl (Zk c)):=by
 have d:mF (.str "a") (.str ⟨#[c]⟩)= .ok (decide (97<=c)):=by
  show R.ok (!decide ([c] < [97]))=_;rw[X8]
  by_cases h:c < 97
  ·rw[decide_eq_true h,decide_eq_false (by omega)];rfl
  ·rw[decide_eq_false h,decide_eq_true (by omega)];rfl
 have a:mF (.str ⟨#[c]⟩) (.str "z")= .ok (decide (c<=122)):=by
  show R.ok (!decide ([122] < [c]))=_;rw[X8]
  by_cases h:122 < c
  ·rw[decide_eq_true h,decide_eq_false (by omega)];rfl
  ·rw[decide_eq_false h,decide_eq_true (by omega)];rfl
 show (mF (.str "a") (.str _)).bind (λk=>if k=true then (mF (.str _) (.str "z")).bind λe =>R.ok (T.bl e) else R.ok _)=_
 rw[d,a];unfold Zk;cases decide (97<=c) <;> rfl
def KD:T->Prop
 | .str x=>x.length<=mq
 | _=>True
theorem Qi (t:T)(d:KD t):nS [t]= .ok (.bl (Zi t)):=by
 cases t with
 | str x=>
  have e:=d;have g:ZL (.str x)= .ok _:=if_pos e;have p:zy (zG 0) Z3 (nh mF mF (cE (.str "a")) (vB 0) (cE (.str "z"))) 1 [] [.vl (.str x)] (Jt x)= .ok (x.cps.toList.map λc=>T.bl (Zk c)):=by
   have q:(Jt x).length<=mq:=by unfold Jt;rw[af];exact e
   have:=zU (h:=λt=>match t with | .str y=>T.bl (Zk (y.cps.toList.headD 0)) | t=>t) (k:=1) (js:=[]) (ρ:=[.vl (.str x)]) _ q λt d=>by
    obtain⟨c,_,rfl⟩:=aH.mp d;exact KC c []
   rw[this];unfold Jt;rw[bg];rfl
  have j:ut (x.cps.toList.map λc=>T.bl (Zk c))=some (x.cps.toList.all Zk):=by
   have:=Jd (λt=>match t with | .str y=>Zk (y.cps.toList.headD 0) | _=>true) (Jt x)
   unfold Jt at this;rw[bg,lq]at this;exact this
  have i:nS [.str x]=zm (match ((((ZL (.str x)).bind λy=>(mF _ y).bind λk=>if k=true then mF y _ else .ok _).bind λb=> .ok _).s λk=>if k=true then RS.rt _ else .nx _) with
    | .nx a =>zA _ a
    | r=>r):=rfl
  rw[i,g];have l:decide ((1:Int)<=(x.length))=decide (1<=x.length):=by
   by_cases h:1<=x.length
   ·rw[decide_eq_true h];exact decide_eq_true (by omega)
   ·rw[decide_eq_false h];exact decide_eq_false (by omega)
  have o:decide ((x.length:Int)<=(3))=decide (x.length<=3):=by
   by_cases h:x.length<=3
   ·rw[decide_eq_true h];exact decide_eq_true (by omega)
   ·rw[decide_eq_false h];exact decide_eq_false (by omega)
  show zm (match ((((if decide _=true then R.ok _ else .ok _)).bind λb=> .ok _).s λk=>if k=true then RS.rt _ else .nx _) with
    | .nx a =>_
    | r=>r)=_
  rw[l,o];show _=R.ok (T.bl (decide _ && decide _ && x.cps.toList.all _));cases decide (1<=x.length) with
  | false=>rfl
  | true=>
   cases decide (x.length<=3) with
   | false=>rfl
   | true=>
    show zm ((((zy _ _ _ 1 [] [.vl _] _).bind λvs=> .ok _).bind km).s λt=> .rt t)=_;rw[p];show zm ((match ut (x.cps.toList.map λc=>T.bl _) with | some k=>R.ok _ | none=> .bad).s λt=> .rt t)=_
    rw[j];rfl
 | _=>rfl
theorem i3 {c d:Type}(a:c)(f:c->R d):(R.ok a).bind f=f a:=rfl
theorem Zx {c:Type}(a:c)(f:c->RS):(R.ok a).s f=f a:=rfl
theorem jZ (r:R T):zm (r.s λt=> .rt t)=r:=by cases r <;> rfl
theorem Z5 (f:En->R T)(ρ:En):zA f ρ=(f (frz ρ)).s λt=> .rt t:=rfl
theorem zI {g:List T->R T}{f:En->R T}{ρ:En}:zb 1 g (za f zf) ρ=(f ρ).bind λx=>g [x]:=by
 unfold zb za zf;cases f ρ <;> rfl
theorem zP {g:List T->R T}{f d :En->R T}{ρ:En}:zb 2 g (za f (za d zf)) ρ=(f ρ).bind λx=>(d ρ).bind λy=>g [x,y]:=by
 unfold zb za zf;cases f ρ with
 | ok a=>cases d ρ <;> rfl
 | ex c=>rfl
 | bad=>rfl
theorem Z9 {g:List T->R T}{f e d :En->R T}{ρ:En}:zb 3 g (za f (za e (za d zf))) ρ=(f ρ).bind λx=>(e ρ).bind λy=>(d ρ).bind λz=>g [x,y,z]:=by
 unfold zb za zf;cases f ρ with
 | ok a=>
  cases e ρ with
  | ok b=>cases d ρ <;> rfl
  | ex c=>rfl
  | bad=>rfl
 | ex c=>rfl
 | bad=>rfl
theorem Fe {g:List T->R T}{f i d e:En->R T}{ρ:En}:zb 4 g (za f (za i (za d (za e zf)))) ρ=(f ρ).bind λx=>(i ρ).bind λy=>(d ρ).bind λz=>(e ρ).bind λw=>g [x,y,z,w]:=by
 unfold zb za zf;cases f ρ with
 | ok a=>
  cases i ρ with
  | ok b=>
   cases d ρ with
   | ok c=>cases e ρ <;> rfl
   | ex c=>rfl
   | bad=>rfl
  | ex c=>rfl
  | bad=>rfl
 | ex c=>rfl
 | bad=>rfl
def AM (r k:R T):R T:=r.bind λx=>match x with
 | .bl true=>k
 | .bl false=> .ok (.bl false)
 | _=> .bad
theorem wz (f g:En->R T)(ρ:En):jg f g ρ=AM (f ρ) (g ρ):=rfl
theorem Zy (a:Bool)(k:R T):AM (.ok (.bl a)) k=if a=true then k else .ok (.bl false):=by cases a <;> rfl
theorem v0 {t:T}{ρ:En}:vE 0 (.vl t :: ρ)= .ok t:=rfl
theorem v1 {t:T}{a:Sl}{ρ:En}:vE 1 (a :: .vl t :: ρ)= .ok t:=rfl
theorem w0 {t:T}{ρ:En}:vB 0 (.vl t :: ρ)= .ok t:=rfl
theorem w1 {t:T}{a:Sl}{ρ:En}:vB 1 (a :: .vl t :: ρ)= .ok t:=rfl
theorem zW {t:T}{ρ:En}:cE t ρ= .ok t:=rfl
theorem zk {g:T->T->R T}{f a :En->R T}{ρ:En}:zc g f a ρ=(f ρ).bind λx=>(a ρ).bind λy=>g x y:=rfl
theorem ZU {t:T}{ρ:En}:frz (.vl t :: ρ)= .vl t :: frz ρ:=rfl
theorem Wd {ρ:En}:frz (.un :: ρ)= .un :: frz ρ:=rfl
theorem jj:frz []=[]:=rfl
theorem VT {g a :T->T->R Bool}{c e d:En->R T}{ρ:En}:nh g a c e d ρ=(c ρ).bind λx=>(e ρ).bind λy=>(g x y).bind λk=>if k=true then (d ρ).bind λz=>(a y z).bind λi => .ok (.bl i) else .ok (.bl false):=rfl
theorem ZD {g:T->R T}{f:En->R T}{ρ:En}:mn g f ρ=(f ρ).bind g:=rfl
theorem uQ {i j:Int}:mF (.int i) (.int j)= .ok (decide (i<=j)):=rfl
theorem jk {g:T->T->R Bool}{f a :En->R T}{ρ:En}:j7 g f a ρ=(f ρ).bind λx=>(a ρ).bind λy=>(g x y).bind λb=> .ok (.bl b):=rfl
theorem u6 {a:List T}:ZL (.tup a)= .ok (.int a.length):=rfl
theorem Dg {a:List T}:ZL (.lst a)= .ok (.int a.length):=rfl
mutual
noncomputable def sOk:T->Prop
 | .str x=>x.length<=mq
 | .tup a=>UC a
 | .lst a=>UC a
 | .fz a=>UC a
 | _=>True
noncomputable def UC:List T->Prop
 | []=>True
 | t :: ts=>sOk t/\UC ts
end
theorem jv:∀{ts:List T} {t:T},UC ts->t∈ts->sOk t
 | u :: ts,t,h,a=>by
  have h' :=by simpa only[UC] using h
  rcases ag.mp a with rfl | a
  ·exact h'.1
  ·exact jv h'.2 a
theorem sOk.str {t:T}(h:sOk t):KD t:=by
 cases t with
 | str x=>
  have h' :=by simpa only[sOk] using h
  exact h'
 | _=>trivial
theorem We {a:List T}(h:sOk (.tup a)):UC a:=by simpa only[sOk] using h
def zS:T->Bool
 | .tup [w,.int i]=>Zi w && decide (1<=i) && decide (i<=20)
 | _=>false
theorem Qj (t:T)(a:sOk t):ot [t]= .ok (.bl (zS t)):=by
 have e:ot [t]=zm (AK _ _ _ [.vl t]):=rfl;rw[e,AK];simp only[Z5,jZ,ZU,jj,wz,Z9,zI,v0,zW,i3,zk,VT];rw[show nK [t,.int 2,.int 2]= .ok _ from ji t 2 2,Zy];cases t with
 | tup d=>
  match d,a with
  | [],_=>rfl
  | [_],_=>rfl
  | _ :: _ :: _ :: _,_=>simp[VS,zS]
  | [w,n],a=>
   have c:sOk w:=jv (We a) (by simp)
   show (if true=true then AM (nS [w]) (AM (nL [n]) ((mF _ n).bind λk=>if k=true then (mF n _).bind λg =>R.ok _ else .ok _)) else _)=_
   rw[Qi w c.str,UB,Zy,Zy];cases n with
   | int i=>
    show (if Zi w=true then (if true=true then (if decide _=true then R.ok _ else .ok _) else _) else _)=R.ok (T.bl (Zi w && decide _ && decide _))
    cases Zi w <;> cases decide (1<=i) <;> rfl
   | _=>
    cases Zi w <;> rfl
 | _=>rfl
theorem zY (f g:En->RS)(ρ:En):zq f g ρ=match f ρ with | .nx a =>g a | r=>r:=rfl
theorem ZM (g:En->R Bool)(a c:En->RS)(ρ:En):mB g a c ρ=(g ρ).s λk=>if k=true then a ρ else c ρ:=rfl
theorem Qk (f g:En->R Bool)(ρ:En):nz f g ρ=(f ρ).bind λx=>if x=true then .ok true else g ρ:=rfl
theorem UD (f:En->R Bool)(ρ:En):uy f ρ=(f ρ).bind λx=> .ok (!x):=rfl
theorem wA (f:En->R T)(ρ:En):wg f ρ=(f ρ).bind BQ:=rfl
theorem Ql (k:Bool):BQ (.bl k)= .ok k:=rfl
theorem JG (i:Nat)(f:En->R T)(ρ:En):zJ i f ρ=(f ρ).s λt=> .nx (ρ.set i (.vl t)):=rfl
theorem zX {g:T->T->R Bool}{f a :En->R T}{ρ:En}:zD g f a ρ=(f ρ).bind λx=>(a ρ).bind λy=>g x y:=rfl
theorem Z1 {a:En->R (List T)}{g:T->En->R En}{ft:En->R Bool}{fe:En->R T}{k:Nat}{js:List Nat}{ρ:En}:zT a g ft fe k js ρ=(a ρ).bind λts=>(zy g ft fe k js ρ ts).bind λvs=> .ok (.lst vs):=rfl
theorem ZV {f:En->R T}{ρ:En}:ZK f ρ=(f ρ).bind jT:=rfl
noncomputable def ZE:T->Str
 | .tup (.str w :: _)=>w
 | _=>⟨#[]⟩
def UE:T->Bool
 | .tup cs=>decide (1<=cs.length) && decide (cs.length<=4) && cs.all zS && decide ((dd [] (cs.map ZE)).length=cs.length)
 | _=>false
theorem u7 {c:T}(h:zS c=true):∃w n,c= .tup [.str w,n]:=by
 unfold zS at h;split at h
 ·rename_i w i;cases w with
  | str x=>exact⟨x,_,rfl⟩
  | _=>cases h
 ·cases h
theorem wB:∀{cs:List T},cs.all zS=true->wl (cs.map λc=>T.str (ZE c))=some (cs.map ZE)
 | [],_=>rfl
 | c :: cs,h=>by
  rw[f9,aj]at h;have a:=wB h.2;show (match wl (cs.map λc=>T.str _) with | some d=>some _ | none=>none)=_
  rw[a];rfl
theorem yQ (t:T)(p:sOk t):oB [t]= .ok (.bl (UE t)):=by
 have e:oB [t]=zm (sY _ _ [.vl t,.un]):=rfl;rw[e,sY];simp only[zY,ZM,Qk,UD,wA,Z9,v0,zW,i3];rw[show nK [t,.int 1,.int 4]= .ok _ from ji t 1 4];cases t with
 | tup cs=>
  have u:VS 1 4 (.tup cs)=(decide _ && decide _):=rfl;rw[u];show _=R.ok (T.bl (decide _ && decide _ && cs.all _ && decide _));cases d:(decide (1<=cs.length) && decide (cs.length<=4)) with
  | false=>rfl
  | true=>
   rw[aj,decide_eq_true_eq,decide_eq_true_eq]at d;have j:cs.length<=mq:=aB d.2 (by decide)
   have r:zy _ _ (zb 1 ot (za (vE 0) zf)) 1 [] [.vl (.tup cs),.un] cs= .ok (cs.map λc=>T.bl _):=
    zU cs j λc g=>by
     exact Qj c (jv (We p) g)
   simp only[dY,az,if_false,ZD,Z1,ZV,v0,i3,jT,r];have o:km (.lst (cs.map λc=>T.bl (zS c)))= .ok (.bl (cs.all zS)):=by
    show (match ut (cs.map λc=>T.bl _) with | some k=>R.ok _ | none=> .bad)=_
    rw[Jd]
   rw[o];simp only[i3,Ql,Zx];cases a:cs.all _ with
   | false=>rfl
   | true=>
    have q:zy _ _ (zc kj (vE 0) (cE (.int 0))) 1 [] [.vl (.tup cs),.un] cs= .ok (cs.map λc=>T.str (ZE c)):=
     zU cs j λc g=>by
      obtain⟨w,n,rfl⟩:=u7 (aS.mp a c g);rfl
    simp only[dY,az,if_false,my,JG,Z1,ZV,v0,i3,jT,q,Zx,Z5];show zm (((Ve (.lst (cs.map λc=>T.str _))).bind λx=>(ZL (.lst (cs.map λc=>T.str _))).bind λy=>(mm x y).bind λb=>R.ok _).s λt=> .rt t)=_;have l:Ve (.lst (cs.map λc=>T.str (ZE c)))= .ok (.int (dd [] (cs.map ZE)).length):=by
     show (match wl (cs.map λc=>T.str _) with | some v=>if (cs.map λc=>T.str _).length+1 < 4096 then R.ok _ else .bad | none=> .bad)=_
     rw[wB a];exact if_pos (by rw[af];omega)
    rw[l,Dg,af];show R.ok _=_;congr 2
    by_cases i:(dd [] (cs.map ZE)).length=cs.length
    ·rw[i];simp
    ·rw[decide_eq_false i];simp only[iW,beq_eq_false_iff_ne];omega
 | _=>rfl
noncomputable def isS (w:Str):T->Bool
 | .str s=>s == w
 | _=>false
theorem F1 (h:T)(w:Str):mm h (.str w)= .ok (isS w h):=by cases h <;> rfl
theorem nC (i j:Int):mm (.int i) (.int j)= .ok (i == j):=rfl
theorem ph {h:T}{r:List T}:kj (.tup (h :: r)) (.int 0)= .ok h:=by
 show mT _ 0=_;unfold mT;rw[show mZ _ 0=some h from jb rfl]
theorem pF {h a:T}{r:List T}:kj (.tup (h :: a :: r)) (.int 1)= .ok a:=by
 show mT _ 1=_;unfold mT;rw[show mZ _ 1=some a from jb rfl]
theorem Cg {h a b:T}{r:List T}:kj (.tup (h :: a :: b :: r)) (.int 2)= .ok b:=by
 show mT _ 2=_;unfold mT;rw[show mZ _ 2=some b from jb rfl]
theorem Dm {h a b c:T}{r:List T}:kj (.tup (h :: a :: b :: c :: r)) (.int 3)= .ok c:=by
 show mT _ 3=_;unfold mT;rw[show mZ _ 3=some c from jb rfl]
noncomputable def JH (k:T->Bool):T->Bool
 | .tup a=>decide (1<=a.length) && decide (a.length<=3) && a.all k
 | _=>false
def u8:List T->Bool
 | [a,b]=>jY (-20) 20 a b
 | _=>false
def Qm:List T->Bool
 | [c]=>UE c
 | _=>false
def rK (k:T->Bool):List T->Bool
 | [c]=>JH k c
 | _=>false
def Qn (k:T->Bool):List T->Bool
 | [c,a,b]=>jY 0 3 a b && k c
 | _=>false
def yR (k:T->Bool):T->Bool
 | .tup (h :: r)=>if isS "whole" h=true then u8 r else if isS "pick" h=true then Qm r else if isS "row" h=true then rK k r else if isS "many" h=true then Qn k r else false
 | _=>false
def nr:Nat->T->Bool
 | 0,_=>false
 | d+1,t=>yR (nr d) t
theorem Qo {c:Type}(a:List c)(n:Nat):((a.length:Int) == (n:Int))=decide (a.length=n):=by
 by_cases h:a.length=n
 ·rw[h];simp
 ·rw[decide_eq_false h,beq_eq_false_iff_ne];omega
theorem X9 {f:En->R T}{ρ:En}:V2 f ρ=(f ρ).bind λx=>match x with | .int i=> .ok (.int (-i)) | _=> .bad:=rfl
theorem Z7 {i j:Int}:jR (.int i) (.int j)= .ok (.int (i - j)):=rfl
set_option maxHeartbeats 1000000 in
theorem KF {n:Nat}{d:Nat}{k:T->Bool}(B:∀t,sOk t->mR n 0 [t,.int d]= .ok (.bl (k t)))(q:∀t,sOk t->mR n 1 [t,.int d]= .ok (.bl (JH k t)))(t:T)(p:sOk t):
  mR (n+1) 0 [t,.int ((d+1:Nat):Int)]= .ok (.bl (yR k t)):=by
 have e:mR (n+1) 0 [t,.int ((d+1:Nat))]=zm (Ay oV _ oB _ [.vl t,.vl (.int _)]):=rfl;have y:(((d+1:Nat):Int) == 0)=false:=by rw[beq_eq_false_iff_ne];omega
 have i:((d+1:Nat)) - 1=(d:Int):=by omega
 rw[e,Ay];simp only[zY,ZM,Qk,UD,wA,zX,w0,w1,zW,i3,nC,y,az,if_false,ZD];cases t with
 | tup w=>
  cases w with
  | nil=>rfl
  | cons h r=>
   have D:=We p;have g:∀u∈r,sOk u:=λu C=>jv D (ab _ C);have o:(((h :: r).length:Int) == 0)=false:=by rw[beq_eq_false_iff_ne];simp only[ar];omega
   have v:Y3 "tuple" (.tup (h :: r))= .ok (.bl true):=rfl;simp only[v,i3,Ql,dY,az,if_false,u6,nC,o,Zx,my,zk,v0,v1,zW,ph,F1,Z5,ZU,jj,wz,jk,ZD,w0,Fe,zI,zP,X9,Z7,i];show _=R.ok (T.bl (if isS "whole" h=true then u8 r else if isS "pick" h=true then Qm r else if isS "row" h=true then rK k r else if isS "many" h=true then Qn k r else false))
   have x:(((h :: r).length:Int) == 3)=decide _:=Qo (h :: r) 3;have j:(((h :: r).length:Int) == 2)=decide _:=Qo (h :: r) 2;have l:(((h :: r).length:Int) == 4)=decide _:=Qo _ 4;simp only[j,x,l,Zy];cases isS _ h with
   | true=>
    match r,g with
    | [],_=>rfl
    | [_],_=>rfl
    | _ :: _ :: _ :: _,_=>simp[u8,Zx,zm]
    | [a,b],_=>
     simp only[pF,Cg,i3,Qh];rfl
   | false=>
    simp only[az,if_false,v0,v1,w0,i3,ph,Zx,ZU,jj,u6,nC,j,l,Zy,Z7,i];cases isS _ h with
    | true=>
     match r,g with
     | [],_=>rfl
     | _ :: _ :: _,_=>simp[Qm,Zx,zm]
     | [c],g=>
      simp only[pF,i3,yQ c (g c (by simp))]
      rfl
    | false=>
     simp only[az,if_false,v0,v1,w0,i3,ph,Zx,ZU,jj,u6,nC,j,l,Zy,Z7,i];cases isS _ h with
     | true=>
      match r,g with
      | [],_=>rfl
      | _ :: _ :: _,_=>simp[rK,Zx,zm]
      | [c],g=>
       simp only[pF,i3,q c (g c (by simp))]
       rfl
     | false=>
      simp only[az,if_false,v0,v1,w0,i3,ph,Zx,ZU,jj,u6,nC,j,l,Zy,Z7,i];cases isS _ h with
      | true=>
       match r,g with
       | [],_=>rfl
       | [_],_=>rfl
       | [_,_],_=>rfl
       | _ :: _ :: _ :: _ :: _,_=>simp[Qn,Zx,zm]
       | [c,a,b],g=>
        simp only[pF,Cg,Dm,i3,Qh,B c (g c (by simp)),Zy]
        show zm (match (if jY 0 3 a b=true then R.ok _ else .ok _).s (λt=>RS.rt t) with | .nx _=>RS.rt _ | r=>r)=R.ok (T.bl (jY 0 3 a b && k c))
        cases jY 0 3 a b <;> rfl
      | false=>rfl
 | _=>rfl
theorem E6 {n:Nat}{d:Nat}{k:T->Bool}(p:∀t,sOk t->mR n 0 [t,.int d]= .ok (.bl (k t)))(t:T)(l:sOk t):mR (n+1) 1 [t,.int d]= .ok (.bl (JH k t)):=by
 have e:mR (n+1) 1 [t,.int d]=zm (sX nK (mR n 0) [.vl t,.vl (.int d)]):=rfl;rw[e,sX];simp only[Z5,jZ,ZU,jj,wz,Z9,v0,zW,i3];rw[show nK [t,.int 1,.int 3]= .ok (.bl (VS 1 3 t)) from ji t 1 3,Zy];cases t with
 | tup a=>
  show (if (decide (1<=a.length) && decide (a.length<=3))=true then _ else _)=R.ok (T.bl (decide (1<=a.length) && decide (a.length<=3) && a.all k))
  cases g:(decide (1<=a.length) && decide (a.length<=3)) with
  | false=>rfl
  | true=>
   rw[aj,decide_eq_true_eq,decide_eq_true_eq]at g;have i:a.length<=mq:=aB g.2 (by decide)
   have o:zy (zG 0) Z3 (zb 2 (mR n 0) (za (vE 0) (za (vE 1) zf))) 1 [1] [.vl (.tup a),.vl (.int d)] a= .ok (a.map λc=>T.bl (k c)):=
    zU (h:=λc=>T.bl (k c)) a i λc j=>by
     show zb 2 (mR n 0) (za (vE 0) (za (vE 1) zf)) [.vl c,.vl (.int d)]=_;rw[zP,v0,v1,i3,i3];exact p c (jv (We l) j)
   simp only[if_true,ZD,Z1,ZV,v0,i3,jT,o];show (match ut (a.map λc=>T.bl (k c)) with | some k=>R.ok (T.bl k) | none=> .bad)=_
   rw[Jd];rfl
 | _=>rfl
theorem uR:∀(d n:Nat),2*d+1<=n->∀t,sOk t->mR n 0 [t,.int d]= .ok (.bl (nr d t))
 | 0,n+1,_,t,_=>rfl
 | d+1,n+2,h,t,c=>KF (n:=n+1) (λu a=>uR d (n+1) (by omega) u a) (λu a=>E6 (λv e=>uR d n (by omega) v e) u a) t c
theorem yS (t:T)(a:sOk t):oj [t]= .ok (.bl (nr 3 t)):=by
 have e:oj [t]=zm (tP (pq 20) [.vl t]):=rfl;rw[e,tP];simp only[Z5,jZ,ZU,jj,zP,v0,zW,i3];exact uR 3 20 (by omega) t a
noncomputable def rH (lo hi:Int):T->Bool
 | .int i=>decide (lo<=i) && decide (i<=hi)
 | _=>false
theorem JI:∀(a acc:List Str),(dd acc a).length<=acc.length+a.length
 | [],acc=>ah _
 | w :: a,acc=>by
  unfold dd;have:=JI a (if w∈acc then acc else acc++[w])
  by_cases h:w∈acc
  ·rw[if_pos h]at this ⊢;simp only[ar];omega
  ·rw[if_neg h]at this ⊢;rw[ay,aI]at this;simp only[ar];omega
theorem Wf:∀(a acc:List Str),((dd acc a).length=acc.length+a.length)↔∀(k:Nat) (w:Str),a[k]? =some w->w ∉ acc++a.take k
 | [],acc=>by simp[dd]
 | w :: a,acc=>by
  unfold dd
  by_cases h:w∈acc
  ·rw[if_pos h];have:=JI a acc;constructor
   ·intro e;simp only[ar]at e;omega
   ·intro H;exact absurd (dB _ h) (H 0 w rfl)
  ·rw[if_neg h];have c:=Wf a (acc++[w]);rw[ay,aI]at c;rw[show acc.length+(w :: a).length=acc.length+1+a.length by simp only[ar];omega,c]
   constructor
   ·intro H k v e;cases k with
    | zero=>simp at e;subst e;simpa using h
    | succ k=>
     have:=H k v (by simpa using e)
     simpa[bU] using this
   ·intro H k v e;have:=H (k+1) v (by simpa using e)
    simpa[bU] using this
theorem BV (i j:Int):n9 (.int i) (.int j)= .ok (decide (i < j)):=rfl
theorem v2 {t:T}{a b:Sl}{ρ:En}:vE 2 (a :: b :: .vl t :: ρ)= .ok t:=rfl
theorem v3 {t:T}{a b c:Sl}{ρ:En}:vE 3 (a :: b :: c :: .vl t :: ρ)= .ok t:=rfl
theorem w2 {t:T}{a b:Sl}{ρ:En}:vB 2 (a :: b :: .vl t :: ρ)= .ok t:=rfl
theorem w3 {t:T}{a b c:Sl}{ρ:En}:vB 3 (a :: b :: c :: .vl t :: ρ)= .ok t:=rfl
theorem w5 {t:T}{a b c d e:Sl}{ρ:En}:vB 5 (a :: b :: c :: d :: e :: .vl t :: ρ)= .ok t:=rfl
theorem v4 {t:T}{a b c d:Sl}{ρ:En}:vE 4 (a :: b :: c :: d :: .vl t :: ρ)= .ok t:=rfl
theorem KG (f g:En->R Bool)(ρ:En):GN f g ρ=(f ρ).bind λx=>if x=true then g ρ else .ok false:=rfl
theorem UG (w:Str):∀a:List Str,Wk (λy=>mw 30 y (.str w)) (a.map T.str)=some (decide (w∈a))
 | []=>rfl
 | x :: a=>by
  have d:=UG w a;show (match Wk (λy=>mw 30 y (.str w)) (a.map T.str) with | none=>none | some c=>some ((x == w) || c))=_
  rw[d];show some ((x == w) || decide (w∈a))=_
  congr 1
  by_cases h:x=w
  ·subst h;simp
  ·have h' :¬ w=x:=λz=>h z.symm;simp[h,h']
theorem C0 (i j:Int):ny (.int i) (.int j)= .ok (decide (i > j)):=rfl
theorem Z0 (i j:Int):zx (.int i) (.int j)= .ok (.int (i+j)):=rfl
theorem FJ (p:Int)(a:0<=p)(c:p < 26):kj (.str "abcdefghijklmnopqrstuvwxyz") (.int p)= .ok (.str ⟨#[97+p.toNat]⟩):=by
 obtain⟨n,rfl⟩:=db a;have h:n < 26:=by omega
 iterate 26 (refine(Nat.lt_or_eq_of_le (Nat.le_of_lt_succ h)).elim (λh=> ?_) (λe=>e ▸ rfl))
 exact absurd h (md _)
abbrev pV:En->R T:=zc kj (vE 3) (zb 3 mW (za (vE 1) (za (zc zx (zc zx (vE 2) (cE (.int 2))) (vE 0)) (za (cE (.int 26)) (zf)))))
theorem Eu (a:List Int)(k:Int)(i:0<=k)(j:Nat):∃c:Nat,(97<=c/\c<=122)/\pV [.vl (.int (j:Int)),.vl (mz a),.vl (.int k),.vl (.str "abcdefghijklmnopqrstuvwxyz")]= .ok (.str ⟨#[c]⟩):=by
 obtain⟨p,e,d,g⟩:=zN a (k+2+j) 26 (by omega) (by omega)
 refine⟨97+p.toNat,⟨by omega,by omega⟩, ?_⟩
 simp only[pV,zk,v3,i3,Z9,v1,v2,v0,zW,Z0,e];exact FJ p d g
theorem yT (c:List Int)(k:Int)(u:0<=k):∃w:Str,gP [mz c,.int k]= .ok (.str w)/\Zi (.str w)=true:=by
 have e:gP [mz c,.int k]=zm (AE _ [.vl _,.vl _,.un]):=rfl;obtain⟨p,y,F,G⟩:=zN c k 6 u (by omega)
 have i:∀t,([Sl.vl (mz c),Sl.vl (.int k),.un]).set 2 _=[Sl.vl _,Sl.vl _,.vl t]:=λ_=>rfl;rw[e,AE];simp only[zY,ZM,JG,zW,Zx,i,zX,Z9,v0,v1,i3,y,C0];cases hp:decide (p > 0) with
 | true=>
  obtain⟨q,l,D,B⟩:=zN c (k+1) 4 (by omega) (by omega)
  simp only[if_true,Z5,ZU,jj,zk,Z9,v0,v1,zW,i3,Z0,l];have o:q=0\/q=1\/q=2\/q=3:=by omega
  rcases o with rfl | rfl | rfl | rfl
  ·exact⟨"a",rfl,by decide⟩
  ·exact⟨"b",rfl,by decide⟩
  ·exact⟨"ab",rfl,by decide⟩
  ·exact⟨"cab",rfl,by decide⟩
 | false=>
  obtain⟨q,l,D,B⟩:=zN c (k+1) 3 (by omega) (by omega)
  simp only[az,if_false,my,Z5,jZ,ZU,jj,ZD,Z1];obtain⟨g,r⟩:=lY.mp (Eu c k u);have C:Zt (zc zx (cE (.int 1)) (zb 3 mW (za (vE 0) (za (zc zx (vE 1) (cE (.int 1))) (za (cE (.int 3)) (zf)))))) [Sl.vl (mz c),Sl.vl (.int k),.vl (.str "abcdefghijklmnopqrstuvwxyz")]= .ok (rng 0 (1+q).toNat):=by
   unfold Zt;simp only[zk,Z9,v0,v1,zW,i3,Z0,l];rw[if_pos ⟨by omega,by omega⟩]
  have x:∀n,n<=3->zy _ _ _ 1 [0,1,2] [Sl.vl _,Sl.vl _,.vl _] _= .ok ((rng 0 n).map λt=>match t with | .int j=> .str ⟨#[g j.toNat]⟩ | t=>t):=λn hn=>
   zU _ (by unfold rng;rw[af,bJ];exact aB hn (by decide)) λt v=>by
    obtain⟨j,_,rfl⟩:=aH.mp v;rw[Int.zero_add];exact(r j).2
  rw[C,i3,x _ (by omega),i3]
  have d:∀j,Zk _=true:=λj=>by
   obtain⟨a,b⟩:=(r j).1;unfold Zk;rw[decide_eq_true a,decide_eq_true b];rfl
  have o:q=0\/q=1\/q=2:=by omega
  rcases o with rfl | rfl | rfl
  ·refine⟨⟨#[g 0]⟩,rfl, ?_⟩;show (Zk _ && true)=true;rw[d 0];rfl
  ·refine⟨⟨#[g 0,g 1]⟩,rfl, ?_⟩;show (Zk _ && (Zk _ && true))=true;rw[d 0,d 1];rfl
  ·refine⟨⟨#[g 0,g 1,g 2]⟩,rfl, ?_⟩;show (Zk _ && (Zk _ && (Zk _ && true)))=true;rw[d 0,d 1,d 2];rfl
theorem Hh (j:Int):zV (.int 5) (.int j)= .ok (.int (5*j)):=by
 show (if uq 5 j then R.ok _ else .bad)=_
 rw[if_pos (.inl ⟨by decide,by decide⟩)]
theorem UH {f g:En->R T}{ρ:En}{x y:T}(a:f ρ= .ok x)(c:g ρ= .ok y):Zb (za f (za g zf)) ρ= .ok (.tup [x,y]):=by
 unfold Zb za zf;rw[a,c];rfl
theorem G1 {f g h:En->R T}{ρ:En}{x y z:T}(d:f ρ= .ok x)(a:g ρ= .ok y)(c:h ρ= .ok z):Zb (za f (za g (za h zf))) ρ= .ok (.tup [x,y,z]):=by
 unfold Zb za zf;rw[d,a,c];rfl
theorem Ca {f g h i:En->R T}{ρ:En}{x y z w:T}(c:f ρ= .ok x)(a:g ρ= .ok y)(d:h ρ= .ok z)(hi:i ρ= .ok w):Zb (za f (za g (za h (za i zf)))) ρ= .ok (.tup [x,y,z,w]):=by
 unfold Zb za zf;rw[c,a,d,hi];rfl
noncomputable def Dst (a:List Str):Prop:=∀(k:Nat) (w:Str),a[k]? =some w->w ∉ a.take k
theorem Dst.add {c:List Str}(h:Dst c){w:Str}(e:w ∉ c):Dst (c++[w]):=λk x a=>by
 by_cases g:k < c.length
 ·rw[aU g]at a;rw[List.take_append_of_le_length (by omega)]
  exact h k x a
 ·rw[aR (by omega)]at a
  have d :k=c.length:=by
   rcases Nat.lt_or_ge (k - c.length) 1 with z | z
   ·omega
   ·rw[aN (by simpa using z)]at a;cases a
  subst d;rw[Nat.sub_self]at a;cases a;rw[List.take_left']
  ·exact e
  ·rfl
abbrev u9:En->RS:=zq (zJ 5 (zb 2 gP (za (vE 0) (za (zc zx (zc zx (vE 1) (cE (.int 5))) (zc zV (cE (.int 5)) (vE 4))) (zf)))))
  (mB (zD V3 (vB 5) (vB 3)) (Ud 3 (vE 5)) (my))
theorem JJ (i:List Int)(k:Int)(O:0<=k):∀(js:List Nat) (d:List Str) (p o:Sl),js.length+d.length<=4->Dst d->(∀w∈d,Zi (.str w)=true)->
  ∃g q v,Zp (zG 4) u9 (js.map λ(j:Nat)=>T.int (0+(j:Int))) [.vl (mz i),.vl (.int k),.un,.ow (d.map T.str),p,o]= .nx [.vl (mz i),.vl (.int k),.un,.ow (g.map T.str),q,v]/\g.length<=4/\Dst g /\(∀w∈g,Zi (.str w)=true)/\(0 < js.length+d.length->0 < g.length)
 | [],d,p,o,D,hd,B=>⟨d,p,o,rfl,by simpa using D,hd,B,λh=>by simpa using h⟩
 | j :: js,d,p,o,D,hd,B=>by
  obtain⟨w,P,I⟩:=yT i (k+5+5*(0+(j:Int))) (by omega)
  have Q :js.length+d.length+1<=4:=by simpa[ar,Nat.add_right_comm] using D
  have e:Zp (zG 4) u9 ((j :: js).map λ(j:Nat)=>T.int (0+(j:Int))) [.vl (mz i),.vl (.int k),.un,.ow (d.map T.str),p,o]=match u9 [.vl (mz i),.vl (.int k),.un,.ow (d.map T.str),.vl (.int (0+(j:Int))),o] with
   | .nx ρ2=>Zp (zG 4) u9 (js.map λ(j:Nat)=>T.int (0+(j:Int))) ρ2
   | .ct ρ2=>Zp (zG 4) u9 (js.map λ(j:Nat)=>T.int (0+(j:Int))) ρ2
   | .bk ρ2=> .nx ρ2
   | r=>r:=rfl
  have U:u9 [.vl (mz i),.vl (.int k),.un,.ow (d.map T.str),.vl (.int (0+(j:Int))),o]= .nx [.vl (mz i),.vl (.int k),.un,.ow ((if w∈d then d else d++[w]).map T.str),.vl (.int (0+(j:Int))),.vl (.str w)]:=by
   have N:∀(a b c:Sl) (ts:List T) (ρ:En),vB 3 (a :: b :: c :: .ow ts :: ρ)= .ok _:=λ_ _ _ _ _=>rfl;have u:∀t,([.vl _,.vl (.int k),.un,.ow (d.map T.str),.vl (.int (0+(j:Int))),o]:En).set 5 (.vl t)=[.vl (mz i),.vl (.int k),.un,.ow (d.map T.str),.vl _,.vl t]:=λ_=>rfl;have Z:V3 (.str w) (.lst (d.map T.str))= .ok (!decide (w∈d)):=by
    show ((match Wk (λy=>mw 30 y (.str w)) (d.map _) with | some b=>R.ok b | none=> .bad)).bind (λb=>R.ok _)=_
    rw[UG];rfl
   simp only[u9,zY,JG,zP,v0,v1,v4,zk,zW,i3,Z0,Hh,P,Zx,u,ZM,zX,w5,N,Z]
   by_cases l:w∈d
   ·rw[decide_eq_true l,if_pos l];rfl
   ·rw[decide_eq_false l,if_neg l];have S:(d.map T.str).length < mq:=by rw[af];exact bC (show d.length<=4 by omega) (by decide)
    show (if (d.map _).length < mq then RS.nx _ else .bad)=_
    rw[if_pos S,cz];rfl
  rw[e,U]
  by_cases l:w∈d
  ·rw[if_pos l];obtain⟨g,q,v,F,M,J,G,C⟩:=JJ i k O js d _ _ (by omega) hd B
   exact⟨g,q,v,F,M,J,G,λ_=>C (by have:=List.length_pos_of_mem l;omega)⟩
  ·rw[if_neg l];obtain⟨g,q,v,F,M,J,G,C⟩:=JJ i k O js _ _ _ (by simp only[ay,ar,bR];omega) (hd.add l) (λx X=>by
    rcases ce.mp X with z | z
    ·exact B x z
    ·rw[av.mp z];exact I)
   exact⟨g,q,v,F,M,J,G,λ_=>C (by simp only[ay,ar,bR];omega)⟩
abbrev tZ:En->R T:=Zb (za (vE 1) (za (zc zx (cE (.int 1)) (zb 3 mW (za (vE 2) (za (zc zx (zc zx (vE 3) (cE (.int 30))) (vE 0)) (za (cE (.int 20)) (zf)))))) (zf)))
theorem UI (a:List Int)(k:Int)(q:0<=k):∀(c:List Str) (i:Nat) (g d:Sl),(∀w∈c,Zi (.str w)=true)->∃cs:List T,zt (zO 0 1) Z3 tZ (((c.map T.str).zipIdx i).map λp=>T.tup [.int (p.2:Nat),p.1]) [g,d,.vl (mz a),.vl (.int k)]= .ok cs/\cs.all zS=true/\cs.map ZE=c
 | [],i,g,d,_=>⟨[],rfl,rfl,rfl⟩
 | w :: c,i,g,d,j=>by
  obtain⟨p,e,D,F⟩:=zN a (k+30+i) 20 (by omega) (by omega)
  obtain⟨cs,o,C,y⟩:=UI a k q c _ _ _ λx B=>j x (ab _ B);have r:tZ [.vl (.int (i)),.vl (.str w),.vl (mz a),.vl (.int k)]= .ok (.tup [.str w,.int (1+p)]):=by
   have l:zb 3 mW (za (vE 2) (za (zc zx (zc zx (vE 3) (cE (.int 30))) (vE 0)) (za (cE (.int 20)) (zf)))) [.vl (.int (i)),.vl (.str w),.vl (mz a),.vl (.int k)]= .ok (.int p):=by
    simp only[Z9,v2,v3,v0,zk,zW,i3,Z0,e]
   have u:zc zx (cE (.int 1)) (zb 3 mW (za (vE 2) (za (zc zx (zc zx (vE 3) (cE (.int 30))) (vE 0)) (za (cE (.int 20)) (zf))))) [.vl (.int (i)),.vl (.str w),.vl (mz a),.vl (.int k)]= .ok (.int (1+p)):=by
    rw[zk,l];rfl
   exact UH v1 u
  refine⟨.tup [.str w,.int (1+p)] :: cs, ?_, ?_, ?_⟩
  ·show ((tZ [.vl _,.vl _,.vl _,.vl _]).bind λv=>(zt _ _ _ (((c.map _).zipIdx _).map λp=>T.tup _) [.vl _,.vl _,.vl _,.vl _]).bind λvs=>R.ok _)=_;rw[r,o];rfl
  ·rw[f9,C,Bool.and_true];show (Zi _ && decide _ && decide _)=true;rw[j w ac,decide_eq_true (by omega),decide_eq_true (by omega)];rfl
  ·rw[aA,y];rfl
theorem Xa (i j:Int):YH (.int i) (.int j)= .ok (.int (if j < i then j else i)):=rfl
theorem KH (a:List Int)(k:Int)(u:0<=k):∃t,pY [mz a,.int k]= .ok t/\∀d,nr (d+1) t=true:=by
 have e:pY [mz a,.int k]=zm (Af mW gP [.vl (mz a),.vl (.int k),.un,.un,.un,.un]):=rfl;obtain⟨p,P,p0,p1⟩:=zN a k 3 u (by omega)
 rw[e,Af,zY];simp only[ZM,zX,Z9,v0,v1,zW,i3,P,C0,Zx];cases hp:decide (p > 0) with
 | true=>
  obtain⟨q,G,q0,q1⟩:=zN a (k+1) 7 (by omega) (by omega)
  obtain⟨q3,e3,_,_⟩:=zN a (k+3) 8 (by omega) (by omega)
  obtain⟨v,C,a4,b4⟩:=zN a (k+4) 3 (by omega) (by omega)
  obtain⟨J,Z,a2,b2⟩:=zN a (k+2) 4 (by omega) (by omega)
  have g:∀t x,([.vl (mz a),.vl (.int k),x,.un,.un,.un]:En).set 2 (.vl t)=[.vl (mz a),.vl (.int k),.vl t,.un,.un,.un]:=λ_ _=>rfl;have i:∀c:Int, -20<=c->c<=20->∃t,zm (zA (Zb (za (cE (.str "whole")) (za (vE 2) (za (zc YH (cE (.int 20)) (zc zx (vE 2) (zb 3 mW (za (vE 0) (za (zc zx (vE 1) (cE (.int 2))) (za (cE (.int 4)) (zf))))))) (zf))))) [.vl (mz a),.vl (.int k),.vl (.int c),.un,.un,.un])= .ok t/\∀d,nr (d+1) t=true:=by
   intro c F Q;refine⟨.tup [.str "whole",.int c,.int (if c+J < 20 then c+J else 20)], ?_,λd=> ?_⟩
   ·rw[Z5,jZ];refine G1 rfl rfl ?_;simp only[ZU,Wd,jj,zk,v2,v0,v1,Z9,zW,i3,Z0,Z,Xa]
   ·show (decide (-20<=c) && decide (c<=_) && decide (_<=(20:Int)))=true;rw[decide_eq_true F,decide_eq_true (by split <;> omega),decide_eq_true (by split <;> omega)];rfl
  simp only[if_true,zY,JG,ZM,zk,Z9,v0,v1,zW,i3,Z0,G,Z7,Zx,g,zX,e3,nC];cases hq:(q3 == 0) with
  | true=>
   have U:v=0\/v=1\/v=2:=by omega
   rcases U with rfl | rfl | rfl
   ·obtain⟨t,r,s⟩:=i (-20) (by omega) (by omega)
    refine⟨t, ?_,s⟩;rw[← r];simp only[if_true,C,i3];have l:∀ρ,(jB (za (V2 (cE (.int 20))) (za (cE (.int 17)) (za (cE (.int 20)) (zf)))) ρ)= .ok (.lst [.int (-20),.int 17,.int 20]):=λ_=>rfl;simp only[l,i3];have o:kj (.lst [.int (-20),.int 17,.int 20]) (.int 0)= .ok (.int (-20)):=rfl;simp only[o,Zx,g,Z5];generalize Zb _ _=z;cases z <;> rfl
   ·obtain⟨t,r,s⟩:=i (17) (by omega) (by omega)
    refine⟨t, ?_,s⟩;rw[← r];simp only[if_true,C,i3];have l:∀ρ,(jB (za (V2 (cE (.int 20))) (za (cE (.int 17)) (za (cE (.int 20)) (zf)))) ρ)= .ok (.lst [.int (-20),.int 17,.int 20]):=λ_=>rfl;simp only[l,i3];have o:kj (.lst [.int (-20),.int 17,.int 20]) (.int 1)= .ok (.int (17)):=rfl;simp only[o,Zx,g,Z5];generalize Zb _ _=z;cases z <;> rfl
   ·obtain⟨t,r,s⟩:=i (20) (by omega) (by omega)
    refine⟨t, ?_,s⟩;rw[← r];simp only[if_true,C,i3];have l:∀ρ,(jB (za (V2 (cE (.int 20))) (za (cE (.int 17)) (za (cE (.int 20)) (zf)))) ρ)= .ok (.lst [.int (-20),.int 17,.int 20]):=λ_=>rfl;simp only[l,i3];have o:kj (.lst [.int (-20),.int 17,.int 20]) (.int 2)= .ok (.int (20)):=rfl;simp only[o,Zx,g,Z5];generalize Zb _ _=z;cases z <;> rfl
  | false=>
   obtain⟨t,r,s⟩:=i (q - 3) (by omega) (by omega)
   refine⟨t, ?_,s⟩;rw[← r];simp only[az,if_false,my,Z5];generalize Zb _ _=z;cases z <;> rfl
 | false=>
  obtain⟨q,G,q0,q1⟩:=zN a (k+1) 4 (by omega) (by omega)
  simp only[az,if_false,my,zY];have X:Zt (zc zx (cE (.int 1)) (zb 3 mW (za (vE 0) (za (zc zx (vE 1) (cE (.int 1))) (za (cE (.int 4)) (zf)))))) [.vl (mz a),.vl (.int k),.un,.ow [],.un,.un]= .ok (rng 0 (1+q).toNat):=by
   unfold Zt;simp only[zk,Z9,v0,v1,zW,i3,Z0,G];rw[if_pos ⟨by omega,by omega⟩]
  have el:WF 3 zf [.vl (mz a),.vl (.int k),.un,.un,.un,.un]= .nx [.vl (mz a),.vl (.int k),.un,.ow [],.un,.un]:=rfl;rw[el];have hn:(ba (1+q).toNat).length=(1+q).toNat:=bJ;obtain⟨j,B,D,r1,r2,r3,r4,N⟩:=JJ a k u (ba (1+q).toNat) [] .un .un (by rw[hn,bR];omega) (λk w h=>by cases h) (λw h=>by cases h)
  have M:0 < j.length:=N (by rw[hn,bR];omega)
  have ef:j2 (Zt (zc zx (cE (.int 1)) (zb 3 mW (za (vE 0) (za (zc zx (vE 1) (cE (.int 1))) (za (cE (.int 4)) (zf))))))) (zG 4) u9 [.vl (mz a),.vl (.int k),.un,.ow [],.un,.un]= .nx [.vl (mz a),.vl (.int k),.un,.ow (j.map T.str),B,D]:=by
   unfold j2;rw[X,Zx];exact r1
  obtain⟨cs,s1,O,I⟩:=UI a k u j 0 .un .un r4;have y:cs.length=j.length:=by rw[← I,af]
  refine⟨.tup [.str "pick",.tup cs], ?_,λd=> ?_⟩
  ·dsimp only;rw[ef];dsimp only;rw[Z5,jZ];refine UH rfl ?_;rw[ZD,Z1];have S:Vc (vE 3) (frz [.vl (mz a),.vl (.int k),.un,.ow (j.map T.str),B,D])= .ok (ZH (j.map T.str)):=rfl;rw[S,i3];unfold zy;rw[if_pos (by unfold ZH;rw[af,la,af];exact aB r2 (by decide))]
   have ec:zt (zO 0 1) Z3 tZ (ZH (j.map T.str)) (j8 2 [0,1] (frz [.vl (mz a),.vl (.int k),.un,.ow (j.map T.str),B,D]))= .ok cs:=s1;rw[ec];rfl
  ·show (decide (1<=cs.length) && decide (cs.length<=4) && cs.all zS && decide ((dd [] (cs.map ZE)).length=cs.length))=true;have hd:(dd [] (cs.map ZE)).length=cs.length:=by
    rw[I,y];have:=(Wf j []).mpr (λk w h=>by simpa using r3 k w h)
    simpa using this
   rw[decide_eq_true (by omega),decide_eq_true (by omega),O,decide_eq_true hd];rfl
theorem Qp (c:Int)(j:Int)(a:uq c j):zV (.int c) (.int j)= .ok (.int (c*j)):=by
 show (if uq c j then R.ok _ else .bad)=_
 rw[if_pos a]
theorem CM (j:Int):zV (.int 3) (.int j)= .ok (.int (3*j)):=Qp _ _ (.inl ⟨by decide,by decide⟩)
theorem DN (j:Int):zV (.int 50) (.int j)= .ok (.int (50*j)):=Qp _ _ (.inl ⟨by decide,by decide⟩)
abbrev AJ (c:List T->R T):En->R T:=zb 3 c (za (vE 1) (za (zc zx (zc zx (zc zV (cE (.int 3)) (vE 2)) (cE (.int 40))) (zc zV (cE (.int 50)) (vE 0))) (za (zc jR (vE 3) (cE (.int 1))) (zf))))
theorem uS (i:List Int):∀(d n:Nat),d<=n->1<=d->∀k:Int,0<=k->∃t,oA n 0 [mz i,.int k,.int (d:Int)]= .ok t/\nr d t=true
 | d+1,n+1,hn,_,k,S=>by
  have e:oA (n+1) 0 [mz i,.int k,.int ((d+1:Nat))]=zm (tH mW pY (oA n 0) [.vl (mz i),.vl (.int k),.vl _,.un,.un,.un]):=rfl;obtain⟨p,U,p0,p1⟩:=zN i k 5 S (by omega)
  obtain⟨l,Q,hl⟩:=KH i (k+1) (by omega)
  have w:([.vl (mz i),.vl (.int k),.vl (.int ((d+1:Nat))),.un,.un,.un]:En).set 3 (.vl (.int p))=[.vl (mz i),.vl (.int k),.vl _,.vl (.int p),.un,.un]:=rfl;rw[e,tH];simp only[zY,JG,ZM,Qk,zX,Z9,zP,v0,v1,v2,zW,i3,U,Zx,w,w2,w3,nC,BV,Z0,Z5,ZU,Wd,jj,zk,Q];have G:((((d+1:Nat):Int) == 1))=decide (d=0):=by
   by_cases h:d=0
   ·subst h;rfl
   ·rw[decide_eq_false h,beq_eq_false_iff_ne];omega
  rw[G]
  by_cases o:d=0\/p < 2
  ·refine⟨l, ?_,hl d⟩;rcases o with h | h
   ·rw[decide_eq_true h];rfl
   ·rw[decide_eq_true h];cases decide (d=0) <;> rfl
  ·have C:¬ d=0:=λz=>o (.inl z);have D:¬ p < 2:=λz=>o (.inr z);have v:((d+1:Nat)) - 1=(d:Int):=by omega
   rw[decide_eq_false C,decide_eq_false D];simp only[az,if_false,Zx,my,w3,v0,v1,v2,i3,BV,zW];cases hp:decide (p < 4) with
   | true=>
    obtain⟨q,I,q0,X⟩:=zN i (k+1) 3 (by omega) (by omega)
    have hj:∀j:Nat,∃t,AJ (oA n 0) [.vl (.int (0+(j:Int))),.vl (mz i),.vl (.int k),.vl (.int ((d+1:Nat)))]= .ok t/\nr d t=true:=λj=>by
     obtain⟨t,r,s⟩:=uS i d n (by omega) (by omega) (3*k+40+50*(0+(j:Int))) (by omega)
     refine⟨t, ?_,s⟩;simp only[AJ,Z9,v0,v1,v2,v3,zk,zW,i3,CM,DN,Z0,Z7,v,r]
    obtain⟨g,O⟩:=lY.mp hj;have Z:Zt (zc zx (cE (.int 1)) (zb 3 mW (za (vE 0) (za (zc zx (vE 1) (cE (.int 1))) (za (cE (.int 3)) (zf)))))) [.vl (mz i),.vl (.int k),.vl (.int ((d+1:Nat))),.vl (.int p),.un,.un]= .ok (rng 0 (1+q).toNat):=by
     unfold Zt;simp only[zk,Z9,v0,v1,zW,i3,Z0,I];rw[if_pos ⟨by omega,by omega⟩]
    have M:zy (zG 0) Z3 (AJ (oA n 0)) 1 [0,1,2] [.vl (mz i),.vl (.int k),.vl _,.vl (.int p),.un,.un] _= .ok ((rng 0 (1+q).toNat).map λt=>match t with | .int j=>g j.toNat | t=>t):=
     zU _ (by unfold rng;rw[af,bJ];exact aB (show (1+q).toNat<=3 by omega) (by decide)) λt B=>by
      obtain⟨j,_,rfl⟩:=aH.mp B;show AJ (oA n 0) [.vl _,.vl (mz i),.vl (.int k),.vl _]= .ok (g _);rw[(O j).1,Int.zero_add,bv]
    generalize y:((rng 0 (1+q).toNat).map λt=>match t with | .int j=>g j.toNat | t=>t)=cs at M
    have P:cs.length=(1+q).toNat:=by rw[← y];unfold rng;rw[af,af,bJ]
    have x:∀t∈cs,nr d t=true:=λt B=>by
     rw[← y]at B;obtain⟨u,hu,rfl⟩:=aH.mp B;obtain⟨j,_,rfl⟩:=aH.mp hu;exact(O _).2
    refine⟨.tup [.str "row",.tup cs], ?_, ?_⟩
    ·have F:([.vl (mz i),.vl (.int k),.vl (.int ((d+1:Nat))),.vl (.int p),.un,.un]:En).set 4 (.vl (.lst cs))=[.vl (mz i),.vl (.int k),.vl _,.vl (.int p),.vl (.lst cs),.un]:=rfl;simp only[if_true,Z1,Z,i3,M,Zx,F,ZU,Wd,jj];rfl
    ·show (decide _ && decide _ && cs.all _)=true;rw[decide_eq_true (by omega),decide_eq_true (by omega),aS.mpr x];rfl
   | false=>
    obtain⟨q,I,q0,X⟩:=zN i (k+1) 3 (by omega) (by omega)
    obtain⟨N,e2,_,_⟩:=zN i (k+2) 3 (by omega) (by omega)
    obtain⟨t,r,s⟩:=uS i d n (by omega) (by omega) (3*k+40) (by omega)
    refine⟨.tup [.str "many",t,.int q,.int (if q+N < 3 then q+N else 3)], ?_, ?_⟩
    ·have J:([.vl (mz i),.vl (.int k),.vl (.int ((d+1:Nat))),.vl (.int p),.un,.un]:En).set 5 (.vl (.int q))=[.vl _,.vl _,.vl _,.vl _,.un,.vl _]:=rfl;simp only[az,if_false,v0,v1,zk,zW,i3,Z0,I,Zx,J,ZU,Wd,jj,jZ];refine Ca rfl ?_ rfl ?_
     ·simp only[Z9,v0,v1,v2,zk,zW,i3,CM,Z0,Z7,v,r]
     ·have v5:∀{t:T} {a b c d e:Sl} {ρ:En},vE 5 (a :: b :: c :: d :: e :: .vl t :: ρ)= .ok t:=rfl;simp only[Z9,v0,v1,v5,zk,zW,i3,Z0,e2,Xa]
    ·show (jY 0 3 _ _ && nr d t)=true;rw[s,Bool.and_true];show (decide _ && decide _ && decide _)=true;rw[decide_eq_true (by omega),decide_eq_true (by split <;> omega),decide_eq_true (by split <;> omega)];rfl
mutual
noncomputable def oY:T->Nat
 | .tup a=>vQ a+1
 | .lst a=>vQ a+1
 | _=>1
noncomputable def vQ:List T->Nat
 | []=>0
 | t :: ts=>max (oY t) (vQ ts)
end
mutual
noncomputable def o7:T->Nat
 | .tup a=>vR a+1
 | .lst a=>vR a+1
 | _=>1
noncomputable def vR:List T->Nat
 | []=>0
 | t :: ts=>o7 t+vR ts
end
theorem J0 {w:Str}{t:T}(h:isS w t=true):t= .str w:=by
 cases t with
 | str s=>
  have:=h;rw[eq_of_beq this]
 | _=>cases h
theorem KI {lo hi:Int}{t:T}(h:rH lo hi t=true):∃i,t= .int i:=by
 cases t with
 | int i=>exact⟨i,rfl⟩
 | _=>cases h
theorem Je {lo hi:Int}{a b:T}(h:jY lo hi a b=true):∃i j,a= .int i/\b= .int j:=by
 cases a with
 | int i=>
  cases b with
  | int j=>exact⟨i,j,rfl,rfl⟩
  | _=>cases h
 | _=>cases h
structure Cf (D S:Nat) (t:T):Prop where
 so:sOk t
 dp:oY t<=D
 sz:o7 t<=S
theorem yU {c:T}(h:zS c=true):Cf 2 3 c:=by
 unfold zS at h;split at h
 ·rename_i w i;have d:=by
   rw[aj,aj]at h;exact h.1.1
  cases w with
  | str x=>
   have a:(decide _ && decide _ && x.cps.toList.all _)=true:=d;rw[aj,aj,decide_eq_true_eq,decide_eq_true_eq]at a;refine⟨?_, ?_, ?_⟩
   ·simp only[sOk,UC,and_true];exact aB a.1.2 (by decide)
   ·simp[oY,vQ]
   ·simp[o7,vR]
  | _=>cases d
 ·cases h
theorem fits {D S:Nat}:∀{cs:List T},(∀c∈cs,Cf D S c)->UC cs/\vQ cs<=D/\vR cs<=S*cs.length
 | [],_=>⟨by simp only[UC],aX _,aX _⟩
 | c :: cs,h=>by
  obtain⟨a,b,d⟩:=fits λx e=>h x (ab _ e);obtain⟨x,y,z⟩:=h c ac;refine⟨?_, ?_, ?_⟩
  ·exact⟨x,a⟩
  ·simp only[vQ];omega
  ·simp only[vR,ar,Nat.mul_add,Nat.mul_one];omega
theorem Wg:∀(d:Nat) (t:T),nr d t=true->Cf (2*d+2) (15*4 ^ d) t
 | 0,_,h=>by cases h
 | d+1,t,h=>by
  have k:1<=4 ^ d:=Nat.pow_pos (by omega)
  have h:yR _ t=true:=h;unfold yR at h;split at h
  ·rename_i hd r;split at h
   ·rename_i e;rw[J0 e];unfold u8 at h;split at h
    ·obtain⟨i,j,rfl,rfl⟩:=Je h;refine⟨by simp only[sOk,UC,and_true];decide,by simp only[oY,vQ];omega,by simp only[o7,vR];omega⟩
    ·cases h
   ·split at h
    ·rename_i e;rw[J0 e];unfold Qm at h;split at h
     ·unfold UE at h;split at h
      ·rw[aj,aj,aj,decide_eq_true_eq,decide_eq_true_eq]at h;obtain⟨a,b,z⟩:=fits λc g=>yU (aS.mp h.1.2 c g);refine⟨by simp only[sOk,UC,and_true];exact⟨by decide,a⟩,by simp only[oY,vQ];omega,by simp only[o7,vR];omega⟩
      ·cases h
     ·cases h
    ·split at h
     ·rename_i e;rw[J0 e];unfold rK at h;split at h
      ·unfold JH at h;split at h
       ·rename_i cs;rw[aj,aj,decide_eq_true_eq,decide_eq_true_eq]at h;obtain⟨a,b,z⟩:=fits λc g=>Wg d c (aS.mp h.2 c g);have:15*4 ^ d*cs.length<=15*4 ^ d*3:=Nat.mul_le_mul_left _ h.1.2;refine⟨by simp only[sOk,UC,and_true];exact⟨by decide,a⟩,by simp only[oY,vQ];omega,by simp only[o7,vR];omega⟩
       ·cases h
      ·cases h
     ·split at h
      ·rename_i e;rw[J0 e];unfold Qn at h;split at h
       ·rename_i c a b;rw[aj]at h;obtain⟨i,j,rfl,rfl⟩:=Je h.1;obtain⟨x,y,z⟩:=Wg d c h.2;refine⟨by simp only[sOk,UC,and_true];exact⟨by decide,x⟩,by simp only[oY,vQ];omega,by simp only[o7,vR];omega⟩
       ·cases h
      ·cases h
  ·cases h
theorem Bh {f:En->R T}{ρ:En}{x:T}(a:f ρ= .ok x):Zb (za f zf) ρ= .ok (.tup [x]):=by
 unfold Zb za zf;rw[a];rfl
theorem FR {a c:List T}(h:a.length+c.length<=mq):zx (.tup a) (.tup c)= .ok (.tup (a++c)):=if_pos h
theorem wC (ρ:En):my ρ= .nx ρ:=rfl
inductive Kd where
 | whole (lo hi:Int)
 | pick (cs:List (Str×Int))
 | row (ks:List Kd)
 | many (k:Kd) (lo hi:Nat)
noncomputable def Jf (c:Str×Int):T:= .tup [.str c.1,.int c.2]
mutual
noncomputable def Kd.t:Kd->T
 | .whole lo hi=> .tup [.str "whole",.int lo,.int hi]
 | .pick cs=> .tup [.str "pick",.tup (cs.map Jf)]
 | .row a=> .tup [.str "row",.tup (Kd.ts a)]
 | .many k lo hi=> .tup [.str "many",k.t,.int (lo:Int),.int (hi:Int)]
noncomputable def Kd.ts:List Kd->List T
 | []=>[]
 | k :: a=>k.t :: Kd.ts a
end
theorem Kd.ts_map:∀a:List Kd,Kd.ts a=a.map Kd.t
 | []=>by simp only[Kd.ts,c9]
 | k :: a=>by simp only[Kd.ts,aA,Kd.ts_map a]
def Kd.Ok:Nat->Kd->Prop
 | 0,_=>False
 | _+1,.whole lo hi=> -20<=lo/\lo<=hi/\hi<=20
 | _+1,.pick cs=>1<=cs.length/\cs.length<=4/\(∀c∈cs,Zi (.str c.1)=true/\1<=c.2/\c.2<=20)/\Dst (cs.map (·.1))
 | d+1,.row a=>1<=a.length/\a.length<=3/\∀k∈a,Kd.Ok d k
 | d+1,.many k lo hi=>lo<=hi/\hi<=3/\Kd.Ok d k
theorem Qq {c:T}(h:zS c=true):∃p:Str×Int,c=Jf p/\Zi (.str p.1)=true/\1<=p.2/\p.2<=20:=by
 unfold zS at h;split at h
 ·rename_i w i;rw[aj,aj,decide_eq_true_eq,decide_eq_true_eq]at h;cases w with
  | str x=>exact⟨(x,i),rfl,h.1.1,h.1.2,h.2⟩
  | _=>cases h.1.1
 ·cases h
theorem uT {e:Type}{P:T->Prop}{Q:e->Prop}{f:e->T}(H:∀t,P t->∃a,t=f a/\Q a):∀(ts:List T),(∀t∈ts,P t)->∃c:List e,ts=c.map f/\∀a∈c,Q a
 | [],_=>⟨[],rfl,λ_ h=>nomatch h⟩
 | t :: ts,h=>by
  obtain⟨a,rfl,g⟩:=H t (h t ac);obtain⟨c,rfl,has⟩:=uT H ts λu i=>h u (ab _ i);exact⟨a :: c,rfl,λb d=>by
   rcases ag.mp d with rfl | d
   ·exact g
   ·exact has b d⟩
theorem uU:∀(d:Nat) (t:T),nr d t=true->∃k:Kd,t=k.t/\k.Ok d
 | 0,_,h=>by cases h
 | d+1,t,h=>by
  have h:yR _ t=true:=h;unfold yR at h;split at h
  ·rename_i hd r;split at h
   ·rename_i e;rw[J0 e];unfold u8 at h;split at h
    ·obtain⟨i,j,rfl,rfl⟩:=Je h;have h:(decide _ && decide _ && decide _)=true:=h;rw[aj,aj,decide_eq_true_eq,decide_eq_true_eq,decide_eq_true_eq]at h;exact⟨.whole i j,by simp only[Kd.t],h.1.1,h.1.2,h.2⟩
    ·cases h
   ·split at h
    ·rename_i e;rw[J0 e];unfold Qm at h;split at h
     ·unfold UE at h;split at h
      ·rename_i cs;rw[aj,aj,aj,decide_eq_true_eq,decide_eq_true_eq,decide_eq_true_eq]at h;obtain⟨⟨⟨g,l⟩,B⟩,v⟩:=h;obtain⟨u,rfl,has⟩:=uT (λt o=>Qq o) cs λc p=>aS.mp B c p;rw[af]at g l;refine⟨.pick u,by simp only[Kd.t],g,l,has, ?_⟩
       have F:(u.map Jf).map ZE=u.map (·.1):=by rw[bg];rfl
       rw[F]at v;have:=(Wf _ []).mp (by rw[v,af];simp)
       exact λk w C G=>this k w C (by simpa using G)
      ·cases h
     ·cases h
    ·split at h
     ·rename_i e;rw[J0 e];unfold rK at h;split at h
      ·unfold JH at h;split at h
       ·rename_i cs;rw[aj,aj,decide_eq_true_eq,decide_eq_true_eq]at h;obtain⟨I,rfl,q⟩:=uT (λt o=>uU d t o) cs λc p=>aS.mp h.2 c p;rw[af]at h;exact⟨.row I,by simp only[Kd.t,Kd.ts_map],h.1.1,h.1.2,q⟩
       ·cases h
      ·cases h
     ·split at h
      ·rename_i e;rw[J0 e];unfold Qn at h;split at h
       ·rename_i c a b;rw[aj]at h;obtain⟨g,l⟩:=h;obtain⟨i,j,rfl,rfl⟩:=Je g;obtain⟨k,rfl,y⟩:=uU d c l;have g:(decide _ && decide _ && decide _)=true:=g;rw[aj,aj,decide_eq_true_eq,decide_eq_true_eq,decide_eq_true_eq]at g;obtain⟨⟨x,D⟩,J⟩:=g;obtain⟨m,rfl⟩:=db x;obtain⟨n,rfl⟩:=db (fG x D);exact⟨.many k m n,by simp only[Kd.t],by omega,by omega,y⟩
       ·cases h
      ·cases h
  ·cases h
noncomputable def Zn (c:List (List T)):List (List T)->List (List T)
 | []=>c
 | d :: r=>Zn (c.flatMap λa=>d.map λx=>a++[x]) r
abbrev Y7 (ls:List (List T)):List T:=(Zn [[]] ls).map T.tup
mutual
noncomputable def Kd.all:Kd->List T
 | .whole lo hi=>(ba (hi+1 - lo).toNat).map λ(i:Nat)=>T.int (lo+(i:Int))
 | .pick cs=>cs.map λc=>T.str c.1
 | .row a=>Y7 (Kd.alls a)
 | .many k lo hi=>(ba (hi+1 - lo)).flatMap λi=>Y7 (aq (lo+i) k.all)
noncomputable def Kd.alls:List Kd->List (List T)
 | []=>[]
 | k :: a=>k.all :: Kd.alls a
end
theorem Kd.alls_map:∀a:List Kd,Kd.alls a=a.map Kd.all
 | []=>by simp only[Kd.alls,c9]
 | k :: a=>by simp only[Kd.alls,aA,Kd.alls_map a]
noncomputable def mM:List Nat->Nat
 | []=>1
 | n :: r=>n*mM r
theorem JK:∀{a:List Nat},(∀n∈a,1<=n)->1<=mM a
 | [],_=>ah _
 | n :: a,h=>df (h n ac) (JK λm c=>h m (ab _ c))
theorem Jg {d g:Type}(f:d->List g)(n:Nat):∀c:List d,(∀a∈c,(f a).length=n)->(c.flatMap f).length=c.length*n
 | [],_=>by simp
 | a :: c,h=>by
  rw[bK,ay,h a ac,Jg f n c λb e=>h b (ab _ e),ar,fk,cD,ll]
theorem JL:∀(d:List (List T)) (c:List (List T)),(Zn c d).length=c.length*mM (d.map (·.length))
 | [],c=>by simp[Zn,mM]
 | l :: d,c=>by
  rw[Zn,JL d,Jg _ _ _ λa _=>af ..,aA,mM,dw]
abbrev Aj:En->RS:=uu 3 (zT (ZK (vE 2)) (zG 0) (Z3) (zc zx (vE 1) (Zb (za (vE 0) (zf)))) 1 [4])
theorem UJ {L M:T}{l:List T}(i:l.length<=mq):∀(c:List (List T)) (acc:List T) (x:Sl),(∀a∈c,a.length<=1000)->acc.length+c.length*l.length<=mq->
  ∃y,Zp (zG 4) Aj (c.map T.tup) [.vl L,.vl M,.vl (.lst l),.ow acc,x]= .nx [.vl L,.vl M,.vl (.lst l),.ow (acc++(c.flatMap λa=>l.map λx=>a++[x]).map T.tup),y]
 | [],acc,x,_,_=>⟨x,by simp[Zp]⟩
 | a :: c,acc,x,g,d=>by
  have k:=g a ac;have p:mq=16777216:=rfl;rw[ar,fk]at d;have j:zy _ _ (zc zx (vE 1) (Zb (za (vE 0) (zf)))) 1 [4] [.vl L,.vl M,.vl (.lst l),.ow acc,.vl (.tup a)] l= .ok (l.map λx=>T.tup _):=
   zU l i λx u=>by
    exact FR (by rw[aI];omega)
  have q:Aj [.vl L,.vl M,.vl (.lst l),.ow acc,.vl (.tup a)]= .nx [.vl L,.vl M,.vl (.lst l),.ow (acc++l.map λx=>T.tup (a++[x])),.vl (.tup a)]:=by
   show (((zy _ _ _ _ _ _ l).bind _).s _)=_;rw[j,i3];show (if _ then _ else _)=_
   rw[if_pos (by rw[af];omega)]
   rfl
  obtain⟨y,o⟩:=UJ i c (acc++l.map λx=>T.tup _) _ (λb d=>g b (ab _ d)) (by rw[ay,af];omega)
  refine⟨y, ?_⟩;have e:Zp (zG 4) _ ((a :: c).map T.tup) [.vl L,.vl M,.vl (.lst l),.ow acc,x]=match Aj [.vl L,.vl M,.vl _,.ow acc,.vl _] with
   | .nx ρ2=>Zp _ _ _ ρ2
   | .ct ρ2=>Zp _ _ _ ρ2
   | .bk ρ2=> .nx ρ2
   | r=>r:=rfl
  rw[e,q];dsimp only;rw[o,bK,cz,bg,bU];rfl
abbrev VU:En->RS:=(zq (WF 3 (zf))
  (zq (j2 (ZK (vE 1)) (zG 4) Aj)
  (Au 1 3)))
theorem ua {L:T}(m:Nat):∀(g:List (List T)) (c:List (List T)) (k:Nat) (x y z:Sl),(∀a∈c,a.length<=k)->k+g.length<=1000->(∀l∈g,1<=l.length)->c.length*mM (g.map (·.length))<=mq->1<=c.length->
  ∃C q v,Zp (zG 2) VU (g.map T.lst) [.vl L,.vl (.lst (c.map T.tup)),x,y,z]= .nx [.vl L,.vl (.lst ((Zn c g).map T.tup)),C,q,v]
 | [],c,k,x,y,z,_,_,_,_,_=>⟨x,y,z,by simp[Zp,Zn]⟩
 | l :: g,c,k,x,y,z,I,o,d,j,J=>by
  have B:=JK λn hn=>by
   obtain⟨G,i,rfl⟩:=aH.mp hn;exact d G (ab _ i)
  rw[aA,mM,← dw]at j;have F:=aB (de _ B) j;have p:=aB (Nat.le_mul_of_pos_left _ J) F;rw[ar]at o;obtain⟨w,O⟩:=UJ p _ [] z (λa D=>aB (I a D) (by omega)) (by rw[bR];omega)
  have P:VU [.vl L,.vl (.lst (c.map T.tup)),.vl (.lst l),y,z]= .nx [.vl L,.vl (.lst ((c.flatMap λa=>l.map λx=>a++[x]).map T.tup)),.vl (.lst l),.vl (.lst ((c.flatMap λa=>l.map λx=>a++[x]).map T.tup)),w]:=by
   have N:WF 3 (zf) [.vl L,.vl (.lst (c.map T.tup)),.vl (.lst l),y,z]= .nx [.vl L,.vl _,.vl _,.ow [],z]:=rfl;have Q:j2 (ZK (vE 1)) _ _ [.vl L,.vl (.lst _),.vl _,.ow [],z]= .nx [.vl L,.vl _,.vl _,.ow ((c.flatMap λa=>l.map λx=>a++[x]).map _),w]:=O;unfold VU;rw[zY,N];dsimp only;rw[zY,Q];rfl
  obtain⟨C,q,v,M⟩:=ua m g (c.flatMap λa=>l.map λx=>a++[x]) (k+1) _ (.vl (.lst ((c.flatMap λa=>l.map λx=>a++[x]).map _))) w (λa D=>by
   obtain⟨b,j,S⟩:=dL.mp D;obtain⟨u,_,rfl⟩:=aH.mp S;have:=I b j;rw[ay,aI];omega) (by omega) (λG i =>d G (ab _ i)) (by
    rw[Jg _ _ _ λa _=>af ..];exact j) (by
    rw[Jg _ _ _ λa _=>af ..];exact df J (d l ac))
  refine⟨C,q,v, ?_⟩;have e:Zp (zG 2) _ ((l :: g).map T.lst) [.vl L,.vl (.lst (c.map T.tup)),x,y,z]=match VU [.vl L,.vl _,.vl _,y,z] with
   | .nx ρ2=>Zp _ _ _ ρ2
   | .ct ρ2=>Zp _ _ _ ρ2
   | .bk ρ2=> .nx ρ2
   | r=>r:=rfl
  rw[e,P];exact M
theorem Qr (c:List (List T))(r:c.length<=1000)(d:∀l∈c,1<=l.length)(i:mM (c.map (·.length))<=mq):mS [.lst (c.map T.lst)]= .ok (.lst (Y7 c)):=by
 obtain⟨p,q,u,o⟩:=ua 0 c [[]] 0 .un .un .un (λa k=>by rw[av.mp k];exact ah _) (by omega) d (by rw[aI,cD];exact i) (ah _)
 have e:mS [.lst (c.map T.lst)]=zm (tq [.vl _,.un,.un,.un,.un]):=rfl;have g:zJ 1 (jB (za (Zb (zf)) (zf))) [.vl (.lst (c.map T.lst)),.un,.un,.un,.un]= .nx [.vl _,.vl _,.un,.un,.un]:=rfl;have j:j2 (ZK (vE 0)) _ _ [.vl (.lst _),.vl (.lst [.tup []]),.un,.un,.un]= .nx _:=o;rw[e,tq,zY,g];dsimp only;rw[zY,j];rfl
theorem ZW (n:Nat):∀m:Nat,mM (aq m n)=n ^ m
 | 0=>rfl
 | m+1=>by rw[cb,mM,ZW n m,eV,dh]
theorem Jh (a:List (List T)):(Y7 a).length=mM (a.map (·.length)):=by
 rw[af,JL,aI,cD]
noncomputable def pw (n lo hi:Nat):Nat:=((ba (hi+1 - lo)).map λi=>n ^ (lo+i)).sum
theorem j5 (k:Kd)(lo hi:Nat):(Kd.many k lo hi).all.length=pw k.all.length lo hi:=by
 rw[Kd.all,List.length_flatMap,pw];congr 1
 refine cV λi _=> ?_;rw[Jh,bq,ZW]
theorem jK (a:List Kd):(Kd.row a).all.length=mM (a.map λk=>k.all.length):=by
 rw[Kd.all,Jh,Kd.alls_map,bg];rfl
theorem ZX (lo hi:Int):(Kd.whole lo hi).all.length=(hi+1 - lo).toNat:=by
 rw[Kd.all,af,bJ]
theorem Wh (cs:List (Str×Int)):(Kd.pick cs).all.length=cs.length:=by
 rw[Kd.all,af]
theorem KJ {lo hi:Nat}(h:lo<=hi)(a:hi<=3):(lo=0/\hi=0)\/(lo=0/\hi=1)\/(lo=0/\hi=2)\/(lo=0/\hi=3)\/(lo=1/\hi=1)\/(lo=1/\hi=2)\/(lo=1/\hi=3)\/(lo=2/\hi=2)\/(lo=2/\hi=3)\/(lo=3/\hi=3):=(by decide:∀hi lo:Fin 4,lo.1<=hi.1->(lo.1=0/\hi.1=0)\/(lo.1=0/\hi.1=1)\/(lo.1=0/\hi.1=2)\/(lo.1=0/\hi.1=3)\/(lo.1=1/\hi.1=1)\/(lo.1=1/\hi.1=2)\/(lo.1=1/\hi.1=3)\/(lo.1=2/\hi.1=2)\/(lo.1=2/\hi.1=3)\/(lo.1=3/\hi.1=3)) ⟨hi,lH a⟩ ⟨lo,lH (aB h a)⟩ h
noncomputable def iv (b:Bool):Nat:=if b then 1 else 0
theorem KK (n:Nat){lo hi:Nat}(h:lo<=hi)(a:hi<=3):pw n lo hi=iv (lo == 0)+n*iv (decide (lo<=1) && decide (1<=hi))+n*n*iv (decide (lo<=2) && decide (2<=hi))+n*n*n*iv (hi == 3):=by
 rcases KJ h a with ⟨rfl,rfl⟩ | ⟨rfl,rfl⟩ | ⟨rfl,rfl⟩ | ⟨rfl,rfl⟩ | ⟨rfl,rfl⟩ | ⟨rfl,rfl⟩ | ⟨rfl,rfl⟩ | ⟨rfl,rfl⟩ | ⟨rfl,rfl⟩ | ⟨rfl,rfl⟩ <;>
  simp[pw,ix,iv,eV]
 all_goals omega
theorem Ey {n:Nat}(hn:1<=n){lo hi:Nat}(h:lo<=hi)(a:hi<=3):1<=pw n lo hi:=by
 have c:=df hn hn;have d:=df c hn;rw[KK n h a];rcases KJ h a with ⟨rfl,rfl⟩ | ⟨rfl,rfl⟩ | ⟨rfl,rfl⟩ | ⟨rfl,rfl⟩ | ⟨rfl,rfl⟩ | ⟨rfl,rfl⟩ | ⟨rfl,rfl⟩ | ⟨rfl,rfl⟩ | ⟨rfl,rfl⟩ | ⟨rfl,rfl⟩ <;>
  simp[iv] <;> omega
theorem He {n N:Nat}(hn:n<=N){lo hi:Nat}(h:lo<=hi)(a:hi<=3):pw n lo hi<=1+N+N*N+N*N*N:=by
 have c:=bH hn hn;have d:=bH c hn;rw[KK n h a];rcases KJ h a with ⟨rfl,rfl⟩ | ⟨rfl,rfl⟩ | ⟨rfl,rfl⟩ | ⟨rfl,rfl⟩ | ⟨rfl,rfl⟩ | ⟨rfl,rfl⟩ | ⟨rfl,rfl⟩ | ⟨rfl,rfl⟩ | ⟨rfl,rfl⟩ | ⟨rfl,rfl⟩ <;>
  simp[iv] <;> omega
theorem Xb {N:Nat}(d:1<=N):∀(a:List Nat),(∀n∈a,n<=N)->mM a<=N ^ a.length
 | [],_=>ah _
 | n :: a,h=>by
  rw[mM,dh];exact bH (Xb d a λm c=>h m (ab _ c)) (h n ac)
theorem Zs:∀(d:Nat) (k:Kd),k.Ok d->1<=k.all.length
 | 0,_,h=>h.elim
 | d+1,.whole lo hi,h=>by
  obtain⟨_,e,_⟩:=h;rw[ZX];omega
 | d+1,.pick cs,h=>by
  rw[Wh];exact h.1
 | d+1,.row c,h=>by
  rw[jK];refine JK λn hn=> ?_;obtain⟨k,a,rfl⟩:=aH.mp hn;exact Zs d k (h.2.2 k a)
 | d+1,.many k lo hi,h=>by
  rw[j5];exact Ey (Zs d k h.2.2) h.1 h.2.1
noncomputable def mx:Nat->Nat
 | 0=>0
 | 1=>41
 | d+1=>1+mx d+mx d*mx d+mx d*mx d*mx d
theorem Xc (d:Nat):41<=mx (d+1):=by
 induction d with
 | zero=>exact ah _
 | succ d a=>
  show 41<=1+mx _+mx _*mx _+mx _*mx _*mx _;omega
theorem Qs (d:Nat)(n:Nat)(h:n<=41):n<=mx (d+1):=aB h (Xc d)
theorem KL {N m:Nat}(a:1<=N)(h:m<=3):N ^ m<=1+N+N*N+N*N*N:=by
 have:m=0\/m=1\/m=2\/m=3:=by omega
 rcases this with rfl | rfl | rfl | rfl <;> simp[eV] <;> omega
theorem j9:∀(d:Nat) (k:Kd),k.Ok d->k.all.length<=mx d
 | 0,_,h=>h.elim
 | d+1,.whole lo hi,h=>by
  obtain⟨c,g,a⟩:=h;rw[ZX];exact Qs d _ (by omega)
 | d+1,.pick cs,h=>by
  rw[Wh];exact Qs d _ (aB h.2.1 (by omega))
 | 1,.row e,h=>by
  obtain⟨c,g,a⟩:=h
  match e,c,a with
  | k :: _,_,a=>exact(a k ac).elim
 | d+2,.row e,h=>by
  obtain⟨c,g,a⟩:=h;rw[jK];have hp:=aB (by omega:1<=41) (Xc d)
  have:=Xb hp (e.map λk=>k.all.length) λn hn=>by
   obtain⟨k,i,rfl⟩:=aH.mp hn;exact j9 _ k (a k i)
  rw[af]at this;exact aB this (KL hp g)
 | 1,.many k lo hi,h=>h.2.2.elim
 | d+2,.many k lo hi,h=>by
  rw[j5];exact He (j9 _ k h.2.2) h.1 h.2.1
theorem zd {f g:En->RS}{ρ a :En}(h:f ρ= .nx a):zq f g ρ=g a :=by rw[zY,h]
theorem mU {x w:Str}{r:List T}{ρ:En}:zD mm (zc kj (vE 0) (cE (.int 0))) (cE (.str w)) (.vl (.tup (.str x :: r)) :: ρ)= .ok (x == w):=by
 rw[zX,zk,v0,i3,zW,i3,ph,zW,i3];rfl
theorem JM {a b:T}{r:List T}{ρ:En}:zc kj (vE 0) (cE (.int 1)) (.vl (.tup (a :: b :: r)) :: ρ)= .ok b:=by
 rw[zk,v0,i3,zW,i3,pF]
theorem UK {a b c:T}{r:List T}{ρ:En}:zc kj (vE 0) (cE (.int 2)) (.vl (.tup (a :: b :: c :: r)) :: ρ)= .ok c:=by
 rw[zk,v0,i3,zW,i3,Cg]
theorem G4 {a b c d:T}{r:List T}{ρ:En}:zc kj (vE 0) (cE (.int 3)) (.vl (.tup (a :: b :: c :: d :: r)) :: ρ)= .ok d:=by
 rw[zk,v0,i3,zW,i3,Dm]
theorem yV {f:En->R T}{ρ:En}{i:Int}(h:f ρ= .ok (.int i)):zc zx f (cE (.int 1)) ρ= .ok (.int (i+1)):=by
 rw[zk,h,i3,zW,i3,Z0]
theorem uV {f g:En->R T}{ρ:En}{i j:Int}(c:f ρ= .ok (.int i))(a:g ρ= .ok (.int j))(h: -1000000 < i/\i < 1000000/\ -1000000 < j/\j < 1000000):J7 f g ρ= .ok (rng i (j - i).toNat):=by
 unfold J7;rw[c,a];exact if_pos h
theorem Qt:∀(cs:List (Str×Int)) (x y:Sl),zt (zO 0 1) Z3 (vE 0) (cs.map Jf) [x,y]= .ok (cs.map λc=>T.str c.1)
 | [],_,_=>rfl
 | c :: cs,x,y=>by
  have e:zt (zO 0 1) Z3 (vE 0) ((c :: cs).map Jf) [x,y]=(zt _ _ _ _ [.vl _,.vl _]).bind λvs=> .ok _:=rfl;rw[e,Qt cs];rfl
theorem UL {x:T}{m:Nat}(h:m<=3):zV (.lst [x]) (.int (m:Int))= .ok (.lst (aq m [x]).flatten):=by
 unfold zV;dsimp only;have c:0<=(m:Int)/\(m:Int) < 1000000/\[x].length*(m:Int).toNat<=mq:=by
  have a:3<=mq:=by decide
  refine⟨by omega,by omega, ?_⟩
  rw[aI,cD];exact aB h a
 rw[if_pos c,bv]
theorem jw {a:Type}(x:a):∀m:Nat,(aq m [x]).flatten=aq m x
 | 0=>rfl
 | m+1=>by rw[cb,fY,jw x m];rfl
abbrev uW (ca cr:List T->R T):En->RS:=uu 1 (zb 1 cr (za (zc zV (jB (za (zb 1 ca (za (zc kj (vE 0) (cE (.int 1))) (zf))) (zf))) (vE 2)) (zf)))
theorem sQ {f:En->R T}{ρ:En}{x:T}(a:f ρ= .ok x):jB (za f zf) ρ= .ok (.lst [x]):=by
 unfold jB za zf;rw[a];rfl
theorem ub {ca:List T->R T}{k:Kd}{t:T}{lo:Nat}{d:List T}(p:ca [t]= .ok (.lst d))(g:1<=d.length){a b c:T}:∀(js:List Nat) (acc:List T) (x:Sl),(∀j∈js,lo+j<=3)->acc.length+(js.map λj=>d.length ^ (lo+j)).sum<=mq->
  ∃y,Zp (zG 2) (uW ca mS) (js.map λ(j:Nat)=>T.int ((lo:Int)+(j:Int))) [.vl (.tup [a,t,b,c]),.ow acc,x]= .nx [.vl (.tup [a,t,b,c]),.ow (acc++js.flatMap λj=>Y7 (aq (lo+j) d)),y]
 | [],acc,x,_,_=>⟨x,by simp[Zp]⟩
 | j :: js,acc,x,q,D=>by
  have J:=q j ac;rw[aA,ff]at D;have B:mS [.lst ((aq (lo+j) d).map _)]= .ok _:=Qr _ (by rw[aZ];omega) (λl C=>by rw[ck C];exact g) (by rw[bq,ZW];omega)
  have u:(Y7 (aq (lo+j) d)).length=d.length ^ (lo+j):=by rw[Jh,bq,ZW]
  have F:zV (.lst [.lst d]) (.int ((lo)+(j)))= .ok (.lst ((aq (lo+j) d).map T.lst)):=by
   have o:(lo:Int)+(j)=((lo+j:Nat)):=by omega
   rw[o,UL (by omega),jw,bq]
  have G:uW ca mS [.vl (.tup [a,t,b,c]),.ow acc,.vl (.int ((lo)+(j)))]= .nx [.vl (.tup [a,t,b,c]),.ow (acc++Y7 (aq (lo+j) d)),.vl (.int ((lo)+(j)))]:=by
   have o:zb 1 mS (za (zc zV (jB (za (zb 1 ca (za (zc kj (vE 0) (cE (.int 1))) (zf))) (zf))) (vE 2)) (zf)) [.vl (.tup [a,t,b,c]),.ow acc,.vl (.int ((lo)+(j)))]= .ok (.lst (Y7 (aq (lo+j) d))):=by
    have w:zb 1 ca (za (zc kj (vE 0) (cE (.int 1))) (zf)) [.vl (.tup [a,t,b,c]),.ow acc,.vl (.int ((lo)+(j)))]= .ok (.lst d):=by
     rw[zI,JM,i3,p]
    rw[zI,zk,sQ w,i3,v2,i3,F,i3,B]
   show ((zb 1 _ _ _).s λt=>match t with | .lst I=>if acc.length+I.length<=mq then RS.nx _ else .bad | _=> .bad)=_
   rw[o];show (if _ then _ else _)=_
   rw[if_pos (by omega)]
   rfl
  obtain⟨y,v⟩:=ub (k:=k) p g js (acc++Y7 (aq (lo+j) d)) _ (λi hi=>q i (ab _ hi)) (by rw[ay];omega)
  refine⟨y, ?_⟩;have e:Zp (zG 2) (uW ca mS) ((j :: js).map λ(j:Nat)=>T.int ((lo)+(j))) [.vl (.tup [a,t,b,c]),.ow acc,x]=match uW ca _ [.vl _,.ow acc,.vl _] with
   | .nx ρ2=>Zp _ _ (js.map λ(j)=>T.int _) ρ2
   | .ct ρ2=>Zp _ _ (js.map λ(j)=>T.int _) ρ2
   | .bk ρ2=> .nx ρ2
   | r=>r:=rfl
  rw[e,G];dsimp only;rw[v,bK,bU]
theorem VV {ca:List T->R T}{a t:T}{lo hi:Nat}(g:lo<=hi)(i:hi<=3){x:Sl}{acc:List T}{r:RS}
  (c:Zp (zG 2) (uW ca mS) ((ba (hi+1 - lo)).map λ(j:Nat)=>T.int ((lo:Int)+(j:Int))) [.vl (.tup [a,t,.int (lo:Int),.int (hi:Int)]),.ow acc,x]=r):
  j2 (J7 (zc kj (vE 0) (cE (.int 2))) (zc zx (zc kj (vE 0) (cE (.int 3))) (cE (.int 1)))) (zG 2) (uW ca mS) [.vl (.tup [a,t,.int (lo:Int),.int (hi:Int)]),.ow acc,x]=r:=by
 have hn:((hi:Int)+1 - (lo)).toNat=hi+1 - lo:=by omega
 have d: -1000000 < (lo:Int)/\(lo:Int) < 1000000/\ -1000000 < (hi:Int)+1/\(hi:Int)+1 < 1000000:=by omega
 have e:j2 (J7 (zc kj (vE 0) (cE (.int 2))) (zc zx (zc kj (vE 0) (cE (.int 3))) (cE (.int 1)))) (zG 2) (uW ca mS) [.vl (.tup [a,t,.int (lo),.int (hi)]),.ow acc,x]=(J7 _ _ _).s λts=>Zp _ _ ts _:=rfl;rw[e,uV UK (yV G4) d,hn];exact c
theorem Fq {n L lo hi:Nat}(e:L=pw n lo hi)(h:L<=1000000):([]:List T).length+((ba (hi+1 - lo)).map λj=>n ^ (lo+j)).sum<=mq:=by
 have h' :pw n lo hi<=mq:=aB (e ▸ h) (by decide)
 rw[bR,fI];exact h'
theorem Qu {ca:List T->R T}(d:Nat)(lo hi:Int)(h:(Kd.whole lo hi).Ok (d+1))(g:(Kd.whole lo hi).all.length<=1000000)(H:∀a :Kd,a.Ok d->ca [a.t]= .ok (.lst a.all)):zm (nk ca mS (mv 3 [(Kd.whole lo hi).t]))= .ok (.lst (Kd.whole lo hi).all):=by
 have e:zm (nk ca mS (mv 3 [(Kd.whole lo hi).t]))=zm (nk ca _ [.vl _,.un,.un]):=rfl;rw[e,nk,zY,ZM];obtain⟨i,j,c⟩:=h;simp only[Kd.t];rw[Z5,ZU,Wd];unfold tU;rw[uV JM (yV UK) ⟨by omega,by omega,by omega,by omega⟩]
 rfl
theorem VW {ca:List T->R T}(d:Nat)(cs:List (Str×Int))(h:(Kd.pick cs).Ok (d+1))(l:(Kd.pick cs).all.length<=1000000)(H:∀a :Kd,a.Ok d->ca [a.t]= .ok (.lst a.all)):zm (nk ca mS (mv 3 [(Kd.pick cs).t]))= .ok (.lst (Kd.pick cs).all):=by
 have i:mq=16777216:=rfl;have e:zm (nk ca mS (mv 3 [(Kd.pick cs).t]))=zm (nk ca _ [.vl _,.un,.un]):=rfl;rw[e,nk,zY,ZM];simp only[Kd.t];rw[mU,Zx,show (("pick":Str) == "whole")=false from rfl,if_neg ax,wC];dsimp only;rw[zY,ZM,Z5,ZU,Wd,Wd,jj,Z1,ZV,JM];have k:=h.2.1;have g:zy (zO 0 1) Z3 (vE 0) 2 [] [.vl (.tup [.str "pick",.tup (cs.map Jf)]),.un,.un] (cs.map Jf)= .ok (cs.map λc=>T.str c.1):=by
  unfold zy;rw[if_pos (by rw[af];omega)]
  show quiet (zt _ _ _ _ [.un,.un])=_;rw[Qt];rfl
 show zm (match ((((R.ok _).bind λts=>(zy _ _ _ 2 [] _ ts).bind λvs=> .ok _)).s λt=> .rt t) with | .nx j =>_ | r=>r)=_
 rw[i3,g];rfl
theorem KM {ca:List T->R T}(d:Nat)(a:List Kd)(h:(Kd.row a).Ok (d+1))(p:(Kd.row a).all.length<=1000000)(H:∀c :Kd,c.Ok d->ca [c.t]= .ok (.lst c.all)):zm (nk ca mS (mv 3 [(Kd.row a).t]))= .ok (.lst (Kd.row a).all):=by
 have w:mq=16777216:=rfl;have e:zm (nk ca mS (mv 3 [(Kd.row a).t]))=zm (nk ca _ [.vl _,.un,.un]):=rfl;rw[e,nk,zY,ZM];obtain⟨D,F,o⟩:=h;simp only[Kd.t];rw[mU,Zx,show (("row":Str) == "whole")=false from rfl,if_neg ax,wC];dsimp only;rw[zY,ZM,mU,Zx,show (("row":Str) == "pick")=false from rfl,if_neg ax,wC];dsimp only;rw[zY,ZM,Z5,ZU,Wd,Wd,jj,zI,Kd.ts_map];have q:zy (zG 0) Z3 (zb 1 ca (za (vE 0) (zf))) 1 [] [.vl (.tup [.str "row",.tup (a.map Kd.t)]),.un,.un] (a.map Kd.t)= .ok ((a.map Kd.all).map T.lst):=by
  unfold zy;rw[if_pos (by rw[af];omega)]
  show quiet (zt _ _ _ _ [.un])=_;have:∀(a:List Kd) (x:Sl),(∀k∈a,k.Ok d)->zt (zG 0) Z3 (zb 1 ca (za (vE 0) (zf))) (a.map Kd.t) [x]= .ok ((a.map Kd.all).map T.lst):=by
   intro a
   induction a with
   | nil=>intro _ _;rfl
   | cons k a u=>
    intro x g;have y:zt (zG 0) Z3 (zb 1 ca (za (vE 0) (zf))) ((k :: a).map _) [x]=(zb 1 ca _ [.vl k.t]).bind λv=>(zt _ _ _ _ [.vl k.t]).bind λvs=> .ok _:=rfl;rw[y,zI,v0,i3,H k (g k ac),u _ λc i =>g c (ab _ i)];rfl
  rw[this a .un o];rfl
 have j:=jK a;have C:mS [.lst ((a.map Kd.all).map _)]= .ok _:=Qr _ (by rw[af];omega) (λl p=>by
  obtain⟨k,g,rfl⟩:=aH.mp p;exact Zs d k (o k g)) (by
  rw[bg];show mM (a.map λk=>k.all.length)<=mq;omega)
 show zm (match ((((R.ok _).bind λts=>(zy _ _ _ 1 [] _ ts).bind λvs=> .ok _).bind λx=>mS [x]).s λt=> .rt t) with | .nx B =>_ | r=>r)=_
 rw[i3,q,i3,i3,C,Kd.all,Kd.alls_map];rfl
theorem VX {ca:List T->R T}(d:Nat)(k:Kd)(lo hi:Nat)(h:(Kd.many k lo hi).Ok (d+1))(x:(Kd.many k lo hi).all.length<=1000000)(H:∀i :Kd,i.Ok d->ca [i.t]= .ok (.lst i.all)):zm (nk ca mS (mv 3 [(Kd.many k lo hi).t]))= .ok (.lst (Kd.many k lo hi).all):=by
 have r:mq=16777216:=rfl;have e:zm (nk ca mS (mv 3 [(Kd.many k lo hi).t]))=zm (nk ca mS [.vl (Kd.many k lo hi).t,.un,.un]):=rfl;rw[e,nk,zY,ZM];obtain⟨u,v,o⟩:=h;have g:=j5 k lo hi;simp only[Kd.t];rw[mU,Zx,show (("many":Str) == "whole")=false from rfl,if_neg ax,wC];dsimp only;rw[zY,ZM,mU,Zx,show (("many":Str) == "pick")=false from rfl,if_neg ax,wC];dsimp only;rw[zY,ZM,mU,Zx,show (("many":Str) == "row")=false from rfl,if_neg ax,wC];dsimp only;have q:WF 1 (zf) [.vl (.tup [.str "many",k.t,.int (lo:Int),.int (hi:Int)]),.un,.un]= .nx [.vl (.tup [.str "many",k.t,.int (lo:Int),.int (hi:Int)]),.ow [],.un]:=rfl;rw[zY,q];dsimp only;obtain⟨y,p⟩:=ub (k:=k) (lo:=lo) (H k o) (Zs d k o) (a:= .str "many") (b:= .int (lo:Int)) (c:= .int (hi:Int)) (ba (hi+1 - lo)) [] .un (λj w=>by have:=bN.mp w;omega) (Fq g x)
 have l:=VV (ca:=ca) (t:=k.t) u v p;rw[cy]at l;rw[zd l,Kd.all];rfl
theorem VY {ca:List T->R T}(d:Nat)(k:Kd)(h:k.Ok (d+1))(a:k.all.length<=1000000)(H:∀c :Kd,c.Ok d->ca [c.t]= .ok (.lst c.all)):zm (nk ca mS (mv 3 [k.t]))= .ok (.lst k.all):=by
 cases k with
 | whole lo hi=>exact Qu d lo hi h a H
 | pick cs=>exact VW d cs h a H
 | row e=>exact KM d e h a H
 | many k lo hi=>exact VX d k lo hi h a H
theorem Xd:∀(d n:Nat),d<=n->d<=3->∀k:Kd,k.Ok d->k.all.length<=1000000->pQ n 0 [k.t]= .ok (.lst k.all)
 | 0,_,_,_,_,h,_=>h.elim
 | d+1,0,hn,_,_,_,_=>by omega
 | d+1,n+1,hn,hd,k,h,g=>by
  have e:pQ (n+1) 0 [k.t]=zm (nk (pQ n 0) mS (mv 3 [k.t])):=rfl;rw[e];refine VY d k h g λc a =>Xd d n (by omega) (by omega) c a ?_
  have i:=j9 d c a;have:mx d<=1000000:=by
   have:d=0\/d=1\/d=2:=by omega
   rcases this with rfl | rfl | rfl <;> decide
  omega
theorem El {x a b:Str}{r:List T}{ρ:En}:zD nc (zc kj (vE 0) (cE (.int 0))) (Zb (za (cE (.str a)) (za (cE (.str b)) (zf)))) (.vl (.tup (.str x :: r)) :: ρ)=nc (.str x) (.tup [.str a,.str b]):=by
 rw[zX,zk,v0,i3,zW,i3,ph,i3,UH zW zW,i3]
theorem Ji {g:En->R Bool}{a c:En->RS}{ρ:En}(h:g ρ= .ok true):mB g a c ρ=a ρ:=by rw[ZM,h,Zx,if_pos rfl]
theorem B9 {g:En->R Bool}{c a:En->RS}{ρ:En}(h:g ρ= .ok false):mB g c a ρ=a ρ:=by rw[ZM,h,Zx,if_neg ax]
theorem zu {g:En->R Bool}{a:En->RS}{ρ:En}(h:g ρ= .ok false):mB g a my ρ= .nx ρ:=by rw[B9 h];rfl
theorem zM {i:Nat}{f:En->R T}{ρ:En}{t:T}(h:f ρ= .ok t):zJ i f ρ= .nx (ρ.set i (.vl t)):=by rw[JG,h,Zx]
theorem zl {f:En->R T}{ρ:En}{t:T}(h:f (frz ρ)= .ok t):zA f ρ= .rt t:=by rw[Z5,h,Zx]
theorem jx {g:T->En->R En}{a:En->RS}{t:T}{ts:List T}{ρ ρ1 ρ2:En}(d:g t ρ= .ok ρ1)(c:a ρ1= .nx ρ2):Zp g a (t :: ts) ρ=Zp g a ts ρ2:=by
 rw[Zp,d];dsimp only;rw[c]
theorem BK (i:Nat)(t:T)(ρ:En):zG i t ρ= .ok (ρ.set i (.vl t)):=rfl
theorem zB {f g:En->RS}{ρ:En}{t:T}(h:f ρ= .rt t):zq f g ρ= .rt t:=by rw[zY,h]
theorem Qv {i j:Nat}(h:i < 2 ^ 60):zV (.int (i:Int)) (.int (j:Int))= .ok (.int ((i*j:Nat):Int)):=by
 rw[Qp _ _ (.inl ⟨by omega,by omega⟩),fy]
theorem Ct {d n:Nat}(h:n<=mx d)(hd:d<=3):n < 2 ^ 60:=by
 have:d=0\/d=1\/d=2\/d=3:=by omega
 have a:mx 3 < 2 ^ 60:=by decide
 have e:mx 2 < 2 ^ 60:=by decide
 have c:mx 1 < 2 ^ 60:=by decide
 have g:mx 0 < 2 ^ 60:=by decide
 rcases this with rfl | rfl | rfl | rfl <;> omega
theorem UM {a b:Sl}:∀(c:List Nat) (m:Nat) (x y:Sl),(∀n∈c,1<=n)->m*mM c < 2 ^ 60->∃e,Zp (zG 3) (zJ 2 (zc zV (vE 2) (vE 3))) (c.map λ(n:Nat)=>T.int (n:Int)) [a,b,.vl (.int (m:Int)),x,y]= .nx [a,b,.vl (.int ((m*mM c:Nat):Int)),e,y]
 | [],m,x,y,_,_=>⟨x,by simp[Zp,mM]⟩
 | n :: c,m,x,y,hp,d=>by
  have g:=JK λk i=>hp k (ab _ i);have hn:=hp n ac;have j:m<=m*mM (n :: c):=de _ (df hn g);have l:=bC j d;rw[mM,← dw]at d;obtain⟨e,q⟩:=UM c _ _ y (λk i=>hp k (ab _ i)) d;refine⟨e, ?_⟩;have p:zJ 2 (zc zV (vE 2) (vE 3)) [a,b,.vl (.int (m)),.vl (.int (n)),y]= .nx [a,b,.vl (.int ((m*n):Int)),.vl (.int (n)),y]:=by
   rw[JG,zk,v2,i3,v3,i3,Qv l];rfl
  have o:zG 3 (T.int (n)) [a,b,.vl (.int (m)),x,y]= .ok _:=rfl;rw[aA,jx o p,mM,← dw];exact q
theorem UN:∀(d:Nat) (lo hi:Int),(Kd.whole lo hi).Ok (d+1)->(Kd.whole lo hi).Ok 1
 | _,_,_,h=>h
theorem VZ:∀(d:Nat) (cs:List (Str×Int)),(Kd.pick cs).Ok (d+1)->(Kd.pick cs).Ok 1
 | _,_,h=>h
theorem uc {cs:List T->R T}(k:Kd)(h:k.Ok 1){x:Str}{r:List T}(g:k.t= .tup (.str x :: r))(d:nc (.str x) (.tup [.str "whole",.str "pick"])= .ok true):zm (nE (oh 8) cs (mv 5 [k.t]))= .ok (.int (k.all.length:Int)):=by
 have i:oh 8 _= .ok _:=Xd 1 8 (by omega) (by omega) k h (aB (j9 1 k h) (by decide))
 have e:zm (nE (oh 8) cs (mv 5 [k.t]))=zm (nE _ cs [.vl k.t,.un,.un,.un,.un]):=rfl;have c:zD nc (zc kj (vE 0) (cE (.int 0))) (Zb (za (cE (.str "whole")) (za (cE (.str "pick")) (zf)))) [.vl k.t,.un,.un,.un,.un]= .ok true:=by
  rw[g,El,d]
 have a:zA (mn ZL (zb 1 (oh 8) (za (vE 0) (zf)))) [.vl k.t,.un,.un,.un,.un]= .rt (.int (k.all.length)):=by
  refine zl ?_;rw[ZU,ZD,zI,v0,i3,i,i3,Dg]
 rw[e,nE,zB (by rw[Ji c,a])]
 rfl
theorem Et (b:Bool):b2 b=(iv b:Int):=by cases b <;> rfl
theorem x8 {cs:List T->R T}{d:Nat}(hd:d+1<=3)(c:List Kd)(h:(Kd.row c).Ok (d+1))(H:∀k:Kd,k.Ok d->cs [k.t]= .ok (.int (k.all.length:Int))):zm (nE (oh 8) cs (mv 5 [(Kd.row c).t]))= .ok (.int ((Kd.row c).all.length:Int)):=by
 have g:=Ct (j9 _ _ h) hd;rw[jK]at g ⊢;obtain⟨G,C,p⟩:=h;simp only[Kd.t,Kd.ts_map];have e:zm (nE (oh 8) cs (mv 5 [.tup [.str "row",.tup (c.map Kd.t)]]))=zm (nE _ cs [.vl _,.un,.un,.un,.un]):=rfl;have l:zD nc (zc kj (vE 0) (cE (.int 0))) (Zb (za (cE (.str "whole")) (za (cE (.str "pick")) (zf)))) [.vl (.tup [.str "row",.tup (c.map Kd.t)]),.un,.un,.un,.un]= .ok false:=by
  rfl
 have w:zy (zG 0) Z3 (zb 1 cs (za (vE 0) (zf))) 1 [] [.vl (.tup [.str "row",.tup (c.map Kd.t)]),.un,.un,.un,.un] (c.map Kd.t)= .ok ((c.map λk=>k.all.length).map λ(n:Nat)=>T.int (n)):=by
  unfold zy;rw[if_pos (by rw[af];exact aB C (by decide))]
  have:∀(c:List Kd) (x:Sl),(∀k∈c,k.Ok d)->zt (zG 0) Z3 (zb 1 cs (za (vE 0) (zf))) (c.map Kd.t) [x]= .ok ((c.map λk=>k.all.length).map λ(n:Nat)=>T.int (n)):=by
   intro c
   induction c with
   | nil=>intro _ _;rfl
   | cons k c y=>
    intro x i;have l:zt (zG 0) Z3 (zb 1 cs (za (vE 0) (zf))) ((k :: c).map _) [x]=(zb 1 cs _ [.vl k.t]).bind λv=>(zt _ _ _ _ [.vl k.t]).bind λvs=> .ok _:=rfl;rw[l,zI,v0,i3,H k (i k ac),y _ λD j =>i D (ab _ j)];rfl
  show quiet (zt _ _ _ _ [.un])=_;rw[this c .un p];rfl
 have q:nD (zD mm (zc kj (vE 0) (cE (.int 0))) (cE (.str "row"))) (zT (ZK (zc kj (vE 0) (cE (.int 1)))) (zG 0) (Z3) (zb 1 cs (za (vE 0) (zf))) 1 []) (jB (zf)) [.vl (.tup [.str "row",.tup (c.map Kd.t)]),.un,.un,.un,.un]= .ok (.lst ((c.map λk=>k.all.length).map λ(n:Nat)=>T.int (n))):=by
  unfold nD;rw[mU,i3,show (("row":Str) == "row")=true from rfl,if_pos rfl,Z1,ZV,JM];show ((R.ok _).bind _)=_;rw[i3,w,i3]
 obtain⟨F,o⟩:=UM (a:= .vl _) (c.map λk=>k.all.length) 1 .un .un (λn hn=>by
  obtain⟨k,i,rfl⟩:=aH.mp hn;exact Zs d k (p k i)) (by rw[cD];exact g)
 rw[cD]at o;have u:j2 (ZK (vE 1)) _ _ [.vl _,.vl (.lst ((c.map λk=>k.all.length).map λ(n:Nat)=>T.int (n))),.vl (.int 1),.un,.un]=_:=o;rw[e,nE,zd (zu l),zd (zM q)];have B:([.vl (.tup [.str "row",.tup (c.map Kd.t)]),.un,.un,.un,.un]:En).set 1 (.vl (.lst ((c.map λk=>k.all.length).map λ(n:Nat)=>T.int (n))))=[.vl _,.vl (.lst ((c.map λk=>k.all.length).map λ(n:Nat)=>T.int (n))),.un,.un,.un]:=rfl;rw[B,zd (zM zW)];have r:([.vl (.tup [.str "row",.tup (c.map Kd.t)]),.vl (.lst ((c.map λk=>k.all.length).map λ(n:Nat)=>T.int (n))),.un,.un,.un]:En).set 2 (.vl (.int 1))=[.vl _,.vl (.lst ((c.map λk=>k.all.length).map λ(n)=>T.int _)),.vl _,.un,.un]:=rfl;rw[r,zd u];rfl
theorem Da {f g:En->R T}{ρ:En}{i j c:Int}(d:f ρ= .ok (.int i))(a:g ρ= .ok (.int j)):nh mF mF f (cE (.int c)) g ρ= .ok (.bl (decide (i<=c) && decide (c<=j))):=by
 rw[VT,d,i3,zW,i3,uQ,a];cases decide (i<=c) <;> rfl
theorem wD (a b:Nat):decide ((a:Int)<=(b:Int))=decide (a<=b):=by
 by_cases h:a<=b
 ·rw[decide_eq_true h];exact decide_eq_true (by omega)
 ·rw[decide_eq_false h];exact decide_eq_false (by omega)
theorem Qw (a b:Nat):((a:Int) == (b:Int))=(a == b):=by
 by_cases h:a=b
 ·subst h;simp
 ·rw[beq_eq_false_iff_ne.mpr h,beq_eq_false_iff_ne];omega
theorem Am {f:En->R T}{ρ:En}{b:Bool}(h:f ρ= .ok (.bl b)):mn YU f ρ= .ok (.int ((iv b:Nat):Int)):=by
 rw[ZD,h];show R.ok _=_;rw[Et]
theorem Qx {f g:En->R T}{ρ:En}{i j:Nat}(a:f ρ= .ok (.int (i:Int)))(c:g ρ= .ok (.int (j:Int))):zc zx f g ρ= .ok (.int ((i+j:Nat):Int)):=by
 rw[zk,a,i3,c,i3,Z0,Int.natCast_add]
theorem jL {f g:En->R T}{ρ:En}{i j:Nat}(h:i < 2 ^ 60)(c:f ρ= .ok (.int (i:Int)))(a:g ρ= .ok (.int (j:Int))):zc zV f g ρ= .ok (.int ((i*j:Nat):Int)):=by
 rw[zk,c,i3,a,i3,Qv h]
theorem KN {d n:Nat}(h:n<=mx d)(hd:d+1<=3)(k:1<=d):n*n*n < 2 ^ 60/\n*n < 2 ^ 60/\n < 2 ^ 60:=by
 have a:n<=70644:=by
  have:d=1\/d=2:=by omega
  have c:mx 2=70644:=by decide
  have a:mx 1=41:=by decide
  rcases this with rfl | rfl <;> omega
 have c:=bH a a;have e:=bH c a;have g:70644*70644*70644 < 2 ^ 60:=by decide
 have i:70644*70644 < 2 ^ 60:=by decide
 have j:70644 < 2 ^ 60:=by decide
 exact⟨bC e g,bC c i,bC a j⟩
noncomputable abbrev mt (t:T)(lo hi:Nat):T:= .tup [.str "many",t,.int (lo:Int),.int (hi:Int)]
theorem pD {t:T}{a b c d:Sl}{ρ:En}:vE 4 (a :: b :: c :: d :: .vl t :: ρ)= .ok t:=rfl
theorem Qy {t:T}{a x:Sl}{lo hi n:Nat}(v:n*n*n < 2 ^ 60)(l:n*n < 2 ^ 60)(j:n < 2 ^ 60):
  zq (zJ 2 (zc zx (mn YU (j7 mm (zc kj (vE 0) (cE (.int 2))) (cE (.int 0)))) (zc zV (vE 4) (mn YU (nh mF mF (zc kj (vE 0) (cE (.int 2))) (cE (.int 1)) (zc kj (vE 0) (cE (.int 3))))))))
  (zq (zJ 2 (zc zx (vE 2) (zc zV (zc zV (vE 4) (vE 4)) (mn YU (nh mF mF (zc kj (vE 0) (cE (.int 2))) (cE (.int 2)) (zc kj (vE 0) (cE (.int 3))))))))
  (zJ 2 (zc zx (vE 2) (zc zV (zc zV (zc zV (vE 4) (vE 4)) (vE 4)) (mn YU (j7 mm (zc kj (vE 0) (cE (.int 3))) (cE (.int 3))))))))
  [.vl (mt t lo hi),a,.vl (.int 1),x,.vl (.int (n:Int))]= .nx [.vl (mt t lo hi),a,.vl (.int ((iv (lo == 0)+n*iv (decide (lo<=1) && decide (1<=hi))+n*n*iv (decide (lo<=2) && decide (2<=hi))+n*n*n*iv (hi == 3):Nat):Int)),x,.vl (.int (n:Int))]:=by
 have d:∀{p q r s:Sl},mn _ (nh mF mF _ _ _) [.vl (mt t lo hi),p,q,r,s]= .ok (.int ((iv (decide (lo<=1) && decide (1<=hi))):Int)):=λ{p q r s}=>Am (by
  rw[Da UK G4];rw[show decide ((lo:Int)<=1)=decide _ from wD lo 1,show decide ((1:Int)<=(hi))=decide _ from wD 1 hi])
 have e:∀{p q r s:Sl},mn _ (nh mF mF _ _ _) [.vl (mt t lo hi),p,q,r,s]= .ok (.int ((iv (decide (lo<=2) && decide (2<=hi))):Int)):=λ{p q r s}=>Am (by
  rw[Da UK G4];rw[show decide ((lo:Int)<=2)=decide _ from wD lo 2,show decide ((2:Int)<=(hi))=decide _ from wD 2 hi])
 have k:∀{p q r s:Sl},mn _ (j7 mm (zc kj _ _) (cE _)) [.vl (mt t lo hi),p,q,r,s]= .ok _:=λ{p q r s}=>Am (by
  rw[jk,UK,i3,zW,i3,nC,i3,show ((lo:Int) == 0)=(lo == 0) from Qw lo 0])
 have g:∀{p q r s:Sl},mn _ (j7 mm (zc kj _ _) (cE _)) [.vl (mt t lo hi),p,q,r,s]= .ok _:=λ{p q r s}=>Am (by
  rw[jk,G4,i3,zW,i3,nC,i3,show ((hi:Int) == 3)=(hi == 3) from Qw hi 3])
 have c:=zM (i:=2) (Qx (k (p:=a) (q:= .vl (.int 1)) (r:=x)) (jL j pD d));have c:zJ 2 _ _= .nx [.vl _,a,.vl _,x,.vl _]:=c;rw[zd c];generalize iv _+n*iv _=m1;have u:=zM (i:=2) (Qx (v2 (t:= .int (m1)) (b:=a) (ρ:=[x,.vl _])) (jL l (jL j pD pD) e));rw[zd u];generalize m1+n*n*iv _=m2;have o:=zM (i:=2) (Qx (v2 (t:= .int (m2)) (b:=a) (ρ:=[x,.vl _])) (jL v (jL l (jL j pD pD) pD) g));exact o
theorem Qz {cs:List T->R T}{d:Nat}(hd:d+1<=3)(k:Kd)(lo hi:Nat)(h:(Kd.many k lo hi).Ok (d+1))(H:∀k:Kd,k.Ok d->cs [k.t]= .ok (.int (k.all.length:Int))):zm (nE (oh 8) cs (mv 5 [(Kd.many k lo hi).t]))= .ok (.int ((Kd.many k lo hi).all.length:Int)):=by
 obtain⟨B,C,g⟩:=h;have c:1<=d:=by
  cases d with
  | zero=>exact g.elim
  | succ d=>omega
 obtain⟨v,r,F⟩:=KN (j9 d k g) hd c;rw[j5,KK _ B C];simp only[Kd.t];have p:=H k g;generalize k.all.length=n at*;generalize k.t=t at*;have e:zm (nE (oh 8) cs (mv 5 [mt t lo hi]))=zm (nE _ cs [.vl _,.un,.un,.un,.un]):=rfl;have u:zD nc (zc kj (vE 0) (cE (.int 0))) (Zb (za (cE (.str "whole")) (za (cE (.str "pick")) (zf)))) [.vl (mt t lo hi),.un,.un,.un,.un]= .ok false:=by
  rfl
 have i:nD (zD mm (zc kj (vE 0) (cE (.int 0))) (cE (.str "row"))) (zT (ZK (zc kj (vE 0) (cE (.int 1)))) (zG 0) (Z3) (zb 1 cs (za (vE 0) (zf))) 1 []) (jB (zf)) [.vl (mt t lo hi),.un,.un,.un,.un]= .ok (.lst []):=by
  rfl
 have w:([.vl (mt t lo hi),.un,.un,.un,.un]:En).set 1 (.vl (.lst []))=[.vl _,.vl _,.un,.un,.un]:=rfl;have j:([.vl (mt t lo hi),.vl (.lst []),.un,.un,.un]:En).set 2 (.vl (.int 1))=[.vl _,.vl _,.vl _,.un,.un]:=rfl;have l:j2 (ZK (vE 1)) (zG 3) (zJ 2 (zc zV (vE 2) (vE 3))) [.vl (mt t lo hi),.vl (.lst []),.vl (.int 1),.un,.un]= .nx _:=rfl;have D:zD mm (zc kj (vE 0) (cE (.int 0))) (cE (.str "many")) [.vl (mt t lo hi),.vl (.lst []),.vl (.int 1),.un,.un]= .ok true:=by
  rfl
 have y:zb 1 cs (za (zc kj (vE 0) (cE (.int 1))) (zf)) [.vl (mt t lo hi),.vl (.lst []),.vl (.int 1),.un,.un]= .ok (.int (n)):=by
  rw[zI,JM,i3,p]
 have G:([.vl (mt t lo hi),.vl (.lst []),.vl (.int 1),.un,.un]:En).set 4 (.vl (.int (n)))=[.vl _,.vl _,.vl _,.un,.vl _]:=rfl;have o:=Qy (t:=t) (a:= .vl (.lst [])) (x:= .un) (lo:=lo) (hi:=hi) v r F;rw[e,nE,zd (zu u),zd (zM i),w,zd (zM zW),j,zd l];have q:∀(P:En->RS),mB _ (zq _ P) my _=P _:=λP=>by
  rw[Ji D,zd (zM y),G]
 rw[zd (Eq.trans (q _) o)];rfl
theorem QA:∀(d n:Nat),d<=n->d<=3->∀k:Kd,k.Ok d->Ak n 0 [k.t]= .ok (.int (k.all.length:Int))
 | 0,_,_,_,_,h=>h.elim
 | d+1,0,hn,_,_,_=>by omega
 | d+1,n+1,hn,hd,k,h=>by
  have H:=λe a =>QA d n (by omega) (by omega) e a
  cases k with
  | whole lo hi=>exact uc _ (UN d lo hi h) (x:="whole") (r:=[.int lo,.int hi]) (by simp only[Kd.t]) rfl
  | pick cs=>exact uc _ (VZ d cs h) (x:="pick") (r:=[.tup (cs.map Jf)]) (by simp only[Kd.t]) rfl
  | row c=>exact x8 (by omega) c h H
  | many k lo hi=>exact Qz (by omega) k lo hi h H
theorem Ok.mono:∀(d:Nat) (k:Kd),k.Ok d->k.Ok (d+1)
 | 0,_,h=>h.elim
 | d+1,.whole _ _,h=>h
 | d+1,.pick _,h=>h
 | d+1,.row c,h=>⟨h.1,h.2.1,λk a=>Ok.mono d k (h.2.2 k a)⟩
 | d+1,.many k _ _,h=>⟨h.1,h.2.1,Ok.mono d k h.2.2⟩
theorem KO (j:Int):zV (.int 700) (.int j)= .ok (.int (700*j)):=Qp _ _ (.inl ⟨by decide,by decide⟩)
theorem CJ (a:List Int)(d:Nat)(c:1<=d)(j:d<=8)(k:Int)(i:0<=k):∃q:Kd,oW 8 [mz a,.int k,.int (d:Int)]= .ok q.t/\q.Ok d:=by
 obtain⟨t,e,hi⟩:=uS a d 8 j c k i;obtain⟨q,rfl,g⟩:=uU d t hi;exact⟨q,e,g⟩
abbrev o5:En->RS:=zq (mB (zD mF (zb 1 (sI 8) (za (vE 3) (zf))) (vB 2)) (zA (vE 3)) (my))
  (zJ 3 (zb 3 (oW 8) (za (vE 0) (za (zc zx (zc zx (vE 1) (cE (.int 500))) (zc zV (cE (.int 700)) (vE 4))) (za (cE (.int 2)) (zf))))))
abbrev nT (ns:List Int)(a:Int)(m:Nat)(k:Kd)(x:Sl):En:=[.vl (mz ns),.vl (.int a),.vl (.int (m:Int)),.vl k.t,x]
theorem QB {c:List Int}{a:Int}{m:Nat}{k:Kd}{x:Sl}(d:k.Ok 3):zD mF (zb 1 (sI 8) (za (vE 3) (zf))) (vB 2) (nT c a m k x)= .ok (decide (k.all.length<=m)):=by
 have e:sI 8 _= .ok _:=QA 3 8 (by omega) (by omega) k d
 rw[zX,zI,v3,i3,e,i3,w2,i3,uQ,wD]
theorem KP (c:List Int){a:Int}{m:Nat}(o:0<=a){k:Kd}(g:k.Ok 3)(j:Nat):(k.all.length<=m/\o5 (nT c a m k (.vl (.int (0+(j:Int)))))= .rt k.t)\/∃i :Kd,i.Ok 3/\o5 (nT c a m k (.vl (.int (0+(j:Int)))))= .nx (nT c a m i (.vl (.int (0+(j:Int))))):=by
 by_cases h:k.all.length<=m
 ·refine .inl ⟨h, ?_⟩;refine zB ?_;rw[Ji (by rw[QB g,decide_eq_true h])]
  exact zl rfl
 ·obtain⟨q,d,l⟩:=CJ c 2 (by omega) (by omega) (a+500+700*(0+(j))) (by omega)
  refine .inr ⟨q,Ok.mono 2 q l, ?_⟩;unfold o5;rw[zd (zu (by rw[QB g,decide_eq_false h]))]
  have d:oW 8 [mz c,.int _,.int 2]= .ok q.t:=d;have e:zb 3 (oW 8) (za (vE 0) (za (zc zx (zc zx (vE 1) (cE (.int 500))) (zc zV (cE (.int 700)) (vE 4))) (za (cE (.int 2)) (zf)))) (nT c a m k (.vl (.int (0+(j)))))= .ok q.t:=by
   rw[Z9,v0,i3,zk,zk,v1,i3,zW,i3,Z0,i3,zk,zW,i3,v4,i3,KO,i3,Z0,i3,zW,i3,d]
  rw[zM e];rfl
theorem D6 {g:T->En->R En}{a:En->RS}{t:T}{ts:List T}{ρ ρ1:En}{r:T}(d:g t ρ= .ok ρ1)(c:a ρ1= .rt r):Zp g a (t :: ts) ρ= .rt r:=by
 rw[Zp,d];dsimp only;rw[c]
theorem QC (d:List Int){a:Int}{m:Nat}(o:0<=a):∀(js:List Nat) (k:Kd) (x:Sl),k.Ok 3->(∃c :Kd,c.Ok 3/\c.all.length<=m/\Zp (zG 4) o5 (js.map λ(j:Nat)=>T.int (0+(j:Int))) (nT d a m k x)= .rt c.t)\/
  ∃(c :Kd) (p :Sl),c.Ok 3/\Zp (zG 4) o5 (js.map λ(j:Nat)=>T.int (0+(j:Int))) (nT d a m k x)= .nx (nT d a m c p)
 | [],k,x,e=> .inr ⟨k,x,e,rfl⟩
 | j :: js,k,x,e=>by
  have l:zG 4 (T.int (0+(j))) (nT d a m k x)= .ok _:=rfl;rw[aA];rcases KP d o e j with ⟨g,i⟩ | ⟨c,g,i⟩
  ·exact .inl ⟨k,e,g,D6 l i⟩
  ·rw[jx l i];exact QC d o js c _ g
theorem x9 (c:List Int)(a:Int)(l:0<=a)(m:Nat)(u:4<=m):∃k:Kd,k.Ok 3/\k.all.length<=m/\sJ [mz c,.int a,.int (m:Int)]= .ok k.t:=by
 obtain⟨q,j,p⟩:=CJ c 3 (by omega) (by omega) a l
 have j:oW 8 [mz c,.int a,.int 3]= .ok q.t:=j;have e:sJ [mz c,.int a,.int (m)]=zm (Ab _ _ [.vl _,.vl _,.vl _,.un,.un]):=rfl;have r:zb 3 (oW 8) (za (vE 0) (za (vE 1) (za (cE (.int 3)) (zf)))) [.vl (mz c),.vl (.int a),.vl (.int (m)),.un,.un]= .ok q.t:=by
  rw[Z9,v0,i3,v1,i3,zW,i3,j]
 have v:([.vl _,.vl _,.vl _,.un,.un]:En).set 3 _=nT c a m q .un:=rfl;rw[e,Ab,zd (zM r),v];rcases QC c l _ q .un p with ⟨k,d,w,i⟩ | ⟨k,x,d,i⟩
 ·refine⟨k,d,w, ?_⟩;have g:j2 (Zt (cE (.int 3))) (zG 4) o5 _= .rt k.t:=i;rw[zB g];rfl
 ·have g:j2 (Zt (cE (.int 3))) (zG 4) o5 _= .nx _:=i;rw[zd g];have o:zD mF _ _ (frz (nT c a m k x))= .ok _:=QB d
  by_cases h:k.all.length<=m
  ·refine⟨k,d,h, ?_⟩;rw[zl]
   ·rfl
   ·unfold nD;rw[o,decide_eq_true h];rfl
  ·refine⟨.whole (-1) 2,⟨by omega,by omega,by omega⟩,by exact u, ?_⟩
   rw[zl]
   ·rfl
   ·unfold nD;rw[o,i3,decide_eq_false h,if_neg ax];rfl
mutual
noncomputable def Kd.has:Kd->T->Bool
 | .whole lo hi=>λt=>rH lo hi t
 | .pick cs=>λt=>match t with | .str x=>cs.any λc=>c.1 == x | _=>false
 | .row d=>λt=>match t with | .tup a=>a.length == d.length && Kd.hass d a | _=>false
 | .many k lo hi=>λt=>match t with | .tup a=>decide (lo<=a.length) && decide (a.length<=hi) && a.all k.has | _=>false
noncomputable def Kd.hass:List Kd->List T->Bool
 | []=>λ_=>true
 | k :: c=>λa=>match a with | []=>true | x :: a=>k.has x && Kd.hass c a
end
theorem UO:∀(a:List Kd) (c:List T),Kd.hass a c=(a.zip c).all λq=>q.1.has q.2
 | [],_=>by simp[Kd.hass]
 | k :: a,[]=>by simp[Kd.hass]
 | k :: a,x :: c=>by simp[Kd.hass,UO a c]
noncomputable def yW:List (List T)->List T->Prop
 | [],[]=>True
 | l :: a,x :: c=>x∈l/\yW a c
 | _,_=>False
theorem JN:∀(j c:List (List T)) (g:List T),g∈Zn c j↔∃a∈c,∃b,yW j b/\g=a++b
 | [],c,g=>by
  rw[Zn];constructor
  ·exact λh=>⟨g,h,[],trivial,by simp⟩
  ·rintro⟨a,i,b,d,rfl⟩
   cases b with
   | nil=>simpa using i
   | cons=>exact d.elim
 | l :: j,c,g=>by
  rw[Zn,JN j];constructor
  ·rintro⟨q,k,b,d,rfl⟩
   obtain⟨a,i,o⟩:=dL.mp k;obtain⟨x,p,e⟩:=aH.mp o;exact⟨a,i,x :: b,⟨p,d⟩,by rw[← e];simp⟩
  ·rintro⟨a,i,b,d,rfl⟩
   cases b with
   | nil=>exact d.elim
   | cons x b=>exact⟨a++[x],dL.mpr ⟨a,i,aH.mpr ⟨x,d.1,rfl⟩⟩,b,d.2,by simp⟩
theorem Wi (d:List (List T))(t:T):t∈Y7 d↔∃c,yW d c/\t= .tup c:=by
 rw[aH];constructor
 ·rintro⟨c,h,rfl⟩
  obtain⟨a,g,b,e,rfl⟩:=(JN d _ c).mp h;rw[av.mp g];exact⟨b,e,rfl⟩
 ·rintro⟨c,h,rfl⟩
  exact⟨c,(JN d _ c).mpr ⟨[],av.mpr rfl,c,h,rfl⟩,rfl⟩
theorem Wj (l:List T):∀(m:Nat) (d:List T),yW (aq m l) d↔d.length=m/\∀x∈d,x∈l
 | 0,[]=>by simp[yW]
 | 0,x :: d=>by simp[yW]
 | m+1,[]=>by simp[yW,cb]
 | m+1,x :: d=>by
  show x∈l/\yW _ d↔_;rw[Wj l m d];simp;constructor
  ·rintro⟨a,b,c⟩;exact⟨b,a,c⟩
  ·rintro⟨a,b,c⟩;exact⟨b,a,c⟩
theorem ud:∀(e:List Kd),(∀k∈e,∀x,x∈k.all↔k.has x=true)->∀d,yW (e.map Kd.all) d↔(d.length == e.length && Kd.hass e d)=true
 | [],_,[]=>by simp[yW,Kd.hass]
 | [],_,x :: d=>by simp[yW]
 | k :: e,h,[]=>by simp[yW]
 | k :: e,h,x :: d=>by
  show x∈k.all/\yW _ d↔_;rw[ud e (λi g =>h i (ab _ g)) d,h k ac x];simp[Kd.hass];constructor
  ·rintro⟨a,b,c⟩;exact⟨b,a,c⟩
  ·rintro⟨a,b,c⟩;exact⟨b,a,c⟩
mutual
theorem JO:∀(k:Kd) (x:T),x∈k.all↔k.has x=true
 | .whole lo hi,x=>by
  rw[Kd.all,Kd.has,aH];constructor
  ·rintro⟨i,d,rfl⟩
   rw[bN]at d;simp[rH];omega
  ·intro h;obtain⟨i,rfl⟩:=KI h;simp[rH]at h;exact⟨(i - lo).toNat,by rw[bN];omega,by congr 1;omega⟩
 | .pick cs,x=>by
  rw[Kd.all,Kd.has,aH];constructor
  ·rintro⟨c,g,rfl⟩
   simp only[i8];exact⟨c,g,by simp⟩
  ·intro h;dsimp only at h;split at h
   ·rw[i8]at h;obtain⟨c,g,e⟩:=h;exact⟨c,g,by rw[eq_of_beq e]⟩
   ·cases h
 | .row j,x=>by
  rw[Kd.all,Kd.has,Wi,Kd.alls_map];have:=ud j (UP j);constructor
  ·rintro⟨a,h,rfl⟩
   exact(this a).mp h
  ·intro h;dsimp only at h;split at h
   ·rename_i a;exact⟨a,(this a).mpr h,rfl⟩
   ·cases h
 | .many k lo hi,x=>by
  rw[Kd.all,Kd.has,dL];constructor
  ·rintro⟨i,d,h⟩
   rw[Wi]at h;obtain⟨a,h,rfl⟩:=h;rw[Wj]at h;rw[bN]at d;simp only[aj,decide_eq_true_eq,aS];exact⟨⟨by omega,by omega⟩,λy hy=>(JO k y).mp (h.2 y hy)⟩
  ·intro h;dsimp only at h;split at h
   ·rename_i a;simp only[aj,decide_eq_true_eq,aS]at h;refine⟨a.length - lo,by rw[bN];omega, ?_⟩
    rw[Wi];exact⟨a,(Wj _ _ _).mpr ⟨by omega,λy hy=>(JO k y).mpr (h.2 y hy)⟩,rfl⟩
   ·cases h
theorem UP:∀(a:List Kd),∀k∈a,∀x,x∈k.all↔k.has x=true
 | [],_,h=>nomatch h
 | k :: a,c,h=>by
  rcases ag.mp h with e | h
  ·intro x;rw[e];exact JO k x
  ·exact UP a c h
end
theorem UQ {a:Type}(p:a->Bool):∀qs:List a,ut (qs.map λq=>T.bl (p q))=some (qs.all p)
 | []=>rfl
 | q :: qs=>by
  have e:ut ((q :: qs).map λq=>T.bl (p q))=match ut (qs.map λq=>T.bl _) with | some j=>some _ | none=>none:=rfl
  rw[e,UQ p qs];rfl
theorem Ei (a:List Kd)(c:List T):vK (a.map Kd.t) c=(a.zip c).map λq=>T.tup [q.1.t,q.2]:=by
 unfold vK;rw[List.zip_map_left,bg];rfl
theorem UR (cs:List (Str×Int))(h:cs.length<=4):nZ [(Kd.pick cs).t]= .ok (.lst (cs.map λc=>T.str c.1)):=by
 have e:nZ [(Kd.pick cs).t]=zm (sP [.vl (.tup [.str "pick",.tup (cs.map Jf)])]):=by rfl
 have a:(cs.map Jf).length<=mq:=by rw[af];exact aB h (by decide)
 have g:zy _ _ (zc kj (vE 0) (cE (.int 0))) 1 [] [.vl (.tup [.str "pick",.tup (cs.map Jf)])] _= .ok ((cs.map Jf).map λc=>match c with | .tup (w :: _)=>w | _=>c):=
  zU _ a λt d=>by
   obtain⟨c,_,rfl⟩:=aH.mp d;rfl
 rw[e,sP,zl]
 ·rfl
 ·show zT _ _ _ _ _ _ [.vl _]=_;show ((zy _ _ _ _ _ _ _).bind _)=_;rw[g,bg];rfl
abbrev mE (a b:T):En:=[.vl a,.vl b]
theorem G5 {x w:Str}{r:List T}{b:T}(h:(x == w)=false){f:En->RS}:mB (zD mm (zc kj (vE 0) (cE (.int 0))) (cE (.str w))) f my (mE (.tup (.str x :: r)) b)= .nx (mE (.tup (.str x :: r)) b):=
 zu (by rw[mU,h])
theorem rX {x:Str}{r:List T}{b:T}{f:En->RS}:mB (zD mm (zc kj (vE 0) (cE (.int 0))) (cE (.str x))) f my (mE (.tup (.str x :: r)) b)=f (mE (.tup (.str x :: r)) b):=
 Ji (by rw[mU,beq_self_eq_true])
theorem QD:∀(d:Nat) (k:Kd),k.Ok d->nr d k.t=true
 | 0,_,h=>h.elim
 | d+1,.whole lo hi,h=>by
  have e:nr (d+1) (Kd.whole lo hi).t=(decide (-20<=lo) && decide (lo<=hi) && decide (hi<=20)):=by rfl
  obtain⟨i,j,g⟩:=h;rw[e];simp;omega
 | d+1,.pick cs,h=>by
  have e:nr (d+1) (Kd.pick cs).t=(decide (1<=(cs.map Jf).length) && decide ((cs.map Jf).length<=4) && (cs.map Jf).all zS && decide ((dd [] ((cs.map Jf).map ZE)).length=(cs.map Jf).length)):=by rfl
  obtain⟨i,j,g,x⟩:=h;have u:(cs.map Jf).map ZE=cs.map (·.1):=by rw[bg];rfl
  have q:=(Wf _ []).mpr λk w v=>by simpa using x k w v
  rw[e,u,q,af];simp only[aj,decide_eq_true_eq,aS];refine⟨⟨⟨i,j⟩,λc o=> ?_⟩,by simp⟩
  obtain⟨p,hp,rfl⟩:=aH.mp o;obtain⟨a,b,c⟩:=g p hp;show (Zi _ && decide _ && decide _)=true;rw[a];simp;omega
 | d+1,.row l,h=>by
  have e:nr (d+1) (Kd.row l).t=(decide (1<=(l.map Kd.t).length) && decide ((l.map Kd.t).length<=3) && (l.map Kd.t).all (nr d)):=by rw[Kd.t,Kd.ts_map];rfl
  obtain⟨i,j,g⟩:=h;rw[e,af];simp only[aj,decide_eq_true_eq,aS];refine⟨⟨i,j⟩,λc o=> ?_⟩;obtain⟨k,r,rfl⟩:=aH.mp o;exact QD d k (g k r)
 | d+1,.many k lo hi,h=>by
  have e:nr (d+1) (Kd.many k lo hi).t=((decide ((0:Int)<=(lo:Int)) && decide ((lo:Int)<=(hi)) && decide ((hi:Int)<=3)) && nr d k.t):=by rfl
  obtain⟨i,j,g⟩:=h;rw[e,QD d k g];simp;omega
theorem US:∀(c:List Kd) (a:List T),a.length=c.length->Kd.hass c a=true->∀x∈a,∃k∈c,k.has x=true
 | [],[],_,_,_,h=>nomatch h
 | k :: c,[],h,_,_,_=>by cases h
 | [],x :: a,h,_,_,_=>by cases h
 | k :: c,x :: a,i,h,y,hy=>by
  rw[Kd.hass]at h;rw[aj]at h;rcases ag.mp hy with rfl | hy
  ·exact⟨k,ac,h.1⟩
  ·obtain⟨d,e,g⟩:=US c a (by simpa using i) h.2 y hy
   exact⟨d,ab _ e,g⟩
theorem UT {d o:Type}(f:d->List o)(m:Nat):∀(c:List d) (i j:Nat),(∀a∈c,(f a).length=m)->j < m->(c.flatMap f)[i*m+j]? =(c[i]?).bind λa=>(f a)[j]?
 | [],i,j,_,_=>by simp
 | a :: c,0,j,h,k=>by
  have g:=h a ac;rw[bK,Nat.zero_mul,fI,aU (by omega)]
  rfl
 | a :: c,i+1,j,h,k=>by
  have g:=h a ac;have e:(i+1)*m=i*m+m:=by rw[fk,cD]
  rw[bK,aR (by omega),g,e,show i*m+m+j - m=i*m+j by omega,UT f m c i j (λb l=>h b (ab _ l)) k]
  rfl
theorem ue {d i:Type}(f:d->List i):∀(c:List d) (q j:Nat) (a:d),c[q]? =some a->j < (f a).length->(c.flatMap f)[((c.take q).map λb=>(f b).length).sum+j]? =(f a)[j]?
 | [],q,j,a,h,_=>by simp at h
 | b :: c,0,j,a,h,g=>by
  have e:=by simpa using h
  subst e;rw[bK,List.take_zero,c9,List.sum_nil,fI,aU g]
 | b :: c,q+1,j,a,h,g=>by
  rw[bK,List.take_succ_cons,aA,ff,Nat.add_assoc,aR (by omega),Nat.add_sub_cancel_left]
  exact ue f c q j a (by simpa using h) g
theorem wE:∀(d c:List (List T)) (l:List T),Zn c (d++[l])=(Zn c d).flatMap λa=>l.map λx=>a++[x]
 | [],c,l=>rfl
 | _ :: d,c,l=>by
  rw[i9,Zn,Zn,wE d]
theorem xa {e:List (List T)}{l:List T}{i j:Nat}{c:List T}{x:T}(h:(Zn [[]] e)[i]? =some c)(d:l[j]? =some x):(Zn [[]] (e++[l]))[i*l.length+j]? =some (c++[x]):=by
 have g:=(aK.mp d).1;rw[wE,UT _ _ _ i j (λa _=>af ..) g,h];show (l.map λx=>c++[x])[j]? =_;rw[aw,d];rfl
theorem UU:∀(a:List Nat) (n:Nat),mM (a++[n])=mM a*n
 | [],n=>by simp[mM]
 | m :: a,n=>by rw[i9,mM,mM,UU a n,dw]
theorem wF (a:List (List T)):(Zn [[]] a).length=mM (a.map (·.length)):=by rw[JL,aI,cD]
theorem uf {c:Type}{a:List c}{i:Nat}(h:i < a.length):∃x,a[i]? =some x:=⟨_,ak h⟩
theorem DP {a:List T}{j:Nat}{v:T}(h:a[j]? =some v):mT a (j:Int)= .ok v:=by unfold mT;rw[jb h]
noncomputable def nq (c lo q:Nat):Nat:=((ba q).map λi=>c ^ (lo+i)).sum
theorem xb (c lo q:Nat):nq c lo (q+1)=nq c lo q+c ^ (lo+q):=by
 unfold nq;rw[ix,cz];simp
theorem KQ {k:Kd}{lo hi q j:Nat}{a:List T}(c:q < hi+1 - lo)(h:(Zn [[]] (aq (lo+q) k.all))[j]? =some a):(Kd.many k lo hi).all[nq k.all.length lo q+j]? =some (.tup a):=by
 have g:=(aK.mp h).1;have e:=ue (λi=>Y7 (aq _ _)) _ q j q (by rw[dQ c]) (by rw[af];exact g)
 have d:(((ba (hi+1 - lo)).take q).map λb=>(Y7 (aq (lo+b) k.all)).length).sum=nq k.all.length lo q:=by
  rw[List.take_range,me (fE c),nq];congr 1
  refine cV λi _=> ?_;rw[Jh,bq,ZW]
 rw[d]at e;rw[Kd.all,e];rw[aw,h];rfl
abbrev tY (c:List T->R T):En->RS:=zJ 1 (zc zV (vE 1) (zb 1 c (za (vE 2) (zf))))
theorem QE {c:List T->R T}{S:Sl}:∀(d:List Kd) (m:Nat) (x:Sl),(∀k∈d,c [k.t]= .ok (.int (k.all.length:Int))/\1<=k.all.length)->m*mM (d.map λk=>k.all.length) < 2 ^ 60->
  ∃y,Zp (zG 2) (tY c) (d.map Kd.t) [S,.vl (.int (m:Int)),x]= .nx [S,.vl (.int ((m*mM (d.map λk=>k.all.length):Nat):Int)),y]
 | [],m,x,_,_=>⟨x,by simp[Zp,mM]⟩
 | k :: d,m,x,H,g=>by
  obtain⟨o,p⟩:=H k ac;have hp:=JK λn hn=>by
   obtain⟨e,a,rfl⟩:=aH.mp hn;exact(H e (ab _ a)).2
  rw[aA,mM,← dw]at g;have l:m < 2 ^ 60:=by
   have r:m<=m*k.all.length:=de _ p;have q:m*k.all.length<=m*k.all.length*mM (d.map λk=>k.all.length):=de _ hp;omega
  have j:tY c [S,.vl (.int (m)),.vl k.t]= .nx [S,.vl (.int ((m*k.all.length:Nat))),.vl k.t]:=by
   rw[tY,zM]
   ·rfl
   ·rw[zk,v1,i3,zI,v2,i3,o,i3,Qv l]
  obtain⟨y,i⟩:=QE (S:=S) d _ _ (λe a =>H e (ab _ a)) g;refine⟨y, ?_⟩;rw[aA,jx rfl j,i,aA,mM,dw]
theorem JP {c:List T->R T}{s:T}(a:List Kd)(j:jT s= .ok (a.map Kd.t))(H:∀k∈a,c [k.t]= .ok (.int (k.all.length:Int))/\1<=k.all.length)(d:mM (a.map λk=>k.all.length) < 2 ^ 60):
  zm (rT c (mv 3 [s]))= .ok (.int ((mM (a.map λk=>k.all.length):Nat):Int)):=by
 obtain⟨y,e⟩:=QE a 1 .un H (by rw[cD];exact d)
 rw[cD]at e;have g:zJ 1 (cE (.int 1)) [.vl s,.un,.un]= .nx [.vl s,.vl _,.un]:=rfl;have i:j2 (ZK (vE 0)) (zG 2) (tY c) [.vl s,.vl (.int 1),.un]= .nx [.vl s,.vl (.int ((mM (a.map λk=>k.all.length)):Int)),y]:=by
  show ((jT s).s λts=>Zp _ _ ts _)=_;rw[j];exact e
 show zm (rT c [.vl s,.un,.un])=_;rw[rT,zd g,zd i];rfl
theorem QF {c:Type}(g:c->Nat):∀l:List c,Z6 (l.map λa=>T.int ((g a:Nat):Int))=some (l.map λa=>((g a:Nat):Int))
 | []=>rfl
 | a :: l=>by
  show (match Z6 (l.map λa=>T.int _) with | some l=>some _ | none=>none)=_
  rw[QF g l];rfl
theorem UV {c:Type}(g:c->Nat):∀l:List c,(l.map λa=>((g a:Nat):Int)).sum=(((l.map g).sum:Nat):Int)
 | []=>rfl
 | a :: l=>by rw[aA,ff,aA,ff,UV g l];omega
theorem EB {c:Type}(g:c->Nat)(l:List c):kO (.lst (l.map λa=>T.int ((g a:Nat):Int)))= .ok (.int (((l.map g).sum:Nat):Int)):=by
 unfold kO;dsimp only;rw[QF,← UV]
theorem jE (k:Kd)(m:Nat):((aq m k).map λk=>k.all.length)=aq m k.all.length:=by rw[bq]
theorem QG {c:List T->R T}{t:T}{n lo hi q:Nat}(p:lo+q<=4)(H:∀m,m<=3->c [.lst (aq m t)]= .ok (.int ((n ^ m:Nat):Int))):
  zm (pT c (mv 2 [mt t lo hi,.int ((lo+q:Nat):Int)]))= .ok (.int ((nq n lo q:Nat):Int)):=by
 have o:J7 (zc kj (vE 0) (cE (.int 2))) (vE 1) [.vl (mt t lo hi),.vl (.int ((lo+q:Nat)))]= .ok (rng (lo) q):=by
  rw[uV rfl rfl ⟨by omega,by omega,by omega,by omega⟩]
  congr 2;omega
 have e:zy _ _ (zb 1 c (za (zc _ _ _) _)) 1 [0] [.vl _,.vl (.int ((lo+q:Nat)))] _= .ok ((rng (lo) q).map λx=>match x with | .int i=>T.int ((n ^ i.toNat:Nat)) | y=>y):=
  zU _ (by unfold rng;rw[af,bJ];have:mq=16777216:=rfl;omega) λx l=>by
   obtain⟨i,a,rfl⟩:=aH.mp l;have j:=bN.mp a;show zb 1 c _ [.vl _,.vl _]=_;have k:zc zV (jB (za (zc kj (vE 1) (cE (.int 1))) (zf))) (vE 0) [.vl (.int ((lo)+(i))),.vl (mt t lo hi)]= .ok (.lst (aq (lo+i) t)):=by
    have g:zc kj (vE 1) (cE (.int 1)) [.vl (.int ((lo)+(i))),.vl (mt t lo hi)]= .ok t:=rfl;rw[zk,sQ g,i3,v0,i3,show (lo:Int)+(i)=((lo+i:Nat)) by omega,UL (by omega),jw]
   rw[zI,k,i3,H _ (by omega)]
   show _=R.ok (T.int _);rw[show ((lo:Int)+(i)).toNat=lo+i by omega]
 rw[pT,zl]
 ·rfl
 ·show mn _ _ [.vl _,.vl _]=_;rw[ZD,Z1,o,i3,e,i3,i3];have d:((rng (lo) q).map λx=>match x with | .int i=>T.int ((n ^ i.toNat:Nat)) | y=>y)=(ba q).map λi=>T.int ((n ^ (lo+i):Nat)):=by
   unfold rng;rw[bg];refine cV λi _=> ?_;show T.int _=_;rw[show ((lo:Int)+(i)).toNat=lo+i by omega]
  rw[d,EB (λi=>n ^ (lo+i))];rfl
theorem Xe {d n m:Nat}(h:n<=mx d)(hd:d<=2)(a:m<=3):n ^ m < 2 ^ 60:=by
 have c:mx d<=70644:=by
  have:d=0\/d=1\/d=2:=by omega
  rcases this with rfl | rfl | rfl <;> decide
 have e:=aB (Nat.pow_le_pow_left (aB h c) m) (c7 (by omega) a)
 omega
theorem UW:∀(d n:Nat),3*d<=n->d<=3->∀k:Kd,k.Ok d->mX n 0 [k.t]= .ok (.int (k.all.length:Int))
 | 0,_,_,_,_,h=>h.elim
 | d+1,n+3,hn,hd,k,h=>by
  have r:=UW d n (by omega) (by omega)
  have c:=UW d (n+1) (by omega) (by omega)
  have e:mX (n+3) 0 [k.t]=zm (AN _ _ [.vl k.t]):=rfl;have q:∀s u,mX (n+2) 2 [s,u]=zm _:=λs u=>rfl;rw[e,AN];cases k with
  | whole lo hi=>
   obtain⟨i,j,a⟩:=h;rw[ZX];simp only[Kd.t];rw[zB (t:= .int _)]
   ·rfl
   ·rw[Ji (by rw[mU,beq_self_eq_true]),zl]
    show R.ok _=_;congr 2;omega
  | pick cs=>
   rw[Wh];simp only[Kd.t];rw[zd (zu (by rfl)),zB]
   ·rfl
   ·rw[Ji (by rw[mU,beq_self_eq_true]),zl]
    show R.ok _=_;rw[af]
  | row o=>
   obtain⟨i,j,a⟩:=h;rw[jK];simp only[Kd.t];rw[Kd.ts_map,zd (zu (by rfl)),zd (zu (by rfl)),zB]
   ·rfl
   ·rw[Ji (by rw[mU,beq_self_eq_true]),zl]
    have p:=j9 (d+1) (.row o) ⟨i,j,a⟩;rw[jK]at p;exact JP o rfl (λk l=>⟨c k (a k l),Zs d k (a k l)⟩) (Ct p hd)
  | many k lo hi=>
   obtain⟨i,j,a⟩:=h;rw[j5];simp only[Kd.t];rw[zd (zu (by rfl)),zd (zu (by rfl)),zd (zu (by rfl)),zl]
   ·rfl
   ·show zb 2 _ _ [.vl _]=_;rw[zP,v0,i3,yV G4,i3,q,show (hi:Int)+1=((lo+(hi+1 - lo):Nat)) by omega]
    refine QG (by omega) λm v=> ?_
    have hp:mM ((aq m k).map λk=>k.all.length)=k.all.length ^ m:=by rw[jE,ZW]
    rw[← hp];refine JP _ (by rw[bq];rfl) (λw g => ?_) (by rw[hp];exact Xe (j9 d k a) (by omega) v)
    rw[ck g];exact⟨r k a,Zs d k a⟩
theorem j4 {d:Nat}(hd:d<=3){k:Kd}(h:k.Ok d):nY 20 [k.t]= .ok (.int (k.all.length:Int)):=UW d 20 (by omega) hd k h
theorem UX {d:Nat}(hd:d<=2){k:Kd}(h:k.Ok d){lo hi q:Nat}(g:lo+q<=4):oy 20 [mt k.t lo hi,.int ((lo+q:Nat):Int)]= .ok (.int ((nq k.all.length lo q:Nat):Int)):=by
 have e:oy 20 [mt k.t lo hi,.int ((lo+q:Nat))]=zm (pT (mX 19 1) (mv 2 [mt k.t lo hi,.int ((lo+q):Int)])):=rfl;rw[e];refine QG g λm c=> ?_;have hp:mM ((aq m k).map λk=>k.all.length)=k.all.length ^ m:=by rw[jE,ZW]
 rw[← hp];refine JP _ (by rw[bq];rfl) (λi a => ?_) (by rw[hp];exact Xe (j9 d k h) hd c)
 rw[ck a];exact⟨UW d 18 (by omega) (by omega) k h,Zs d k h⟩
abbrev Az (cc cw:List T->R T):En->RS:=zq (zJ 5 (zb 1 cc (za (vE 4) (zf))))
  (zq (Ud 2 (zb 2 cw (za (vE 4) (za (zc je (vE 3) (vE 5)) (zf)))))
  (zJ 3 (zc wP (vE 3) (vE 5))))
structure sf (cc cw:List T->R T) (k:Kd):Prop where
 nQ:cc [k.t]= .ok (.int (k.all.length:Int))
 at_:∀(i:Nat) x,k.all[i]? =some x->cw [k.t,.int (i:Int)]= .ok x
 pos:1<=k.all.length
 le:k.all.length < 1000000
theorem Cq {t:T}{a b c d e:Sl}{ρ:En}:vE 5 (a :: b :: c :: d :: e :: .vl t :: ρ)= .ok t:=rfl
theorem QH {n c:Nat}(h:1<=c):je (.int (n:Int)) (.int (c:Int))= .ok (.int ((n % c:Nat):Int)):=by
 unfold je;dsimp only;rw[if_pos (by omega)];rfl
theorem KR {n c:Nat}(h:1<=c)(h' :c < 1000000):wP (.int (n:Int)) (.int (c:Int))= .ok (.int ((n / c:Nat):Int)):=by
 unfold wP;dsimp only;rw[if_pos (by omega)];rfl
theorem Xf {i:Nat}{f:En->R T}{ρ:En}{ts:List T}{t:T}(hi:ρ[i]? =some (.ow ts))(a:ts.length < mq)(h:f ρ= .ok t):Ud i f ρ= .nx (ρ.set i (.ow (ts++[t]))):=by
 unfold Ud;rw[hi];dsimp only;rw[h,Zx,if_pos a]
theorem QI {i e:List T->R T}{S N:Sl}:∀(a:List Kd) (acc:List T) (n:Nat) (x y:Sl),(∀k∈a,sf i e k)->n < mM (a.map λk=>k.all.length)->acc.length+a.length<=1000->
  ∃g r q o,(Zn [[]] (a.reverse.map Kd.all))[n]? =some g/\Zp (zG 4) (Az i e) (a.map Kd.t) [S,N,.ow acc,.vl (.int (n:Int)),x,y]= .nx [S,N,.ow (acc++g.reverse),r,q,o]
 | [],acc,n,x,y,_,hn,_=>⟨[],.vl (.int (n)),x,y,by
   have:=by simp[mM]at hn;exact hn
   subst this;rfl,by simp[Zp]⟩
 | k :: a,acc,n,x,y,H,hn,D=>by
  obtain⟨C,B,p,j⟩:=H k ac;rw[ar]at D;have O:mq=16777216:=rfl;have c:n % k.all.length < k.all.length:=io _ p;obtain⟨v,u⟩:=uf c;have d:=Nat.div_lt_of_lt_mul hn;obtain⟨g,r,q,o,J,F⟩:=QI a (acc++[v]) _ _ _ (λM l =>H M (ab _ l)) d (by rw[ay,aI];omega)
  have w:zJ 5 (zb 1 i (za (vE 4) (zf))) [S,N,.ow acc,.vl (.int (n)),.vl k.t,y]= .nx [S,N,.ow acc,.vl (.int (n)),.vl k.t,.vl (.int (k.all.length))]:=by
   rw[zM]
   ·rfl
   ·rw[zI,v4,i3,C]
  have b2:Ud 2 (zb 2 e (za (vE 4) (za (zc je (vE 3) (vE 5)) (zf)))) [S,N,.ow acc,.vl (.int (n)),.vl k.t,.vl (.int (k.all.length))]= .nx [S,N,.ow (acc++[v]),.vl (.int (n)),.vl k.t,.vl (.int (k.all.length))]:=by
   rw[Xf rfl (by omega)]
   ·rfl
   ·rw[zP,v4,i3,zk,v3,i3,Cq,i3,QH p,i3,B _ v u]
  have G:zJ 3 (zc wP (vE 3) (vE 5)) [S,N,.ow (acc++[v]),.vl (.int (n)),.vl k.t,.vl (.int (k.all.length))]= .nx [S,N,.ow (acc++[v]),.vl (.int ((n / k.all.length:Nat))),.vl k.t,.vl (.int (k.all.length))]:=by
   rw[zM]
   ·rfl
   ·rw[zk,v3,i3,Cq,i3,KR p j]
  have I:Az i e [S,N,.ow acc,.vl (.int (n)),.vl k.t,y]= .nx [S,N,.ow (acc++[v]),.vl (.int ((n / k.all.length:Nat))),.vl k.t,.vl (.int (k.all.length))]:=by
   rw[Az,zd w,zd b2,G]
  refine⟨g++[v],r,q,o, ?_, ?_⟩
  ·have:=xa J u;rw[dh,Nat.div_add_mod]at this;rw[cQ,cz];exact this
  ·rw[aA,jx rfl I,F];simp
theorem QJ:∀a:List Nat,mM a.reverse=mM a
 | []=>rfl
 | n :: a=>by rw[cQ,UU,QJ a,mM,dh]
theorem JQ {u p:List T->R T}{s:T}(g:List Kd)(O:Jv s= .ok (g.map Kd.t))(Q:g.length<=3)(H:∀k∈g,sf u p k){n:Nat}{e:List T}(v:(Zn [[]] (g.map Kd.all))[n]? =some e):
  zm (rF u p (mv 6 [s,.int (n:Int)]))= .ok (.tup e):=by
 have hn:=(aK.mp v).1;rw[wF,bg]at hn;have hr:(g.reverse.map λk=>k.all.length)=(g.map λk=>k.all.length).reverse:=by rw[lZ]
 obtain⟨P,r,M,B,w,J⟩:=QI _ [] n .un .un (λk y=>H k (List.mem_reverse.mp y)) (by rw[hr,QJ];exact hn) (by rw[cA,bR];omega)
 rw[iM,v]at w;cases w;have D:WF 2 (zf) [.vl s,.vl (.int (n)),.un,.un,.un,.un]= .nx [.vl s,.vl _,.ow [],.un,.un,.un]:=rfl;have N:zJ 3 (vE 1) [.vl s,.vl (.int (n)),.ow [],.un,.un,.un]= .nx [.vl s,.vl _,.ow [],.vl _,.un,.un]:=rfl;have I:j2 (Bo (vE 0)) (zG 4) (Az u p) [.vl s,.vl (.int (n)),.ow [],.vl (.int (n)),.un,.un]= .nx [.vl s,.vl (.int (n)),.ow e.reverse,r,M,B]:=by
  show (((Jv s).bind λe=>R.ok _).s λts=>Zp _ _ ts _)=_;rw[O,i3,← lZ];exact J
 have o:e.reverse.length<=mq:=by
  have:∀(i d:List _) (m:Nat),(∀a∈d,a.length<=m)->∀a∈Zn d i,a.length<=m+i.length:=by
   intro i
   induction i with
   | nil=>intro d m h a j;exact h a j
   | cons l i C=>
    intro d m h a j;have:=C (d.flatMap λa=>l.map λx=>a++[x]) (m+1) (λb q=>by
     obtain⟨c,F,q⟩:=dL.mp q;obtain⟨z,_,rfl⟩:=aH.mp q;have:=h c F;rw[ay,aI];omega) a j
    rw[ar];omega
  have G:=this _ _ 0 (λa j=>by rw[av.mp j];exact ah _) e (cN v)
  rw[af]at G;rw[cA];have q:mq=16777216:=rfl;omega
 show zm (rF u p [.vl s,.vl _,.un,.un,.un,.un])=_;rw[rF,zd D,zd N,zd I,zl]
 ·rfl
 ·show Vn (.lst _)=_;unfold Vn;dsimp only;rw[if_pos o,iM]
abbrev pp:En->R Bool:=zD mF (zb 2 (oy 20) (za (vE 0) (za (zc zx (vE 2) (cE (.int 1))) (zf)))) (vB 1)
abbrev oZ:En->RS:=zJ 2 (zc zx (vE 2) (cE (.int 1)))
theorem FO {t:T}{a:Sl}{ρ:En}:vB 1 (a :: .vl t :: ρ)= .ok t:=rfl
theorem QK {d:Nat}(hd:d<=2){k:Kd}(h:k.Ok d){lo hi n:Nat}(l:lo<=hi)(j:hi<=3)(hn:n < nq k.all.length lo (hi+1 - lo)):∀(f q:Nat),q<=hi - lo->hi - lo - q < f->nq k.all.length lo q<=n->
  ∃c,c <=hi - lo/\nq k.all.length lo c <=n/\n < nq k.all.length lo (c +1)/\Zq pp oZ f [.vl (mt k.t lo hi),.vl (.int (n:Int)),.vl (.int ((lo+q:Nat):Int))]= .nx [.vl (mt k.t lo hi),.vl (.int (n:Int)),.vl (.int ((lo+c :Nat):Int))]
 | 0,q,_,g,_=>by omega
 | f+1,q,o,g,v=>by
  have i:pp [.vl (mt k.t lo hi),.vl (.int (n)),.vl (.int ((lo+q:Nat)))]= .ok (decide (nq k.all.length lo (q+1)<=n)):=by
   rw[pp,zX,zP,v0,i3,yV v2,i3,show ((lo+q:Nat):Int)+1=((lo+(q+1):Nat)) by omega,UX hd h (by omega),i3,FO,i3,uQ,wD]
  have u:Zq pp oZ (f+1) [.vl (mt k.t lo hi),.vl (.int (n)),.vl (.int ((lo+q:Nat)))]=(pp _).s λp =>if p =true then match oZ [.vl _,.vl _,.vl (.int _)] with
    | .nx ρ2=>Zq pp oZ f ρ2
    | .ct ρ2=>Zq pp oZ f ρ2
    | .bk ρ2=> .nx ρ2
    | r=>r
   else .nx _:=rfl
  rw[u,i,Zx]
  by_cases a:nq k.all.length lo (q+1)<=n
  ·rw[if_pos (decide_eq_true a)];have e:q+1<=hi - lo:=by
    rcases Nat.lt_or_ge q _ with z | z
    ·exact z
    ·have:q=hi - lo:=by omega
     rw[this,show hi - lo+1=hi+1 - lo by omega]at a
     omega
   have w:oZ [.vl (mt k.t lo hi),.vl (.int (n)),.vl (.int ((lo+q:Nat)))]= .nx [.vl (mt k.t lo hi),.vl (.int (n)),.vl (.int ((lo+(q+1):Nat)))]:=by
    rw[oZ,zM]
    ·rfl
    ·rw[yV v2,show ((lo+q:Nat):Int)+1=((lo+(q+1):Nat)) by omega]
   exact QK hd h l j hn f _ e (by omega) a
  ·rw[if_neg (by simpa using a)]
   exact⟨q,o,v,by omega,rfl⟩
theorem EN {i j:Nat}(h:j<=i):jR (.int (i:Int)) (.int (j:Int))= .ok (.int ((i - j:Nat):Int)):=by
 rw[Z7];congr 2;omega
theorem yX {d:Nat}(hd:d<=2){k:Kd}(h:k.Ok d){cp:List T->R T}{lo hi n:Nat}(r:lo<=hi)(p:hi<=3)(hn:n < nq k.all.length lo (hi+1 - lo))
  (H:∀(m:Nat),m<=3->∀(j:Nat) (a:List T),(Zn [[]] (aq m k.all))[j]? =some a->cp [.lst (aq m k.t),.int (j:Int)]= .ok (.tup a)):
  ∃x,(Kd.many k lo hi).all[n]? =some x/\zm (rJ (oy 20) cp (mv 3 [mt k.t lo hi,.int (n:Int)]))= .ok x:=by
 obtain⟨q,w,v,c,e⟩:=QK hd h r p hn 8 0 (by omega) (by omega) (by unfold nq;simp)
 rw[xb]at c;have u:n - nq k.all.length lo q < (Zn [[]] (aq (lo+q) k.all)).length:=by
  rw[wF,bq,ZW];omega
 obtain⟨a,i⟩:=uf u;have g:=KQ (hi:=hi) (by omega) i
 rw[show nq _ lo q+(n - nq _ lo q)=n by omega]at g
 refine⟨_,g, ?_⟩;have o:zJ 2 (zc kj (vE 0) (cE (.int 2))) [.vl (mt k.t lo hi),.vl (.int (n:Int)),.un]= .nx [.vl _,.vl _,.vl (.int ((lo+0:Nat)))]:=rfl;show zm (rJ _ cp [.vl _,.vl _,.un])=_;rw[rJ,zd o,zd e,zl]
 ·rfl
 ·show zb 2 cp _ [.vl _,.vl _,.vl _]=_;have l:zc zV (jB (za (zc kj (vE 0) (cE (.int 1))) (zf))) (vE 2) [.vl (mt k.t lo hi),.vl (.int (n)),.vl (.int ((lo+q:Nat)))]= .ok (.lst (aq (lo+q) k.t)):=by
   rw[zk,sQ JM,i3,v2,i3,UL (by omega),jw]
  rw[zP,l,i3,zk,v1,i3,zP,v0,i3,v2,i3,UX hd h (by omega),i3,EN v,i3,H _ (by omega) _ a i]
theorem QL {d:Nat}(hd:d<=2){k:Kd}(h:k.Ok d):k.all.length < 1000000:=by
 have a:=j9 d k h;have c:mx d<=70644:=by
  have:d=0\/d=1\/d=2:=by omega
  rcases this with rfl | rfl | rfl <;> decide
 omega
theorem jl:∀(d n:Nat),3*d<=n->d<=3->∀k:Kd,k.Ok d->∀(i:Nat) (x:T),k.all[i]? =some x->mY n 0 [k.t,.int (i:Int)]= .ok x
 | 0,_,_,_,_,h=>h.elim
 | d+1,n+3,hn,hd,k,h=>by
  intro i x a;have w:=jl d n (by omega) (by omega)
  have r:=jl d (n+1) (by omega) (by omega)
  have e:mY (n+3) 0 [k.t,.int (i:Int)]=zm (tz nZ _ _ (mE k.t (.int (i:Int)))):=rfl;have g :=(aK.mp a).1;rw[e,tz];cases k with
  | whole lo hi=>
   rw[Kd.all,aw]at a;rw[ZX]at g;rw[dQ g]at a;cases a;rw[zB]
   ·rfl
   ·rfl
  | pick cs=>
   have u:=UR cs h.2.1;simp only[Kd.t]at u ⊢;rw[zd (G5 (by decide)),zB]
   ·rfl
   ·rw[rX,zl];show zc kj _ _ (mE _ _)=_;rw[zk,zI,v0,i3,u,v1];exact DP a
  | row D=>
   obtain⟨v,q,c⟩:=h;rw[Kd.all,Kd.alls_map,aw]at a;cases hr:(Zn _ _)[i]? with
   | none=>rw[hr]at a;cases a
   | some y=>
    rw[hr]at a;cases a;simp only[Kd.t];rw[Kd.ts_map,zd (G5 (by decide)),zd (G5 (by decide)),zB]
    ·rfl
    ·rw[rX,zl];refine JQ D rfl q (λk o=>⟨j4 (by omega) (c k o),r k (c k o),Zs d k (c k o),QL (by omega) (c k o)⟩) hr
  | many k lo hi=>
   obtain⟨v,q,c⟩:=h;rw[j5]at g;obtain⟨F,l,B⟩:=yX (cp:=mY (n+1) 2) (by omega) c v q g (λm C j y hr=>by
    refine JQ _ (by rw[bq];rfl) (by rw[aZ];exact C) (λG p => ?_) (by rw[bq];exact hr)
    rw[ck p];exact⟨j4 (by omega) c,w k c,Zs d k c,QL (by omega) c⟩)
   rw[a]at l;cases l;simp only[Kd.t];rw[zd (G5 (by decide)),zd (G5 (by decide)),zd (G5 (by decide)),zl]
   ·rfl
   ·show zb 2 _ _ (mE _ _)=_;rw[zP,v0,i3,v1,i3];exact B
theorem D5 {k:Kd}(h:k.Ok 3){i:Nat}{x:T}(a:k.all[i]? =some x):oD 20 [k.t,.int (i:Int)]= .ok x:=jl 3 20 (by omega) (by omega) k h i x a
noncomputable def Pl:Nat->T->Prop
 | 0,_=>False
 | n+1,.tup a=>∀x∈a,Pl n x
 | n+1,.lst a=>∀x∈a,Pl n x
 | _+1,.fz _=>False
 | _+1,_=>True
theorem Jj {f:T->T->Option Bool}:∀(a d:List T),(∀x∈a,∀y,∃b,f x y=some b)->∃b,nt f a d=some b
 | [],[],_=>⟨_,rfl⟩
 | [],_ :: _,_=>⟨_,rfl⟩
 | _ :: _,[],_=>⟨_,rfl⟩
 | x :: a,y :: d,h=>by
  obtain⟨b,e⟩:=h x ac y;obtain⟨c,g⟩:=Jj a d λz hz=>h z (ab _ hz);exact⟨b && c,by unfold nt;rw[e,g]⟩
theorem Zc {f:T->T->Option Bool}:∀(a:List T),(∀x∈a,f x x=some true)->nt f a a=some true
 | [],_=>rfl
 | x :: a,h=>by
  unfold nt;rw[h x ac,Zc a λz hz=>h z (ab _ hz)];rfl
theorem Jk:∀(n:Nat) (y x:T),Pl n y->∃b,mw n y x=some b
 | 0,_,_,h=>h.elim
 | n+1,y,x,h=>by
  cases y with
  | tup c=>
   cases x with
   | tup a=>exact Jj c a λz hz u=>Jk n z u (h z hz)
   | _=>exact⟨false,by rw[mw] <;> intros <;> first | rfl | contradiction | (intro z)⟩
  | lst c=>
   cases x with
   | lst a=>exact Jj c a λz hz u=>Jk n z u (h z hz)
   | fz a=>exact Jj c a λz hz u=>Jk n z u (h z hz)
   | _=>exact⟨false,by rw[mw] <;> intros <;> first | rfl | contradiction | (intro z)⟩
  | fz c=>exact h.elim
  | non=>cases x <;> exact⟨_,rfl⟩
  | bl b=>cases x <;> exact⟨_,rfl⟩
  | int i=>cases x <;> exact⟨_,rfl⟩
  | str i=>cases x <;> exact⟨_,rfl⟩
theorem Z2:∀(n:Nat) (y:T),Pl n y->mw n y y=some true
 | 0,_,h=>h.elim
 | n+1,y,h=>by
  cases y with
  | tup a=>exact Zc a λz hz=>Z2 n z ((h) z hz)
  | lst a=>exact Zc a λz hz=>Z2 n z ((h) z hz)
  | fz a=>exact h.elim
  | non=>rfl
  | bl b=>show some _=_;simp
  | int i=>show some _=_;simp
  | str i=>show some _=_;simp
theorem Pl.up:∀(n:Nat) (y:T),Pl n y->Pl (n+1) y
 | 0,_,h=>h.elim
 | n+1,y,h=>by
  cases y with
  | tup a=>exact λz hz=>Pl.up n z ((h) z hz)
  | lst a=>exact λz hz=>Pl.up n z ((h) z hz)
  | fz a=>exact h.elim
  | _=>exact trivial
theorem Pl.le {n m:Nat}{y:T}(a:n<=m)(h:Pl n y):Pl m y:=by
 obtain⟨j,rfl⟩:∃j,m=n+j:=⟨m - n,by omega⟩
 clear a
 induction j with
 | zero=>exact h
 | succ j c=>exact Pl.up _ _ c
theorem UY {t:T}(h:Pl 30 t):mm t t= .ok true:=by unfold mm;rw[Z2 30 t h]
theorem ug {f:T->Option Bool}:∀(ts:List T),(∀t∈ts,∃b,f t=some b)->∃b,Wk f ts=some b/\(b=false->∀t∈ts,f t=some false)
 | [],_=>⟨false,rfl,λ_ _ h=>nomatch h⟩
 | t :: ts,h=>by
  obtain⟨b,d⟩:=h t ac;obtain⟨c,g,h'⟩:=ug ts λu a=>h u (ab _ a);refine⟨b || c,by unfold Wk;rw[d,g],λe u a=> ?_⟩
  rw[Bool.or_eq_false_iff]at e;rcases ag.mp a with rfl | a
  ·rw[d,e.1]
  ·exact h' e.2 u a
theorem JR {f:En->R T}{ρ:En}{t:T}(h:f ρ= .ok t):J6 f ρ= .nx ρ:=by unfold J6;rw[h,Zx]
theorem nG (k:Kd):((rng 0 k.all.length).map λt=>match t with | .int i=>(k.all[i.toNat]?).getD .non | y=>y)=k.all:=by
 unfold rng;rw[bg];refine cq λi=> ?_;rw[aw]
 by_cases hi:i < k.all.length
 ·rw[dQ hi];show some ((k.all[((0:Int)+(i)).toNat]?).getD _)=_;rw[show ((0:Int)+(i)).toNat=i by omega]
  obtain⟨x,a⟩:=uf hi;rw[a];rfl
 ·rw[aN (by simpa using hi),aN (by omega)];rfl
theorem KS {f:En->R T}{ρ:En}{j:Int}(a:f ρ= .ok (.int j))(h: -1000000 < j/\j < 1000000):Zt f ρ= .ok (rng 0 j.toNat):=by
 unfold Zt;rw[a];exact if_pos h
theorem KU {i j:Int}:ny (.int i) (.int j)= .ok (decide (j < i)):=rfl
inductive W:Nat->T->Prop where
 | int (d:Nat) (i:Int):W d (.int i)
 | str (d:Nat) (s:Str):W d (.str s)
 | tup {d:Nat} {xs:List T} (h:xs.length<=3) (r:∀x∈xs,W d x):W (d+1) (.tup xs)
theorem Bp:∀(d:Nat) (k:Kd) (x:T),k.Ok (d+1)->k.has x=true->W d x
 | d,.whole lo hi,x,_,h=>by
  cases x <;> first | exact .int _ _ | (simp[Kd.has,rH]at h)
 | d,.pick cs,x,_,h=>by
  cases x <;> first | exact .str _ _ | (simp[Kd.has]at h)
 | 0,.row i,x,a,h=>by
  obtain⟨g,o,a⟩:=a
  match i,g,a with
  | k :: _,_,a=>exact(a k ac).elim
 | 0,.many k lo hi,x,a,h=>a.2.2.elim
 | d+1,.row i,x,a,h=>by
  obtain⟨g,o,a⟩:=a;cases x with
  | tup l=>
   rw[Kd.has]at h;simp only[aj,beq_iff_eq]at h;obtain⟨p,j⟩:=h;refine .tup (by omega) λx e=> ?_
   obtain⟨k,q,c⟩:=US i l p j x e;exact Bp d k x (a k q) c
  | _=>simp[Kd.has]at h
 | d+1,.many k lo hi,x,a,h=>by
  obtain⟨g,o,a⟩:=a;cases x with
  | tup l=>
   rw[Kd.has]at h;simp only[aj,decide_eq_true_eq,aS]at h;obtain⟨⟨p,r⟩,j⟩:=h;refine .tup (by omega) λx e=> ?_
   exact Bp d k x a (j x e)
  | _=>simp[Kd.has]at h
mutual
noncomputable def lv:T->List T
 | .tup a=>nV a
 | .non=>[.non]
 | .bl b=>[.bl b]
 | .int b=>[.int b]
 | .str b=>[.str b]
 | .lst b=>[.lst b]
 | .fz b=>[.fz b]
noncomputable def nV:List T->List T
 | []=>[]
 | x :: a=>lv x++nV a
end
theorem FS (a:List T):lv (.tup a)=nV a:=by rw[lv]
theorem UZ (x:T)(a:List T):nV (x :: a)=lv x++nV a:=by rw[nV]
theorem KW:nV []=[]:=by rw[nV]
theorem QM {n:Nat}:∀a:List T,(∀x∈a,(lv x).length<=n)->(nV a).length<=a.length*n
 | [],_=>by exact aX _
 | x :: a,h=>by
  rw[UZ,ay,ar,ig];have c:=h x ac;have d:=QM a λy hy=>h y (ab _ hy);omega
theorem ri (d:Nat):1<=3 ^ d:=Nat.one_le_pow _ _ (by omega)
theorem Xg {d:Nat}{x:T}(h:W d x):(lv x).length<=3 ^ d:=by
 induction h with
 | int d i=>exact ri d
 | str d i=>exact ri d
 | @tup d a h r c=>
  rw[FS];have:=QM a c;have e:=dH (3 ^ d) h;omega
theorem QN {i:Nat}{f:En->R T}{ρ:En}{ts a:List T}(hi:ρ[i]? =some (.ow ts))(h:f ρ= .ok (.lst a))(c:ts.length+a.length<=mq):uu i f ρ= .nx (ρ.set i (.ow (ts++a))):=by
 unfold uu;rw[hi];dsimp only;rw[h,Zx];dsimp only;rw[if_pos c]
abbrev AV (c:List T->R T):En->RS:=uu 1 (zb 1 c (za (vE 2) (zf)))
theorem QO {c:List T->R T}{n:Nat}(hn:n<=1000){a:Sl}:∀(d:List T) (acc:List T) (x:Sl),(∀x∈d,c [x]= .ok (.lst (lv x))/\(lv x).length<=n)->acc.length+d.length*n<=1000000->
  ∃g,Zp (zG 2) (AV c) d [a,.ow acc,x]= .nx [a,.ow (acc++nV d),g]
 | [],acc,x,_,_=>⟨x,by rw[KW,bb];rfl⟩
 | y :: d,acc,x,H,i=>by
  obtain⟨e,l⟩:=H y ac;rw[ar,ig]at i;have k:mq=16777216:=rfl;obtain⟨g,h⟩:=QO hn d (acc++lv y) _ (λz hz=>H z (ab _ hz)) (by rw[ay];omega)
  refine⟨g, ?_⟩;have j:zG 2 y [a,.ow acc,x]= .ok _:=rfl;have b2:AV c [a,.ow acc,.vl y]= .nx [a,.ow (acc++lv y),.vl y]:=by
   have z:zb 1 c (za (vE 2) (zf)) [a,.ow acc,.vl y]= .ok (.lst (lv y)):=by rw[zI,v2,i3,e]
   exact QN rfl z (by omega)
  rw[jx j b2,h,UZ,bU]
theorem ES {x:T}{r:En}:uy (wg (mn (Y3 "tuple") (vB 0))) (.vl x :: r)= .ok (!(match x with | .tup _=>true | _=>false)):=by
 all_goals (cases x <;> rfl)
theorem JS:∀(n d:Nat),d < n->d<=3->∀x:T,W d x->oK n 0 [x]= .ok (.lst (lv x))
 | 0,d,h,_,_,_=>absurd h (md _)
 | n+1,d,h,o,x,k=>by
  show zm (Ag _ [.vl x,.un,.un])=_;rw[Ag];cases k with
  | int d i=>
   rfl
  | str d i=>
   rfl
  | @tup d a l r=>
   have hp:3 ^ d<=27:=c7 (by omega) (show d<=3 by omega)
   obtain⟨g,c⟩:=QO (by omega) a [] .un (λy hy=>⟨JS n d (by omega) (by omega) y (r y hy),Xg (r y hy)⟩) (by have:=bH l hp;simp;omega)
   have j:WF 1 zf [.vl (.tup a),.un,.un]= .nx [.vl _,.ow [],.un]:=rfl;have e:j2 (ZK (vE 0)) (zG 2) (AV (oK n 0)) [.vl (.tup a),.ow [],.un]= .nx [.vl (.tup a),.ow ([]++nV a),g]:=by
    exact c
   rw[zd (zu ES),zd j,zd e,cy];rfl
theorem wG {ft:En->R Bool}{p:T->Bool}{k:Nat}{js:List Nat}{ρ:En}{fe:En->R T}(ts:List T)(c:ts.length<=mq)(H:∀t∈ts,ft ((j8 k js ρ).set 0 (.vl t))= .ok (p t)/\fe ((j8 k js ρ).set 0 (.vl t))= .ok t):zy (zG 0) ft fe k js ρ ts= .ok (ts.filter p):=by
 unfold zy;rw[if_pos c,ZT (h:=id) ts _ λt a=>⟨(H t a).1,λ_=>(H t a).2⟩,List.map_id];rfl
noncomputable def y0:List T->List Int
 | []=>[]
 | .int i :: r=>i :: y0 r
 | .non :: r=>y0 r
 | .bl _ :: r=>y0 r
 | .str _ :: r=>y0 r
 | .tup _ :: r=>y0 r
 | .lst _ :: r=>y0 r
 | .fz _ :: r=>y0 r
theorem uh:∀ts:List T,ts.filter CQ=(y0 ts).map T.int
 | []=>rfl
 | t :: ts=>by
  have a:=uh ts;rw[List.filter_cons,a];cases t <;> rfl
theorem uX:∀a:List Int,Z6 (a.map T.int)=some a
 | []=>rfl
 | i :: a=>by
  have e:Z6 ((i :: a).map T.int)=match Z6 _ with | some l=>some _ | none=>none:=rfl
  rw[e,uX a]
theorem ya:∀ts:List T,(y0 ts).length<=ts.length
 | []=>ah _
 | t :: ts=>by
  have a:=ya ts;cases t <;> simp only[y0,ar] <;> omega
theorem w9 {d:Nat}{x:T}(hd:d<=2)(h:W d x):(lv x).length<=9:=aB (Xg h) (c7 (by omega) hd)
theorem yY {d:Nat}(hd:d<=2){x:T}(h:W d x):Ky [x]= .ok (.lst ((y0 (lv x)).map T.int)):=by
 show zm _=_;have e:=w9 hd h;have a:zy _ (wg (zb 1 nL (za (vE 0) _))) (vE 0) 1 [] [.vl x] (lv x)= .ok _:=
  wG _ (by have g:mq=16777216:=rfl;omega) λt _=>⟨by
   show wg _ [.vl t]=_;rw[wA,zI,v0,i3,UB,i3,Ql],rfl⟩
 rw[BJ,zl]
 ·rfl
 ·show zT _ _ _ _ _ _ [.vl x]=_;have c:oG 8 [x]= .ok _:=JS 8 d (by omega) (by omega) x h
  rw[Z1,ZV,zI,v0,i3,c];show ((zy _ _ _ _ _ _ _).bind _)=_;rw[a,i3,uh]
noncomputable def CC (a:List Int):Bool:=(a.zip (a.drop 1)).all λq=>decide (q.1<=q.2)
theorem QP:∀(qs:List (Int×Int)) (x y:Sl),zt (zO 0 1) Z3 (j7 mF (vB 0) (vB 1)) (qs.map λq=>T.tup [.int q.1,.int q.2]) [x,y]= .ok (qs.map λq=>T.bl (decide (q.1<=q.2)))
 | [],_,_=>rfl
 | q :: qs,x,y=>by
  have c:=QP qs (.vl (.int q.1)) (.vl (.int q.2));have a:zt (zO 0 1) Z3 (j7 mF (vB 0) (vB 1)) ((q :: qs).map λq=>T.tup [.int q.1,.int q.2]) [x,y]=
   (R.ok (T.bl _)).bind λv=>(zt _ _ _ (qs.map λq=>T.tup [.int q.1,.int q.2]) [.vl _,.vl _]).bind λvs=> .ok _:=rfl
  rw[a,i3,c,i3,aA]
theorem KY (a:List T):nU a (some ((1:Nat):Int)) none=a.drop 1:=by
 unfold nU;rw[HT.sIx_nat,HT.sIx_none]
 by_cases h:1<=a.length
 ·rw[me h,im (by rw[h_];omega)]
 ·have:a=[]:=cX.mp (by omega)
  subst this;rfl
theorem QR (a:List Int)(e:a.length<=100):gQ [.lst (a.map T.int)]= .ok (.bl (CC a)):=by
 show zm _=_;have hz:gM (vE 0) (pB (vE 0) (yu (cE (.int 1))) (pO)) [.vl (.lst (a.map T.int))]= .ok ((a.zip (a.drop 1)).map λq=>T.tup [.int q.1,.int q.2]):=by
  show R.ok (vK _ (nU _ (some ((1:Nat))) _))=_;rw[KY,← List.map_drop];unfold vK;rw[List.zip_map,bg];rfl
 have c:zy (zO 0 1) Z3 (j7 mF (vB 0) (vB 1)) 2 [] [.vl (.lst (a.map T.int))] ((a.zip (a.drop 1)).map λq=>T.tup [.int q.1,.int q.2])= .ok ((a.zip (a.drop 1)).map λq=>T.bl (decide (q.1<=q.2))):=by
  unfold zy;rw[if_pos (by rw[af,iy];have d:mq=16777216:=rfl;omega)]
  show quiet (zt _ _ _ _ [.un,.un])=_;rw[QP];rfl
 rw[BW,zl]
 ·rfl
 ·show mn _ _ [.vl _]=_;rw[ZD,Z1,hz,i3,c,i3];show (match ut _ with | some k=>R.ok _ | none=> .bad)=_
  rw[UQ (λq=>decide _)];rfl
theorem ER (a:List Int):kO (.lst (a.map T.int))= .ok (.int a.sum):=by
 unfold kO;dsimp only;rw[uX]
def inB (a:List T)(x:T):Bool:=(Wk (λy=>mw 30 y x) a).getD false
theorem F5 {a:List T}(x:T)(h:∀y∈a,Pl 30 y):Wk (λy=>mw 30 y x) a=some (inB a x):=by
 obtain⟨b,e,_⟩:=ug a λt c=>Jk 30 t x (h t c);unfold inB;rw[e];rfl
theorem W.pl {d:Nat}{x:T}(h:W d x):Pl (d+1) x:=by
 induction h with
 | int d i=>exact trivial
 | str d i=>exact trivial
 | @tup d c h r a=>exact a
theorem W.pl30 {d:Nat}{x:T}(h:W d x)(hd:d<=2):Pl 30 x:=h.pl.le (by omega)
noncomputable def yZ:T->List T
 | .tup a=>a
 | .non=>[.non]
 | .bl b=>[.bl b]
 | .int b=>[.int b]
 | .str b=>[.str b]
 | .lst b=>[.lst b]
 | .fz b=>[.fz b]
theorem KZ {d:Nat}{x:T}(h:W d x):Kz [x]= .ok (.tup (yZ x)):=by cases h <;> rfl
theorem QT {d:Nat}{x:T}(h:W d x):(yZ x).length<=3:=by
 cases h with
 | int=>exact(by decide:1<=3)
 | str=>exact(by decide:1<=3)
 | tup h _=>exact h
theorem xf {d:Nat}{x:T}(h:W d x)(hd:d<=2):∀y∈yZ x,Pl 30 y:=by
 cases h with
 | int=>intro y hy;rw[av.mp hy];exact trivial
 | str=>intro y hy;rw[av.mp hy];exact trivial
 | @tup d a h r=>intro y hy;exact(r y hy).pl30 (by omega)
def un (a:List T):Bool:= !(a.zipIdx.any λp=>inB (a.take p.2) p.1)
theorem QU {a:List T}{k:Nat}:A4 (.tup a) none (some (k:Int))= .ok (.tup (a.take k)):=by
 show R.ok _=_;have:nU a none (some (k))=a.take k:=by
  unfold nU;rw[HT.sIx_none,HT.sIx_nat];simp only[iG,Nat.sub_zero];rw[List.take_eq_take_iff];omega
 rw[this]
theorem g6 {a:List T}(h:∀y∈a,Pl 30 y)(k:Nat)(x:T):nc x (.tup (a.take k))= .ok (inB (a.take k) x):=by
 show (match Wk (λy=>mw 30 y x) _ with | some b=>R.ok b | none=> .bad)=_
 rw[F5 x λy hy=>h y (List.mem_of_mem_take hy)]
abbrev ou:En->R T:=j7 nc (vB 1) (pB (vE 2) (pO) (yu (vE 0)))
theorem QV {a:List T}(h:∀y∈a,Pl 30 y):∀(qs:List (T×Nat)) (x y:Sl),zt (zO 0 1) Z3 ou (qs.map λp=>T.tup [.int (p.2:Nat),p.1]) [x,y,.vl (.tup a)]= .ok (qs.map λp=>T.bl (inB (a.take p.2) p.1))
 | [],_,_=>rfl
 | q :: qs,x,y=>by
  have g:=QV h qs (.vl (.int (q.2))) (.vl q.1);have e:ou [.vl (.int (q.2)),.vl q.1,.vl (.tup a)]= .ok (.bl (inB (a.take q.2) q.1)):=by
   have d:pB (vE 2) pO (yu (vE 0)) [.vl (.int (q.2)),.vl q.1,.vl (.tup a)]=A4 (.tup a) _ _:=rfl;unfold ou;rw[jk,w1,i3,d,QU,i3,g6 h,i3]
  have c:zt (zO 0 1) Z3 ou ((q :: qs).map λp=>T.tup [.int (p.2),p.1]) [x,y,.vl (.tup a)]=
   (ou [.vl _,.vl q.1,.vl _]).bind λv=>(zt _ _ ou (qs.map λp=>T.tup _) [.vl _,.vl q.1,.vl _]).bind λvs=> .ok _:=rfl
  rw[c,e,i3,g,i3,aA]
theorem ui {a:Type}(p:a->Bool):∀qs:List a,w4 (qs.map λq=>T.bl (p q))=some (qs.any p)
 | []=>rfl
 | q :: qs=>by
  have e:w4 ((q :: qs).map λq=>T.bl (p q))=match w4 (qs.map λq=>T.bl _) with | some j=>some _ | none=>none:=rfl
  rw[e,ui p qs];rfl
theorem QW {a:List T}(h:∀y∈a,Pl 30 y)(i:a.length<=100):gR [.tup a]= .ok (.bl (un a)):=by
 show zm _=_;have e:zy (zO 0 1) Z3 ou 2 [0] [.vl (.tup a)] (ZH a)= .ok (a.zipIdx.map λp=>T.bl (inB (a.take p.2) p.1)):=by
  unfold zy;rw[if_pos (by unfold ZH;rw[af,la];have g:mq=16777216:=rfl;omega)]
  show quiet (zt _ _ _ _ [.un,.un,.vl _])=_;unfold ZH;rw[QV h];rfl
 rw[BC,zl]
 ·rfl
 ·have d:zT (Up (vE 0)) (zO 0 1) Z3 ou 2 [0] [.vl (.tup a)]= .ok (.lst (a.zipIdx.map λp=>T.bl (inB (a.take p.2) p.1))):=by
   show ((R.ok _).bind _)=_;rw[i3,e,i3]
  have c:mn BA (zT (Up (vE 0)) (zO 0 1) Z3 ou 2 [0]) [.vl (.tup a)]= .ok (.bl (a.zipIdx.any λp=>inB (a.take p.2) p.1)):=by
   rw[ZD,d];show (match w4 _ with | some k=>R.ok _ | none=> .bad)=_
   rw[ui (λp:T×Nat=>inB _ p.1)]
  show V6 _ [.vl _]=_;unfold V6;rw[c];rfl
noncomputable def Ba (w:Str):T->Bool
 | .str x=>x == w
 | _=>false
theorem DC (w:Str)(n:Nat):∀t:T,mw n t (.str w)=some (Ba w t)
 | .str x=>by cases n <;> rfl
 | .non=>by cases n <;> rfl
 | .bl _=>by cases n <;> rfl
 | .int _=>by cases n <;> rfl
 | .tup _=>by cases n <;> rfl
 | .lst _=>by cases n <;> rfl
 | .fz _=>by cases n <;> rfl
theorem QX (w:Str):∀ts:List T,Wk (λy=>mw 30 y (.str w)) ts=some (ts.any (Ba w))
 | []=>rfl
 | t :: ts=>by
  have e:Wk (λy=>mw 30 y (.str w)) (t :: ts)=match mw 30 t _ with
   | none=>none
   | some b=>match Wk (λy=>mw 30 y _) ts with
    | none=>none
    | some d=>some _:=rfl
  rw[e,DC,QX w ts];rfl
inductive Ru where
 | sum (a b:Int) | size (a b:Int) | word (w:Str) | rising | unlike | no (r:Ru) | all (r s:Ru) | some (r s:Ru)
def Ru.t:Ru->T
 | .sum a b=> .tup [.str "sum",.int a,.int b]
 | .size a b=> .tup [.str "size",.int a,.int b]
 | .word w=> .tup [.str "word",.str w]
 | .rising=> .tup [.str "rising"]
 | .unlike=> .tup [.str "unlike"]
 | .no r=> .tup [.str "no",r.t]
 | .all r s=> .tup [.str "all",r.t,s.t]
 | .some r s=> .tup [.str "some",r.t,s.t]
inductive jn:Nat->Ru->Prop where
 | sum {d:Nat} {a b:Int} (ha: -50<=a/\a<=50) (hb: -50<=b/\b<=50):jn (d+1) (.sum a b)
 | size {d:Nat} {a b:Int} (ha: -50<=a/\a<=50) (hb: -50<=b/\b<=50):jn (d+1) (.size a b)
 | word {d:Nat} {w:Str} (h:Zi (.str w)=true):jn (d+1) (.word w)
 | rising {d:Nat}:jn (d+1) .rising
 | unlike {d:Nat}:jn (d+1) .unlike
 | no {d:Nat} {r:Ru} (h:jn d r):jn (d+1) (.no r)
 | all {d:Nat} {r s:Ru} (h:jn d r) (h' :jn d s):jn (d+1) (.all r s)
 | some {d:Nat} {r s:Ru} (h:jn d r) (h' :jn d s):jn (d+1) (.some r s)
theorem jn.up {d:Nat}{r:Ru}(h:jn d r):jn (d+1) r:=by
 induction h with
 | sum g e=>exact .sum g e
 | size g e=>exact .size g e
 | word h=>exact .word h
 | rising=>exact .rising
 | unlike=>exact .unlike
 | no h c=>exact .no c
 | all h h' c a =>exact .all c a
 | some h h' c a =>exact .some c a
def kp:Ru->T->Bool
 | .sum a b,x=>decide (a<=(y0 (lv x)).sum) && decide ((y0 (lv x)).sum<=b)
 | .size a b,x=>decide (a<=((yZ x).length:Int)) && decide (((yZ x).length:Int)<=b)
 | .word w,x=>(lv x).any (Ba w)
 | .rising,x=>CC (y0 (lv x))
 | .unlike,x=>un (yZ x)
 | .no r,x=> !kp r x
 | .all r s,x=>kp r x && kp s x
 | .some r s,x=>kp r x || kp s x
theorem Jl {i:Int}(h: -50<=i/\i<=50):Kx [.int i]= .ok (.bl true):=by
 show zm _=_;rw[BY,zl]
 ·rfl
 ·show jg _ _ [.vl _]=_;rw[wz,zI,v0,i3,VT,X9,zW,i3];rw[i3,w0,i3,uQ,decide_eq_true h.1,i3,i3,uQ,decide_eq_true h.2];rfl
theorem Zo {x w:Str}{r:List T}{ρ:En}(b:Bool)(h:(x == w)=b):zD mm (zc kj (vE 0) (cE (.int 0))) (cE (.str w)) (.vl (.tup (.str x :: r)) :: ρ)= .ok b:=by rw[mU,h]
theorem Y8 {f g:En->R Bool}{ρ:En}{b:Bool}(h:f ρ= .ok false)(h' :g ρ= .ok b):nz f g ρ= .ok b:=by rw[Qk,h,i3,if_neg ax,h']
theorem Bz {f g:En->R Bool}{ρ:En}(h:f ρ= .ok true):nz f g ρ= .ok true:=by rw[Qk,h,i3,if_pos rfl]
theorem wb {f g:En->R T}{ρ:En}{r:R T}(h:f ρ= .ok (.bl true))(h' :g ρ=r):jg f g ρ=r:=by rw[wz,h,Zy,if_pos rfl,h']
theorem Xh {a:List T}{ρ:En}{n:Int}(h:((a.length:Int) == n)=true):j7 mm (mn ZL (vB 0)) (cE (.int n)) (.vl (.tup a) :: ρ)= .ok (.bl true):=by
 rw[jk,ZD,w0,i3,u6,i3,zW,i3,nC,h,i3]
theorem ZY {a:List T}{d:Nat}{x:T}:nz (zD mm (vB 1) (cE (.int 0))) (nz (uy (wg (mn (Y3 "tuple") (vB 0)))) (zD mm (mn ZL (vB 0)) (cE (.int 0)))) (mE (.tup (x :: a)) (.int ((d+1:Nat):Int)))= .ok false:=by
 refine Y8 ?_ (Y8 ?_ ?_)
 ·rw[zX,w1,i3,zW,i3,nC,beq_eq_false_iff_ne.mpr (by omega)]
 ·rfl
 ·rw[zX,ZD,w0,i3,u6,i3,zW,i3,nC,beq_eq_false_iff_ne.mpr (by rw[ar];omega)]
theorem xg {w:Str}(h:Zi (.str w)=true):KD (.str w):=by
 have h:(decide _ && decide _ && w.cps.toList.all _)=true:=h;simp only[aj,decide_eq_true_eq]at h;exact aB h.1.2 (by decide)
theorem jM:∀(n d:Nat),d<=n->∀r:Ru,jn d r->oQ n 0 [r.t,.int (d:Int)]= .ok (.bl true)
 | 0,d,h,r,hr=>by
  have:d=0:=by omega
  subst this;cases hr
 | n+1,d,h,r,hr=>by
  show zm (AB nS (oQ n 0) Kx (mE r.t (.int (d:Int))))=_;rw[AB];cases hr with
  | @sum d a b i g=>
   rw[Ru.t,zd (zu ZY),zB (t:= .bl true)]
   ·rfl
   ·exact zl (wb (Xh rfl) (wb (by show zb 1 _ _ (mE _ _)=_;rw[zI,JM,i3,Jl i]) (by show zb 1 _ _ (mE _ _)=_;rw[zI,UK,i3,Jl g])))
  | @size d a b i g=>
   rw[Ru.t,zd (zu ZY),zB (t:= .bl true)]
   ·rfl
   ·exact zl (wb (Xh rfl) (wb (by show zb 1 _ _ (mE _ _)=_;rw[zI,JM,i3,Jl i]) (by show zb 1 _ _ (mE _ _)=_;rw[zI,UK,i3,Jl g])))
  | @word d w k=>
   rw[Ru.t,zd (zu ZY),zd (zu (Y8 (Zo false (by decide)) (Zo false (by decide)))),zB (t:= .bl true)]
   ·rfl
   ·exact zl (wb (Xh rfl) (by show zb 1 _ _ (mE _ _)=_;rw[zI,JM,i3,Qi _ (xg k),k]))
  | rising=>
   rw[Ru.t,zd (zu ZY),zd (zu (Y8 (Zo false (by decide)) (Zo false (by decide)))),zd (zu (Zo false (by decide))),zB (t:= .bl true)]
   ·rfl
   ·rw[Ji (Bz (Zo true (by decide)))]
    exact zl (Xh rfl)
  | unlike=>
   rw[Ru.t,zd (zu ZY),zd (zu (Y8 (Zo false (by decide)) (Zo false (by decide)))),zd (zu (Zo false (by decide))),zB (t:= .bl true)]
   ·rfl
   ·rw[Ji (Y8 (Zo false (by decide)) (Zo true (by decide)))]
    exact zl (Xh rfl)
  | @no d r hr=>
   have e:=jM n d (by omega) r hr
   rw[Ru.t,zd (zu ZY),zd (zu (Y8 (Zo false (by decide)) (Zo false (by decide)))),zd (zu (Zo false (by decide))),zd (zu (Y8 (Zo false (by decide)) (Zo false (by decide)))),zB (t:= .bl true)]
   ·rfl
   ·rw[Ji (Zo true (by decide))]
    exact zl (wb (Xh rfl) (by show zb 2 _ _ (mE _ _)=_;rw[zP,JM,i3,zk,v1,i3,zW,i3,Z7,i3,show ((d+1:Nat)) - 1=(d:Int) by omega,e]))
  | @all d r s hr j=>
   have e:=jM n d (by omega) r hr
   have c :=jM n d (by omega) s j
   rw[Ru.t,zd (zu ZY),zd (zu (Y8 (Zo false (by decide)) (Zo false (by decide)))),zd (zu (Zo false (by decide))),zd (zu (Y8 (Zo false (by decide)) (Zo false (by decide)))),zd (zu (Zo false (by decide))),zB (t:= .bl true)]
   ·rfl
   ·exact zl (wb (Xh rfl) (wb (by show zb 2 _ _ (mE _ _)=_;rw[zP,JM,i3,zk,v1,i3,zW,i3,Z7,i3,show ((d+1:Nat):Int) - 1=(d) by omega,e]) (by show zb 2 _ _ (mE _ _)=_;rw[zP,UK,i3,zk,v1,i3,zW,i3,Z7,i3,show ((d+1:Nat):Int) - 1=(d) by omega,c])))
  | @some d r s hr j=>
   have e:=jM n d (by omega) r hr
   have c :=jM n d (by omega) s j
   rw[Ru.t,zd (zu ZY),zd (zu (Y8 (Zo _ (by decide)) (Zo _ (by decide)))),zd (zu (Zo _ (by decide))),zd (zu (Y8 (Zo _ (by decide)) (Zo _ (by decide)))),zd (zu (Zo _ (by decide))),zB]
   ·rfl
   ·exact zl (wb (Xh rfl) (wb (by show zb 2 _ _ (mE _ _)=_;rw[zP,JM,i3,zk,v1,i3,zW,i3,Z7,i3,show ((d+1:Nat):Int) - 1=(d) by omega,e]) (by show zb 2 _ _ (mE _ _)=_;rw[zP,UK,i3,zk,v1,i3,zW,i3,Z7,i3,show ((d+1:Nat):Int) - 1=(d) by omega,c])))
theorem Dh {f g h:En->R T}{ρ:En}{i j k:Int}(d:f ρ= .ok (.int i))(a:g ρ= .ok (.int j))(c:h ρ= .ok (.int k)):nh mF mF f g h ρ= .ok (.bl (decide (i<=j) && decide (j<=k))):=by
 rw[VT,d,i3,a,i3,uQ,i3];cases decide (i<=j) with
 | true=>rw[if_pos rfl,c,i3,uQ,i3,iW]
 | false=>rw[if_neg ax,Bool.false_and]
theorem QY {r:Ru}{x:T}{d:Nat}(hd:d<=2)(h:W d x)(b:Bool)(hr:(match r with | .no _=>False | .all _ _=>False | .some _ _=>False | _=>True)):X7 [r.t,x]= .ok (.bl (kp r x)):=by
 have hn:=yY hd h;have hp:=KZ h;have c:oG 8 [x]= .ok (.lst (lv x)):=JS 8 d (by omega) (by omega) x h
 have hi:=aB (ya _) (w9 hd h);show zm (Al Kz (oG 8) Ky _ _ (mE r.t x))=_;rw[Al];cases r with
 | sum a b=>
  rw[zB]
  ·rfl
  ·refine zl ?_;show nh _ _ _ _ _ (mE _ x)=_;exact Dh JM (by rw[ZD,zI,v1,i3,hn,i3,ER]) UK
 | size a b=>
  rw[Ru.t,zd (zu (Zo _ (by decide))),zB]
  ·rfl
  ·rw[Ji (Zo _ (by decide))]
   refine zl ?_;show nh _ _ _ _ _ (mE _ x)=_;exact Dh JM (by rw[ZD,zI,v1,i3,hp,i3,u6]) UK
 | word w=>
  rw[Ru.t,zd (zu (Zo false (by decide))),zd (zu (Zo false (by decide))),zB]
  ·rfl
  ·rw[Ji (Zo true (by decide))]
   refine zl ?_;show j7 _ _ _ (mE _ x)=_;rw[jk,JM,i3,zI,v1,i3,c];show ((match Wk (λy=>mw 30 y (.str w)) (lv x) with | some b=>R.ok b | none=> .bad).bind _)=_
   rw[QX];rfl
 | rising=>
  rw[Ru.t,zd (zu (Zo false (by decide))),zd (zu (Zo _ (by decide))),zd (zu (Zo _ (by decide))),zB (t:= .bl (kp _ x))]
  ·rfl
  ·rw[Ji (Zo true (by decide))]
   refine zl ?_;show zb 1 _ _ (mE _ x)=_;rw[zI,zI,v1,i3,hn,i3,QR _ (by omega)]
   rfl
 | unlike=>
  rw[Ru.t,zd (zu (Zo false (by decide))),zd (zu (Zo _ (by decide))),zd (zu (Zo false (by decide))),zd (zu (Zo _ (by decide))),zl]
  ·rfl
  ·show zb 1 _ _ (mE _ x)=_;rw[zI,zI,v1,i3,hp,i3,QW (xf h hd) (aB (QT h) (by omega))]
   rfl
 | no=>exact hr.elim
 | all=>exact hr.elim
 | some=>exact hr.elim
theorem g9 {f:En->R T}{ρ:En}{b:Bool}(h:f ρ= .ok (.bl b)):V6 f ρ= .ok (.bl (!b)):=by unfold V6;rw[h];rfl
theorem gc {f g:En->R T}{ρ:En}{a b:Bool}(h:f ρ= .ok (.bl a))(h' :g ρ= .ok (.bl b)):jg f g ρ= .ok (.bl (a && b)):=by
 rw[wz,h,h'];cases a <;> rfl
theorem Fk {f g:En->R T}{ρ:En}{a b:Bool}(h:f ρ= .ok (.bl a))(h' :g ρ= .ok (.bl b)):se f g ρ= .ok (.bl (a || b)):=by
 unfold se;rw[h];cases a with
 | true=>rfl
 | false=>exact h'
theorem jN {x:T}{e:Nat}(i:e<=2)(j:W e x):∀(n d:Nat),d<=n->∀r:Ru,jn d r->nH n 0 [r.t,x]= .ok (.bl (kp r x))
 | 0,d,h,r,hr=>by
  have:d=0:=by omega
  subst this;cases hr
 | n+1,d,h,r,hr=>by
  show zm (tL (nH n 0) X7 (mE r.t x))=_;rw[tL];have c:∀(r:Ru) (s:Str) (q:List T),r.t= .tup (.str s :: q)->(s == "no")=false->(s == "all")=false->(s == "some")=false->(match r with | .no _=>False | .all _ _=>False | .some _ _=>False | _=>True)->
    zm (zq (mB (zD mm (zc kj (vE 0) (cE (.int 0))) (cE (.str "no"))) (zA (V6 (zb 2 (nH n 0) (za (zc kj (vE 0) (cE (.int 1))) (za (vE 1) (zf)))))) (my))
  (zq (mB (zD mm (zc kj (vE 0) (cE (.int 0))) (cE (.str "all"))) (zA (jg (zb 2 (nH n 0) (za (zc kj (vE 0) (cE (.int 1))) (za (vE 1) (zf)))) (zb 2 (nH n 0) (za (zc kj (vE 0) (cE (.int 2))) (za (vE 1) (zf)))))) (my))
  (zq (mB (zD mm (zc kj (vE 0) (cE (.int 0))) (cE (.str "some"))) (zA (se (zb 2 (nH n 0) (za (zc kj (vE 0) (cE (.int 1))) (za (vE 1) (zf)))) (zb 2 (nH n 0) (za (zc kj (vE 0) (cE (.int 2))) (za (vE 1) (zf)))))) (my))
  (zA (zb 2 X7 (za (vE 0) (za (vE 1) (zf))))))) (mE r.t x))= .ok (.bl (kp r x)):=by
   intro r s q e p u o B;have k:=QY i j true B;rw[e]at k ⊢;rw[zd (zu (Zo _ p)),zd (zu (Zo false u)),zd (zu (Zo _ o)),zl]
   ·rfl
   ·show zb 2 _ _ (mE _ x)=_;rw[zP,v0,i3,v1,i3,k]
  cases hr with
  | @sum d a b y v=>exact c (.sum a b) "sum" _ rfl (by decide) (by decide) (by decide) trivial
  | @size d a b y v=>exact c _ "size" _ rfl (by decide) (by decide) (by decide) trivial
  | @word d w C=>exact c _ _ _ rfl (by decide) (by decide) (by decide) trivial
  | rising=>exact c .rising _ _ rfl (by decide) (by decide) (by decide) trivial
  | unlike=>exact c .unlike _ _ rfl (by decide) (by decide) (by decide) trivial
  | @no d r hr=>
   have l:=jN i j n d (by omega) r hr
   rw[Ru.t,zB]
   ·rfl
   ·exact zl (g9 (by show zb 2 _ _ (mE _ x)=_;rw[zP,JM,i3,v1,i3,l]))
  | @all d r s hr k=>
   have l:=jN i j n d (by omega) r hr
   have g :=jN i j n d (by omega) s k
   rw[Ru.t,zd (zu (Zo _ (by decide))),zB]
   ·rfl
   ·exact zl (gc (by show zb 2 _ _ (mE _ x)=_;rw[zP,JM,i3,v1,i3,l]) (by show zb 2 _ _ (mE _ x)=_;rw[zP,UK,i3,v1,i3,g]))
  | @some d r s hr k=>
   have l:=jN i j n d (by omega) r hr
   have g :=jN i j n d (by omega) s k
   rw[Ru.t,zd (zu (Zo _ (by decide))),zd (zu (Zo _ (by decide))),zB]
   ·rfl
   ·exact zl (Fk (by show zb 2 _ _ (mE _ x)=_;rw[zP,JM,i3,v1,i3,l]) (by show zb 2 _ _ (mE _ x)=_;rw[zP,UK,i3,v1,i3,g]))
abbrev lr (ns:List Int)(k:Int)(d:Nat)(p:Int)(a b:Sl):En:=[.vl (mz ns),.vl (.int k),.vl (.int (d:Int)),.vl (.int p),a,b]
theorem QZ {c:List Int}{k:Int}{d:Nat}{p:Int}{a b:Sl}{j m q:Int}(h:mW [mz c,.int (k+j),.int m]= .ok (.int q)):zb 3 mW (za (vE 0) (za (zc zx (vE 1) (cE (.int j))) (za (cE (.int m)) (zf)))) (lr c k d p a b)= .ok (.int q):=by
 rw[Z9,v0,i3,zk,v1,i3,zW,i3,Z0,i3,zW,i3,h]
theorem jy (a:List Int):∀(n d:Nat),d<=n->1<=d->∀k:Int,0<=k->∃r:Ru,oH n 0 [mz a,.int k,.int (d:Int)]= .ok r.t/\jn d r
 | 0,d,h,h1,k,U=>by omega
 | n+1,d,h,h1,k,U=>by
  obtain⟨p,hp,p0,p9⟩:=zN a k 9 U (by omega)
  have e1:zJ 3 (zb 3 mW (za (vE 0) (za (vE 1) (za (cE (.int 9)) (zf))))) [.vl (mz a),.vl (.int k),.vl (.int (d:Int)),.un,.un,.un]= .nx (lr a k d p .un .un):=by
   rw[zM (t:= .int p)]
   ·rfl
   ·rw[Z9,v0,i3,v1,i3,zW,i3,hp]
  have e:oH (n+1) 0 [mz a,.int k,.int (d:Int)]=zm (tE mW (oH n 0) [.vl (mz a),.vl (.int k),.vl (.int (d:Int)),.un,.un,.un]):=rfl;rw[e,tE,zd e1];have o:GN (zD ny (vB 2) (cE (.int 1))) (zD ny (vB 3) (cE (.int 5))) (lr a k d p .un .un)= .ok (decide (1 < d) && decide (5 < p)):=by
   rw[KG,zX,w2,i3,zW,i3,KU,i3,show decide ((1:Int) < (d:Int))=decide (1 < d) by rw[mh,decide_eq_true_eq,decide_eq_true_eq];omega]
   cases decide (1 < d) with
   | true=>rw[if_pos rfl,zX,w3,i3,zW,i3,KU,iW]
   | false=>rfl
  by_cases hb:1 < d/\5 < p
  ·rw[decide_eq_true hb.1,decide_eq_true hb.2]at o;obtain⟨d,rfl⟩:∃G,d=G +1:=⟨d - 1,by omega⟩
   obtain⟨g,M,J⟩:=jy a n d (by omega) (by omega) (2*k+11) (by omega)
   obtain⟨D,I,o2⟩:=jy a n d (by omega) (by omega) (2*k+24) (by omega)
   have m2:zV (.int 2) (.int k)= .ok (.int (2*k)):=Qp _ _ (.inl ⟨by decide,by decide⟩)
   have y:zJ 4 (zb 3 (oH n 0) (za (vE 0) (za (zc zx (zc zV (cE (.int 2)) (vE 1)) (cE (.int 11))) (za (zc jR (vE 2) (cE (.int 1))) (zf))))) (lr a k (d+1) p .un .un)= .nx (lr a k (d+1) p (.vl g.t) .un):=by
    rw[zM (t:=g.t)]
    ·rfl
    ·rw[Z9,v0,i3,zk,zk,zW,i3,v1,i3,m2,i3,zW,i3,Z0,i3,zk,v2,i3,zW,i3,Z7,i3,show ((d+1:Nat):Int) - 1=(d:Int) by omega,M]
   have Z:zb 3 (oH n 0) (za (vE 0) (za (zc zx (zc zV (cE (.int 2)) (vE 1)) (cE (.int 24))) (za (zc jR (vE 2) (cE (.int 1))) (zf)))) (lr a k (d+1) p (.vl g.t) .un)= .ok D.t:=by
    rw[Z9,v0,i3,zk,zk,zW,i3,v1,i3,m2,i3,zW,i3,Z0,i3,zk,v2,i3,zW,i3,Z7,i3,show ((d+1:Nat):Int) - 1=(d:Int) by omega,I]
   by_cases h6:p=6
   ·subst h6;refine⟨.no g, ?_,.no J⟩;rw[zB (t:=(Ru.no g).t)]
    ·rfl
    ·rw[Ji o,zd y,zB (t:=(Ru.no g).t)];rw[Ji rfl,Ru.t];exact zl (UH rfl rfl)
   ·have B :zD mm (vB 3) (cE (.int 6)) (lr a k (d+1) p (.vl g.t) .un)= .ok false:=by
     rw[zX,w3,i3,zW,i3,nC,beq_eq_false_iff_ne.mpr h6]
    by_cases h7:p=7
    ·subst h7;refine⟨.all g D, ?_,.all J o2⟩;rw[zB (t:=(Ru.all g D).t)]
     ·rfl
     ·rw[Ji o,zd y,zd (zu B),Ru.t];exact zl (G1 rfl rfl Z)
    ·have h8:p=8:=by omega
     subst h8;refine⟨.some g D, ?_,.some J o2⟩;rw[zB (t:=(Ru.some g D).t)]
     ·rfl
     ·rw[Ji o,zd y,zd (zu B),Ru.t];exact zl (G1 rfl rfl Z)
  ·have o:GN (zD ny (vB 2) (cE (.int 1))) (zD ny (vB 3) (cE (.int 5))) (lr a k d p .un .un)= .ok false:=by
    rw[o];congr 1
    rw[Bool.and_eq_false_iff,decide_eq_false_iff_not,decide_eq_false_iff_not];omega
   obtain⟨d,rfl⟩:∃G,d=G +1:=⟨d - 1,by omega⟩
   obtain⟨q,hq,q0,q9⟩:=zN a (k+1) 9 (by omega) (by omega)
   have y:zJ 5 (zc jR (zb 3 mW (za (vE 0) (za (zc zx (vE 1) (cE (.int 1))) (za (cE (.int 9)) (zf))))) (cE (.int 4))) (lr a k (d+1) p .un .un)= .nx (lr a k (d+1) p .un (.vl (.int (q - 4)))):=by
    rw[zM (t:= .int (q - 4))]
    ·rfl
    ·rw[zk,QZ hq,i3,zW,i3,Z7]
   rw[zd (zu o),zd y];have F:∃m:Nat,m < 6/\zc je (vE 3) (cE (.int 6)) (lr a k (d+1) p .un (.vl (.int (q - 4))))= .ok (.int (m:Int)):=by
    obtain⟨w,rfl⟩:=db p0;exact⟨w % 6,io _ (by omega),by rw[zk,v3,i3,zW,i3];exact QH (c:=6) (by omega)⟩
   obtain⟨m,m6,F⟩:=F;have t2:zD n9 (zc je (vE 3) (cE (.int 6))) (cE (.int 2)) (lr a k (d+1) p .un (.vl (.int (q - 4))))= .ok (decide (m < 2)):=by
    rw[zX,F,i3,zW,i3,BV];congr 1;rw[mh,decide_eq_true_eq,decide_eq_true_eq];omega
   have tk:∀j:Nat,zD mm (zc je (vE 3) (cE (.int 6))) (cE (.int (j:Int))) (lr a k (d+1) p .un (.vl (.int (q - 4))))= .ok (m == j):=λj=>by
    rw[zX,F,i3,zW,i3,nC,Qw]
   have x:zD mm (zc je (vE 3) (cE (.int 6))) (cE (.int 2)) (lr a k (d+1) p .un (.vl (.int (q - 4))))= .ok (m == 2):=tk 2;have C:zD mm (zc je (vE 3) (cE (.int 6))) (cE (.int 3)) (lr a k (d+1) p .un (.vl (.int (q - 4))))= .ok (m == 3):=tk 3;have v:zD mm (zc je (vE 3) (cE (.int 6))) (cE (.int 4)) (lr a k (d+1) p .un (.vl (.int (q - 4))))= .ok (m == 4):=tk 4
   by_cases h2:m < 2
   ·obtain⟨u,Q,u0,u5⟩:=zN a (k+2) 5 (by omega) (by omega)
    refine⟨.sum (q - 4) (q - 4+u - 1), ?_,.sum ⟨by omega,by omega⟩ ⟨by omega,by omega⟩⟩
    rw[zB (t:=(Ru.sum (q - 4) (q - 4+u - 1)).t)]
    ·rfl
    ·rw[Ji (by rw[t2,decide_eq_true h2]),Ru.t]
     refine zl (G1 rfl rfl ?_);show zc jR _ _ (lr a k (d+1) p .un (.vl (.int (q - 4))))=_;rw[zk,zk,QZ Q,show vE 5 (lr a k (d+1) p .un (.vl (.int (q - 4))))= .ok (.int (q - 4)) from rfl,i3,i3,Z0,i3,zW,i3,Z7]
   rw[zd (zu (by rw[t2,decide_eq_false h2]))]
   by_cases h3:m=2
   ·subst h3;obtain⟨i,l,P,S⟩:=zN a (k+1) 3 (by omega) (by omega)
    obtain⟨u,Q,u0,u4⟩:=zN a (k+2) 4 (by omega) (by omega)
    refine⟨.size i u, ?_,.size ⟨by omega,by omega⟩ ⟨by omega,by omega⟩⟩
    rw[zB (t:=(Ru.size i u).t)]
    ·rfl
    ·rw[Ji x,Ru.t];exact zl (G1 rfl (QZ l) (QZ Q))
   rw[zd (zu (by rw[x,beq_eq_false_iff_ne.mpr h3]))]
   by_cases h4:m=3
   ·subst h4;obtain⟨i,l,P,S⟩:=zN a (k+1) 4 (by omega) (by omega)
    have O:∃w:Str,Zi (.str w)=true/\kj (.lst [.str "a",.str "b",.str "ab",.str "zz"]) (.int i)= .ok (.str w):=by
     have N:i =0\/i =1\/i =2\/i =3:=by omega
     rcases N with rfl | rfl | rfl | rfl
     ·exact⟨"a",by decide,rfl⟩
     ·exact⟨"b",by decide,rfl⟩
     ·exact⟨"ab",by decide,rfl⟩
     ·exact⟨"zz",by decide,rfl⟩
    obtain⟨w,O,hx⟩:=O;refine⟨.word w, ?_,.word O⟩;rw[zB (t:=(Ru.word w).t)]
    ·rfl
    ·rw[Ji C,Ru.t];refine zl (UH rfl ?_);show zc kj _ _ (lr a k (d+1) p .un (.vl (.int (q - 4))))=_;rw[zk,QZ l];exact hx
   rw[zd (zu (by rw[C,beq_eq_false_iff_ne.mpr h4]))]
   by_cases X:m=4
   ·subst X;refine⟨.rising, ?_,.rising⟩;rw[zl (t:=Ru.rising.t)]
    ·rfl
    ·show nD _ _ _ (lr a k (d+1) p .un (.vl (.int (q - 4))))=_;unfold nD;rw[v,i3];rfl
   ·refine⟨.unlike, ?_,.unlike⟩;rw[zl (t:=Ru.unlike.t)]
    ·rfl
    ·show nD _ _ _ (lr a k (d+1) p .un (.vl (.int (q - 4))))=_;unfold nD;rw[v,i3,beq_eq_false_iff_ne.mpr X];rfl
theorem gh {k:Kd}(a:k.Ok 3){x:T}(c:x∈k.all):W 2 x:=Bp 2 k x a ((JO k x).mp c)
theorem wH {x:T}(a:W 2 x){r:Ru}(hr:jn 3 r):oF 8 [r.t,x]= .ok (.bl (kp r x)):=jN (by omega) a 8 3 (by omega) r hr
noncomputable def mr (q:Rat):T:= .tup [.int q.num,.int q.den]
theorem Dn {b:Nat}:nA (.int (b:Int)) (.int 0)= .ok (!(b == 0)):=by
 show R.ok (!((b:Int) == 0))=_;congr 2
 cases b with
 | zero=>rfl
 | succ n=>
  rw[show ((n+1 == 0)=false) from rfl,beq_eq_false_iff_ne];omega
theorem xh {g:En->R Bool}{c:En->RS}{n:Nat}{ρ a :En}(h:g ρ= .ok true)(d:c ρ= .nx a):Zq g c (n+1) ρ=Zq g c n a :=by
 show (g ρ).s _=_;rw[h,Zx,if_pos rfl,d]
theorem v6 {g:En->R Bool}{a:En->RS}{n:Nat}{ρ:En}(h:g ρ= .ok false):Zq g a (n+1) ρ= .nx ρ:=by
 show (g ρ).s _=_;rw[h,Zx,if_neg ax]
theorem B7 {a b:Nat}(h:1<=b):je (.int (a:Int)) (.int (b:Int))= .ok (.int ((a % b:Nat):Int)):=QH h
abbrev C2:En->RS:=zq (zJ 2 (zc je (vE 0) (vE 1))) (zq (zJ 0 (vE 1)) (zJ 1 (vE 2)))
theorem v7:∀(n b a:Nat) (x:Sl),b < n->∃c,Zq (zD nA (vB 1) (cE (.int 0))) C2 n [.vl (.int (a:Int)),.vl (.int (b:Int)),x]= .nx [.vl (.int ((g7 a b:Nat):Int)),.vl (.int 0),c]
 | 0,b,a,x,h=>by omega
 | n+1,0,a,x,h=>⟨x,by
  rw[v6 (show zD nA (vB 1) (cE (.int 0)) [.vl (.int (a:Int)),.vl (.int ((0:Nat):Int)),x]= .ok false from Dn),Nat.gcd_zero_right];rfl⟩
 | n+1,b+1,a,x,h=>by
  have e:C2 [.vl (.int (a:Int)),.vl (.int ((b+1:Nat):Int)),x]= .nx [.vl (.int ((b+1:Nat):Int)),.vl (.int ((a % (b+1):Nat):Int)),.vl (.int ((a % (b+1):Nat):Int))]:=by
   have g:zJ 2 (zc je (vE 0) (vE 1)) [.vl (.int (a:Int)),.vl (.int ((b+1:Nat):Int)),x]= .nx [.vl (.int (a:Int)),.vl (.int ((b+1:Nat):Int)),.vl (.int ((a % (b+1):Nat):Int))]:=by
    rw[zM (t:= .int ((a % (b+1):Nat):Int))]
    ·rfl
    ·rw[zk,v0,i3,v1,i3,B7 (by omega)]
   show zq _ _ _=_;rw[zd g];rfl
  have d:a % (b+1) < n:=by have:=io a (show b+1 > 0 by omega);omega
  obtain⟨c,i⟩:=v7 n (a % (b+1)) (b+1) (.vl (.int ((a % (b+1):Nat):Int))) d;refine⟨c, ?_⟩;rw[xh (show zD nA (vB 1) (cE (.int 0)) [.vl (.int (a:Int)),.vl (.int ((b+1:Nat):Int)),x]= .ok true from Dn) e,i,lI (b+1),← Nat.gcd_rec,lI]
theorem gm {a b:Nat}(h:b < 2 ^ 9000):gU [.int (a:Int),.int (b:Int)]= .ok (.int ((g7 a b:Nat):Int)):=by
 obtain⟨d,c⟩:=v7 (2 ^ 9000) b a .un h;show zm (AG [.vl (.int (a:Int)),.vl (.int (b:Int)),.un])=_;unfold AG;rw[zd c];rfl
theorem Ds (u:Int):As (.int u)= .ok (.int (u.natAbs:Int)):=by
 show R.ok (T.int (if u < 0 then -u else u))=_
 congr 2
 split <;> omega
theorem Xi {u:Int}{g:Nat}(a:1<=g)(h:g < 2 ^ 9000):gO (.int u) (.int (g:Int))= .ok (.int (u / (g:Int))):=by
 show (if _ then _ else _)=_
 rw[if_pos];refine⟨by omega, ?_⟩
 rw[eD];exact(Nat.log2_lt (by omega)).mpr h
theorem FB (u:Int)(d:Nat)(h:1<=d):(mkRat u d).num=u / ((g7 u.natAbs d:Nat):Int)/\(((mkRat u d).den:Nat):Int)=(d:Int) / ((g7 u.natAbs d:Nat):Int):=by
 rw[hV,hW,if_neg (by omega),if_neg (by omega),lI d]
 exact⟨rfl,Int.natCast_ediv _ _⟩
theorem gp {u:Int}{d:Nat}(h:1<=d):1<=g7 u.natAbs d/\g7 u.natAbs d<=d:=⟨Nat.gcd_pos_of_pos_right _ h,Nat.gcd_le_right _ h⟩
theorem jm {u:Int}{d:Nat}(h:1<=d)(hd:d < 2 ^ 9000):oE [.int u,.int (d:Int)]= .ok (mr (mkRat u d)):=by
 obtain⟨a,i⟩:=gp (u:=u) h;have c:g7 u.natAbs d < 2 ^ 9000:=bC i hd;obtain⟨j,e⟩:=FB u d h;show zm (tV gU [.vl (.int u),.vl (.int (d:Int)),.un])=_;unfold tV;have g:zJ 2 (zb 2 gU (za (mn As (vB 0)) (za (vE 1) (zf)))) [.vl (.int u),.vl (.int (d:Int)),.un]= .nx [.vl (.int u),.vl (.int (d:Int)),.vl (.int ((g7 u.natAbs d:Nat):Int))]:=by
  rw[zM (t:= .int ((g7 u.natAbs d:Nat):Int))]
  ·rfl
  ·rw[zP,ZD,w0,i3,Ds,i3,v1,i3,gm hd]
 rw[zd g,zl (t:=mr (mkRat u d))]
 ·rfl
 ·unfold mr;rw[j,e];exact UH (Xi a c) (Xi a c)
structure Bd (q:Rat) (m:Nat):Prop where
 num:q.num.natAbs<=2 ^ m
 den:q.den<=2 ^ m
theorem Bd.le {q:Rat}{m n:Nat}(h:Bd q m)(a:m<=n):Bd q n:=⟨aB h.num (c7 (by decide) a),aB h.den (c7 (by decide) a)⟩
theorem Bd.mk' {u:Int}{d m:Nat}(h:1<=d)(a:u.natAbs<=2 ^ m)(c:d<=2 ^ m):Bd (mkRat u d) m:=by
 constructor
 ·rw[hV,if_neg (by omega),Int.natAbs_ediv_of_dvd]
  ·exact aB (mi _ _) a
  ·exact Int.natAbs_dvd_natAbs.mp (by simpa using Nat.gcd_dvd_right d u.natAbs)
 ·rw[hW,if_neg (by omega)]
  exact aB (mi _ _) c
theorem Xj (q:Rat):1<=q.den:=fR q.den_nz
theorem Bd.mul {p q:Rat}{m n:Nat}(h:Bd p m)(k:Bd q n):Bd (p*q) (m+n):=by
 rw[Rat.mul_def'];refine Bd.mk' (df (Xj p) (Xj q)) ?_ ?_
 ·rw[iN,fu];exact bH h.num k.num
 ·rw[fu];exact bH h.den k.den
theorem gq {p q:Rat}{m n:Nat}(h:Bd p m)(k:Bd q n):(p.num*(q.den:Int)+q.num*(p.den:Int)).natAbs<=2 ^ (m+n+1):=by
 refine aB (Int.natAbs_add_le _ _) ?_;rw[iN,iN,eD,eD];have c:=bH h.num k.den;have a:=bH k.num h.den;rw[eV,fu];have d:2 ^ n*2 ^ m=2 ^ m*2 ^ n:=dh _ _;omega
theorem Bd.add {p q:Rat}{m n:Nat}(h:Bd p m)(k:Bd q n):Bd (p+q) (m+n+1):=by
 rw[Rat.add_def'];refine Bd.mk' (df (Xj p) (Xj q)) (gq h k) ?_;refine aB (bH h.den k.den) ?_;rw[← fu];exact c7 (by decide) (by omega)
theorem Bb {n m:Nat}(h:n<=2 ^ m)(a:m < 9000):n < 2 ^ 9000:=bC h (iO (by decide) a)
theorem Dj {n m:Nat}(h:n<=2 ^ m)(a:m < 8000):n < big:=by
 unfold big;exact bC h (iO (by decide) a)
theorem EI {i j:Int}{m n:Nat}(h:i.natAbs<=2 ^ m)(k:j.natAbs<=2 ^ n)(a:m < 8000)(hn:n < 8000):oi (.int i) (.int j)= .ok (.int (i*j)):=by
 show (if _ then _ else _)=_
 rw[if_pos ⟨Dj h a,Dj k hn⟩]
theorem nd (d:Nat){m:Nat}(h:d<=2 ^ m):((d:Int)).natAbs<=2 ^ m:=by rw[eD];exact h
theorem tT {i:Nat}{a b:T}{ρ:En}(h:vE i ρ= .ok (.tup [a,b])):zc kj (vE i) (cE (.int 0)) ρ= .ok a:=by rw[zk,h,i3,zW,i3,ph]
theorem pG {i:Nat}{a b:T}{ρ:En}(h:vE i ρ= .ok (.tup [a,b])):zc kj (vE i) (cE (.int 1)) ρ= .ok b:=by rw[zk,h,i3,zW,i3,pF]
theorem v8 {f g:En->R T}{ρ:En}{i j:Int}{m n:Nat}(d:f ρ= .ok (.int i))(c:g ρ= .ok (.int j))(h:i.natAbs<=2 ^ m)(k:j.natAbs<=2 ^ n)(a:m < 8000)(hn:n < 8000):zc oi f g ρ= .ok (.int (i*j)):=by
 rw[zk,d,i3,c,i3,EI h k a hn]
theorem Eh {f g:En->R T}{ρ:En}{i j:Int}(a:f ρ= .ok (.int i))(c:g ρ= .ok (.int j)):zc zx f g ρ= .ok (.int (i+j)):=by
 rw[zk,a,i3,c,i3,Z0]
theorem yb {p q:Rat}{m n:Nat}(h:Bd p m)(k:Bd q n)(d:m+n < 8000):VR [mr p,mr q]= .ok (mr (p*q)):=by
 show zm (Ae oE [.vl (mr p),.vl (mr q)])=_;unfold Ae;rw[zl (t:=mr (p*q))]
 ·rfl
 ·rw[zP];have a:vE 0 (frz [.vl (mr p),.vl (mr q)])= .ok (.tup [.int p.num,.int p.den]):=rfl;have c:vE 1 (frz [.vl (mr p),.vl (mr q)])= .ok (.tup [.int q.num,.int q.den]):=rfl;rw[v8 (tT a) (tT c) h.num k.num (by omega) (by omega),i3,v8 (pG a) (pG c) (nd _ h.den) (nd _ k.den) (by omega) (by omega),i3,← fy,
   jm (df (Xj p) (Xj q)) (Bb (m:=m+n) (by rw[fu];exact bH h.den k.den) (by omega)),← Rat.mul_def']
theorem gr {p q:Rat}{m n:Nat}(h:Bd p m)(k:Bd q n)(d:m+n < 8000):gX [mr p,mr q]= .ok (mr (p+q)):=by
 show zm (tR oE [.vl (mr p),.vl (mr q)])=_;unfold tR;rw[zl (t:=mr (p+q))]
 ·rfl
 ·rw[zP];have a:vE 0 (frz [.vl (mr p),.vl (mr q)])= .ok (.tup [.int p.num,.int p.den]):=rfl;have c:vE 1 (frz [.vl (mr p),.vl (mr q)])= .ok (.tup [.int q.num,.int q.den]):=rfl;rw[Eh (v8 (tT a) (pG c) h.num (nd _ k.den) (by omega) (by omega)) (v8 (tT c) (pG a) k.num (nd _ h.den) (by omega) (by omega)),i3,v8 (pG a) (pG c) (nd _ h.den) (nd _ k.den) (by omega) (by omega),i3,← fy,
   jm (df (Xj p) (Xj q)) (Bb (m:=m+n) (by rw[fu];exact bH h.den k.den) (by omega)),← Rat.add_def']
noncomputable def xi:List Rat->Rat
 | []=>0
 | q :: r=>q+xi r
abbrev CL:En->RS:=zJ 1 (zb 2 gX (za (vE 1) (za (vE 2) (zf))))
theorem v9 {s:Sl}{m:Nat}:∀(qs:List Rat) (p:Rat) (n:Nat) (x:Sl),(∀q∈qs,Bd q m)->Bd p n->n+qs.length*(m+1) < 8000->
  ∃c,Zp (zG 2) CL (qs.map mr) [s,.vl (mr p),x]= .nx [s,.vl (mr (p+xi qs)),c]
 | [],p,n,x,_,_,_=>⟨x,by rw[xi,Rat.add_zero];rfl⟩
 | q :: r,p,n,x,g,hp,j=>by
  rw[ar,fk]at j;have d:=g q ac;obtain⟨c,e⟩:=v9 r (p+q) (n+m+1) (.vl (mr q)) (λa i=>g a (ab _ i)) (hp.add d) (by omega)
  refine⟨c, ?_⟩;rw[aA,jx (BK 2 _ _) (ρ2:=[s,.vl (mr (p+q)),.vl (mr q)]),e,xi,Rat.add_assoc];show zJ 1 _ [s,.vl (mr p),.vl (mr q)]=_;rw[zM (t:=mr (p+q))]
  ·rfl
  ·rw[zP,v1,i3,show vE 2 [s,.vl (mr p),.vl (mr q)]= .ok (mr q) from rfl,i3,gr hp d (by omega)]
theorem EA:Bd 0 0:=⟨by decide,by decide⟩
theorem bd1:Bd 1 0:=⟨by decide,by decide⟩
theorem uY {qs:List Rat}{m:Nat}(h:∀q∈qs,Bd q m)(g:qs.length*(m+1) < 8000):pW [.lst (qs.map mr)]= .ok (mr (xi qs)):=by
 show zm (sZ gX [.vl (.lst (qs.map mr)),.un,.un])=_;unfold sZ;have d:zJ 1 (Zb (za (cE (.int 0)) (za (cE (.int 1)) (zf)))) [.vl (.lst (qs.map mr)),.un,.un]= .nx [.vl (.lst (qs.map mr)),.vl (mr 0),.un]:=by
  rw[zM (UH rfl rfl)];rfl
 obtain⟨a,e⟩:=v9 (s:= .vl (.lst (qs.map mr))) qs 0 0 .un h EA (by omega)
 have c:j2 (ZK (vE 0)) (zG 2) CL [.vl (.lst (qs.map mr)),.vl (mr 0),.un]= .nx [.vl (.lst (qs.map mr)),.vl (mr (xi qs)),a]:=by
  rw[Rat.zero_add]at e;exact e
 rw[zd d,zd c];rfl
noncomputable def ZI:List Rat->Rat
 | []=>1
 | q :: r=>q*ZI r
noncomputable def Y0 (cs:List (Str×Int)):Int:=(cs.map (·.2)).sum
mutual
noncomputable def Kd.sh:Kd->T->Rat
 | .whole lo hi=>λ_=>mkRat 1 (hi+1 - lo).toNat
 | .pick cs=>λt=>match t with | .str x=>mkRat ((cs.lookup x).getD 0) (Y0 cs).toNat | _=>0
 | .row c=>λt=>match t with | .tup a=>Kd.shs c a | _=>0
 | .many k lo hi=>λt=>match t with | .tup a=>mkRat 1 (hi+1 - lo)*ZI (a.map k.sh) | _=>0
noncomputable def Kd.shs:List Kd->List T->Rat
 | []=>λ_=>1
 | k :: c=>λa=>match a with | []=>1 | x :: a=>k.sh x*Kd.shs c a
end
theorem vc:∀(a:List Kd) (c:List T),Kd.shs a c=ZI ((a.zip c).map λq=>q.1.sh q.2)
 | [],_=>by simp[Kd.shs,ZI]
 | k :: a,[]=>by simp[Kd.shs,ZI]
 | k :: a,x :: c=>by simp[Kd.shs,ZI,vc a c]
theorem ve (k:Kd):∀a:List T,((aq a.length k).zip a).map (λq=>q.1.sh q.2)=a.map k.sh
 | []=>rfl
 | x :: a=>by rw[ar,cb,l8,aA,aA,ve k a]
theorem Bd.prod {m:Nat}:∀{qs:List Rat},(∀q∈qs,Bd q m)->Bd (ZI qs) (qs.length*m)
 | [],_=>by rw[ZI];exact bd1.le (aX _)
 | q :: r,h=>by
  rw[ZI,ar,fk,cD,ll];exact(h q ac).mul (Bd.prod λa c=>h a (ab _ c))
theorem vf:∀cs:List (Str×Int),jH (cs.map Jf)=some cs
 | []=>rfl
 | c :: cs=>by
  show (match jH (cs.map Jf) with | some l=>some ((c.1,c.2) :: l) | none=>none)=_
  rw[vf cs]
theorem Dst.nd {a:List Str}(h:Dst a):a.Nodup:=by
 rw[List.Nodup,dO];intro i j hi d c e;refine h j _ (ak d) ?_;rw[← e];rw[List.mem_take_iff_getElem];exact⟨i,by omega,rfl⟩
theorem wI:∀(cs:List (Str×Int)) (x:Str),(cs.any λc=>c.1 == x)=true->∃i,cs.lookup x=some i/\(x,i)∈cs
 | [],x,h=>by simp at h
 | c :: cs,x,h=>by
  rw[iV,iw]at h
  by_cases e:c.1=x
  ·refine⟨c.2, ?_, ?_⟩
   ·rw[aG];simp[e]
   ·rw[← e];exact ac
  ·have h:(cs.any λc=>c.1 == x)=true:=h.resolve_left (by simp[e])
   obtain⟨i,a,d⟩:=wI cs x h;refine⟨i, ?_,ab _ d⟩;rw[aG];have:(x == c.1)=false:=beq_eq_false_iff_ne.mpr (bf e);rw[this];exact a
theorem Xk:∀{cs:List (Str×Int)},(∀c∈cs,1<=c.2/\c.2<=20)->(cs.length:Int)<=Y0 cs/\Y0 cs<=20*cs.length
 | [],_=>by simp[Y0]
 | c :: cs,h=>by
  have i:=Xk (cs:=cs) λa d=>h a (ab _ d);have g:=h c ac;have e:Y0 (c :: cs)=c.2+Y0 cs:=by simp[Y0]
  rw[e,ar];omega
theorem Xl {d:Nat}{cs:List (Str×Int)}(h:(Kd.pick cs).Ok (d+1)):1<=Y0 cs/\Y0 cs<=80/\∀c∈cs,1<=c.2/\c.2<=20:=by
 have a:∀c∈cs,1<=c.2/\c.2<=20:=λc e=>(h.2.2.1 c e).2;have:=Xk a;have g:=h.1;have i:=h.2.1;exact⟨by omega,by omega,a⟩
theorem vg (cs:List (Str×Int))(x:Str):(Kd.pick cs).sh (.str x)=mkRat ((cs.lookup x).getD 0) (Y0 cs).toNat:=by rw[Kd.sh]
theorem D2 {cs:List (Str×Int)}(hd:Dst (cs.map (·.1))){x:Str}{i:Int}(h:cs.lookup x=some i):qh (.tup (cs.map Jf)) (.str x)= .ok (.int i):=by
 unfold qh;dsimp only;rw[vf];dsimp only;rw[if_pos hd.nd,h]
theorem gu {cs:List (Str×Int)}(hd:Dst (cs.map (·.1))):WM (.tup (cs.map Jf))= .ok (.int (Y0 cs)):=by
 unfold WM;dsimp only;rw[vf];dsimp only;rw[if_pos hd.nd];rfl
theorem xj {d:Nat}{cs:List (Str×Int)}(h:(Kd.pick cs).Ok (d+1)){x:Str}{i:Int}(a:cs.lookup x=some i):rN [(Kd.pick cs).t,.str x]= .ok (mr ((Kd.pick cs).sh (.str x))):=by
 obtain⟨g,e,_⟩:=Xl h;show zm (sV oE [.vl (Kd.pick cs).t,.vl (.str x),.un])=_;unfold sV;have c:zc kj (vE 0) (cE (.int 1)) [.vl (Kd.pick cs).t,.vl (.str x),.un]= .ok (.tup (cs.map Jf)):=by rw[Kd.t];exact JM
 have j:Y0 cs=(((Y0 cs).toNat:Nat):Int):=by omega
 show zm ((R.bind _ _).s _)=_;rw[c,i3,v1,i3,D2 h.2.2.2 a,i3,gu h.2.2.2,i3,j,jm (by omega) (Bb (m:=7) (by omega) (by decide)),Zx,vg,a]
 rfl
abbrev CZ (c:List T->R T):En->RS:=zJ 2 (zb 2 VR (za (vE 2) (za (zb 2 c (za (vE 3) (za (vE 4) (zf)))) (zf))))
theorem vh {c:List T->R T}{s t:Sl}{m:Nat}:∀(qs:List (Kd×T)) (p:Rat) (n:Nat) (x y:Sl),(∀q∈qs,c [q.1.t,q.2]= .ok (mr (q.1.sh q.2))/\Bd (q.1.sh q.2) m)->Bd p n->n+qs.length*m < 8000->
  ∃d g,Zp (zO 3 4) (CZ c) (qs.map λq=>T.tup [q.1.t,q.2]) [s,t,.vl (mr p),x,y]= .nx [s,t,.vl (mr (p*ZI (qs.map λq=>q.1.sh q.2))),d,g]
 | [],p,n,x,y,_,_,_=>⟨x,y,by simp only[c9,ZI,Rat.mul_one];rfl⟩
 | q :: r,p,n,x,y,h,hp,l=>by
  rw[ar,fk]at l;obtain⟨j,i⟩:=h q ac;obtain⟨d,g,e⟩:=vh r (p*q.1.sh q.2) (n+m) (.vl q.1.t) (.vl q.2) (λa k=>h a (ab _ k)) (hp.mul i) (by omega)
  refine⟨d,g, ?_⟩;rw[aA,aA,jx (ρ1:=[s,t,.vl (mr p),.vl q.1.t,.vl q.2]) (ρ2:=[s,t,.vl (mr (p*q.1.sh q.2)),.vl q.1.t,.vl q.2]) rfl,e,ZI,Rat.mul_assoc];show zJ 2 _ [s,t,.vl (mr p),.vl q.1.t,.vl q.2]=_;rw[zM (t:=mr (p*q.1.sh q.2))]
  ·rfl
  ·rw[zP,show vE 2 [s,t,.vl (mr p),.vl q.1.t,.vl q.2]= .ok (mr p) from rfl,i3,zP,show vE 3 [s,t,.vl (mr p),.vl q.1.t,.vl q.2]= .ok q.1.t from rfl,i3,show vE 4 [s,t,.vl (mr p),.vl q.1.t,.vl q.2]= .ok q.2 from rfl,i3,j,i3,yb hp i (by omega)]
theorem uj {c:List T->R T}{s:T}{m:Nat}(d:List Kd)(a:List T)(u:Jv s= .ok (d.map Kd.t))(v:d.length<=3)(p:m<=1000)(H:∀q∈d.zip a,c [q.1.t,q.2]= .ok (mr (q.1.sh q.2))/\Bd (q.1.sh q.2) m):
  zm (rW VR c (mv 5 [s,.tup a]))= .ok (mr (ZI ((d.zip a).map λq=>q.1.sh q.2))):=by
 have e:mv 5 [s,.tup a]=[.vl s,.vl (.tup a),.un,.un,.un]:=rfl;have hz:(d.zip a).length*m < 8000:=by
  have r:(d.zip a).length<=3:=by rw[iy];omega
  have:=bH r p;omega
 obtain⟨j,l,g⟩:=vh (c:=c) (s:= .vl s) (t:= .vl (.tup a)) (d.zip a) 1 0 .un .un H bd1 (by omega)
 have o:zJ 2 (Zb (za (cE (.int 1)) (za (cE (.int 1)) (zf)))) [.vl s,.vl (.tup a),.un,.un,.un]= .nx [.vl s,.vl (.tup a),.vl (mr 1),.un,.un]:=by
  rw[zM (UH rfl rfl)];rfl
 have k:gM (vE 0) (vE 1) [.vl s,.vl (.tup a),.vl (mr 1),.un,.un]= .ok ((d.zip a).map λq=>T.tup [q.1.t,q.2]):=by
  show (Jv s).bind _=_;rw[u,i3,← Ei];rfl
 have i:j2 (gM (vE 0) (vE 1)) (zO 3 4) (CZ c) [.vl s,.vl (.tup a),.vl (mr 1),.un,.un]= .nx [.vl s,.vl (.tup a),.vl (mr (ZI ((d.zip a).map λq=>q.1.sh q.2))),j,l]:=by
  unfold j2;rw[k,Zx,g,Rat.one_mul]
 rw[e,rW,zd o,zd i];rfl
noncomputable def sb:Nat->Nat
 | 0=>0
 | d+1=>7+3*sb d
theorem Ah (d:Nat):sb (d+1)=7+3*sb d:=rfl
abbrev vi (a b:T):En:=[.vl a,.vl b,.un]
theorem G6 {x w:Str}{r:List T}{b:T}(h:(x == w)=false){f:En->RS}:mB (zD mm (zc kj (vE 0) (cE (.int 0))) (cE (.str w))) f my (vi (.tup (.str x :: r)) b)= .nx (vi (.tup (.str x :: r)) b):=
 zu (by rw[show zD mm (zc kj (vE 0) (cE (.int 0))) (cE (.str w)) (vi (.tup (.str x :: r)) b)= .ok (x == w) from mU,h])
theorem AY {x:Str}{r:List T}{b:T}{f:En->RS}:mB (zD mm (zc kj (vE 0) (cE (.int 0))) (cE (.str x))) f my (vi (.tup (.str x :: r)) b)=f (vi (.tup (.str x :: r)) b):=
 Ji (by rw[show zD mm (zc kj (vE 0) (cE (.int 0))) (cE (.str x)) (vi (.tup (.str x :: r)) b)= .ok (x == x) from mU,beq_self_eq_true])
theorem yc:∀(d n:Nat),2*d<=n->d<=3->∀(k:Kd) (x:T),k.Ok d->k.has x=true->nv n 0 [k.t,x]= .ok (mr (k.sh x))/\Bd (k.sh x) (sb d)
 | 0,_,_,_,_,_,h,_=>h.elim
 | d+1,n+2,hn,hd3,k,x,h,o=>by
  have I:=yc d n (by omega) (by omega)
  have w:sb d<=1000:=by
   have h2:d<=2:=by omega
   rcases(show d=0\/d=1\/d=2 by omega) with rfl | rfl | rfl <;> decide
  have e:nv (n+2) 0 [k.t,x]=zm (o6 (nY 20) VR rN (nv (n+1) 1) (vi k.t x)):=by rw[nv];rfl
  have J:∀s y,nv (n+1) 1 [s,y]=zm (rW VR (nv n 0) (mv 5 [s,y])):=λs y=>by rw[nv];intro h;cases h
  rw[e];cases k with
  | whole lo hi=>
   obtain⟨U,Z,Q⟩:=h;have C:=j4 (d:=1) (by omega) (UN d lo hi ⟨U,Z,Q⟩)
   rw[ZX]at C;constructor
   ·rw[show (Kd.whole lo hi).t= .tup [.str "whole",.int lo,.int hi] from by rw[Kd.t]]at C ⊢
    rw[o6,zB (t:=mr (mkRat 1 (hi+1 - lo).toNat)),Kd.sh]
    ·rfl
    ·rw[AY,zl (t:=mr (mkRat 1 (hi+1 - lo).toNat))];show Zb _ (vi _ x)=_;have F:mr (mkRat 1 (hi+1 - lo).toNat)= .tup [.int 1,.int (((hi+1 - lo).toNat:Nat):Int)]:=by
      unfold mr;rw[hV,hW,if_neg (by omega),if_neg (by omega),show (1:Int).natAbs=1 from rfl,lJ,Nat.div_one]
      rfl
     rw[F];exact UH rfl (by rw[zI,v0,i3,C])
   ·rw[Kd.sh];refine(Bd.mk' (m:=7) (by omega) (by decide) (by omega)).le ?_
    rw[Ah];omega
  | pick cs=>
   cases x with
   | str y=>
    have j :(cs.any λc=>c.1 == y)=true:=by rw[Kd.has]at o;exact o
    obtain⟨i,hi,hm⟩:=wI cs y j;obtain⟨N,P,B⟩:=Xl h;have hw:=B _ hm;constructor
    ·have M:=xj h hi;rw[show (Kd.pick cs).t= .tup [.str "pick",.tup (cs.map Jf)] from by rw[Kd.t]]at M ⊢
     rw[o6,zd (G6 (by decide)),zB (t:=mr ((Kd.pick cs).sh (.str y)))]
     ·rfl
     ·rw[AY,zl (t:=mr ((Kd.pick cs).sh (.str y)))];show zb 2 _ _ (vi _ _)=_;rw[zP,v0,i3,v1,i3,M]
    ·rw[vg,hi];refine(Bd.mk' (m:=7) (by omega) ?_ (by omega)).le ?_
     ·show i.natAbs<=128;omega
     ·rw[Ah];omega
   | _=>rw[Kd.has]at o;cases o
  | row l=>
   cases x with
   | tup g=>
    have j :(g.length == l.length && Kd.hass l g)=true:=by rw[Kd.has]at o;exact o
    rw[aj,beq_iff_eq,UO,aS]at j;have H:∀q∈l.zip g,nv n 0 [q.1.t,q.2]= .ok (mr (q.1.sh q.2))/\Bd (q.1.sh q.2) (sb d):=λq p=>I q.1 q.2 (h.2.2 q.1 (eB p).1) (j.2 q p);have hp:=uj (s:= .tup (l.map Kd.t)) l g rfl h.2.1 w H;have D:(Kd.row l).sh (.tup g)=ZI ((l.zip g).map λq=>q.1.sh q.2):=by rw[Kd.sh,← vc]
    rw[D];constructor
    ·rw[show (Kd.row l).t= .tup [.str "row",.tup (l.map Kd.t)] from by rw[Kd.t,Kd.ts_map]]
     rw[o6,zd (G6 (by decide)),zd (G6 (by decide)),zB (t:=mr (ZI ((l.zip g).map λq=>q.1.sh q.2)))]
     ·rfl
     ·rw[AY,zl (t:=mr (ZI ((l.zip g).map λq=>q.1.sh q.2)))];show zb 2 _ _ (vi _ _)=_;rw[zP,JM,i3,v1,i3,J,hp]
    ·have v:=Bd.prod (qs:=(l.zip g).map λq=>q.1.sh q.2) (m:=sb d) (λq p=>by
      obtain⟨a,G,rfl⟩:=aH.mp p;exact(H a G).2)
     refine v.le ?_;have O:=h.2.1;have hz:((l.zip g).map λq=>q.1.sh q.2).length<=3:=by rw[af,iy];omega
     have:=dH (sb d) hz;rw[Ah];omega
   | _=>rw[Kd.has]at o;cases o
  | many k lo hi=>
   cases x with
   | tup g=>
    have j :(decide (lo<=g.length) && decide (g.length<=hi) && g.all k.has)=true:=by rw[Kd.has]at o;exact o
    rw[aj,aj,decide_eq_true_eq,decide_eq_true_eq,aS]at j;obtain⟨⟨l1,l2⟩,j⟩:=j;have h1:=h.1;have O:=h.2.1;have r:g.length<=3:=by omega
    have H:∀q∈(aq g.length k).zip g,nv n 0 [q.1.t,q.2]= .ok (mr (q.1.sh q.2))/\Bd (q.1.sh q.2) (sb d):=λq p=>by
     have:=eB p;have e:=ck this.1;refine I q.1 q.2 ?_ ?_
     ·rw[e];exact h.2.2
     ·rw[e];exact j q.2 this.2
    have hp:=uj (s:= .lst ((aq g.length k).map Kd.t)) (aq g.length k) g rfl (by rw[aZ];exact r) w H
    rw[ve]at hp;have D:(Kd.many k lo hi).sh (.tup g)=mkRat 1 (hi+1 - lo)*ZI (g.map k.sh):=by rw[Kd.sh]
    have v:=Bd.prod (qs:=g.map k.sh) (m:=sb d) (λq p=>by
      rw[← ve]at p;obtain⟨a,G,rfl⟩:=aH.mp p;exact(H a G).2)
    rw[af]at v;have u:Bd (mkRat 1 (hi+1 - lo)) 2:=Bd.mk' (by omega) (by decide) (by show hi+1 - lo<=4;omega)
    have hz:=dH (sb d) r;rw[D];constructor
    ·rw[show (Kd.many k lo hi).t= .tup [.str "many",k.t,.int (lo:Int),.int (hi:Int)] from by rw[Kd.t]]
     have S:zc zV (jB (za (zc kj (vE 0) (cE (.int 1))) (zf))) (mn ZL (vB 1)) [.vl (.tup [.str "many",k.t,.int (lo:Int),.int (hi:Int)]),.vl (.tup g),.vl (mr (mkRat 1 (hi+1 - lo)))]= .ok (.lst ((aq g.length k).map Kd.t)):=by
      rw[zk,sQ JM,i3,ZD,w1,i3,u6,i3,UL r,jw,bq]
     have F:mr (mkRat 1 (hi+1 - lo))= .tup [.int 1,.int ((hi:Int) - (lo:Int)+1)]:=by
      unfold mr;rw[hV,hW,if_neg (by omega),if_neg (by omega),show (1:Int).natAbs=1 from rfl,lJ,Nat.div_one,show ((hi+1 - lo:Nat):Int)=(hi:Int) - (lo:Int)+1 by omega]
      rfl
     have X:zJ 2 (Zb (za (cE (.int 1)) (za (zc zx (zc jR (zc kj (vE 0) (cE (.int 3))) (zc kj (vE 0) (cE (.int 2)))) (cE (.int 1))) (zf)))) (vi (.tup [.str "many",k.t,.int (lo:Int),.int (hi:Int)]) (.tup g))= .nx [.vl (.tup [.str "many",k.t,.int (lo:Int),.int (hi:Int)]),.vl (.tup g),.vl (mr (mkRat 1 (hi+1 - lo)))]:=by
      rw[F,zM (UH rfl (y:= .int ((hi:Int) - (lo:Int)+1)) (yV (by rw[zk,G4,i3,UK,i3,Z7])))]
      rfl
     rw[o6,zd (G6 (by decide)),zd (G6 (by decide)),zd (G6 (by decide)),zd X,zl (t:=mr (mkRat 1 (hi+1 - lo)*ZI (g.map k.sh)))]
     ·rfl
     ·show zb 2 _ _ [.vl (.tup [.str "many",k.t,.int (lo:Int),.int (hi:Int)]),.vl (.tup g),.vl (mr (mkRat 1 (hi+1 - lo)))]=_;rw[zP,show vE 2 [.vl (.tup [.str "many",k.t,.int (lo:Int),.int (hi:Int)]),.vl (.tup g),.vl (mr (mkRat 1 (hi+1 - lo)))]= .ok (mr (mkRat 1 (hi+1 - lo))) from rfl,i3,zP,S,i3,v1,i3,J,hp,i3,yb u v (by omega)]
    ·refine(u.mul v).le ?_;rw[Ah];omega
   | _=>rw[Kd.has]at o;cases o
mutual
noncomputable def Kd.dp:Kd->Int
 | .whole _ _=>1
 | .pick _=>1
 | .row a=>1+Kd.dpm a
 | .many k _ _=>1+k.dp
noncomputable def Kd.dpm:List Kd->Int
 | []=>0
 | k :: a=>if Kd.dpm a < k.dp then k.dp else Kd.dpm a
end
mutual
noncomputable def Kd.wds:Kd->List Str
 | .whole _ _=>[]
 | .pick cs=>cs.map (·.1)
 | .row a=>Kd.wdss a
 | .many k _ _=>k.wds
noncomputable def Kd.wdss:List Kd->List Str
 | []=>[]
 | k :: a=>k.wds++Kd.wdss a
end
mutual
noncomputable def Kd.rlo:Kd->Int
 | .whole lo _=>lo
 | .pick _=>0
 | .row a=>Kd.rlos a
 | .many k lo hi=>if (hi:Int)*k.rlo < (lo:Int)*k.rlo then (hi:Int)*k.rlo else (lo:Int)*k.rlo
noncomputable def Kd.rlos:List Kd->Int
 | []=>0
 | k :: a=>k.rlo+Kd.rlos a
end
theorem xk:∀a:List Kd,Kd.rlos a=(a.map Kd.rlo).sum
 | []=>by simp[Kd.rlos]
 | k :: a=>by simp only[Kd.rlos,aA,ff,xk a]
theorem JT:∀a:List Kd,Kd.wdss a=a.flatMap Kd.wds
 | []=>by simp[Kd.wdss]
 | k :: a=>by simp only[Kd.wdss,bK,JT a]
theorem yd {t:T}{x:Str}{r:List T}(c:t= .tup (.str x :: r))(a:(x == "row")=false)(d:(x == "many")=false):oo [t]= .ok (.tup []):=by
 subst c;show zm (oR [.vl (.tup (.str x :: r))])=_;rw[oR,zd (zu (by rw[mU,a])),zd (zu (by rw[mU,d])),zl (t:= .tup [])]
 ·rfl
 ·rfl
noncomputable def ye:Kd->List Kd
 | .row a=>a
 | .many k _ _=>[k]
 | _=>[]
theorem DY (k:Kd):oo [k.t]= .ok (.tup ((ye k).map Kd.t)):=by
 cases k with
 | whole lo hi=>exact yd (x:="whole") (by rw[Kd.t]) rfl rfl
 | pick cs=>exact yd (x:="pick") (by rw[Kd.t]) rfl rfl
 | row a=>
  have e:oo [(Kd.row a).t]=zm (oR [.vl (.tup [.str "row",.tup (a.map Kd.t)])]):=by rw[Kd.t,Kd.ts_map];rfl
  rw[e,oR,zB (t:= .tup (a.map Kd.t))]
  ·rfl
  ·rw[Ji (by rw[mU,beq_self_eq_true]),zl]
   show zc _ _ _ [.vl (.tup [.str "row",.tup (a.map Kd.t)])]=_;rw[JM]
 | many k lo hi=>
  have e:oo [(Kd.many k lo hi).t]=zm (oR [.vl (mt k.t lo hi)]):=by rw[Kd.t];rfl
  rw[e,oR,zd (zu (by rw[mU];rfl)),zB (t:= .tup [k.t])]
  ·rfl
  ·rw[Ji (by rw[mU,beq_self_eq_true]),zl]
   show Zb _ [.vl (mt k.t lo hi)]=_;rw[Bh JM]
theorem gC {d:Nat}{k:Kd}(h:k.Ok (d+1)):(ye k).length<=3/\∀q∈ye k,q.Ok d:=by
 cases k with
 | whole lo hi=>exact⟨by simp[ye],λq a=>by cases a⟩
 | pick cs=>exact⟨by simp[ye],λq a=>by cases a⟩
 | row c=>exact⟨h.2.1,h.2.2⟩
 | many k lo hi=>exact⟨by simp[ye],λq a=>by rw[av.mp a];exact h.2.2⟩
theorem yf {k:Kd}(h:∀cs,k ≠ .pick cs):k.wds=(ye k).flatMap Kd.wds:=by
 cases k with
 | whole lo hi=>simp[Kd.wds,ye]
 | pick cs=>exact absurd rfl (h cs)
 | row a=>simp only[Kd.wds,ye,JT]
 | many k lo hi=>simp[Kd.wds,ye]
theorem vj {c e:Type}{f:c->List e}{m:Nat}:∀{l:List c},(∀a∈l,(f a).length<=m)->(l.flatMap f).length<=l.length*m
 | [],_=>by simp
 | a :: l,h=>by
  have x:=h a ac;have y:=vj (l:=l) λb d=>h b (ab _ d);rw[bK,ay,ar,ig];omega
theorem JU:∀(d:Nat) (k:Kd),k.Ok (d+1)->k.wds.length<=4*3 ^ d
 | d,.whole lo hi,_=>by simp[Kd.wds]
 | d,.pick cs,h=>by
  have:1<=3 ^ d:=fR (by simp)
  have:=h.2.1;simp only[Kd.wds,af];omega
 | 0,.row c,h=>by
  have g:=h.1;obtain⟨k,e⟩:=uf (show 0 < c.length from g);exact(h.2.2 k (cN e)).elim
 | d+1,.row c,h=>by
  simp only[Kd.wds,JT];have a:=vj (f:=Kd.wds) (m:=4*3 ^ d) λk e=>JU d k (h.2.2 k e);have b:c.length*(4*3 ^ d)<=3*(4*3 ^ d):=dH _ h.2.1;rw[eV];omega
 | 0,.many k lo hi,h=>h.2.2.elim
 | d+1,.many k lo hi,h=>by
  have:=JU d k h.2.2;simp only[Kd.wds];rw[eV];omega
theorem vk {c:List T->R T}{K:Sl}:∀(a:List Kd) (acc:List T) (x:Sl),(∀k∈a,c [k.t]= .ok (.lst (k.wds.map T.str)))->acc.length+(a.flatMap Kd.wds).length<=mq->∃d,Zp (zG 2) (uu 1 (zb 1 c (za (vE 2) (zf)))) (a.map Kd.t) [K,.ow acc,x]= .nx [K,.ow (acc++(a.flatMap Kd.wds).map T.str),d]
 | [],acc,x,_,_=>⟨x,by show RS.nx _=RS.nx _;rw[List.flatMap_nil,c9,bb]⟩
 | k :: a,acc,x,h,j=>by
  rw[bK,ay]at j;obtain⟨d,g⟩:=vk (K:=K) a (acc++k.wds.map T.str) (.vl k.t) (λq l=>h q (ab _ l)) (by rw[ay,af];omega)
  refine⟨d, ?_⟩;have e:uu 1 (zb 1 c (za (vE 2) (zf))) [K,.ow acc,.vl k.t]= .nx [K,.ow (acc++k.wds.map T.str),.vl k.t]:=
   QN (i:=1) (ts:=acc) rfl (by rw[zI,v2,i3,h k ac]) (by simp;omega)
  rw[aA,jx rfl e,g,bK,cz,bU]
theorem JV:∀(d n:Nat),d<=n->d<=3->∀k:Kd,k.Ok d->n8 n 0 [k.t]= .ok (.lst (k.wds.map T.str))
 | 0,_,_,_,_,h=>h.elim
 | d+1,n+1,hn,hd,k,h=>by
  have p:mq=16777216:=rfl;obtain⟨x,l⟩:=gC h;have e:n8 (n+1) 0 [k.t]=zm (tM nZ oo (n8 n 0) [.vl k.t,.un,.un]):=by rw[n8];rfl
  rw[e,tM]
  by_cases hp:∃cs,k= .pick cs
  ·obtain⟨cs,rfl⟩:=hp;rw[zB (t:= .lst (cs.map λc=>T.str c.1))]
   ·simp only[Kd.wds,bg];rfl
   ·rw[Ji (by rw[Kd.t,mU,beq_self_eq_true]),zl]
    show zb 1 _ _ [.vl (Kd.pick cs).t,.un,.un]=_;rw[zI,v0,i3,UR cs h.2.1]
  ·have a :∀cs,k ≠ .pick cs:=λcs e=>hp ⟨cs,e⟩;have o:zD mm (zc kj (vE 0) (cE (.int 0))) (cE (.str "pick")) [.vl k.t,.un,.un]= .ok false:=by
    cases k with
    | pick cs=>exact absurd rfl (a cs)
    | whole lo hi=>rw[Kd.t,mU];rfl
    | row y=>rw[Kd.t,mU];rfl
    | many k lo hi=>rw[Kd.t,mU];rfl
   have g:((ye k).flatMap Kd.wds).length<=36:=by
    rw[← yf a];have:=JU d k h;have:3 ^ d<=3 ^ 2:=c7 (by omega) (by omega)
    omega
   obtain⟨j,r⟩:=vk (c:=n8 n 0) (K:= .vl k.t) (ye k) [] .un (λq v=>JV d n (by omega) (by omega) q (l q v)) (by rw[bR];omega)
   have u:WF 1 zf [.vl k.t,.un,.un]= .nx [.vl k.t,.ow [],.un]:=rfl;have i:j2 (ZK (zb 1 oo (za (vE 0) (zf)))) (zG 2) (uu 1 (zb 1 (n8 n 0) (za (vE 2) (zf)))) [.vl k.t,.ow [],.un]= .nx [.vl k.t,.ow ([]++((ye k).flatMap Kd.wds).map T.str),j]:=by
    have w:ZK (zb 1 oo (za (vE 0) (zf))) [.vl k.t,.ow [],.un]= .ok ((ye k).map Kd.t):=by
     rw[ZV,zI,v0,i3,DY,i3];rfl
    unfold j2;rw[w,Zx];exact r
   rw[zd (zu o),zd u,zd i,zl (t:= .lst (k.wds.map T.str))]
   ·rfl
   ·rw[yf a];rfl
theorem vo {k:Kd}(a:k.Ok 3):n6 [k.t]= .ok .non:=by
 have hi:=QD 3 k a;show zm (tX oj [.vl k.t])=_;rw[tX,zu]
 ·rfl
 ·show uy (wg (zb 1 oj (za (vE 0) zf))) [.vl k.t]=_;rw[UD,wA,zI,v0,i3,yS _ (Wg 3 _ hi).so,hi];rfl
theorem jz {k:Kd}(a:k.Ok 3)(r:k.all.length<=500):om [k.t]= .ok (.lst k.all):=by
 show zm (tO n6 (nY 20) (oD 20) [.vl k.t,.un])=_;have p:zJ 1 (zb 1 (nY 20) (za (vE 0) (zf))) [.vl k.t,.un]= .nx (mE k.t (.int (k.all.length:Int))):=by
  rw[zM (t:= .int (k.all.length:Int))]
  ·rfl
  ·rw[zI,v0,i3,j4 (by omega) a]
 have e:zD ny (vB 1) (cE (.int 500)) (mE k.t (.int (k.all.length:Int)))= .ok false:=by
  rw[zX,w1,i3,zW,i3,KU,decide_eq_false (by omega)]
 have q:Zt (vE 1) (mE k.t (.int (k.all.length:Int)))= .ok (rng 0 k.all.length):=by
  rw[KS (j:=(k.all.length:Int)) rfl ⟨by omega,by omega⟩,bv]
 have o:zy (zG 0) Z3 (zb 2 (oD 20) (za (vE 1) (za (vE 0) (zf)))) 1 [0] (mE k.t (.int (k.all.length:Int))) (rng 0 k.all.length)= .ok ((rng 0 k.all.length).map λt=>match t with | .int i=>(k.all[i.toNat]?).getD .non | y=>y):=
  zU _ (by unfold rng;rw[af,bJ];have:mq=16777216:=rfl;omega) λt c=>by
   unfold rng at c;obtain⟨i,hi,rfl⟩:=aH.mp c;obtain⟨x,d⟩:=uf (bN.mp hi);show zb 2 _ _ (mE (.int ((0:Int)+(i:Int))) k.t)=R.ok ((k.all[((0:Int)+(i:Int)).toNat]?).getD .non);rw[show ((0:Int)+(i:Int))=(i:Int) by omega,zP,v1,i3,v0,i3,D5 a d,bv,d]
   rfl
 have g:zT (Zt (vE 1)) (zG 0) (Z3) (zb 2 (oD 20) (za (vE 1) (za (vE 0) (zf)))) 1 [0] (mE k.t (.int (k.all.length:Int)))= .ok (.lst k.all):=by
  show ((Zt (vE 1) (mE k.t (.int (k.all.length:Int)))).bind λts=>(zy _ _ _ _ _ (mE k.t (.int (k.all.length:Int))) ts).bind λvs=>R.ok (T.lst vs))=_;rw[q,i3,o,i3];exact congrArg (λl=>R.ok (T.lst l)) (nG k)
 rw[tO,zd (JR (t:= .non) (by rw[zI,v0,i3,vo a])),zd p,zd (zu e),zl (t:= .lst k.all)]
 ·rfl
 ·show zT _ _ _ _ _ _ (mE k.t (.int (k.all.length:Int)))=_;rw[g]
theorem uk {r:Ru}(h:jn 3 r):oJ [r.t]= .ok .non:=by
 show zm (sO pk [.vl r.t])=_;rw[sO,zu]
 ·rfl
 ·have e:pk [r.t]= .ok (.bl true):=by
   show zm (zA (zb 2 (pE 8) (za (vE 0) (za (cE (.int 3)) zf))) [.vl r.t])=_;rw[zl (t:= .bl true)]
   ·rfl
   ·show zb 2 _ _ [.vl r.t]=_;rw[zP,v0,i3,zW,i3];exact jM 8 3 (by omega) r h
  rw[UD,wA,zI,v0,i3,e];rfl
theorem vp {f:En->R T}{ρ:En}:zm (zA f ρ)=f (frz ρ):=by rw[Z5,jZ]
theorem jO {d:Type}{f g:d->T}{fe:En->R T}{k:Nat}{js:List Nat}{ρ:En}(l:List d)(i:l.length<=mq)(H:∀a∈l,fe ((j8 k js ρ).set 0 (.vl (f a)))= .ok (g a)):zy (zG 0) Z3 fe k js ρ (l.map f)= .ok (l.map g):=by
 rw[zU (h:=λt=>match fe ((j8 k js ρ).set 0 (.vl t)) with | .ok u=>u | _=>t) (l.map f) (by rw[af];exact i) (λt e=>by
  obtain⟨a,c,rfl⟩:=aH.mp e;rw[H a c]),bg]
 congr 1
 refine cV λa c=> ?_;show (match fe ((j8 k js ρ).set 0 (.vl (f a))) with | .ok u=>u | _=>f a)=_
 rw[H a c]
def nQ (a:List T)(r:Ru):Int:=((a.filter λx=>kp r x).length:Nat)
inductive Cn:(List T->T)->Prop where
 | l:Cn T.lst
 | t:Cn T.tup
theorem vq {C:List T->T}(e:Cn C){a:List T}{c:List Ru}(hr:∀r∈c,jn 3 r)(i:∀x∈a,W 2 x)(l:a.length<=1000)(hn:c.length<=1000):gZ [.lst a,C (c.map Ru.t)]= .ok (.lst (c.map λr=> .int (nQ a r))):=by
 have k:mq=16777216:=rfl;show zm (At (oF 8) (mE (.lst a) (C (c.map Ru.t))))=_;unfold At;rw[vp];show zT _ _ _ _ _ _ (mE (.lst a) (C (c.map Ru.t)))=_;rw[Z1,ZV,v1,i3];rw[show jT (C (c.map Ru.t))= .ok (c.map Ru.t) by cases e <;> rfl]
 show ((zy _ _ _ _ _ _ (c.map Ru.t)).bind _)=_;rw[jO (g:=λr=> .int (nQ a r)) c (by omega) λr d => ?_,i3]
 show mn ZL _ (mE r.t (.lst a))=_;rw[ZD,Z1,ZV,v1,i3];show (((zy _ _ _ _ _ _ a).bind _).bind _)=_;rw[wG (p:=λx=>kp r x) a (by omega) λt j=>⟨?_,rfl⟩,i3]
 ·rfl
 ·show wg _ (mE t r.t)=_;rw[wA,zP,v1,i3,v0,i3,wH (i t j) (hr r d)];rfl
theorem ZZ {C:List T->T}(g:Cn C){a:List Ru}(hr:∀r∈a,jn 3 r)(hn:a.length<=1000):nO [C (a.map Ru.t)]= .ok .non:=by
 have j:∀(d:List T) (a:List Ru) (y:Sl),(∀r∈a,jn 3 r)->∃c,Zp (zG 1) (J6 (zb 1 oJ (za (vE 1) (zf)))) (a.map Ru.t) [.vl (C d),y]= .nx [.vl (C d),c]:=by
  intro d a
  induction a with
  | nil=>exact λy _=>⟨y,rfl⟩
  | cons r a i=>
   intro y h;obtain⟨c,e⟩:=i (.vl r.t) λq k=>h q (ab _ k);refine⟨c, ?_⟩;rw[aA,jx (ρ1:=[.vl (C d),.vl r.t]) rfl (JR (t:= .non) (by rw[zI];exact uk (h r ac))),e]
 obtain⟨c,e⟩:=j (a.map Ru.t) a .un hr;show zm (AA oJ [.vl (C (a.map Ru.t)),.un])=_;unfold AA;rw[zd (zu (by cases g <;> rfl))]
 have l:ZK (vE 0) [.vl (C (a.map Ru.t)),.un]= .ok (a.map Ru.t):=by cases g <;> rfl
 unfold j2;rw[l];show zm (Zp _ _ (a.map Ru.t) [.vl (C (a.map Ru.t)),.un])=_;rw[e];rfl
theorem E7 {d:Nat}{r:Ru}(h:jn d r):Pl (d+1) r.t:=by
 induction h with
 | sum _ _=>intro x a;simp only[ag,aT,or_false]at a;rcases a with rfl | rfl | rfl <;> trivial
 | size _ _=>intro x a;simp only[ag,aT,or_false]at a;rcases a with rfl | rfl | rfl <;> trivial
 | word _=>intro x a;simp only[ag,aT,or_false]at a;rcases a with rfl | rfl <;> trivial
 | rising=>intro x a;simp only[ag,aT,or_false]at a;subst a;trivial
 | unlike=>intro x a;simp only[ag,aT,or_false]at a;subst a;trivial
 | no _ g=>intro x a;simp only[ag,aT,or_false]at a;rcases a with rfl | rfl;trivial;exact g
 | all _ _ c e=>intro x a;simp only[ag,aT,or_false]at a;rcases a with rfl | rfl | rfl;trivial;exact c;exact e
 | some _ _ c e=>intro x a;simp only[ag,aT,or_false]at a;rcases a with rfl | rfl | rfl;trivial;exact c;exact e
theorem Hi {f:En->R T}{ρ:En}{x:T}(a:f ρ= .ok x):za f zf ρ= .ok [x]:=by
 show ((f ρ).bind λt=>(R.ok []).bind λts=>R.ok (t :: ts))=_;rw[a];rfl
section
variable {ts:List T}
theorem Xm {f g:En->R T}{ρ:En}{t:T}(h:f ρ= .ok t)(h' :g ρ= .ok t)(hp:Pl 30 t):j7 mm f g ρ= .ok (.bl true):=by rw[jk,h,i3,h',i3,UY hp];rfl
theorem gD {f g:En->R T}{ρ:En}(h:f ρ= .ok (.bl true))(h' :g ρ= .ok (.bl true)):jg f g ρ= .ok (.bl true):=by unfold jg;rw[h,i3];exact h'
theorem jA {r:R T}(h:r= .ok (.lst ts))(a:ts.length < mq)(hp:Pl 30 (.lst ts)):jW r= .ok (.bl true):=by
 subst h;show (if ts.length < mq then (mm (.lst ts) (.lst ts)).bind λb=>R.ok (T.bl b) else .bad)=_
 rw[if_pos a,UY hp];rfl
end
theorem C9 {k:Kd}(a:k.Ok 3){x:T}(c:k.has x=true):pJ 20 [k.t,x]= .ok (mr (k.sh x))/\Bd (k.sh x) 91:=yc 3 20 (by omega) (by omega) k x a c
theorem F3 {k:Kd}(d:k.Ok 3){a:List T}(c:∀x∈a,k.has x=true)(l:a.length<=60):gY [k.t,.lst a]= .ok (mr (xi (a.map k.sh))):=by
 show zm (tI pW (pJ 20) (mE k.t (.lst a)))=_;have j:zy (zG 0) Z3 (zb 2 (pJ 20) (za (vE 1) (za (vE 0) (zf)))) 1 [0] (mE k.t (.lst a)) a= .ok (a.map λx=>mr (k.sh x)):=
  zU _ (aB l (by decide)) λt g=>by
   show zb 2 _ _ (mE t k.t)=_;rw[zP,v1,i3,v0,i3,(C9 d (c t g)).1]
 unfold tI;rw[zl (t:=mr (xi (a.map k.sh)))]
 ·rfl
 ·show zb 1 _ _ (mE k.t (.lst a))=_;rw[zI,Z1,ZV,v1,i3];show ((zy _ _ _ _ _ _ a).bind _).bind _=_;rw[j,i3,i3];have:=uY (qs:=a.map k.sh) (m:=91) (λq i=>by obtain⟨x,e,rfl⟩:=aH.mp i;exact(C9 d (c x e)).2) (by rw[af];omega)
  rw[bg]at this;exact this
def wy (a:List Ru)(x:T):List Bool:=a.map λr=>kp r x
theorem vt {a:List Ru}(hr:∀r∈a,jn 3 r)(hn:a.length<=1000){x:T}(d:W 2 x):gT [.lst (a.map Ru.t),x]= .ok (.tup ((wy a x).map T.bl)):=by
 have e:mq=16777216:=rfl;show zm (Av (oF 8) (mE (.lst (a.map Ru.t)) x))=_;unfold Av;rw[vp];show mn gI _ (mE (.lst (a.map Ru.t)) x)=_;rw[ZD,Z1,ZV,v0,i3];show (((zy _ _ _ _ _ _ (a.map Ru.t)).bind _).bind _)=_;rw[jO (g:=λr=> .bl (kp r x)) a (by omega) λr c => ?_,i3,i3]
 ·unfold wy;rw[bg];rfl
 ·show zb 2 _ _ (mE r.t x)=_;rw[zP,v0,i3,v1,i3,wH d (hr r c)]
theorem Jm:∀k:List Bool,Zu (k.map T.bl)=some k
 | []=>rfl
 | b :: k=>by
  show (Zu (k.map T.bl)).map (λl=>b :: l)=_;rw[Jm k];rfl
def vv (kf:T->List Bool):List T->List WE->List WE
 | [],a=>a
 | w :: c,a=>vv kf c (wa (kf w) w a)
theorem ul {g:T->R T}{kf:T->List Bool}:∀(a:List T) (c:List WE),(∀w∈a,g w= .ok (.tup ((kf w).map T.bl)))->J9 g a c= .ok (vv kf a c)
 | [],c,_=>rfl
 | w :: a,c,h=>by
  show ((g w).bind λt=>match t with
   | .tup ts=>(match Zu ts with
    | some k=>J9 g a (wa k w c)
    | none=> .bad)
   | _=> .bad)=_
  rw[h w ac,i3];dsimp only;rw[Jm];exact ul a _ λv d=>h v (ab _ d)
structure EOk (al:List T) (n:Nat) (es:List WE):Prop where
 nd:(es.map (·.1)).Nodup
 len:es.length<=n
 mem:∀e∈es,(∀x∈e.2,x∈al)/\e.2.length<=n
theorem yg (k:List Bool)(w:T):∀a:List WE,(wa k w a).map (·.1)=if k∈a.map (·.1) then a.map (·.1) else a.map (·.1)++[k]
 | []=>by simp[wa]
 | (c,d) :: r=>by
  unfold wa
  by_cases h:c =k
  ·subst h;simp
  ·rw[if_neg h,aA,yg k w r,aA];have h' :¬ k=c :=λz=>h z.symm
   by_cases m:k∈r.map (·.1)
   ·rw[if_pos m,if_pos (ab _ m)]
   ·rw[if_neg m,if_neg (by simpa[h'] using m)];rfl
theorem vw {al:List T}{n:Nat}{k:List Bool}{w:T}(g:w∈al):∀i:List WE,(∀e∈i,(∀x∈e.2,x∈al)/\e.2.length<=n)->∀e∈wa k w i,(∀x∈e.2,x∈al)/\e.2.length<=n+1
 | [],_,e,a=>by
  simp only[wa,av]at a;subst a;exact⟨λx d=>by rw[av.mp d];exact g,by show 1<=n+1;omega⟩
 | (l,j) :: r,h,e,a=>by
  unfold wa at a;have c:=h _ ac;have hr:∀e∈r,_:=λe a=>h e (ab _ a);split at a
  ·rcases ag.mp a with rfl | a
   ·refine⟨λx d=> ?_,by have:j.length<=n:=c.2;rw[ay,aI];omega⟩
    rcases ce.mp d with z | z
    ·exact c.1 x z
    ·rw[av.mp z];exact g
   ·exact⟨(hr e a).1,f_ (hr e a).2⟩
  ·rcases ag.mp a with rfl | a
   ·exact⟨c.1,f_ c.2⟩
   ·exact vw g r hr e a
theorem EOk.ins {al:List T}{n:Nat}{c:List WE}(h:EOk al n c){k:List Bool}{w:T}(g:w∈al):EOk al (n+1) (wa k w c):=by
 have e:=yg k w c;have l:(wa k w c).length<=c.length+1:=by
  have:=congrArg iE e;rw[af]at this;rw[this];split
  ·rw[af];omega
  ·rw[ay,af,aI];exact ah _
 refine⟨?_,by have:=h.len;omega,vw g c h.mem⟩
 rw[e];split
 ·exact h.nd
 ·rename_i i;rw[lF];exact⟨h.nd,by simp,λa j b d z=>i (by rw[av.mp d]at z;rw[← z];exact j)⟩
theorem vx {al:List T}{kf:T->List Bool}:∀(a:List T) (n:Nat) (c:List WE),EOk al n c->(∀w∈a,w∈al)->EOk al (n+a.length) (vv kf a c)
 | [],n,c,h,_=>h
 | w :: a,n,c,h,d=>by
  have:=vx (kf:=kf) a (n+1) _ (h.ins (k:=kf w) (d w ac)) λv e=>d v (ab _ e);rw[ar,show n+(a.length+1)=n+1+a.length by omega]
  exact this
theorem Xn (k:List Bool)(w:T):∀a:List WE,wa k w a ≠ []
 | []=>by simp[wa]
 | (d,c) :: r=>by unfold wa;split <;> simp
theorem vy {kf:T->List Bool}:∀(c:List T) (a:List WE),a ≠ []->vv kf c a ≠ []
 | [],a,h=>h
 | w :: c,a,_=>vy c _ (Xn _ _ _)
theorem Xo {k:Kd}(g:k.Ok 3)(j:k.all.length<=500){a:List Ru}(hr:∀r∈a,jn 3 r)(hn:a.length<=1000):∃d,zp [k.t,.lst (a.map Ru.t)]= .ok d/\EOk k.all k.all.length d/\d ≠ []:=by
 have o:mq=16777216:=rfl;refine⟨vv (wy a) k.all [], ?_, ?_, ?_⟩
 ·show ((om [k.t]).bind λt=>match t with
   | .lst c=>if c.length<=mq then J9 (λw=>gT [.lst (a.map Ru.t),w]) c [] else .bad
   | _=> .bad)=_
  rw[jz g j,i3];dsimp only;rw[if_pos (by omega)]
  exact ul k.all [] λw i=>vt hr hn (gh g i)
 ·have:=vx (al:=k.all) (kf:=wy a) k.all 0 [] ⟨by simp,by simp,λe l=>by cases l⟩ λw i=>i
  rwa[fI]at this
 ·have hp:=Zs 3 k g;revert hp;cases k.all with
  | nil=>exact λh=>absurd h (by simp)
  | cons w c=>exact λ_=>vy c _ (Xn _ _ _)
def tl (k:Kd)(e:WE):T:= .tup [.tup (e.1.map T.bl),.int (e.2.length:Int),mr (xi (e.2.map k.sh))]
theorem vz {k:Kd}{fe:En->R T}:∀(a:List WE) (x y:Sl),(∀e∈a,fe [.vl (.tup (e.1.map T.bl)),.vl (.lst e.2),.vl k.t]= .ok (tl k e))->zt (zO 0 1) Z3 fe (a.map nW) [x,y,.vl k.t]= .ok (a.map (tl k))
 | [],x,y,_=>rfl
 | e :: a,x,y,h=>by
  show ((zO 0 1 (nW e) [x,y,.vl k.t]).bind λρ1=>(Z3 ρ1).bind λc=>if c=true then (fe ρ1).bind λv=>(zt (zO 0 1) Z3 fe (a.map nW) ρ1).bind λvs=> .ok (v :: vs) else zt (zO 0 1) Z3 fe (a.map nW) ρ1)=_
  rw[show zO 0 1 (nW e) [x,y,.vl k.t]= .ok [.vl (.tup (e.1.map T.bl)),.vl (.lst e.2),.vl k.t] from rfl,i3];unfold Z3;rw[i3,if_pos rfl,h e ac,i3,show zt (zO 0 1) (λ_=>R.ok true) fe (a.map nW) _=_ from vz a _ _ λq d=>h q (ab _ d)];rfl
theorem DA (k:Kd)(e:WE):kW (tl k e)=e.1:=by
 show (Zu (e.1.map T.bl)).getD []=_;rw[Jm];rfl
theorem DB (k:Kd)(e:WE):Pl 29 (tl k e):=λx a=>by
 simp only[ag,aT,or_false]at a;rcases a with rfl | rfl | rfl
 ·intro y hy;obtain⟨b,_,rfl⟩:=aH.mp hy;trivial
 ·trivial
 ·intro y hy;simp only[ag,aT,or_false]at hy;rcases hy with rfl | rfl <;> trivial
section
variable {k:Kd}(hk:k.Ok 3)(h4:k.all.length<=40){rs:List Ru}(hr:∀r∈rs,jn 3 r)(hn:rs.length<=1000)
include hk h4 hr hn
theorem xl:∃ts,og [k.t,.lst (rs.map Ru.t)]= .ok (.lst ts)/\ts.length < mq/\Pl 30 (.lst ts):=by
 have y:mq=16777216:=rfl;obtain⟨a,p,c,_⟩:=Xo hk (by omega) hr hn
 have B:=c.len;refine⟨vO (a.map (tl k)), ?_, ?_, ?_⟩
 ·show zm (pM gY nO zp [.vl k.t,.vl (.lst (rs.map Ru.t)),.un])=_;unfold pM;rw[zd (JR (t:= .non) (by rw[zI,v1,i3,ZZ .l hr hn]))]
  have u:pA (zO 0 1) Z3 (Zb (za (vE 0) (za (mn ZL (vB 1)) (za (zb 2 gY (za (vE 2) (za (vE 1) (zf)))) (zf))))) 2 [0] [.vl k.t,.vl (.lst (rs.map Ru.t)),.un] a= .ok (a.map (tl k)):=by
   unfold pA;rw[if_pos (by omega)]
   show quiet (zt _ _ _ (a.map nW) [.un,.un,.vl k.t])=_;rw[vz a _ _ λe v=> ?_]
   ·rfl
   ·obtain⟨r,o⟩:=c.mem e v;show Zb _ [.vl (.tup (e.1.map T.bl)),.vl (.lst e.2),.vl k.t]=_;refine G1 rfl rfl ?_;rw[zP,v2,i3,v1,i3,F3 hk (λx g=>(JO k x).mp (r x g)) (by omega)]
  have w:ww (.lst (a.map (tl k)))= .ok (.lst (vO (a.map (tl k)))):=by
   show (if _ then _ else _)=_
   rw[if_pos];refine⟨aS.mpr λt j=> ?_, ?_,by rw[af];omega⟩
   ·obtain⟨e,_,rfl⟩:=aH.mp j;show (Zu (e.1.map T.bl)).isSome=true;rw[Jm];rfl
   ·rw[bg,show (kW ∘ tl k)=λe:WE=>e.1 from funext λe=>DA k e];exact c.nd
  have q:u3 zp [k.t,.lst (rs.map Ru.t)]= .ok a:=by
   show (if 2=2 then quiet _ else _)=_
   rw[if_pos rfl,p];rfl
  show zm (match u3 zp [k.t,.lst (rs.map Ru.t)] with
   | .ok a=>(match pA (zO 0 1) Z3 _ 2 [0] [.vl k.t,.vl (.lst (rs.map Ru.t)),.un] a with
    | .ok vs=>(match ww (.lst vs) with
     | .ok (.lst i)=>RS.rf i
     | _=> .bad)
    | _=> .bad)
   | _=> .bad)=_
  rw[q];dsimp only;rw[u];dsimp only;rw[w];rfl
 ·unfold vO;rw[List.length_mergeSort,af];omega
 ·intro x g;have d :x∈a.map (tl k):=(iU _ _).mem_iff.mp g;obtain⟨e,_,rfl⟩:=aH.mp d;exact DB k e
theorem vA:∃e a,u3 Zd [k.t,.lst (rs.map Ru.t)]= .ok (e :: a)/\EOk k.all k.all.length (e :: a):=by
 obtain⟨a,c,g,d⟩:=Xo hk (by omega) hr hn
 cases a with
 | nil=>exact absurd rfl d
 | cons e a=>
  refine⟨e,a, ?_,g⟩;show (if 2=2 then quiet ((nO [.lst (rs.map Ru.t)]).bind λ_=>zp [k.t,.lst (rs.map Ru.t)]) else _)=_
  rw[if_pos rfl,ZZ .l hr hn,i3,c];rfl
theorem vC {e:WE}(a:∀x∈e.2,x∈k.all):Pl 29 (.lst e.2):=λx c=>(gh hk (a x c)).pl.le (show 2+1<=28 by decide)
end
theorem uZ {k:Kd}(c:k.Ok 3):nR [k.t]= .ok (.lst ((Y4 (dd [] k.wds)).map T.str)):=by
 show zm (pK n6 (pI 20) [.vl k.t])=_;unfold pK;rw[zd (JR (t:= .non) (by rw[zI,v0,i3,vo c]))]
 have g:=JU 2 k c;have tx:∀a:List Str,wl (a.map T.str)=some a:=λa=>by
  induction a with
  | nil=>rfl
  | cons y a d=>show (match wl (a.map T.str) with | some a=>some (y :: a) | none=>none)=_;rw[d]
 have e:mn uH (zb 1 (pI 20) (za (vE 0) (zf))) [.vl k.t]= .ok (.lst ((Y4 (dd [] k.wds)).map T.str)):=by
  rw[ZD,zI,v0,i3,show pI 20 [k.t]=_ from JV 3 20 (by omega) (by omega) k c,i3]
  show (match wl (k.wds.map T.str) with | some a=>if (k.wds.map T.str).length < 64 then R.ok (T.lst ((Y4 (dd [] a)).map T.str)) else .bad | none=> .bad)=_
  rw[tx];dsimp only;rw[if_pos (by rw[af];omega)]
 unfold uO;rw[e];rfl
theorem vD (m:Int):∀(l:List T) (x y:Sl),(∀t∈l,∃i c,t= .tup [.int i,.int c])->∃vs,zt (zO 0 1) (zD mm (vB 1) (vB 2)) (vE 0) l [x,y,.vl (.int m)]= .ok vs/\(∀v∈vs,∃i,v= .int i)/\vs.length<=l.length
 | [],x,y,_=>⟨[],rfl,λv a=>(by cases a),ah _⟩
 | t :: l,x,y,h=>by
  obtain⟨i,c,rfl⟩:=h t ac;obtain⟨vs,e,a,o⟩:=vD m l (.vl (.int i)) (.vl (.int c)) λt j=>h t (ab _ j);have k:zt (zO 0 1) (zD mm (vB 1) (vB 2)) (vE 0) (.tup [.int i,.int c] :: l) [x,y,.vl (.int m)]=if (c == m)=true then (R.ok (T.int i)).bind λv=>(zt (zO 0 1) (zD mm (vB 1) (vB 2)) (vE 0) l [.vl (.int i),.vl (.int c),.vl (.int m)]).bind λvs=> .ok (v :: vs) else zt (zO 0 1) (zD mm (vB 1) (vB 2)) (vE 0) l [.vl (.int i),.vl (.int c),.vl (.int m)]:=rfl
  rw[k,e]
  by_cases g:(c == m)=true
  ·rw[if_pos g];refine⟨.int i :: vs,rfl,λv d => ?_,by rw[ar,ar];omega⟩
   rcases ag.mp d with rfl | z
   ·exact⟨i,rfl⟩
   ·exact a v z
  ·rw[if_neg g];exact⟨vs,rfl,a,by rw[ar];omega⟩
theorem xm:∀cs:List Int,∃m,(match (T.lst (cs.map T.int)) with
 | .lst []=>R.ok (T.int 0)
 | .lst ts=>match Z6 ts with | some (i :: l)=> .ok (.int (j6 (λa b=>decide (a < b)) i l)) | _=> .bad
 | _=> .bad)= .ok (.int m)
 | []=>⟨0,rfl⟩
 | c :: cs=>⟨j6 (λa b=>decide (a < b)) c cs,by
  show (match Z6 ((c :: cs).map T.int) with | some (i :: l)=>R.ok (T.int (j6 (λa b=>decide (a < b)) i l)) | _=> .bad)=_
  rw[uX]⟩
theorem U0 {k:Kd}(e:k.Ok 3)(D:k.all.length<=40){a:List Ru}(hr:∀r∈a,jn 3 r)(hn:a.length<=1000):∃ts,n5 [k.t,.lst (a.map Ru.t)]= .ok (.lst ts)/\ts.length < mq/\Pl 30 (.lst ts):=by
 have C:mq=16777216:=rfl;have v:J6 (zb 1 nO (za (vE 1) (zf))) [.vl k.t,.vl (.lst (a.map Ru.t)),.un,.un]= .nx [.vl k.t,.vl (.lst (a.map Ru.t)),.un,.un]:=JR (t:= .non) (by rw[zI,v1,i3,ZZ .l hr hn])
 have o:zJ 2 (zb 2 gZ (za (zb 1 om (za (vE 0) (zf))) (za (vE 1) (zf)))) [.vl k.t,.vl (.lst (a.map Ru.t)),.un,.un]= .nx [.vl k.t,.vl (.lst (a.map Ru.t)),.vl (.lst ((a.map (nQ k.all)).map T.int)),.un]:=by
  rw[zM (t:= .lst ((a.map (nQ k.all)).map T.int))]
  ·rfl
  ·rw[zP,zI,v0,i3,jz e (by omega),i3,v1,i3,vq .l hr (λx d=>gh e d) (by omega) hn,bg];rfl
 obtain⟨m,y⟩:=xm (a.map (nQ k.all));have q:zJ 3 (Kg (vB 2) (cE (.int 0))) [.vl k.t,.vl (.lst (a.map Ru.t)),.vl (.lst ((a.map (nQ k.all)).map T.int)),.un]= .nx [.vl k.t,.vl (.lst (a.map Ru.t)),.vl (.lst ((a.map (nQ k.all)).map T.int)),.vl (.int m)]:=by
  rw[zM (t:= .int m)]
  ·rfl
  ·exact y
 obtain⟨vs,w,u,F⟩:=vD m (ZH ((a.map (nQ k.all)).map T.int)) .un .un λt g=>by
  unfold ZH at g;obtain⟨p,hp,rfl⟩:=aH.mp g;obtain⟨c,_,B⟩:=aH.mp (List.fst_mem_of_mem_zipIdx (x:=p) (by exact hp))
  exact⟨(p.2:Nat),c,by rw[← B]⟩
 have j:(ZH ((a.map (nQ k.all)).map T.int)).length=a.length:=by simp[ZH]
 refine⟨vs, ?_,by omega,λx d=>by obtain⟨i,rfl⟩:=u x d;trivial⟩
 show zm (pL om nO gZ [.vl k.t,.vl (.lst (a.map Ru.t)),.un,.un])=_;unfold pL;rw[zd v,zd o,zd q];show zm ((R.ok (ZH ((a.map (nQ k.all)).map T.int))).s λts=>(zy (zO 0 1) (zD mm (vB 1) (vB 2)) (vE 0) 2 [3] [.vl k.t,.vl (.lst (a.map Ru.t)),.vl (.lst ((a.map (nQ k.all)).map T.int)),.vl (.int m)] ts).s λvs=>RS.rf vs)=_;rw[Zx];unfold zy;rw[if_pos (by omega)]
 show zm ((quiet (zt _ _ _ _ [.un,.un,.vl (.int m)])).s _)=_;rw[w];rfl
theorem vF (x:Str):∀l:List Str,(Vr x l).length=l.length+1
 | []=>rfl
 | y :: r=>by
  unfold Vr;split
  ·rw[ar,vF x r,ar]
  ·rfl
theorem yh:∀l:List Str,(Y4 l).length=l.length
 | []=>rfl
 | x :: r=>by rw[Y4,vF,yh r,ar]
abbrev eN (ns:List Int)(k:Kd)(rs:List T)(m g:Sl):En:=[.vl (mz ns),.vl k.t,.vl (.lst rs),m,g,.st []]
theorem law_ok (j:List Int)(h:j.length<=63):oN [.fz (j.map T.int)]= .ok (.bl true):=by
 obtain⟨k,o,r,hs⟩:=x9 j 0 (by omega) 40 (by omega)
 have hb:mq=16777216:=rfl;obtain⟨c,X,S⟩:=jy j 8 2 (by omega) (by omega) 3000 (by omega)
 obtain⟨d,f1,M⟩:=jy j 8 2 (by omega) (by omega) 3200 (by omega)
 obtain⟨i,f2,o2⟩:=jy j 8 2 (by omega) (by omega) 3400 (by omega)
 have U:zJ 1 (zb 3 sJ (za (vE 0) (za (cE (.int 0)) (za (cE (.int 40)) (zf))))) [.vl (mz j),.un,.un,.un,.un,.st []]= .nx [.vl (mz j),.vl k.t,.un,.un,.un,.st []]:=by
  rw[zM (t:=k.t)]
  ·rfl
  ·rw[Z9,v0,i3,zW,i3,zW,i3];exact hs
 have hr:∀q∈[c,d,i],jn 3 q:=λq p=>by
  simp only[ag,aT,or_false]at p;rcases p with rfl | rfl | rfl
  ·exact S.up
  ·exact M.up
  ·exact o2.up
 have C:Pl 30 (.lst ([c,d,i].map Ru.t)):=λx l=>by
  obtain⟨q,p,rfl⟩:=aH.mp l;exact(E7 (hr q p)).le (by decide)
 have e1:zJ 2 (zT (Zt (cE (.int 3))) (zG 0) (Z3) (zb 3 (tJ 8) (za (vE 1) (za (zc zx (cE (.int 3000)) (zc zV (cE (.int 200)) (vE 0))) (za (cE (.int 2)) (zf))))) 1 [0]) [.vl (mz j),.vl k.t,.un,.un,.un,.st []]= .nx (eN j k ([c,d,i].map Ru.t) .un .un):=by
  rw[zM (t:= .lst ([c,d,i].map Ru.t))]
  ·rfl
  ·have hc:=jO (f:=λa:Int×Ru=>T.int a.1) (g:=λa=>a.2.t) (fe:=zb 3 (tJ 8) (za (vE 1) (za (zc zx (cE (.int 3000)) (zc zV (cE (.int 200)) (vE 0))) (za (cE (.int 2)) (zf))))) (k:=1) (js:=[0]) (ρ:=[.vl (mz j),.vl k.t,.un,.un,.un,.st []]) [(0,c),(1,d),(2,i)] (by rw[hb];show 3<=16777216;decide) λa F=>by
    simp only[ag,aT,or_false]at F;rcases F with rfl | rfl | rfl
    ·show zb 3 _ _ (mE (.int 0) (mz j))=_;rw[Z9,v1,i3,show zc zx (cE (.int 3000)) (zc zV (cE (.int 200)) (vE 0)) (mE (.int 0) (mz j))= .ok (.int 3000) from rfl,i3,zW,i3];exact X
    ·show zb 3 _ _ (mE (.int 1) (mz j))=_;rw[Z9,v1,i3,show zc zx (cE (.int 3000)) (zc zV (cE (.int 200)) (vE 0)) (mE (.int 1) (mz j))= .ok (.int 3200) from rfl,i3,zW,i3];exact f1
    ·show zb 3 _ _ (mE (.int 2) (mz j))=_;rw[Z9,v1,i3,show zc zx (cE (.int 3000)) (zc zV (cE (.int 200)) (vE 0)) (mE (.int 2) (mz j))= .ok (.int 3400) from rfl,i3,zW,i3];exact f2
   rw[Z1];show ((zy _ _ _ _ _ _ ([((0:Int),c),(1,d),(2,i)].map λa=>T.int a.1)).bind _)=_;rw[hc];rfl
 have e2:zJ 3 (mn B4 (vE 2)) (eN j k ([c,d,i].map Ru.t) .un .un)= .nx (eN j k ([c,d,i].map Ru.t) (.vl (.lst ([c,d,i].map Ru.t))) .un):=rfl;obtain⟨tt,J,w,B⟩:=xl o r hr (show 3<=1000 by decide)
 obtain⟨O,hg,D,y⟩:=U0 o r hr (show 3<=1000 by decide)
 obtain⟨e,es,hp,u⟩:=vA o r hr (show 3<=1000 by decide)
 have Z:=uZ o;have Q:jX [1] 1 nR (za (vE 0) (zf)) (eN j k ([c,d,i].map Ru.t) (.vl (.lst ([c,d,i].map Ru.t))) .un)= .ok (.bl true):=by
  refine jA (ts:=(Y4 (dd [] k.wds)).map T.str) ?_ ?_ λx l=> ?_
  ·show zb 1 nR _ [.vl k.t]=_;rw[zI,v0,i3,Z]
  ·rw[af,yh];have a:=JI k.wds [];have b:=JU 2 k o;rw[bR]at a;omega
  ·obtain⟨s,_,rfl⟩:=aH.mp l;trivial
 have s1:WF 4 (za (jX [1] 1 nR (za (vE 0) (zf))) (zf)) (eN j k ([c,d,i].map Ru.t) (.vl (.lst ([c,d,i].map Ru.t))) .un)= .nx (eN j k ([c,d,i].map Ru.t) (.vl (.lst ([c,d,i].map Ru.t))) (.ow [.bl true])):=by
  unfold WF;rw[Hi Q];rfl
 have v:∀(f:En->R T) (ts:List T),ts.length<=10->f (eN j k ([c,d,i].map Ru.t) (.vl (.lst ([c,d,i].map Ru.t))) (.ow ts))= .ok (.bl true)->Ud 4 f (eN j k ([c,d,i].map Ru.t) (.vl (.lst ([c,d,i].map Ru.t))) (.ow ts))= .nx (eN j k ([c,d,i].map Ru.t) (.vl (.lst ([c,d,i].map Ru.t))) (.ow (ts++[.bl true]))):=λf ts G N=>by
  rw[Xf (ts:=ts) (t:= .bl true) rfl (by omega) N];rfl
 have I:=v (jX [1,2] 2 og (za (vE 0) (za (vE 1) (zf)))) [.bl true] (by decide) (jA (ts:=tt) (by
  show zb 2 og _ (mE k.t (.lst ([c,d,i].map Ru.t)))=_;rw[zP,v0,i3,v1,i3,J]) w B)
 have s3:=v (wx Kt [1,2] Zd (za (vE 0) (za (vE 1) (zf)))) [.bl true,.bl true] (by decide) (jA (ts:=(e :: es).map λe=>T.lst e.2) (by
  show Kt (u3 Zd [k.t,.lst ([c,d,i].map Ru.t)])=_;rw[hp];rfl) (by have:=u.len;rw[af];omega) λx l=>by
   obtain⟨q,p,rfl⟩:=aH.mp l;exact vC o r hr (show 3<=1000 by decide) (u.mem q p).1)
 have P:=v (wx Ku [1,2] Zd (za (vE 0) (za (vE 1) (zf)))) [.bl true,.bl true,.bl true] (by decide) (jA (ts:=e.2) (by
  show Ku (u3 Zd [k.t,.lst ([c,d,i].map Ru.t)])=_;rw[hp];rfl) (by have:=(u.mem e ac).2;omega) ((vC o r hr (show 3<=1000 by decide) (u.mem e ac).1).le (by decide)))
 have s5:=v (jX [1,2] 2 n5 (za (vE 0) (za (vE 1) (zf)))) [.bl true,.bl true,.bl true,.bl true] (by decide) (jA (ts:=O) (by
  show zb 2 n5 _ (mE k.t (.lst ([c,d,i].map Ru.t)))=_;rw[zP,v0,i3,v1,i3,hg]) D y)
 show zm (Ao _ _ _ _ _ _ [.vl (mz j),.un,.un,.un,.un,.st []])=_;have s6:zA (jg (j7 mm (vB 4) (zc zV (jB (za (cE (.bl true)) (zf))) (cE (.int 5)))) (j7 mm (vB 2) (vB 3))) (eN j k ([c,d,i].map Ru.t) (.vl (.lst ([c,d,i].map Ru.t))) (.ow [.bl true,.bl true,.bl true,.bl true,.bl true]))= .rt (.bl true):=by
  rw[zl (t:= .bl true)];refine gD (Xm (t:= .lst [.bl true,.bl true,.bl true,.bl true,.bl true]) rfl rfl (λx l=> ?_)) (Xm (t:= .lst ([c,d,i].map Ru.t)) rfl rfl C);simp only[ag,aT,or_false]at l;rcases l with rfl | rfl | rfl | rfl | rfl <;> trivial
 rw[Ao];exact congrArg zm ((zd U).trans ((zd e1).trans ((zd e2).trans ((zd s1).trans ((zd I).trans ((zd s3).trans ((zd P).trans ((zd s5).trans s6))))))))
end G
namespace G
open PySem PySem.Spec PyProof.Rows L2 PV
noncomputable def mC (i:Nat):Stmt:=PySem.Challenge.pw_worthkinds_k89_whole_told_lists.main.body.getD i (.Pass ⟨0,0,0,0⟩)
set_option genInjectivity false in
set_option genSizeOf false in
structure Tx (K:ai) (mg:Str->Option Value):Prop where
 C_1k:FE K mg "_law_cell" (mC 64) ["_law_script","_law_k"]
 C_a:FE K mg "_law_pick" (mC 65) ["_law_script","_law_k","_law_many"]
 C_1h:FE K mg "_law_word_of" (mC 66) ["_law_script","_law_at"]
 C_1i:FE K mg "_law_leaf_kind" (mC 67) ["_law_script","_law_at"]
 C_r:FE K mg "_law_kind" (mC 68) ["_law_script","_law_at","_law_deep"]
 C_s:FE K mg "_law_rows_of" (mC 70) ["_law_lists"]
 C_h:FE K mg "_law_all" (mC 69) ["_law_kind_here"]
 C_n:FE K mg "_law_size" (mC 71) ["_law_kind_here"]
 C_1j:FE K mg "_law_small" (mC 72) ["_law_script","_law_at","_law_most"]
 C_w:FE K mg "_law_rule" (mC 73) ["_law_script","_law_at","_law_deep"]
 C_c:FE K mg "is_whole" (mC 9) ["thing"]
 C_y:FE K mg "is_span" (mC 12) ["low","high","least","most"]
 C_g:FE K mg "is_tuple_of" (mC 10) ["thing","least","most"]
 C_o:FE K mg "is_word" (mC 11) ["thing"]
 C_x:FE K mg "is_choice" (mC 15) ["thing"]
 C_v:FE K mg "are_choices" (mC 14) ["thing"]
 C_4:FE K mg "is_kind_within" (mC 13) ["thing","levels"]
 C_12:FE K mg "are_kinds_within" (mC 16) ["thing","levels"]
 C_2:FE K mg "is_kind" (mC 7) ["thing"]
 C_m:FE K mg "need_kind" (mC 8) ["kind"]
 C_q:FE K mg "words_of_pick" (mC 17) ["kind"]
 C_8:FE K mg "kinds_within" (mC 61) ["kind"]
 C_3:FE K mg "words_of" (mC 62) ["kind"]
 C_k:FE K mg "words_in" (mC 60) ["kind"]
 C_15:FE K mg "is_bound" (mC 45) ["thing"]
 C_e:FE K mg "is_rule_within" (mC 44) ["thing","levels"]
 C_5:FE K mg "is_rule" (mC 40) ["thing"]
 C_6:FE K mg "need_rule" (mC 41) ["rule"]
 C_i:FE K mg "need_rules" (mC 42) ["rules"]
 C_1:FE K mg "count_of" (mC 21) ["kind"]
 C_z:FE K mg "count_of_parts" (mC 22) ["kinds"]
 C_p:FE K mg "count_shorter" (mC 23) ["kind","length"]
 C_7:FE K mg "worth_at" (mC 24) ["kind","number"]
 C_19:FE K mg "many_at" (mC 25) ["kind","number"]
 C_10:FE K mg "parts_at" (mC 26) ["kinds","number"]
 C_t:FE K mg "all_worths" (mC 20) ["kind"]
 C_b:FE K mg "leaves_of" (mC 49) ["worth"]
 C_14:FE K mg "numbers_in" (mC 50) ["worth"]
 C_16:FE K mg "parts_of" (mC 48) ["worth"]
 C_17:FE K mg "are_rising" (mC 51) ["numbers"]
 C_18:FE K mg "are_unlike" (mC 52) ["parts"]
 C_13:FE K mg "is_single_kept" (mC 47) ["rule","worth"]
 C_9:FE K mg "is_kept" (mC 46) ["rule","worth"]
 C_1f:FE K mg "way_of" (mC 58) ["rules","worth"]
 C_worths_by_ways:FE K mg "worths_by_ways" (mC 57) ["kind","rules"]
 C_1c:FE K mg "greatest_divisor" (mC 29) ["one","other"]
 C_u:FE K mg "fraction" (mC 28) ["up","down"]
 C_1d:FE K mg "plus" (mC 31) ["one","other"]
 C_d:FE K mg "together" (mC 32) ["fractions"]
 C_1e:FE K mg "share_of_word" (mC 35) ["kind","word"]
 C_11:FE K mg "times" (mC 30) ["one","other"]
 C_f:FE K mg "share_within" (mC 34) ["kind","worth"]
 C_1g:FE K mg "share_of_parts" (mC 36) ["kinds","parts"]
 C_1a:FE K mg "shares_together" (mC 33) ["kind","worths"]
 C_j:FE K mg "tally" (mC 54) ["kind","rules"]
 C_parted:FE K mg "parted" (mC 55) ["kind","rules"]
 C_1b:FE K mg "counts_keeping" (mC 43) ["worths","rules"]
 C_l:FE K mg "tightest" (mC 56) ["kind","rules"]
 C__law_stays:FE K mg "_law_stays" (mC 76) ["_law_deed"]
 C_0:FE K mg "law" (mC 77) ["_law_script"]
 z:∀x,(["abs","all","any","bool","dict","enumerate","int","isinstance","len","list","min","range","reversed","set","sorted","str","sum","tuple","zip"]:List Str).contains x=true->mg x=none
 c_DEEPEST:∃u,mg "DEEPEST"=some u/\∃t,u=Value.int 3 t
 c_DEEPEST_RULE:∃u,mg "DEEPEST_RULE"=some u/\∃t,u=Value.int 3 t
 c_FARTHEST_BOUND:∃u,mg "FARTHEST_BOUND"=some u/\∃t,u=Value.int 50 t
 c_MOST_TOLD:∃u,mg "MOST_TOLD"=some u/\∃t,u=Value.int 500 t
section
variable {Z:Zz}{Pt:Addr}(tx:Tx Z.K Z.mg)
include tx
set_option hygiene false
local macro_rules | `(tactic| gp_on)=> `(tactic| first
  | (show ur _ _ _ _;first
   | refine GF ?_ ?_
   | exact Dt)
  | (show Snd _ _ (.Name ..) _;first
   | exact ED _ (pv _)
   | exact tx.c_FARTHEST_BOUND.elim λ_ h=>wW (by rfl) h.1 h.2
   | exact tx.c_DEEPEST.elim λ_ h=>wW (by rfl) h.1 h.2
   | exact tx.c_DEEPEST_RULE.elim λ_ h=>wW (by rfl) h.1 h.2
   | exact tx.c_MOST_TOLD.elim λ_ h=>wW (by rfl) h.1 h.2)
  | (show Snd _ _ (.Constant ..) _;first
   | exact Fh
   | exact Ef
   | exact AS)
  | (show wS _ _ _ _;first
   | refine GS ?_ ?_
   | exact EX
   | refine VN (by assumption) hr nd (by rfl) (.inl (by rfl)) ?_ (A7 hy (by kernel_rfl) (by kernel_rfl) (by rfl) ?_ (λ_ hy _ _ _ _ _ _=> ?_) (λ_ hy _ _ _ _ _ _ _ hp=> ?_)) (pv _) (tx.z _ (by kernel_rfl))
   | refine Fv ?_)
  | (show jc _ _ _ _;first
   | exact GE _ (pv _)
   | refine Snd.b ?_)
  | (show wR _ _ _ _;first
   | refine Fj ?_
   | refine ET ?_ ?_ ?_
   | refine GT nd (by rfl) (.inl (by rfl)) ?_
   | refine Ev fB (by rfl) ?_ ?_ ?_
   | refine GU nd (by rfl) (.inl (by rfl)) ?_
   | refine Fg (pv _) ?_
   | refine GV ?_
   | refine GT nd (by rfl) (.inr (by rfl)) ?_
   | refine Fm (pv _) ?_
   | exact Dz
   | refine EF (Cv hy (by kernel_rfl) (by kernel_rfl) (by rfl) ?_ (λ_ hy _ _ _ _ _ _=> ?_) (λ_ hy _ _ _ _ _ _ _ hp=> ?_)) nd (by rfl) (.inl (by rfl)) (by rfl)
   | exact B8 (pv _) nd (by rfl) (.inl (by rfl))
   | refine Kw hr.hd (by rfl) (tx.z _ (by kernel_rfl)) (by rfl) (tx.z _ (by kernel_rfl)) ?_
   | refine YK (n:=_) fB ?_ ?_
   | refine YK (n:=_ ^ _) fB ?_ ?_
   | refine Ho (A7 hy (by kernel_rfl) (by kernel_rfl) (by rfl) ?_ (λ_ hy _ _ _ _ _ _=> ?_) (λ_ hy _ _ _ _ _ _ _ hp=> ?_)))
  | (show Snd _ _ (.Call ..) _;first
   | refine Dy (by rfl) (tx.z _ (by kernel_rfl)) ?_
   | refine V8 (n:="tuple") (WC _) (by rfl) (tx.z _ (by kernel_rfl)) (by rfl) (tx.z _ (by kernel_rfl)) PyProof.Rows.Boot.«tuple» ?_
   | refine D9 (by rfl) (tx.z _ (by kernel_rfl)) ?_
   | refine Es hr.hd (by rfl) (tx.z _ (by kernel_rfl)) ?_
   | refine k9 (by rfl) (tx.z _ (by kernel_rfl)) ?_
   | refine GR (by rfl) (by rfl) (tx.z _ (by kernel_rfl)) ?_ ?_
   | refine DH hr.hd (by rfl) (tx.z _ (by kernel_rfl)) ?_
   | refine F6 ?_
   | refine kN hr.hd (by rfl) (tx.z _ (by kernel_rfl)) (by rfl) (tx.z _ (by kernel_rfl)) ?_ ?_
   | refine V8 (n:="int") (ke _) (by rfl) (tx.z _ (by kernel_rfl)) (by rfl) (tx.z _ (by kernel_rfl)) PyProof.Rows.Boot.«int» ?_
   | refine V8 (n:="bool") (V7 _) (by rfl) (tx.z _ (by kernel_rfl)) (by rfl) (tx.z _ (by kernel_rfl)) PyProof.Rows.Boot.«bool» ?_
   | refine V8 (n:="str") (kg _) (by rfl) (tx.z _ (by kernel_rfl)) (by rfl) (tx.z _ (by kernel_rfl)) PyProof.Rows.Boot.«str» ?_
   | refine EQ hr.hd (by rfl) (tx.z _ (by kernel_rfl)) (by rfl) (tx.z _ (by kernel_rfl)) ?_
   | refine Hj (n:="list") (m:="tuple") (Ub _) (WC _) (by rfl) (tx.z _ (by kernel_rfl)) (by rfl) (tx.z _ (by kernel_rfl)) PyProof.Rows.Boot.«list» (by rfl) (tx.z _ (by kernel_rfl)) PyProof.Rows.Boot.«tuple» ?_
   | refine D4 hr.hd (by rfl) (tx.z _ (by kernel_rfl)) (by rfl) (tx.z _ (by kernel_rfl)) ?_
   | refine F4 hr.hd (by rfl) (tx.z _ (by kernel_rfl)) ?_
   | refine EO (by rfl) (tx.z _ (by kernel_rfl)) ?_
   | refine DW hr.hd (by rfl) (tx.z _ (by kernel_rfl)) ?_ ?_
   | refine Fu (by rfl) (tx.z _ (by kernel_rfl)) ?_
   | refine Wa L hT hy (by assumption) U_words_in hr (by kernel_rfl) (by kernel_rfl) (λbase A outer s H E f c' clos Y' _ hy _ hr=> ?_)
   | refine Wa L hT hy (by assumption) U_tally hr (by kernel_rfl) (by kernel_rfl) (λbase A outer s H E f c' clos Y' _ hy _ hr=> ?_)
   | refine VQ L hT hy (by assumption) U_parted hr (by kernel_rfl) (by kernel_rfl) (λbase A outer s H E f c' clos Y' _ hy _ hr=> ?_)
   | refine Qd L hT hy (by assumption) U_parted hr (by kernel_rfl) (by kernel_rfl) (λbase A outer s H E f c' clos Y' _ hy _ hr=> ?_)
   | refine Wa L hT hy (by assumption) U_tightest hr (by kernel_rfl) (by kernel_rfl) (λbase A outer s H E f c' clos Y' _ hy _ hr=> ?_)
   | refine cZ hy (by assumption) hr ?_)
  | (show Snd _ _ (.Subscript ..) _;first
   | refine Bg ?_ ?_
   | refine kl ?_ ?_ ?_)
  | (show Snd _ _ (.BinOp ..) _;first
   | refine FU ?_ ?_
   | refine DL ?_ ?_
   | refine EV ?_ ?_
   | refine FZ ?_ ?_
   | refine Cj ?_ ?_
   | refine GI ?_ ?_
   | refine DK ?_ ?_)
  | (show Wx _ _ _ _;first
   | refine ux XW (YA hr.units) ?_ ?_ (Jp _)
   | refine Fa ?_
   | refine ux DJ GL ?_ ?_ (Jp _)
   | refine ux Fo GK ?_ ?_ (Jp _)
   | refine ux wQ jr ?_ ?_ (Jp _)
   | refine ux GM (XY hr.units) ?_ ?_ (by rfl)
   | refine ux V4 (xG hr.units) ?_ ?_ (by rfl)
   | refine k7 wQ wQ jr jr ?_ ?_ ?_
   | refine ux Ha (GJ hr.units) ?_ ?_ (Jp _)
   | refine Hb ?_
   | refine Y2.t ?_)
  | (show Snd _ _ (.BoolOp ..) _;first
   | refine Fy ?_ ?_
   | refine Bk ?_ ?_
   | refine Fb ?_)
  | (show wT _ _ _ _ _;first
   | refine EE (by rfl) (tx.z _ (by kernel_rfl)) ?_
   | refine Hf (by rfl) (tx.z _ (by kernel_rfl)) ?_
   | refine D8 (by rfl) (tx.z _ (by kernel_rfl)) ?_ ?_
   | refine Eo (by rfl) (tx.z _ (by kernel_rfl)) ?_ ?_
   | refine DG (by rfl) (tx.z _ (by kernel_rfl)) ?_
   | refine kU (by rfl) (tx.z _ (by kernel_rfl)) ?_
   | exact Hg
   | refine FG ?_)
  | (show Snd _ _ (.Compare ..) _;first
   | refine XV XW (YA hr.units) ?_ ?_ (Jp _)
   | refine XZ wQ wQ jr jr ?_ ?_ ?_
   | refine XV V4 (xG hr.units) ?_ ?_ (by rfl)
   | refine V5 wQ wQ wQ jr jr jr ?_ ?_ ?_ ?_
   | refine XV wQ jr ?_ ?_ (Jp _))
  | (show Snd _ _ (.Tuple ..) _;first
   | refine FC ?_)
  | (show J8 _ _ _ _;first
   | exact Ec
   | refine Eg ?_)
  | (show Snd _ _ (.ListComp ..) _;first
   | refine Kj (F0 (by rfl) hy (by kernel_rfl) (by kernel_rfl) (by rfl) ?_ (λ_ hy _ _ _ _ _ _ _=> ?_) (λ_ hy _ _ _ _ _ _ _=> ?_))
   | refine xM (Cv hy (by kernel_rfl) (by kernel_rfl) (by rfl) ?_ (λ_ hy _ _ _ _ _ _=> ?_) (λ_ hy _ _ _ _ _ _ _ hp=> ?_))
   | refine xM (A7 hy (by kernel_rfl) (by kernel_rfl) (by rfl) ?_ (λ_ hy _ _ _ _ _ _=> ?_) (λ_ hy _ _ _ _ _ _ _ hp=> ?_)))
  | (show Y2 _ _ _ _;first
   | refine BE ?_ ?_
   | refine DD ?_ ?_
   | refine D7 ?_
   | refine GO ?_)
  | (show Snd _ _ (.List ..) _;first
   | refine Ep ?_)
  | (show Aa _ _ _ _;first
   | exact xK nd (by rfl) (.inl (by rfl))
   | exact xK nd (by rfl) (.inr (by rfl))
   | exact DU (by rfl) nd (by rfl) (by rfl) (.inl (by rfl)) (.inl (by rfl)))
  | (show Snd _ _ (.UnaryOp ..) _;first
   | refine Hk ?_
   | refine E8 ?_)
  | (show Snd _ _ (.IfExp ..) _;first
   | refine Bs ?_ ?_ ?_)
  | (show kh _ _ _ _;first
   | refine GQ ?_
   | exact GP)
  )
local macro_rules | `(tactic| kd_all)=> `(tactic| (intro cdv A outer s H E Y hy hE hr nd hp;repeat' gp_on))
theorem EL:qP Z "_law_cell" 2 1 (oP 2 rh):=by
 refine mI tx.C_1k ["_law_script","_law_k"] λ_=> ?_
 kd_all
theorem Bm (_:qP Z "_law_cell" 2 1 c_1k):qP Z "_law_pick" 3 2 (oP 4 (CO c_1k)):=by
 refine mI tx.C_a ["_law_script","_law_k","_law_many","_law_drawn"] λ_=> ?_
 kd_all
theorem Ex (_:qP Z "_law_pick" 3 2 c_a):qP Z "_law_word_of" 2 3 (oP 3 (AE c_a)):=by
 refine mI tx.C_1h ["_law_script","_law_at","_law_letters"] λ_=> ?_
 kd_all
theorem Ez (_:qP Z "_law_pick" 3 2 c_a)(_:qP Z "_law_word_of" 2 3 c_1h):qP Z "_law_leaf_kind" 2 4 (oP 6 (Af c_a c_1h)):=by
 refine mI tx.C_1i ["_law_script","_law_at","_law_low","_law_words","_law_k","_law_word"] λ_=> ?_
 kd_all
theorem A5 {j:Nat}(a:4<=j)(_:qP Z "_law_pick" 3 2 c_a)(_:qP Z "_law_leaf_kind" 2 4 c_1i)(_:qP Z "_law_kind" 3 j c_r):qP Z "_law_kind" 3 (j+1) (oP 6 (tH c_a c_1i c_r)):=by
 refine mI tx.C_r ["_law_script","_law_at","_law_deep","_law_way","_law_some","_law_low"] λ_=> ?_
 kd_all
theorem A1:qP Z "_law_rows_of" 1 1 (oP 5 tq):=by
 refine mI tx.C_s ["_law_lists","_law_made","_law_some","_law_longer","_law_ahead"] λ_=> ?_
 kd_all
theorem BD {j:Nat}(a:1<=j)(_:qP Z "_law_all" 1 j c_h)(_:qP Z "_law_rows_of" 1 1 c_s):qP Z "_law_all" 1 (j+1) (oP 3 (nk c_h c_s)):=by
 refine mI tx.C_h ["_law_kind_here","_law_made","_law_size_here"] λ_=> ?_
 kd_all
theorem Br {j:Nat}(a:9<=j)(_:qP Z "_law_all" 1 9 c_h)(_:qP Z "_law_size" 1 j c_n):qP Z "_law_size" 1 (j+1) (oP 5 (nE c_h c_n)):=by
 refine mI tx.C_n ["_law_kind_here","_law_sizes","_law_made","_law_size_here","_law_inner"] λ_=> ?_
 kd_all
theorem Fs (_:qP Z "_law_kind" 3 12 c_r)(_:qP Z "_law_size" 1 17 c_n):qP Z "_law_small" 3 18 (oP 5 (Ab c_r c_n)):=by
 refine mI tx.C_1j ["_law_script","_law_at","_law_most","_law_kind_here","_law_k"] λ_=> ?_
 kd_all
theorem BG {j:Nat}(a:2<=j)(_:qP Z "_law_pick" 3 2 c_a)(_:qP Z "_law_rule" 3 j c_w):qP Z "_law_rule" 3 (j+1) (oP 6 (tE c_a c_w)):=by
 refine mI tx.C_w ["_law_script","_law_at","_law_deep","_law_way","_law_one","_law_low"] λ_=> ?_
 kd_all
theorem rk:qP Z "is_whole" 1 1 (oP 1 Dk):=by
 refine mI tx.C_c ["thing"] λ_=> ?_
 kd_all
theorem rL (_:qP Z "is_whole" 1 1 c_c):qP Z "is_span" 4 2 (oP 4 (C3 c_c)):=by
 refine mI tx.C_y ["low","high","least","most"] λ_=> ?_
 kd_all
theorem sk:qP Z "is_tuple_of" 3 1 (oP 3 C6):=by
 refine mI tx.C_g ["thing","least","most"] λ_=> ?_
 kd_all
theorem sE:qP Z "is_word" 1 1 (oP 1 Cy):=by
 refine mI tx.C_o ["thing"] λ_=> ?_
 kd_all
theorem pX (_:qP Z "is_whole" 1 1 c_c)(_:qP Z "is_tuple_of" 3 1 c_g)(_:qP Z "is_word" 1 1 c_o):qP Z "is_choice" 1 2 (oP 1 (AK c_c c_g c_o)):=by
 refine mI tx.C_x ["thing"] λ_=> ?_
 kd_all
theorem sx (_:qP Z "is_tuple_of" 3 1 c_g)(_:qP Z "is_choice" 1 2 c_x):qP Z "are_choices" 1 3 (oP 2 (sY c_g c_x)):=by
 refine mI tx.C_v ["thing","words"] λ_=> ?_
 kd_all
theorem re {j:Nat}(a:3<=j)(_:qP Z "is_span" 4 2 c_y)(_:qP Z "is_kind_within" 2 j c_4)(_:qP Z "are_choices" 1 3 c_v)(_:qP Z "are_kinds_within" 2 j c_12):qP Z "is_kind_within" 2 (j+1) (oP 2 (Ay c_y c_4 c_v c_12)):=by
 refine mI tx.C_4 ["thing","levels"] λ_=> ?_
 kd_all
theorem vG {j:Nat}(a:3<=j)(_:qP Z "is_tuple_of" 3 1 c_g)(_:qP Z "is_kind_within" 2 j c_4):qP Z "are_kinds_within" 2 (j+1) (oP 2 (sX c_g c_4)):=by
 refine mI tx.C_12 ["thing","levels"] λ_=> ?_
 kd_all
theorem pZ (_:qP Z "is_kind_within" 2 23 c_4):qP Z "is_kind" 1 24 (oP 1 (tP c_4)):=by
 refine mI tx.C_2 ["thing"] λ_=> ?_
 kd_all
theorem rS (_:qP Z "is_kind" 1 24 c_2):qP Z "need_kind" 1 25 (oP 1 (tX c_2)):=by
 refine mI tx.C_m ["kind"] λ_=> ?_
 kd_all
theorem su:qP Z "words_of_pick" 1 1 (oP 1 sP):=by
 refine mI tx.C_q ["kind"] λ_=> ?_
 kd_all
theorem sD:qP Z "kinds_within" 1 1 (oP 1 oR):=by
 refine mI tx.C_8 ["kind"] λ_=> ?_
 kd_all
theorem pS {j:Nat}(a:1<=j)(_:qP Z "words_of_pick" 1 1 c_q)(_:qP Z "kinds_within" 1 1 c_8)(_:qP Z "words_of" 1 j c_3):qP Z "words_of" 1 (j+1) (oP 3 (tM c_q c_8 c_3)):=by
 refine mI tx.C_3 ["kind","words","part"] λ_=> ?_
 kd_all
theorem si (_:qP Z "need_kind" 1 25 c_m)(_:qP Z "words_of" 1 21 c_3):qP Z "words_in" 1 26 (oP 1 (pK c_m c_3)):=by
 refine mI tx.C_k ["kind"] λ_=> ?_
 kd_all
theorem CG (_:qP Z "need_kind" 1 25 c_m)(_:qP Z "words_of" 1 21 c_3):qF Z "words_in" 1 26 (oP 1 (pK c_m c_3)):=by
 refine BF tx.C_k ["kind"] (by unfold pK;repeat (first | apply uE | apply e | exact wZ | exact uF | exact a | exact c | exact d | exact W1 | exact Q1 | exact Qe)) λ_=> ?_
 kd_all
theorem xn (_:qP Z "is_whole" 1 1 c_c):qP Z "is_bound" 1 2 (oP 1 (BY c_c)):=by
 refine mI tx.C_15 ["thing"] λ_=> ?_
 kd_all
theorem t9 {j:Nat}(a:2<=j)(_:qP Z "is_word" 1 1 c_o)(_:qP Z "is_rule_within" 2 j c_e)(_:qP Z "is_bound" 1 2 c_15):qP Z "is_rule_within" 2 (j+1) (oP 2 (AB c_o c_e c_15)):=by
 refine mI tx.C_e ["thing","levels"] λ_=> ?_
 kd_all
theorem Aw (_:qP Z "is_rule_within" 2 10 c_e):qP Z "is_rule" 1 11 (oP 1 (CV c_e)):=by
 refine mI tx.C_5 ["thing"] λ_=> ?_
 kd_all
theorem Ac (_:qP Z "is_rule" 1 11 c_5):qP Z "need_rule" 1 12 (oP 1 (sO c_5)):=by
 refine mI tx.C_6 ["rule"] λ_=> ?_
 kd_all
theorem sS (_:qP Z "need_rule" 1 12 c_6):qP Z "need_rules" 1 13 (oP 2 (AA c_6)):=by
 refine mI tx.C_i ["rules","rule"] λ_=> ?_
 kd_all
theorem AD {j:Nat}(a:0<=j)(_:qP Z "count_of_parts" 1 j c_z)(_:qP Z "count_shorter" 2 j c_p):qP Z "count_of" 1 (j+1) (oP 1 (AN c_z c_p)):=by
 refine mI tx.C_1 ["kind"] λ_=> ?_
 kd_all
theorem AI {j:Nat}(a:0<=j)(_:qP Z "count_of" 1 j c_1):qP Z "count_of_parts" 1 (j+1) (oP 3 (rT c_1)):=by
 refine mI tx.C_z ["kinds","count","kind"] λ_=> ?_
 kd_all
theorem An {j:Nat}(a:0<=j)(_:qP Z "count_of_parts" 1 j c_z):qP Z "count_shorter" 2 (j+1) (oP 2 (pT c_z)):=by
 refine mI tx.C_p ["kind","length"] λ_=> ?_
 kd_all
theorem tN {j:Nat}(a:20<=j)(_:qP Z "words_of_pick" 1 1 c_q)(_:qP Z "many_at" 2 j c_19)(_:qP Z "parts_at" 2 j c_10):qP Z "worth_at" 2 (j+1) (oP 2 (tz c_q c_19 c_10)):=by
 refine mI tx.C_7 ["kind","number"] λ_=> ?_
 kd_all
theorem xo {j:Nat}(a:20<=j)(_:qP Z "count_shorter" 2 20 c_p)(_:qP Z "parts_at" 2 j c_10):qP Z "many_at" 2 (j+1) (oP 3 (rJ c_p c_10)):=by
 refine mI tx.C_19 ["kind","number","length"] λ_=> ?_
 kd_all
theorem xp {j:Nat}(a:20<=j)(_:qP Z "count_of" 1 20 c_1)(_:qP Z "worth_at" 2 j c_7):qP Z "parts_at" 2 (j+1) (oP 6 (rF c_1 c_7)):=by
 refine mI tx.C_10 ["kinds","number","parts","rest","kind","count"] λ_=> ?_
 kd_all
theorem AO (_:qP Z "need_kind" 1 25 c_m)(_:qP Z "count_of" 1 20 c_1)(_:qP Z "worth_at" 2 40 c_7):qP Z "all_worths" 1 41 (oP 2 (tO c_m c_1 c_7)):=by
 refine mI tx.C_t ["kind","count"] λ_=> ?_
 kd_all
theorem AL {j:Nat}(a:0<=j)(_:qP Z "leaves_of" 1 j c_b):qP Z "leaves_of" 1 (j+1) (oP 3 (Ag c_b)):=by
 refine mI tx.C_b ["worth","leaves","part"] λ_=> ?_
 kd_all
theorem xq (_:qP Z "is_whole" 1 1 c_c)(_:qP Z "leaves_of" 1 8 c_b):qP Z "numbers_in" 1 9 (oP 1 (BJ c_c c_b)):=by
 refine mI tx.C_14 ["worth"] λ_=> ?_
 kd_all
theorem xr:qP Z "parts_of" 1 1 (oP 1 rP):=by
 refine mI tx.C_16 ["worth"] λ_=> ?_
 kd_all
theorem xt:qP Z "are_rising" 1 1 (oP 1 BW):=by
 refine mI tx.C_17 ["numbers"] λ_=> ?_
 kd_all
theorem xu:qP Z "are_unlike" 1 1 (oP 1 BC):=by
 refine mI tx.C_18 ["parts"] λ_=> ?_
 kd_all
theorem xv (_:qP Z "parts_of" 1 1 c_16)(_:qP Z "leaves_of" 1 8 c_b)(_:qP Z "numbers_in" 1 9 c_14)(_:qP Z "are_rising" 1 1 c_17)(_:qP Z "are_unlike" 1 1 c_18):qP Z "is_single_kept" 2 10 (oP 2 (Al c_16 c_b c_14 c_17 c_18)):=by
 refine mI tx.C_13 ["rule","worth"] λ_=> ?_
 kd_all
theorem Ar {j:Nat}(a:10<=j)(_:qP Z "is_kept" 2 j c_9)(_:qP Z "is_single_kept" 2 10 c_13):qP Z "is_kept" 2 (j+1) (oP 2 (tL c_9 c_13)):=by
 refine mI tx.C_9 ["rule","worth"] λ_=> ?_
 kd_all
theorem gE (_:qP Z "is_kept" 2 18 c_9):qP Z "way_of" 2 19 (oP 2 (Av c_9)):=by
 refine mI tx.C_1f ["rules","worth"] λ_=> ?_
 kd_all
theorem Cw:qP Z "greatest_divisor" 2 1 (oP 3 AG):=by
 refine mI tx.C_1c ["one","other","rest"] λ_=> ?_
 kd_all
theorem rR (_:qP Z "greatest_divisor" 2 1 c_1c):qP Z "fraction" 2 2 (oP 3 (tV c_1c)):=by
 refine mI tx.C_u ["up","down","divisor"] λ_=> ?_
 kd_all
theorem Cs (_:qP Z "fraction" 2 2 c_u):qP Z "plus" 2 3 (oP 2 (tR c_u)):=by
 refine mI tx.C_1d ["one","other"] λ_=> ?_
 kd_all
theorem rc (_:qP Z "plus" 2 3 c_1d):qP Z "together" 1 4 (oP 3 (sZ c_1d)):=by
 refine mI tx.C_d ["fractions","total","each"] λ_=> ?_
 kd_all
theorem Cu (_:qP Z "fraction" 2 2 c_u):qP Z "share_of_word" 2 3 (oP 3 (sV c_u)):=by
 refine mI tx.C_1e ["kind","word","weights"] λ_=> ?_
 kd_all
 refine QQ.go (by assumption) λ_ _ _ _ C F=>K9 (i:=2) (j:=1) (by decide) hy F hr (by omega) (by rfl) C.m C.F.kp C.b nd (by rfl) (.inl (by rfl)) (by rfl) (tx.z _ (by kernel_rfl)) (by rfl) (tx.z _ (by kernel_rfl)) (pv 2) (pv 1) ?_ (pi' :=pv 2)
 repeat' gp_on
theorem Cr (_:qP Z "fraction" 2 2 c_u):qP Z "times" 2 3 (oP 2 (Ae c_u)):=by
 refine mI tx.C_11 ["one","other"] λ_=> ?_
 kd_all
theorem rD {j:Nat}(a:20<=j)(_:qP Z "count_of" 1 20 c_1)(_:qP Z "times" 2 3 c_11)(_:qP Z "share_of_word" 2 3 c_1e)(_:qP Z "share_of_parts" 2 j c_1g):qP Z "share_within" 2 (j+1) (oP 3 (o6 c_1 c_11 c_1e c_1g)):=by
 refine mI tx.C_f ["kind","worth","one_length"] λ_=> ?_
 kd_all
theorem Db {j:Nat}(a:20<=j)(_:qP Z "times" 2 3 c_11)(_:qP Z "share_within" 2 j c_f):qP Z "share_of_parts" 2 (j+1) (oP 5 (rW c_11 c_f)):=by
 refine mI tx.C_1g ["kinds","parts","share","kind","part"] λ_=> ?_
 kd_all
theorem Di (_:qP Z "together" 1 4 c_d)(_:qP Z "share_within" 2 40 c_f):qP Z "shares_together" 2 41 (oP 2 (tI c_d c_f)):=by
 refine mI tx.C_1a ["kind","worths"] λ_=> ?_
 kd_all
theorem sK (_:qP Z "shares_together" 2 41 c_1a)(_:qP Z "need_rules" 1 13 c_i)(_:QQ "worths_by_ways" mJ 42 (X3 c_worths_by_ways) Z ):qP Z "tally" 2 43 (oP 3 (pM c_1a c_i c_worths_by_ways)):=by
 refine mI tx.C_j ["kind","rules","ways"] λ_=> ?_
 kd_all
theorem C4 (_:qP Z "shares_together" 2 41 c_1a)(_:qP Z "need_rules" 1 13 c_i)(_:QQ "worths_by_ways" mJ 42 (X3 c_worths_by_ways) Z ):qF Z "tally" 2 43 (oP 3 (pM c_1a c_i c_worths_by_ways)):=by
 refine BF tx.C_j ["kind","rules","ways"] (by unfold pM;repeat (first | apply uE | apply e | exact wZ | exact uF | exact a | exact c | exact d | exact W1 | exact Q1 | exact Qe)) λ_=> ?_
 kd_all
theorem Dl (_:qP Z "is_kept" 2 18 c_9):qP Z "counts_keeping" 2 19 (oP 2 (At c_9)):=by
 refine mI tx.C_1b ["worths","rules"] λ_=> ?_
 kd_all
theorem rZ (_:qP Z "all_worths" 1 41 c_t)(_:qP Z "need_rules" 1 13 c_i)(_:qP Z "counts_keeping" 2 19 c_1b):qP Z "tightest" 2 42 (oP 4 (pL c_t c_i c_1b)):=by
 refine mI tx.C_l ["kind","rules","counts","fewest"] λ_=> ?_
 kd_all
theorem CI (_:qP Z "all_worths" 1 41 c_t)(_:qP Z "need_rules" 1 13 c_i)(_:qP Z "counts_keeping" 2 19 c_1b):qF Z "tightest" 2 42 (oP 4 (pL c_t c_i c_1b)):=by
 refine BF tx.C_l ["kind","rules","counts","fewest"] (by unfold pL;repeat (first | apply uE | apply e | exact wZ | exact uF | exact a | exact c | exact d | exact W1 | exact Q1 | exact Qe)) λ_=> ?_
 kd_all
theorem Ck {f c:Addr}{a:FuncData}(C:Fn Z.K Z.mg "law" (mC 77) ["_law_script"] f a)(e:a.code= .ref c)(hd:dM Z.K c Pt=true)(d:Z.base.BuiltinsAt Z.mg Pt)(_:qP Z "_law_small" 3 18 c_1j)(_:qP Z "words_in" 1 26 c_k)(_:qP Z "_law_rule" 3 10 c_w)(_:qP Z "tally" 2 43 c_j)(U_parted:∀b,Z.K.In b->QQ "parted" mJ 43 (vP c_parted) { Z with base:=b } )(_:qP Z "tightest" 2 42 c_l)(_:qP Z "words_in" 1 26 c_k)(_:qP Z "tally" 2 43 c_j)(_:QQ "parted" mJ 43 (vP c_parted) Z )(_:qP Z "tightest" 2 42 c_l)(_:QS "_law_stays" 43 Z)(U_tally:∀b,Z.K.In b->qF { Z with base:=b } "tally" 2 43 c_j)(U_tightest:∀b,Z.K.In b->qF { Z with base:=b } "tightest" 2 42 c_l)(U_words_in:∀b,Z.K.In b->qF { Z with base:=b } "words_in" 1 26 c_k)(_:qF Z "tally" 2 43 c_j)(_:qF Z "tightest" 2 42 c_l)(_:qF Z "words_in" 1 26 c_k):JW Z.P Z.w Z.K Z.mg Z.base (mN Z.P Z.w) 46 f a ["_law_script"] (xZ Z.cl 1 (oS 6 (Ao c_1j c_k c_w c_j c_parted c_l)) Pt (ox "law")):=by
 refine Ee C e hd d ["_law_script","_law_kind_here","_law_rules","_law_mine","_law_good","?"] ?_;intro A outer s H E Y L hT hy hE hr nd hp
 repeat' gp_on
end
section
variable {Z:Zz}{Pt:Addr}(tx:Tx Z.K Z.mg)
include tx
theorem Y1:QQ "parted" mJ 43 (vP (Zd)) Z:=by
 have e:qP Z "is_whole" 1 1 nL:=rk tx;have Q:qP Z "is_span" 4 2 oV:=rL tx e;have j:qP Z "is_tuple_of" 3 1 nK:=sk tx;have q:qP Z "is_word" 1 1 nS:=sE tx;have I:qP Z "is_choice" 1 2 ot:=pX tx e j q;have F:qP Z "are_choices" 1 3 oB:=sx tx j I;have p:∀n:Nat,qP Z "is_kind_within" 2 (3+n) (mR n 0)/\qP Z "are_kinds_within" 2 (3+n) (mR n 1):=by
  intro n
  induction n with
  | zero=>exact⟨mH tx.C_4,mH tx.C_12⟩
  | succ n c=>exact⟨re tx (am _ _) Q c.1 F c.2,vG tx (am _ _) j c.1⟩
 have G:qP Z "is_kind_within" 2 23 (pq 20):=(p 20).1;have O_12:qP Z "are_kinds_within" 2 23 (sA 20):=(p 20).2;have U:qP Z "is_kind" 1 24 oj:=pZ tx G;have O_m:qP Z "need_kind" 1 25 n6:=rS tx U;have X:qP Z "words_of_pick" 1 1 nZ:=su tx;have k:qP Z "is_bound" 1 2 Kx:=xn tx e;have P:∀n:Nat,qP Z "is_rule_within" 2 (2+n) (oQ n 0):=by
  intro n
  induction n with
  | zero=>exact mH tx.C_e
  | succ n c=>exact t9 tx (am _ _) q c k
 have O_e:qP Z "is_rule_within" 2 10 (pE 8):=(P 8);have J:qP Z "is_rule" 1 11 pk:=Aw tx O_e;have O:qP Z "need_rule" 1 12 oJ:=Ac tx J;have B:qP Z "need_rules" 1 13 nO:=sS tx O;have g:∀n:Nat,qP Z "count_of" 1 (0+n) (mX n 0)/\qP Z "count_of_parts" 1 (0+n) (mX n 1)/\qP Z "count_shorter" 2 (0+n) (mX n 2):=by
  intro n
  induction n with
  | zero=>exact⟨mH tx.C_1,mH tx.C_z,mH tx.C_p⟩
  | succ n c=>exact⟨AD tx (am _ _) c.2.1 c.2.2,AI tx (am _ _) c.1,An tx (am _ _) c.2.1⟩
 have y:qP Z "count_of" 1 20 (nY 20):=(g 20).1;have O_z:qP Z "count_of_parts" 1 20 (tu 20):=(g 20).2.1;have C:qP Z "count_shorter" 2 20 (oy 20):=(g 20).2.2;have i:∀n:Nat,qP Z "worth_at" 2 (20+n) (mY n 0)/\qP Z "many_at" 2 (20+n) (mY n 1)/\qP Z "parts_at" 2 (20+n) (mY n 2):=by
  intro n
  induction n with
  | zero=>exact⟨mH tx.C_7,mH tx.C_19,mH tx.C_10⟩
  | succ n c=>exact⟨tN tx (am _ _) X c.2.1 c.2.2,xo tx (am _ _) C c.2.2,xp tx (am _ _) y c.1⟩
 have M:qP Z "worth_at" 2 40 (oD 20):=(i 20).1;have O_19:qP Z "many_at" 2 40 (tm 20):=(i 20).2.1;have O_10:qP Z "parts_at" 2 40 (Aq 20):=(i 20).2.2;have D:qP Z "all_worths" 1 41 om:=AO tx O_m y M;have R_b:∀n:Nat,qP Z "leaves_of" 1 (0+n) (oK n 0):=by
  intro n
  induction n with
  | zero=>exact mH tx.C_b
  | succ n c=>exact AL tx (am _ _) c
 have v:qP Z "leaves_of" 1 8 (oG 8):=(R_b 8);have w:qP Z "numbers_in" 1 9 Ky:=xq tx e v;have o:qP Z "parts_of" 1 1 Kz:=xr tx;have r:qP Z "are_rising" 1 1 gQ:=xt tx;have x:qP Z "are_unlike" 1 1 gR:=xu tx;have l:qP Z "is_single_kept" 2 10 X7:=xv tx o v w r x;have N:∀n:Nat,qP Z "is_kept" 2 (10+n) (nH n 0):=by
  intro n
  induction n with
  | zero=>exact mH tx.C_9
  | succ n c=>exact Ar tx (am _ _) c l
 have S:qP Z "is_kept" 2 18 (oF 8):=(N 8);have u:qP Z "way_of" 2 19 gT:=gE tx S;have a:QQ "worths_by_ways" mJ 42 (X3 zp) Z:=Bi tx.C_worths_by_ways D u (by refine⟨rfl,rfl,rfl, ?_,rfl, ?_, ?_⟩ <;> decide+kernel) rfl rfl rfl rfl rfl rfl rfl (by rfl) (by rfl)
 have d:QQ "parted" mJ 43 (vP Zd) Z:=rj tx.C_parted B a (tx.z _ (by kernel_rfl)) (by refine⟨rfl,rfl,rfl, ?_,rfl, ?_, ?_⟩ <;> decide+kernel) rfl rfl rfl rfl rfl rfl (by rfl)
 exact d
theorem vH:qF Z "tally" 2 43 (og):=by
 have d:qP Z "is_whole" 1 1 nL:=rk tx;have O_y:qP Z "is_span" 4 2 oV:=rL tx d;have o:qP Z "is_tuple_of" 3 1 nK:=sk tx;have w:qP Z "is_word" 1 1 nS:=sE tx;have S:qP Z "is_choice" 1 2 ot:=pX tx d o w;have O:qP Z "are_choices" 1 3 oB:=sx tx o S;have v:∀n:Nat,qP Z "is_kind_within" 2 (3+n) (mR n 0)/\qP Z "are_kinds_within" 2 (3+n) (mR n 1):=by
  intro n
  induction n with
  | zero=>exact⟨mH tx.C_4,mH tx.C_12⟩
  | succ n c=>exact⟨re tx (am _ _) O_y c.1 O c.2,vG tx (am _ _) o c.1⟩
 have Q:qP Z "is_kind_within" 2 23 (pq 20):=(v 20).1;have O_12:qP Z "are_kinds_within" 2 23 (sA 20):=(v 20).2;have O_2:qP Z "is_kind" 1 24 oj:=pZ tx Q;have O_m:qP Z "need_kind" 1 25 n6:=rS tx O_2;have O_q:qP Z "words_of_pick" 1 1 nZ:=su tx;have q:qP Z "is_bound" 1 2 Kx:=xn tx d;have R_e:∀n:Nat,qP Z "is_rule_within" 2 (2+n) (oQ n 0):=by
  intro n
  induction n with
  | zero=>exact mH tx.C_e
  | succ n c=>exact t9 tx (am _ _) w c q
 have O_e:qP Z "is_rule_within" 2 10 (pE 8):=(R_e 8);have U:qP Z "is_rule" 1 11 pk:=Aw tx O_e;have O_6:qP Z "need_rule" 1 12 oJ:=Ac tx U;have p:qP Z "need_rules" 1 13 nO:=sS tx O_6;have j:∀n:Nat,qP Z "count_of" 1 (0+n) (mX n 0)/\qP Z "count_of_parts" 1 (0+n) (mX n 1)/\qP Z "count_shorter" 2 (0+n) (mX n 2):=by
  intro n
  induction n with
  | zero=>exact⟨mH tx.C_1,mH tx.C_z,mH tx.C_p⟩
  | succ n c=>exact⟨AD tx (am _ _) c.2.1 c.2.2,AI tx (am _ _) c.1,An tx (am _ _) c.2.1⟩
 have l:qP Z "count_of" 1 20 (nY 20):=(j 20).1;have O_z:qP Z "count_of_parts" 1 20 (tu 20):=(j 20).2.1;have M:qP Z "count_shorter" 2 20 (oy 20):=(j 20).2.2;have k:∀n:Nat,qP Z "worth_at" 2 (20+n) (mY n 0)/\qP Z "many_at" 2 (20+n) (mY n 1)/\qP Z "parts_at" 2 (20+n) (mY n 2):=by
  intro n
  induction n with
  | zero=>exact⟨mH tx.C_7,mH tx.C_19,mH tx.C_10⟩
  | succ n c=>exact⟨tN tx (am _ _) O_q c.2.1 c.2.2,xo tx (am _ _) M c.2.2,xp tx (am _ _) l c.1⟩
 have X:qP Z "worth_at" 2 40 (oD 20):=(k 20).1;have O_19:qP Z "many_at" 2 40 (tm 20):=(k 20).2.1;have O_10:qP Z "parts_at" 2 40 (Aq 20):=(k 20).2.2;have N:qP Z "all_worths" 1 41 om:=AO tx O_m l X;have R_b:∀n:Nat,qP Z "leaves_of" 1 (0+n) (oK n 0):=by
  intro n
  induction n with
  | zero=>exact mH tx.C_b
  | succ n c=>exact AL tx (am _ _) c
 have D:qP Z "leaves_of" 1 8 (oG 8):=(R_b 8);have G:qP Z "numbers_in" 1 9 Ky:=xq tx d D;have u:qP Z "parts_of" 1 1 Kz:=xr tx;have y:qP Z "are_rising" 1 1 gQ:=xt tx;have I:qP Z "are_unlike" 1 1 gR:=xu tx;have r:qP Z "is_single_kept" 2 10 X7:=xv tx u D G y I;have R_9:∀n:Nat,qP Z "is_kept" 2 (10+n) (nH n 0):=by
  intro n
  induction n with
  | zero=>exact mH tx.C_9
  | succ n c=>exact Ar tx (am _ _) c r
 have O_9:qP Z "is_kept" 2 18 (oF 8):=(R_9 8);have C:qP Z "way_of" 2 19 gT:=gE tx O_9;have a:QQ "worths_by_ways" mJ 42 (X3 zp) Z:=Bi tx.C_worths_by_ways N C (by refine⟨rfl,rfl,rfl, ?_,rfl, ?_, ?_⟩ <;> decide+kernel) rfl rfl rfl rfl rfl rfl rfl (by rfl) (by rfl)
 have F:qP Z "greatest_divisor" 2 1 gU:=Cw tx;have i:qP Z "fraction" 2 2 oE:=rR tx F;have B:qP Z "plus" 2 3 gX:=Cs tx i;have O_d:qP Z "together" 1 4 pW:=rc tx B;have J:qP Z "share_of_word" 2 3 rN:=Cu tx i;have e:qP Z "times" 2 3 VR:=Cr tx i;have x:∀n:Nat,qP Z "share_within" 2 (20+n) (nv n 0)/\qP Z "share_of_parts" 2 (20+n) (nv n 1):=by
  intro n
  induction n with
  | zero=>exact⟨mH tx.C_f,mH tx.C_1g⟩
  | succ n c=>exact⟨rD tx (am _ _) l e J c.2,Db tx (am _ _) e c.1⟩
 have O_f:qP Z "share_within" 2 40 (pJ 20):=(x 20).1;have O_1g:qP Z "share_of_parts" 2 40 (rV 20):=(x 20).2;have g:qP Z "shares_together" 2 41 gY:=Di tx O_d O_f;have O_j:qP Z "tally" 2 43 og:=sK tx g p a;have P:qF Z "tally" 2 43 og:=C4 tx g p a;exact P
theorem um:qF Z "tightest" 2 42 (n5):=by
 have c:qP Z "is_whole" 1 1 nL:=rk tx;have P:qP Z "is_span" 4 2 oV:=rL tx c;have i:qP Z "is_tuple_of" 3 1 nK:=sk tx;have r:qP Z "is_word" 1 1 nS:=sE tx;have G:qP Z "is_choice" 1 2 ot:=pX tx c i r;have D:qP Z "are_choices" 1 3 oB:=sx tx i G;have q:∀n:Nat,qP Z "is_kind_within" 2 (3+n) (mR n 0)/\qP Z "are_kinds_within" 2 (3+n) (mR n 1):=by
  intro n
  induction n with
  | zero=>exact⟨mH tx.C_4,mH tx.C_12⟩
  | succ n a=>exact⟨re tx (am _ _) P a.1 D a.2,vG tx (am _ _) i a.1⟩
 have F:qP Z "is_kind_within" 2 23 (pq 20):=(q 20).1;have O_12:qP Z "are_kinds_within" 2 23 (sA 20):=(q 20).2;have S:qP Z "is_kind" 1 24 oj:=pZ tx F;have X:qP Z "need_kind" 1 25 n6:=rS tx S;have U:qP Z "words_of_pick" 1 1 nZ:=su tx;have l:qP Z "is_bound" 1 2 Kx:=xn tx c;have O:∀n:Nat,qP Z "is_rule_within" 2 (2+n) (oQ n 0):=by
  intro n
  induction n with
  | zero=>exact mH tx.C_e
  | succ n a=>exact t9 tx (am _ _) r a l
 have O_e:qP Z "is_rule_within" 2 10 (pE 8):=(O 8);have I:qP Z "is_rule" 1 11 pk:=Aw tx O_e;have N:qP Z "need_rule" 1 12 oJ:=Ac tx I;have j:qP Z "need_rules" 1 13 nO:=sS tx N;have e:∀n:Nat,qP Z "count_of" 1 (0+n) (mX n 0)/\qP Z "count_of_parts" 1 (0+n) (mX n 1)/\qP Z "count_shorter" 2 (0+n) (mX n 2):=by
  intro n
  induction n with
  | zero=>exact⟨mH tx.C_1,mH tx.C_z,mH tx.C_p⟩
  | succ n a=>exact⟨AD tx (am _ _) a.2.1 a.2.2,AI tx (am _ _) a.1,An tx (am _ _) a.2.1⟩
 have y:qP Z "count_of" 1 20 (nY 20):=(e 20).1;have O_z:qP Z "count_of_parts" 1 20 (tu 20):=(e 20).2.1;have B:qP Z "count_shorter" 2 20 (oy 20):=(e 20).2.2;have g:∀n:Nat,qP Z "worth_at" 2 (20+n) (mY n 0)/\qP Z "many_at" 2 (20+n) (mY n 1)/\qP Z "parts_at" 2 (20+n) (mY n 2):=by
  intro n
  induction n with
  | zero=>exact⟨mH tx.C_7,mH tx.C_19,mH tx.C_10⟩
  | succ n a=>exact⟨tN tx (am _ _) U a.2.1 a.2.2,xo tx (am _ _) B a.2.2,xp tx (am _ _) y a.1⟩
 have J:qP Z "worth_at" 2 40 (oD 20):=(g 20).1;have O_19:qP Z "many_at" 2 40 (tm 20):=(g 20).2.1;have O_10:qP Z "parts_at" 2 40 (Aq 20):=(g 20).2.2;have k:qP Z "all_worths" 1 41 om:=AO tx X y J;have R_b:∀n:Nat,qP Z "leaves_of" 1 (0+n) (oK n 0):=by
  intro n
  induction n with
  | zero=>exact mH tx.C_b
  | succ n a=>exact AL tx (am _ _) a
 have v:qP Z "leaves_of" 1 8 (oG 8):=(R_b 8);have w:qP Z "numbers_in" 1 9 Ky:=xq tx c v;have p:qP Z "parts_of" 1 1 Kz:=xr tx;have u:qP Z "are_rising" 1 1 gQ:=xt tx;have x:qP Z "are_unlike" 1 1 gR:=xu tx;have o:qP Z "is_single_kept" 2 10 X7:=xv tx p v w u x;have M:∀n:Nat,qP Z "is_kept" 2 (10+n) (nH n 0):=by
  intro n
  induction n with
  | zero=>exact mH tx.C_9
  | succ n a=>exact Ar tx (am _ _) a o
 have Q:qP Z "is_kept" 2 18 (oF 8):=(M 8);have d:qP Z "counts_keeping" 2 19 gZ:=Dl tx Q;have O_l:qP Z "tightest" 2 42 n5:=rZ tx k j d;have C:qF Z "tightest" 2 42 n5:=CI tx k j d;exact C
theorem uo:qF Z "words_in" 1 26 (nR):=by
 have i:qP Z "is_whole" 1 1 nL:=rk tx;have j:qP Z "is_span" 4 2 oV:=rL tx i;have a:qP Z "is_tuple_of" 3 1 nK:=sk tx;have w:qP Z "is_word" 1 1 nS:=sE tx;have r:qP Z "is_choice" 1 2 ot:=pX tx i a w;have k:qP Z "are_choices" 1 3 oB:=sx tx a r;have g:∀n:Nat,qP Z "is_kind_within" 2 (3+n) (mR n 0)/\qP Z "are_kinds_within" 2 (3+n) (mR n 1):=by
  intro n
  induction n with
  | zero=>exact⟨mH tx.C_4,mH tx.C_12⟩
  | succ n d=>exact⟨re tx (am _ _) j d.1 k d.2,vG tx (am _ _) a d.1⟩
 have o:qP Z "is_kind_within" 2 23 (pq 20):=(g 20).1;have x:qP Z "are_kinds_within" 2 23 (sA 20):=(g 20).2;have q:qP Z "is_kind" 1 24 oj:=pZ tx o;have e:qP Z "need_kind" 1 25 n6:=rS tx q;have v:qP Z "words_of_pick" 1 1 nZ:=su tx;have p:qP Z "kinds_within" 1 1 oo:=sD tx;have u:∀n:Nat,qP Z "words_of" 1 (1+n) (n8 n 0):=by
  intro n
  induction n with
  | zero=>exact mH tx.C_3
  | succ n d=>exact pS tx (am _ _) v p d
 have c:qP Z "words_of" 1 21 (pI 20):=(u 20);have y:qP Z "words_in" 1 26 nR:=si tx e c;have l:qF Z "words_in" 1 26 nR:=CG tx e c;exact l
theorem F7 {f c:Addr}{fd:FuncData}(C:Fn Z.K Z.mg "law" (mC 77) ["_law_script"] f fd)(ec:fd.code= .ref c)(hd:dM Z.K c Pt=true)(hBT:Z.base.BuiltinsAt Z.mg Pt):JW Z.P Z.w Z.K Z.mg Z.base (mN Z.P Z.w) 46 f fd ["_law_script"] (xZ Z.cl 1 oN Pt (ox "law")):=by
 have U_parted:∀b,Z.K.In b->QQ "parted" mJ 43 (vP (Zd)) { Z with base:=b }:=λb hb=>Y1 (Z:={ Z with base:=b }) tx;have j:∀b,Z.K.In b->qF { Z with base:=b } "tally" 2 43 (og):=λb hb=>vH (Z:={ Z with base:=b }) tx;have g:∀b,Z.K.In b->qF { Z with base:=b } "tightest" 2 42 (n5):=λb hb=>um (Z:={ Z with base:=b }) tx;have i:∀b,Z.K.In b->qF { Z with base:=b } "words_in" 1 26 (nR):=λb hb=>uo (Z:={ Z with base:=b }) tx;have O_1k:qP Z "_law_cell" 2 1 pR:=EL tx;have o:qP Z "_law_pick" 3 2 mW:=Bm tx O_1k;have O_1h:qP Z "_law_word_of" 2 3 gP:=Ex tx o;have X:qP Z "_law_leaf_kind" 2 4 pY:=Ez tx o O_1h;have R_r:∀n:Nat,qP Z "_law_kind" 3 (4+n) (oA n 0):=by
  intro n
  induction n with
  | zero=>exact mH tx.C_r
  | succ n d=>exact A5 tx (am _ _) o X d
 have O_r:qP Z "_law_kind" 3 12 (oW 8):=(R_r 8);have O_s:qP Z "_law_rows_of" 1 1 mS:=A1 tx;have R_h:∀n:Nat,qP Z "_law_all" 1 (1+n) (pQ n 0):=by
  intro n
  induction n with
  | zero=>exact mH tx.C_h
  | succ n d=>exact BD tx (am _ _) d O_s
 have O_h:qP Z "_law_all" 1 9 (oh 8):=(R_h 8);have R_n:∀n:Nat,qP Z "_law_size" 1 (9+n) (Ak n 0):=by
  intro n
  induction n with
  | zero=>exact mH tx.C_n
  | succ n d=>exact Br tx (am _ _) O_h d
 have O_n:qP Z "_law_size" 1 17 (sI 8):=(R_n 8);have O_1j:qP Z "_law_small" 3 18 sJ:=Fs tx O_r O_n;have R_w:∀n:Nat,qP Z "_law_rule" 3 (2+n) (oH n 0):=by
  intro n
  induction n with
  | zero=>exact mH tx.C_w
  | succ n d=>exact BG tx (am _ _) o d
 have O_w:qP Z "_law_rule" 3 10 (tJ 8):=(R_w 8);have p:qP Z "is_whole" 1 1 nL:=rk tx;have O_y:qP Z "is_span" 4 2 oV:=rL tx p;have x:qP Z "is_tuple_of" 3 1 nK:=sk tx;have O_o:qP Z "is_word" 1 1 nS:=sE tx;have O_x:qP Z "is_choice" 1 2 ot:=pX tx p x O_o;have O_v:qP Z "are_choices" 1 3 oB:=sx tx x O_x;have R_4:∀n:Nat,qP Z "is_kind_within" 2 (3+n) (mR n 0)/\qP Z "are_kinds_within" 2 (3+n) (mR n 1):=by
  intro n
  induction n with
  | zero=>exact⟨mH tx.C_4,mH tx.C_12⟩
  | succ n d=>exact⟨re tx (am _ _) O_y d.1 O_v d.2,vG tx (am _ _) x d.1⟩
 have O_4:qP Z "is_kind_within" 2 23 (pq 20):=(R_4 20).1;have O_12:qP Z "are_kinds_within" 2 23 (sA 20):=(R_4 20).2;have O_2:qP Z "is_kind" 1 24 oj:=pZ tx O_4;have v:qP Z "need_kind" 1 25 n6:=rS tx O_2;have O_q:qP Z "words_of_pick" 1 1 nZ:=su tx;have O_8:qP Z "kinds_within" 1 1 oo:=sD tx;have R_3:∀n:Nat,qP Z "words_of" 1 (1+n) (n8 n 0):=by
  intro n
  induction n with
  | zero=>exact mH tx.C_3
  | succ n d=>exact pS tx (am _ _) O_q O_8 d
 have I:qP Z "words_of" 1 21 (pI 20):=(R_3 20);have U:qP Z "words_in" 1 26 nR:=si tx v I;have V_k:qF Z "words_in" 1 26 nR:=CG tx v I;have O_15:qP Z "is_bound" 1 2 Kx:=xn tx p;have R_e:∀n:Nat,qP Z "is_rule_within" 2 (2+n) (oQ n 0):=by
  intro n
  induction n with
  | zero=>exact mH tx.C_e
  | succ n d=>exact t9 tx (am _ _) O_o d O_15
 have O_e:qP Z "is_rule_within" 2 10 (pE 8):=(R_e 8);have O_5:qP Z "is_rule" 1 11 pk:=Aw tx O_e;have O_6:qP Z "need_rule" 1 12 oJ:=Ac tx O_5;have l:qP Z "need_rules" 1 13 nO:=sS tx O_6;have D:∀n:Nat,qP Z "count_of" 1 (0+n) (mX n 0)/\qP Z "count_of_parts" 1 (0+n) (mX n 1)/\qP Z "count_shorter" 2 (0+n) (mX n 2):=by
  intro n
  induction n with
  | zero=>exact⟨mH tx.C_1,mH tx.C_z,mH tx.C_p⟩
  | succ n d=>exact⟨AD tx (am _ _) d.2.1 d.2.2,AI tx (am _ _) d.1,An tx (am _ _) d.2.1⟩
 have G:qP Z "count_of" 1 20 (nY 20):=(D 20).1;have O_z:qP Z "count_of_parts" 1 20 (tu 20):=(D 20).2.1;have O_p:qP Z "count_shorter" 2 20 (oy 20):=(D 20).2.2;have F:∀n:Nat,qP Z "worth_at" 2 (20+n) (mY n 0)/\qP Z "many_at" 2 (20+n) (mY n 1)/\qP Z "parts_at" 2 (20+n) (mY n 2):=by
  intro n
  induction n with
  | zero=>exact⟨mH tx.C_7,mH tx.C_19,mH tx.C_10⟩
  | succ n d=>exact⟨tN tx (am _ _) O_q d.2.1 d.2.2,xo tx (am _ _) O_p d.2.2,xp tx (am _ _) G d.1⟩
 have O_7:qP Z "worth_at" 2 40 (oD 20):=(F 20).1;have O_19:qP Z "many_at" 2 40 (tm 20):=(F 20).2.1;have O_10:qP Z "parts_at" 2 40 (Aq 20):=(F 20).2.2;have y:qP Z "all_worths" 1 41 om:=AO tx v G O_7;have R_b:∀n:Nat,qP Z "leaves_of" 1 (0+n) (oK n 0):=by
  intro n
  induction n with
  | zero=>exact mH tx.C_b
  | succ n d=>exact AL tx (am _ _) d
 have O_b:qP Z "leaves_of" 1 8 (oG 8):=(R_b 8);have O_14:qP Z "numbers_in" 1 9 Ky:=xq tx p O_b;have O_16:qP Z "parts_of" 1 1 Kz:=xr tx;have O:qP Z "are_rising" 1 1 gQ:=xt tx;have O_18:qP Z "are_unlike" 1 1 gR:=xu tx;have J:qP Z "is_single_kept" 2 10 X7:=xv tx O_16 O_b O_14 O O_18;have R_9:∀n:Nat,qP Z "is_kept" 2 (10+n) (nH n 0):=by
  intro n
  induction n with
  | zero=>exact mH tx.C_9
  | succ n d=>exact Ar tx (am _ _) d J
 have O_9:qP Z "is_kept" 2 18 (oF 8):=(R_9 8);have O_1f:qP Z "way_of" 2 19 gT:=gE tx O_9;have a:QQ "worths_by_ways" mJ 42 (X3 zp) Z:=Bi tx.C_worths_by_ways y O_1f (by refine⟨rfl,rfl,rfl, ?_,rfl, ?_, ?_⟩ <;> decide+kernel) rfl rfl rfl rfl rfl rfl rfl (by rfl) (by rfl)
 have O_1c:qP Z "greatest_divisor" 2 1 gU:=Cw tx;have B:qP Z "fraction" 2 2 oE:=rR tx O_1c;have S:qP Z "plus" 2 3 gX:=Cs tx B;have O_d:qP Z "together" 1 4 pW:=rc tx S;have O_1e:qP Z "share_of_word" 2 3 rN:=Cu tx B;have q:qP Z "times" 2 3 VR:=Cr tx B;have N:∀n:Nat,qP Z "share_within" 2 (20+n) (nv n 0)/\qP Z "share_of_parts" 2 (20+n) (nv n 1):=by
  intro n
  induction n with
  | zero=>exact⟨mH tx.C_f,mH tx.C_1g⟩
  | succ n d=>exact⟨rD tx (am _ _) G q O_1e d.2,Db tx (am _ _) q d.1⟩
 have O_f:qP Z "share_within" 2 40 (pJ 20):=(N 20).1;have O_1g:qP Z "share_of_parts" 2 40 (rV 20):=(N 20).2;have u:qP Z "shares_together" 2 41 gY:=Di tx O_d O_f;have Q:qP Z "tally" 2 43 og:=sK tx u l a;have V_j:qF Z "tally" 2 43 og:=C4 tx u l a;have k:QQ "parted" mJ 43 (vP Zd) Z:=rj tx.C_parted l a (tx.z _ (by kernel_rfl)) (by refine⟨rfl,rfl,rfl, ?_,rfl, ?_, ?_⟩ <;> decide+kernel) rfl rfl rfl rfl rfl rfl (by rfl)
 have r:qP Z "counts_keeping" 2 19 gZ:=Dl tx O_9;have M:qP Z "tightest" 2 42 n5:=rZ tx y l r;have V_l:qF Z "tightest" 2 42 n5:=CI tx y l r;have e:QS "_law_stays" 43 Z:=Bl (n:="_law_told") (m:="_law_kept") tx.C__law_stays (tx.z _ (by kernel_rfl)) (tx.z _ (by kernel_rfl)) (Ub _) (by refine⟨rfl,rfl,rfl, ?_,rfl, ?_, ?_⟩ <;> decide+kernel) rfl rfl rfl rfl rfl rfl (by rfl)
 exact Ck tx C ec hd hBT O_1j U O_w Q U_parted M U Q k M e j g i V_j V_l V_k
end
theorem lz1 {e:FuncData}{d:Str}(c:List Value)(g:c.length=1)(h:∀a,bindArgs e ⟨[a],[]⟩=pure ([d].zip [a])):bindArgs e ⟨c,[]⟩=pure ([d].zip c):=match c,g with | [a],_=>h a
theorem lz2 {g:FuncData}{e i:Str}(d:List Value)(j:d.length=2)(h:∀a c,bindArgs g ⟨[a,c],[]⟩=pure ([e,i].zip [a,c])):bindArgs g ⟨d,[]⟩=pure ([e,i].zip d):=match d,j with | [a,c],_=>h a c
theorem lz3 {j:FuncData}{i k g:Str}(d:List Value)(l:d.length=3)(h:∀a c e,bindArgs j ⟨[a,c,e],[]⟩=pure ([i,k,g].zip [a,c,e])):bindArgs j ⟨d,[]⟩=pure ([i,k,g].zip d):=match d,l with | [a,c,e],_=>h a c e
theorem lz4 {l:FuncData}{j o i k:Str}(e:List Value)(p:e.length=4)(h:∀c d g a,bindArgs l ⟨[c,d,g,a],[]⟩=pure ([j,o,i,k].zip [c,d,g,a])):bindArgs l ⟨e,[]⟩=pure ([j,o,i,k].zip e):=match e,p with | [c,d,g,a],_=>h c d g a
theorem fn1 {K:ai}{h:Heap}{i:Str->Option Value}{f:Addr}{o c:Option Addr}{sl:Array (Option Value)}{p kV a pm cd ct:Value}{x:Str}{st:Stmt}{d:List Str}(X:K.In h)(G:h.Ns mainGlobals i)(e:PySem.W.nsIn K mainGlobals x=some (some (.ref f)))(l:K.lookup f=some ⟨p,o,.func (cB x x (ZR st) (zR st) (ze st) .none kV a pm c cd ct),sl⟩)(g:fM K cd x=true)(k:cW K (.ref f)=true)
  (j:∀F:Fun K x x st f (cB x x (ZR st) (zR st) (ze st) .none kV a pm c cd ct),L2.Binds K (cB x x (ZR st) (zR st) (ze st) .none kV a pm c cd ct) d []):Fn K i x st d f (cB x x (ZR st) (zR st) (ze st) .none kV a pm c cd ct):=
 have F:=GB (st:=st) l g k
 ⟨F,j F,PySem.W.mg_of X G e⟩
theorem zs_of {K:ai}{h:Heap}{c:Str->Option Value}{a:List Str}(X:K.In h)(G:h.Ns mainGlobals c)(hz:(a.all λx=>PySem.W.nsIn K mainGlobals x == some none)=true):∀x,a.contains x=true->c x=none:=λx d=>PySem.W.mg_none_of X G (beq_iff_eq.mp (aS.mp hz x (List.contains_iff_mem.mp d)))
noncomputable abbrev Tx' {K:ai}{h:Heap}(_:K.In h)(mg:Str->Option Value):Prop:=Tx K mg
def vI (K:ai):Bool:=K.all λp=> !(p.2.cls == Value.type "list")
theorem gF {K:ai}(h:vI K=true){a:Addr}{o:Obj}(e:K.lookup a=some o)(c:o.cls=Value.type "list"):False:=by
 have j:(a,o)∈K:=by
  clear h
  induction K with
  | nil=>cases e
  | cons p r i=>
   obtain⟨b,u⟩:=p
   by_cases g:a=b
   ·subst g;have d :some u=some o:=by simpa[aG] using e
    cases d;exact ac
   ·have d :r.lookup a=some o:=by rw[aG,(beq_eq_false_iff_ne.mpr g)]at e;exact e
    exact ab _ (i d)
 have:=aS.mp h _ j;rw[c]at this;simp at this
noncomputable def AQ (o:Obj):Option Addr:=match o.data with
 | .fields vs=>(match (vs[11]? :Option Value) with | some (.ref P)=>some P | _=>none)
 | _=>none
structure DQ (K:ai) (c P:Addr) (o:Obj):Prop where
 t:K.lookup c=some o
 u:AQ o=some P
 h:dM K c P=true
 n:K.lookup P=none
abbrev TP {K:ai}{h:Heap}(_:K.In h)(mg:Str->Option Value):Prop:=∃f fd c Pt o,Fn K mg "law" (mC 77) ["_law_script"] f fd/\fd.code= .ref c/\DQ K c Pt o/\h.get? Pt=some (eW #[])
theorem fin_ {l:PySem.W.OpenLaw}{w:World}{K:ai}{h:Heap}{d:Str->Option Value}{k:Addr}(X:K.In h)(G:h.Ns mainGlobals d)(i:d "law"=some (.ref k))(tx:Tx K d)(u:TP X d):∃(g:FuncData) (c a:Addr),(∀(s:Shared) (v:Value),BindsTo s g ⟨[v],[]⟩ [("_law_script",v)])/\h.get? a=some (eW #[])/\K.lookup a=none/\dM K c a=true/\∀base:Heap,K.In base->base.BuiltinsAt d a->JW l.prog w K d base (mN l.prog w) 46 k g ["_law_script"] (xZ (λ_=> .none) 1 oN a (ox "law")):=by
 obtain⟨f,g,c,a,o,C,p,tk,y⟩:=u;have e:=i.symm.trans C.m;cases e;obtain⟨J,I,kV,r,pm,B,cdv,ct,q,rfl,D,x⟩:=C.F.ex;exact⟨_,c,a,λs v=> .of_eq rfl,y,tk.n,tk.h,λbase M j=>F7 (Z:=⟨l.prog,w,K,d,base,(λ_=> .none)⟩) tx C p tk.h j⟩
theorem F2 {cl:Nat->Value}{H:Hp}{a e:Addr}{o:Obj}{q:Str}{c:List Int}(i:oN [.fz (c.map T.int)]= .ok (.bl true))(h:H a=some (.frz o (.lst (c.map V.int))))(j:H e=some (.tbl #[] q)):xZ cl 1 oN e q [.ref a] H (λv _=>v= .bl true) λ_ _ _=>False:=by
 have d:∀c:List Int,zr H (c.map V.int) (c.map T.int):=λc=>by
  induction c with
  | nil=>exact .nil
  | cons n r g=>exact .cons (.int n) g
 refine⟨j,H,[.fz (c.map T.int)],rfl,zj.refl H,.cons (.fz h (d c)) .nil, ?_⟩;rw[i];intro v k _ r;cases r;rfl
theorem walk {l:PySem.W.OpenLaw}{q:Program}{i:List Str}{XP:(Str->Option Value)->Heap->Prop}{C:World->Heap->Prop}{d:DefRec}{K:Params->ai}{ts:List Addr}(hn:l.most=some 63)(v:d.params.defaults=[])
  (N:∀j:List Int,j.length<=63->oN [.fz (j.map T.int)]= .ok (.bl true)) (D:∀p,vI (K p)=true)
  (M:∀(w:World) (h:Heap),C w h->(K w.params).In h/\∀P∈ts,h.get? P=some (eW #[]))
  (F:∀(w:World) (r:Str->Option Value) (B:Addr) (h:Heap),(K w.params).In h->h.Ns mainGlobals r->r d.name=some (.ref B)->(∀P∈ts,h.get? P=some (eW #[]))->
   ∃(y:FuncData) (c g:Addr),(∀(s:Shared) (u:Value),BindsTo s y ⟨[u],[]⟩ [("_law_script",u)])/\h.get? g=some (eW #[])/\(K w.params).lookup g=none/\dM (K w.params) c g=true/\∀base:Heap,(K w.params).In base->base.BuiltinsAt r g->JW l.prog w (K w.params) r base (mN l.prog w) 46 B y ["_law_script"] (xZ (λ_=> .none) 1 oN g (ox "law"))):
  PySem.W.WalkO q i XP C l.row.toRowW d [] (λf vs=>mj f vs):=
 L2.walk_ofT (n:=63) (k:=46) (x:="_law_script") (nm:=(ox "law")) (CX:=λw=>(mN l.prog w)) (sp:=λw g=>xZ (λ_=> .none) 1 oN g (ox "law")) hn (by decide) v ⟨rfl,by decide,by decide,rfl⟩ M (λw a o e c=>gF (D w.params) e c) F (λw H a g o j J G I=>F2 (N j J) G I) λ_ _ _ _ _ ⟨_,_,_,_,_,_,_,z⟩=>z
end G
namespace PySem.W.Fast
noncomputable def tw2010813639293078927:=0
noncomputable def tw7878341479096153641:=0
noncomputable def tw18412445769917555545:=0
noncomputable def tw14391004543564149306:=0
noncomputable def tw14635340353194129796:=0
noncomputable def tw6551017690285861851:=0
noncomputable def tw9904814251893608423:=0
noncomputable def tw13425402478514973279:=0
noncomputable def tw12634798946307280034:=0
noncomputable def tw17451373536562478675:=0
noncomputable def tw11905770726945858830:=0
noncomputable def tw1916265107474543865:=0
noncomputable def tw10777256321505565727:=0
noncomputable def tw7360393591231382522:=0
noncomputable def tw221723679994048444:=0
noncomputable def tw10890860350805363049:=0
noncomputable def tw14852535348248153492:=0
noncomputable def tw307062848214184829:=0
noncomputable def tw10523389580839570035:=0
noncomputable def tw8278495106203264407:=0
noncomputable def tw8340507729374347513:=0
noncomputable def tw17298625947606052341:=0
noncomputable def tw6401387381262322437:=0
noncomputable def tw13829911850412234705:=0
noncomputable def tw9454756223607933641:=0
noncomputable def tw4952454146137312515:=0
noncomputable def tw17641650086191624824:=0
noncomputable def tw4153594963199368795:=0
noncomputable def tw17780585102363540643:=0
noncomputable def tw9994988429318068059:=0
noncomputable def tw17281440544503930501:=0
noncomputable def tw1624746364726286377:=0
noncomputable def tw7396000141300224451:=0
noncomputable def tw8465089673213916122:=0
noncomputable def tw2709387610363467518:=0
noncomputable def tw3241041397934915450:=0
noncomputable def tw8959601677056560676:=0
noncomputable def tw8390988686274669383:=0
noncomputable def tw9914150282406939031:=0
noncomputable def tw3713744814305797608:=0
noncomputable def tw6779592833186748758:=0
noncomputable def tw12580278930047647871:=0
noncomputable def tw13467132546113065110:=0
noncomputable def tw492721709905363983:=0
noncomputable def tw10688319548432350335:=0
noncomputable def tw14858457138503636550:=0
noncomputable def tw17865870791235299693:=0
noncomputable def tw380782829751168600:=0
noncomputable def tw10322627406712936099:=0
noncomputable def tw7384784567605482589:=0
noncomputable def tw1468982642150609596:=0
noncomputable def tw3739922457315352320:=0
noncomputable def tw9770948519333321141:=0
noncomputable def tw17697344301421847387:=0
noncomputable def tw3828296232766352201:=0
noncomputable def tw182163396213409034:=0
noncomputable def tw7763997525577736896:=0
noncomputable def tw1788848206953154076:=0
noncomputable def tw1584475504661497329:=0
noncomputable def tw15246112147787309067:=0
noncomputable def tw8745432929336927252:=0
noncomputable def tw364810752038434596:=0
noncomputable def tw9782146395484370493:=0
noncomputable def tw3399994107248206189:=0
noncomputable def tw6396212985562507790:=0
noncomputable def tw8187663000501952930:=0
noncomputable def tw1825073129748101150:=0
noncomputable def tw17229742654473171000:=0
noncomputable def tw11672499784315390620:=0
noncomputable def tw9608758081833303719:=0
noncomputable def tw9688000933151939904:=0
noncomputable def tw623810717957992424:=0
noncomputable def tw16454361966405635406:=0
noncomputable def tw16871020478175251486:=0
noncomputable def tw9672373831743934207:=0
noncomputable def tw14664679445861764066:=0
noncomputable def tw6495881539625054962:=0
noncomputable def tw7426188980677584946:=0
noncomputable def tw2102316479429573146:=0
noncomputable def tw7371735552909488380:=0
noncomputable def tw1715451118697883276:=0
noncomputable def tw17839027254955072012:=0
noncomputable def tw2394638991772466157:=0
noncomputable def tw9620717059912845092:=0
noncomputable def tw11715383160589660026:=0
noncomputable def tw3051945356556564129:=0
noncomputable def tw4397449294959246527:=0
noncomputable def tw9269978142923187492:=0
noncomputable def tw3451727244707265822:=0
noncomputable def tw2647795288451124310:=0
noncomputable def tw7049956335110694909:=0
noncomputable def tw15947943477966950463:=0
noncomputable def tw10955091365007050882:=0
noncomputable def tw1585798718197929100:=0
noncomputable def tw703349852233846119:=0
noncomputable def tw4109064264972462842:=0
noncomputable def tw3901077246246656018:=0
noncomputable def tw10275116048133832065:=0
noncomputable def tw5083998201983993086:=0
noncomputable def tw3567998647759815945:=0
noncomputable def tw8228773468411397686:=0
noncomputable def tw4264590052528458378:=0
noncomputable def tw11081293024502538711:=0
noncomputable def tw11922073181073962740:=0
noncomputable def tw14551928176197705611:=0
noncomputable def tw7726062779018851171:=0
noncomputable def tw15434430045962806987:=0
noncomputable def tw7356346796146113596:=0
noncomputable def tw17119398864542546597:=0
noncomputable def tw17276226402324629897:=0
noncomputable def tw10578451104333528764:=0
noncomputable def tw15945107024486219764:=0
noncomputable def tw2501651561581175464:=0
noncomputable def tw9566134806742099490:=0
noncomputable def tw8373261392568181282:=0
noncomputable def tw18146902332176085858:=0
noncomputable def tw17601638822454836558:=0
noncomputable def tw9749059152687136717:=0
noncomputable def tw17725597477364911036:=0
noncomputable def tw4898549789081019028:=0
noncomputable def tw10454922297236352035:=0
noncomputable def tw16850830521208838693:=0
noncomputable def tw10405877861957984076:=0
noncomputable def tw9930341291079711583:=0
noncomputable def tw7048878047126531425:=0
noncomputable def tw4886230805392654966:=0
noncomputable def tw3145317732656415156:=0
noncomputable def tw9953994209195567398:=0
noncomputable def tw4451640865984312951:=0
noncomputable def tw16729118379528238972:=0
noncomputable def tw15031276788294117998:=0
noncomputable def tw12492818668308886268:=0
noncomputable def tw13176690247451713896:=0
noncomputable def tw10141698515873433964:=0
noncomputable def tw7376186876693435627:=0
noncomputable def tw16440421671413968753:=0
noncomputable def tw378098906366735826:=0
noncomputable def tw5591055520603859466:=0
noncomputable def tw15461214269060536288:=0
noncomputable def tw15562069219532035291:=0
noncomputable def tw631543409659140249:=0
noncomputable def tw5543044320136491255:=0
noncomputable def tw12988144674654302277:=0
noncomputable def tw4085533600653839805:=0
noncomputable def tw4888966000614887211:=0
noncomputable def tw4775589509938572052:=0
noncomputable def tw15805172622501157285:=0
noncomputable def tw11375200357967597209:=0
noncomputable def tw1951990254398588916:=0
noncomputable def tw7585759812734865657:=0
noncomputable def tw7354473618505084301:=0
noncomputable def tw8323010450768050120:=0
noncomputable def tw16077042374915508930:=0
noncomputable def tw11641894876123250411:=0
noncomputable def tw11573674851754070160:=0
noncomputable def tw1137687788891702205:=0
noncomputable def tw15828388548711808469:=0
noncomputable def tw4874777217514389465:=0
noncomputable def tw4157480920672729570:=0
noncomputable def tw10308371750363220663:=0
noncomputable def tw7624129271591577525:=0
noncomputable def tw18196454148558583670:=0
noncomputable def tw8604421032888044305:=0
noncomputable def tw1143508400134972641:=0
end PySem.W.Fast
open PySem PySem.W PyProof.Rows
set_option maxRecDepth 100000 in
set_option maxHeartbeats 0 in
theorem PySem.Challenge.cw_worthkinds_k89_whole_told_lists_holds : PySem.Challenge.rw_worthkinds_k89_whole_told_lists.Holds := by
 w_on; o_law; k_head; (case hw=>w_witness2)
 k_fill
 refine G.walk (l:=PySem.Challenge.rw_worthkinds_k89_whole_told_lists) rfl rfl G.law_ok ?nl (fun w h Y=>⟨PySem.W.km_in_of Y,PySem.W.km_tabs_of Y⟩) ?F
 case nl=>intro p; kernel_rfl
 case F=>
  intro w mg fa h KX G0 hmg hT
  have tx:G.Tx' KX mg:=by
   constructor
   all_goals first
    | (refine' ⟨_,_,G.fn1 KX G0 ?e ?l ?g ?k (fun F=>F.binds fun _ _ _ _ _ _ us hl=>by first | exact G.lz1 us hl fun _=>rfl | exact G.lz2 us hl fun _ _=>rfl | exact G.lz3 us hl fun _ _ _=>rfl | exact G.lz4 us hl fun _ _ _ _=>rfl)⟩; (case e | l | g | k=>k_is))
    | exact ⟨_,PySem.W.mg_of KX G0 (by k_is),_,rfl⟩
    | exact G.zs_of KX G0 (by kernel_rfl)
  have tp:G.TP KX mg:=by
   refine' ⟨_,_,_,_,_,G.fn1 KX G0 ?e ?l ?g ?k (fun F=>F.binds fun _ _ _ _ _ _ us hl=>by first | exact G.lz1 us hl fun _=>rfl | exact G.lz2 us hl fun _ _=>rfl | exact G.lz3 us hl fun _ _ _=>rfl | exact G.lz4 us hl fun _ _ _ _=>rfl),rfl,⟨?t, ?u, ?h, ?n⟩, ?m⟩; (case e | l | g | k | t=>k_is); (case u=>exact rfl); (case h | n=>kernel_rfl); (case m=>exact hT _ (by decide))
  refine' G.fin_ KX G0 hmg tx tp
