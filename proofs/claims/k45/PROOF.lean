import PyProof.Rows.All
import Wide.All
import OpenK.AllK
import Wide.FinOn
import Lean
import PyProof.EqAt
import PyProof.EqKinds
import PyProof.TupleCall
import PyProof.NeKinds
import PyProof.WalksEnum
import PyProof.StrWalks
import PyProof.ExcAttrAll.ValueError
import PyProof.ZipIter
import KE.KRevIter
import PyProof.ListNew
import PyProof.WalksMore
import PyProof.ReprLoop
import PyProof.FactsAll.list
import PyProof.CollectIter
import PyProof.TupleOfGen
import PyProof.Draws
import PyProof.EnumMake
import PyProof.SeqI3
import KE.KMinBuiltin
import PyProof.SetRoads
import PyProof.CollectWalk
import KE.KDictSum
import PyProof.AttrMiss
import PyProof.IsiH_tuple
import KE.KDictOf
import PyProof.FitsBits
import PyProof.SliceList
import PyProof.InstFacts
import PyProof.Rows.StrNews2
import PyProof.StrBlockH
import PyProof.CallStr
import KE.KIntText
import PyProof.Rows.RuleB_pow
import KE.KSortTup
import PyProof.ReprRoads
import KE.KLam
import PyProof.MaxThree
import PyProof.DictRoadsH
import PyProof.FactsAll.dict
import PyProof.DictItems
import PyProof.DictValues
import PySem.Challenge.RW_worthkinds_k45_whole_rules_about
open PySem renaming wpAny_bind->a8,wpAny_pure->ac,wpAny_call_entry->aN,wpAny_newObj_type->aQ,wpAny_field->aS,wpAny_setField_rec->aW,wpAny_callSpecial?_slot->b7,wpAny_truthy_bool->b9,wpAny_of_eq->br,wpAny_specialOf->bu,codeAny_builtin->bz,sizeLine_eq->bC,wpAny_holding->bI,wpAny_Call_Name_kw->bP,plainId_quiet->bS,wpAny_seqItems->bV,mem_of_lookup->b_,wpAny_isInstance->cb,wpAny_rule->ce,wpAny_pyIter_tuple->cf,wpAny_passesOwn->ck,wpAny_typeOf->cz,wpAny_pyIter_list->cA,wpAny_attempt->cD,typeLookup_type->cV,codeAny_mono->di,wpAny_mono->dE,call_meets->fu,evalArgs_none->ig,seqSlot_of->la,call->lG
open List renaming mem_cons_of_mem->a9,mem_cons_self->ab,length_map->ae,replicate->ai,getElem?_eq_getElem->aj,mem_cons->ao,map_cons->aq,mem_singleton->au,mem_map->av,getElem?_eq_some_iff->aw,getElem?_map->ax,length_cons->ay,getElem?_set_ne->aA,size_toArray->aB,length_append->aC,length_singleton->aG,all_eq_true->aH,map_map->aJ,lookup_cons->aO,getElem?_append_right->aP,getElem?_replicate->aR,getElem?_append_left->aT,length_replicate->aU,getElem?_eq_none->aV,map_replicate->aX,range->aY,getElem?_set_self->a_,mem_append_right->b6,reverse_cons->ba,map_congr_left->bc,not_mem_nil->be,eq_of_mem_replicate->bj,map_reverse->bm,length_reverse->bo,pairwise_map->bp,mem_append->bv,length_set->bx,replicate_succ->bA,append_assoc->bF,mem_range->bH,append_nil->bJ,mem_of_getElem?->bK,length_range->bL,pairwise_iff_getElem->bN,map_nil->bR,flatMap_cons->bX,of_mem_zip->bY,length_nil->bZ,getD_eq_getElem?_getD->cg,getElem?_zip_eq_some->ci,nodup_cons->cn,nil_append->cq,map_append->cx,getElem_inj->cI,length_take->cK,mem_flatMap->cN,range_succ_eq_map->cS,mem_filter->cU,find?_cons->cW,all_cons->cY,getElem?_reverse->de,mem_iff_getElem?->df,reverse_reverse->dh,cons_append->dj,mem_reverse->dk,drop_eq_getElem_cons->dq,mem_take_iff_getElem->dv,getElem?_range->dw,filter_append->dG,ext_getElem?->dQ,mk_mem_zipIdx_iff_getElem?->eA,pairwise_reverse->eB,length_filter_le->eC,any_eq_true->eG,any_cons->eJ,sum_cons->eM,mem_append_left->eN,mem_iff_getElem->eP,mem_of_mem_take->eT,length_zip->eY,filterMap_cons->eZ,foldl->fr,zip_cons_cons->fA,perm_ext_iff_of_nodup->fB,flatten_cons->fF,nodup_append->fH,getElem?_take_of_lt->fK,length_drop->fR,prefix_refl->fS,length_eq_zero_iff->fU,drop_length->fV,nodup_range->fZ,take_of_length_le->h9,filter_eq_nil_iff->hW,range_succ->hZ,pairwise_flatMap->i8,mergeSort_perm->im,mem_filterMap->ip,map_inj_right->iy,length_zipIdx->iA,mem_replicate->iC,any_eq_false->iE,all_map->iL,getElem_take->iS,sum_nil->iW,filter_congr->i_,getElem_map->lf,getElem_mem->lh,length->ll,range'->lm,forIn_cons->lw,sum_append->ly,filter_map->lF
open PySem.Heap renaming get?_push_of_some->aa,get?_push_size->af,lt_size->am,SameBut->b5,size_push->bU,get?_update_self->d0,get?_update_other->dO,ExtBut->fG,get?_update_ne->il,IsTuple->iN
open PySem.W renaming Frag->ag,kitOne->bq,kia_one->bw,fnOf->c7,kia_tup->cu,keepIn->cJ,kitx_list->dL,kitAny->dU,codeIn->fj,cellsFrom_some->g7,instObj->hX,lookIn->i9,kitx_tuple->iq,kitx_none->iF,kitx_bool->iG,kitx_dict->iH,plainGet->k_,kitx_int->l5,kitx_str->l6
open Bool renaming and_eq_true->ah,false_ne_true->az,false_eq_true->aL,not_true->dz,or_eq_true->dC,eq_iff_iff->dD,not_eq_true'->iU
open Nat renaming le_refl->ak,le_trans->ar,ne_of_lt->aD,le_add_right->aF,lt_of_lt_of_le->aK,zero_le->aZ,mul_le_mul->bf,lt_of_le_of_lt->bh,lt_irrefl->bi,le_succ->bT,pow_le_pow_right->bW,one_mul->c9,ne_of_gt->cy,lt_succ_of_lt->cB,le_mul_of_pos_right->cM,mul_pos->cO,mul_comm->cR,mul_assoc->c_,lt_succ_self->eD,add_mul->eR,mul_le_mul_right->eS,pow_add->eU,add_le_add_left->e_,lt_trans->f8,gcd->fI,le_of_lt->f_,pow_succ->hU,zero_add->hV,pow_lt_pow_right->ie,succ_mul->iI,add_comm->iJ,lt_succ_of_le->iV,gcd_comm->iX,gcd_one_right->iY,le_succ_of_le->iZ,succ_ne_self->lc,not_lt_zero->lC,min_eq_left->lD,div_le_self->lE
open PySem.Str renaming ofString->aE
open Option.some renaming inj->aI
open PyProof.Rows renaming callWith_type1->aM,slot_tuple_getitem->bb
open Ne renaming symm->b8
open PySem.F renaming slot_dict_itemiterator_next->bg,slot_bool_hash->bO,slot_tuple_getattribute->cj,called_set->cT,slot_zip_next->db,called_tuple->dg,args_tuple_add_2->dy,entry_tuple_add->dH,plainAttrs_list->dI,slot_tuple_add->dM,slot_tuple_iterator_next->dR,plain_tuple_new->dS,args_dict_itemiterator_next_1->d_,entry_dict_itemiterator_next->eH,args_object_init_2->eO,slot_dict_itemiterator_iter->eQ,slot_int_rmul->eV,plain_extend_loop->f6,slot_list_append->fL,type_list_append->fM,slot_dict_values->fN,slot_tuple_mul->fT,args_zip_next_1->fX,plainAttrs_dict->fY,entry_zip_next->h7,slot_dict_items_iter->hJ,entry_proto_collect->h_,slot_tuple_lt->i7,entry_object_init->ii,typeCall_tuple_1->iw,args_int_hash_1->iD,args_int_rmul_2->iK,slot_tuple_rmul->iM,plain_list_iadd->iO,entry_list_iadd->iP,newCall_tuple_1->iQ,entry_tuple_new->iR,slot_dict_items->iT,entry_int_hash->j_,slot_int_index->l8,entry_int_rmul->l9,fills_int_mul->lr
open Int renaming toNat_natCast->bE,natAbs_natCast->dF,eq_ofNat_of_zero_le->dJ,natCast_mul->eW,fdiv_eq_ediv_of_nonneg->ff,natAbs_mul->ic,emod_lt_of_pos->iz,emod_nonneg->lA
open Array renaming length_toList->bM,getElem?_eq_none->c8,getElem?_eq_getElem->du,perm_iff_toList_perm->fy,getElem?_toList->i5,getD->ix
open PySem.Builtin.List renaming listTooLong->bQ,listSameRef->cF,listExtendWith->f7,listFitsIndex->fx
open PySem.Heap.SameBut renaming update->c6
open PySem.Obj renaming mapSeq->cC,data_mapDictKeys->ib,data_mapFields->iu
open PySem.Builtin.Tuple renaming tupleExact->cG,tupleItemsOf->fk,tupleTooMany->fv
open PyProof.Rows.KeyOrd renaming klt_of_klt_of_kle->cH,kle_of_klt->dW
open PySem.AutoSeq1 renaming wpAny_loadPart'->cL
open PySem.SeqAt renaming EqAt->cP,RcNeAt->dP,RcAt->g_
open False renaming elim->cQ
open PySem.Builtin.Dict_items renaming ownsTuple->cX,ownedTupleIsFree->dA,ownedTupleFields->dB,pairFromOwner->dY
open PySem.Builtin.Slice renaming slicePlaces->dm,sliceAdjust->fD
open PySem.Calls renaming callWith_builtin->dN,Name_function_global->f9,spliced_cons->fg,spliced_nil->fE
open Option renaming map_eq_some_iff->dX,isSome_iff_exists->fJ,getD_none->l7
open List.Pairwise renaming imp->dZ
open PySem.Paired renaming length->eI
open PySem.Shared renaming TypeIs->eK,heap->lq
open PySem.PassesOwn renaming never->eX
open Rat renaming num_mkRat->fO,den_mkRat->fP,add_assoc->io
open PySem.Builtin.Range renaming rangeSize->fQ
open PyProof.Rows.F renaming entry_set_update_loop->fW
open PySem.Builtin.Dict renaming showsAll->i6
open PySem.Around renaming under_plainId->ia
open PySem.Builtin.Int renaming intBits->ij
open PySem.SeqAt.EqAt renaming of_refs->ir,same->lu
open PySem.WalksT renaming enumerate->lb
open Classical renaming skolem->lg
open List.cons renaming injEq->lz
open PySem.Walks renaming list->lH
noncomputable section
set_option maxHeartbeats 4000000
set_option Elab.async false
set_option linter.all false
set_option compiler.extract_closed false
set_option maxRecDepth 100000
namespace L2
open PySem PySem.Spec PyProof.Rows
noncomputable abbrev Key:=Sum Bool Str
def Qd:Key->Value->Bool
 | .inl k,.bool b=>b == k
 | .inl _,_=>false
 | .inr x,v=>Value.isStrOf x v
def keyH (w:World):Key->Int
 | .inl k=>hashInt (if k then 1 else 0)
 | .inr x=>hashStr w x
theorem zP:∀{k:Key} {v:Value},Qd k v=true->(∃(i:Bool) (t:Tok),k=Sum.inl i/\v=Value.bool i)\/(∃x t,k=Sum.inr x/\v=Value.str x t)
 | .inl i,v,h=>by
  cases v <;> first | exact .inl ⟨i,0,rfl,congrArg _ (eq_of_beq h)⟩ | cases h
 | .inr x,v,h=>by
  obtain⟨t,e⟩:=Value.isStrOf_shape h;exact .inr ⟨x,t,rfl,e⟩
theorem yc (x:Str)(t:Tok):Qd (.inr x) (.str x t)=true:=by simp[Qd,Value.isStrOf]
theorem kg (a b:Bool):decide ((Sum.inl a:Key)=Sum.inl b)=(a == b):=by
 by_cases e:a=b
 ·subst e;simp
 ·have h:¬ (Sum.inl a:Key)=Sum.inl b:=λq=>e (Sum.inl.inj q);rw[decide_eq_false h];exact(beq_eq_false_iff_ne.mpr e).symm
theorem kh (a b:Str):decide ((Sum.inr a:Key)=Sum.inr b)=decide (a=b):=by
 by_cases e:a=b
 ·simp
 ·have h:¬ (Sum.inr a:Key)=Sum.inr b:=λq=>e (Sum.inr.inj q);rw[decide_eq_false h,decide_eq_false e]
theorem ki (a:Bool)(b:Str):decide ((Sum.inl a:Key)=Sum.inr b)=false:=decide_eq_false (λq=>nomatch q)
theorem kl (a:Str)(b:Bool):decide ((Sum.inr a:Key)=Sum.inl b)=false:=decide_eq_false (λq=>nomatch q)
theorem Jg {prog:Program}{w:World}{A:Around}{E:Value->Shared->Prop}{s:Shared}{b:Bool}{Q:Int->Shared->Prop}(h:Q (hashInt (if b then 1 else 0)) { s with toks:=s.toks+1 }):wpAny (model prog w) A (pyHash (.bool b)) Q E s:=by
 have hT:s.TypeIs (.bool b) "bool":=rfl;unfold pyHash;have hv:[Value.bool b].any Value.onHeap=false:=rfl;refine a8 ?_;rw[cRoomFor,if_neg (by rw[hv];exact az)];refine ac ?_
 refine a8 (bu hT bO.lookup ?_);show wpAny _ _ (if (some (Value.builtin "int.__hash__") == some Value.none)=true then _ else _) Q E s
 rw[if_neg (by rw[beq_builtin_none];exact az)]
 refine a8 (bu hT bO.lookup ?_);show wpAny _ _ (callSpecialIfBoundUnlessNone? (.bool b) "__hash__" _ >>= _) Q E s;refine a8 (wpAny_callSpecialIfBoundUnlessNone?_slot hT bO
  (aN bO hT j_
   (show wpAny _ _ (do ret (← mkInt (rawHash (if b then 1 else 0)))) _ _ s from by cases b <;> refine wpAny_ret_mkInt ?_ <;> exact ac h) (iD _)))
def zX (prog:Program)(w:World):PySem.KeyKind prog w Key where
 is:=Qd
 hash:=keyH w
 inj:=λv a b ha hb=>by
  rcases zP ha with ⟨i,t,rfl,rfl⟩ | ⟨x,t,rfl,rfl⟩
  ·rcases zP hb with ⟨j,u,rfl,e⟩ | ⟨y,u,rfl,e⟩
   ·injection e with e1;rw[e1]
   ·exact nomatch e
  ·rcases zP hb with ⟨j,u,rfl,e⟩ | ⟨y,u,rfl,e⟩
   ·exact nomatch e
   ·injection e with e1 _;rw[e1]
 byValue:=λk v h=>by
  rcases zP h with ⟨i,t,rfl,rfl⟩ | ⟨x,t,rfl,rfl⟩ <;> rfl
 pyHash:=λhv h=>by
  rcases zP hv with ⟨i,t,rfl,rfl⟩ | ⟨x,t,rfl,rfl⟩
  ·exact Jg h
  ·exact wpAny_pyHash_str h
 eqBool:=λhu hv h=>by
  rcases zP hu with ⟨i,t,rfl,rfl⟩ | ⟨x,t,rfl,rfl⟩
  ·rcases zP hv with ⟨j,u,rfl,rfl⟩ | ⟨y,u,rfl,rfl⟩
   ·rw[kg]at h;exact cP.bool_bool i j _ _ _ _ h
   ·rw[ki]at h;exact cP.bool_str i y u _ _ _ _ h
  ·rcases zP hv with ⟨j,u,rfl,rfl⟩ | ⟨y,u,rfl,rfl⟩
   ·rw[kl]at h;exact cP.str_bool x t j _ _ _ _ h
   ·rw[kh]at h;exact wpAny_eqBool_str h
 «strs»:=λk x t v h=>by
  rcases zP h with ⟨i,u,rfl,e⟩ | ⟨y,u,rfl,e⟩
  ·exact nomatch e
  ·injection e with e1 _;subst e1;cases v <;> rfl
theorem j6 (prog:Program)(w:World)(x:Str)(t:Tok):(zX prog w).is (.inr x) (.str x t)=true:=yc x t
end L2
namespace L2
open PySem PySem.Spec PyProof.Rows
inductive V where
 | non | bl (b:Bool) | int (i:Int) | str (x:Str) | byt (b:Array UInt8) | flt (b:UInt64) | ref (a:Addr) | ty (n:String)
 deriving DecidableEq
noncomputable def RelV:V->Value->Prop
 | .non,u=>u=Value.none
 | .bl b,u=>u=Value.bool b
 | .int i,u=>∃t,u=Value.int i t
 | .str x,u=>∃t,u=Value.str x t
 | .byt b,u=>∃t,u=Value.bytes b t
 | .flt b,u=>∃t,u=Value.float b t
 | .ref a,u=>u=Value.ref a
 | .ty n,u=>u=Value.type n
abbrev Vals:List V->List Value->Prop:=Paired RelV
theorem Vals.length {xs:List V}{us:List Value}(r:Vals xs us):xs.length=us.length:=eI r
theorem Vals.get:∀{xs:List V} {us:List Value} {i:Nat} {x:V},Vals xs us->xs[i]? =some x->∃u,us[i]? =some u/\RelV x u
 | _,_,_,_,.nil,e=>by simp at e
 | _,_,0,_,.cons r _,e=>by simp at e;subst e;exact⟨_,rfl,r⟩
 | _,_,i+1,x,.cons _ t,e=>by
  obtain⟨u,h1,h2⟩:=Vals.get t (by simpa using e)
  exact⟨u,by simpa using h1,h2⟩
theorem Vals.append:∀{xs ys:List V} {us ws:List Value},Vals xs us->Vals ys ws->Vals (xs++ys) (us++ws)
 | _,_,_,_,.nil,s=>s
 | _,_,_,_,.cons r t,s=> .cons r (Vals.append t s)
theorem Vals.take:∀{xs:List V} {us:List Value} (n:Nat),Vals xs us->Vals (xs.take n) (us.take n)
 | _,_,0,_=> .nil
 | _,_,_+1,.nil=> .nil
 | _,_,n+1,.cons r t=> .cons r (Vals.take n t)
theorem Vals.drop:∀{xs:List V} {us:List Value} (n:Nat),Vals xs us->Vals (xs.drop n) (us.drop n)
 | _,_,0,r=>r
 | _,_,_+1,.nil=> .nil
 | _,_,n+1,.cons _ t=>Vals.drop n t
def GL:Option V->Option Value->Prop
 | some v,some u=>RelV v u
 | none,none=>True
 | _,_=>False
def KV {κ:Type}:List (κ×V)->List (κ×Value)->Prop:=Paired λ(p:κ×V) (q:κ×Value)=>p.1=q.1/\RelV p.2 q.2
def kV:Key->V
 | .inl i=> .bl i
 | .inr x=> .str x
inductive HO where
 | lst (xs:List V)
 | tup (xs:List V)
 | dK (kvs:List (Key×V)) | dT (kvs:List (List Key×Addr×V))
 | set (S:Int->Bool) (n:Nat)
 | ins (C dx:Addr) (fs:List (Str×V))
 | own (x:Addr)
 | xd (fs:List (Str×V))
 | met (f x:Addr)
 | rng (lo hi:Int)
 | frz (o:Obj) (u:HO)
 | tbl (ps:Array Value) (q:Str)
 | ext (φ:Heap->Prop)
noncomputable abbrev Hp:=Addr->Option HO
def upd (H:Hp)(a:Addr)(o:HO):Hp:=λb=>if b=a then some o else H b
theorem zl {H:Hp}{a:Addr}{o:HO}:upd H a o a=some o:=by unfold upd;rw[if_pos rfl]
theorem zf {H:Hp}{a b:Addr}{o:HO}(h:b ≠ a):upd H a o b=H b:=by unfold upd;rw[if_neg h]
theorem yd {H:Hp}{a b:Addr}{o u:HO}(h:H a=some o)(h' :H b=some u)(d:o ≠ u):a ≠ b:=by
 intro e;subst e;rw[h]at h';exact d (aI h')
theorem zv {H:Hp}{a b:Addr}{o:HO}(h:H a=some o)(h' :H b=none):a ≠ b:=by
 intro e;subst e;rw[h]at h';cases h'
noncomputable def ITN (h:Heap)(a:Addr)(its:Array Value):Prop:=IsTup h a its/\((∃i t,its[0]? =some (Value.int i t))\/∃o,h.get? a=some o/\o.dict=none)
theorem ITN.new (h:Heap)(its:Array Value):ITN (h.push { cls:= .type "tuple",data:= .seq its }) h.objs.size its:=⟨IsTup.new h its,.inr ⟨_,af _ rfl,rfl⟩⟩
section
variable (P:Program)(w:World)
def zN (H:Hp)(h:Heap)(a:Addr):HO->Prop
 | .lst xs=>xs.length<=sizeLine/\∃(its:List Value) (n:Nat),Vals xs its/\h.get? a=some { cls:= .type "list",data:= .seq its.toArray n }
 | .tup xs=>xs.length<=sizeLine/\∃its:List Value,Vals xs its/\ITN h a its.toArray
 | .dK kvs=>kvs.length<=sizeLine/\(a == sysModules)=false/\∃vs,KV kvs vs/\h.DictOf (zX P w) a vs
 | .dT kvs=>kvs.length<=sizeLine/\(a == sysModules)=false/\∃xs:List (List Key×Addr×Value),
   Paired (λ(p:List Key×Addr×V) (q:List Key×Addr×Value)=>p.1=q.1/\H q.2.1=some (.tup (p.1.map kV))/\RelV p.2.2 q.2.2/\p.2.1=q.2.1) kvs xs/\
   ∃o es ep,h.get? a=some o/\o.ExactDict/\o.data= .dict es ep/\es.toList=xs.map (entryOfKey (tupleKind (zX P w)))/\(xs.map (·.1)).Nodup
 | .set S n=>h.SetOf (intKind P w) a S n
 | .ins C dx fs=>H dx=some (.own a)/\fs.length<=1000/\dx ≠ a/\h.get? a=some (hX C dx)/\
   ∃mA,h.Ns1 dx mA/\(∀f,GL (fs.lookup f) (mA f))/\PySem.Within mA (fs.map (·.1))
 | .own _=>∃o,h.get? a=some o
 | .xd fs=>∃mA,h.Ns1 a mA/\∀f,GL (fs.lookup f) (mA f)
 | .rng lo hi=>∃t u v,h.get? a=some { cls:= .type "range",data:= .fields #[.int lo t,.int hi u,.int 1 v] }
 | .frz o u=>h.get? a=some o/\zN H h a u
 | .tbl ps q=>∃more:Array Value,h.get? a=some { cls:= .none,data:= .fields (ps++more) }/\TriplesOk (ps++more).toList/\∀p cv,codeAmong p (ps++more).toList=some cv->∃c oc vs t,cv= .ref c/\H c=some (.frz oc (.own c))/\oc.data= .fields vs/\vs[1]? =some (.str q t)
 | .met f x=>h.get? a=some (PySem.W.methodObj (.ref f) (.ref x))
 | .ext φ=>φ h/\(∃o,h.get? a=some o)/\∀h1 h2:Heap,φ h1->(∀o,h1.get? a=some o->h2.get? a=some o)->φ h2
def HOk (H:Hp)(h:Heap):Prop:=∀a o,H a=some o->zN P w H h a o
end
section
variable {P:Program}{w:World}{H H' :Hp}{h h' :Heap}{a:Addr}{o:HO}
theorem zN.lt (x:zN P w H h a o):a < h.objs.size:=by
 cases o with
 | lst xs=>obtain⟨_,_,_,_,e⟩:=x;exact am e
 | tup xs=>obtain⟨_,_,_,p,_⟩:=x;exact p.lt
 | dK kvs=>obtain⟨_,_,_,_,o,_,_,e,_⟩:=x;exact am e
 | dT kvs=>obtain⟨_,_,_,_,o,_,_,e,_⟩:=x;exact am e
 | set S n=>obtain⟨o,_,_,_,e,_⟩:=x;exact am e
 | ins C dx fs=>obtain⟨_,_,_,e,_⟩:=x;exact am e
 | own y=>obtain⟨_,e⟩:=x;exact am e
 | xd fs=>obtain⟨_,⟨_,_,_,e,_⟩,_⟩:=x;exact am e
 | rng lo hi=>obtain⟨_,_,_,e⟩:=x;exact am e
 | frz ob u=>obtain⟨e,_⟩:=x;exact am e
 | tbl ps q=>obtain⟨_,e,_⟩:=x;exact am e
 | met f y=>exact am (x)
 | ext φ=>obtain⟨_,⟨_,e⟩,_⟩:=x;exact am e
theorem Paired.mapP {α β:Type}{F G:α->β->Prop}:∀{l₁:List α} {l₂:List β},Paired F l₁ l₂->(∀a b,F a b->G a b)->Paired G l₁ l₂
 | _,_,.nil,_=> .nil
 | _,_,.cons r t,f=> .cons (f _ _ r) (Paired.mapP t f)
theorem zN.stay (x:zN P w H h a o)(k:∀b u,(b=a\/H b=some (.own a))->h.get? b=some u->h'.get? b=some u)
  (ho:∀b,H b=some (.own a)->H' b=some (.own a)) (ht:∀b xs,H b=some (.tup xs)->H' b=some (.tup xs)) (hf:∀b o u,H b=some (.frz o u)->H' b=some (.frz o u):=by exact λ_ _ _ q=>q):zN P w H' h' a o:=by
 induction o with
 | lst xs=>obtain⟨z,its,n,r,e⟩:=x;exact⟨z,its,n,r,k _ _ (.inl rfl) e⟩
 | tup xs=>obtain⟨z,its,r,⟨ob,e,c⟩,q⟩:=x;exact⟨z,its,r,⟨ob,k _ _ (.inl rfl) e,c⟩,q.imp id λ⟨o2,e2,d2⟩=>⟨o2,k _ _ (.inl rfl) e2,d2⟩⟩
 | dK kvs=>obtain⟨z,y,vs,r,ob,es,ep,e,c⟩:=x;exact⟨z,y,vs,r,ob,es,ep,k _ _ (.inl rfl) e,c⟩
 | dT kvs=>
  obtain⟨z,y,xs,r,ob,es,ep,e,c⟩:=x;exact⟨z,y,xs,Paired.mapP r λp q z=>⟨z.1,ht _ _ z.2.1,z.2.2⟩,ob,es,ep,k _ _ (.inl rfl) e,c⟩
 | set S n=>obtain⟨ob,es,ep,t,e,c⟩:=x;exact⟨ob,es,ep,t,k _ _ (.inl rfl) e,c⟩
 | ins C dx fs=>
  obtain⟨d,z,ne,e,mA,⟨od,es,ep,e2,c⟩,r⟩:=x;exact⟨ho _ d,z,ne,k _ _ (.inl rfl) e,mA,⟨od,es,ep,k _ _ (.inr d) e2,c⟩,r⟩
 | own y=>obtain⟨ob,e⟩:=x;exact⟨ob,k _ _ (.inl rfl) e⟩
 | xd fs=>obtain⟨mA,⟨od,es,ep,e,c⟩,r⟩:=x;exact⟨mA,⟨od,es,ep,k _ _ (.inl rfl) e,c⟩,r⟩
 | rng lo hi=>obtain⟨t,u,v,e⟩:=x;exact⟨t,u,v,k _ _ (.inl rfl) e⟩
 | frz ob u ih=>obtain⟨e,q⟩:=x;exact⟨k _ _ (.inl rfl) e,ih q⟩
 | tbl ps q=>
  obtain⟨m,e,tr,al⟩:=x;exact⟨m,k a _ (.inl rfl) e,tr,λp cv z=>let ⟨c,oc,vs,t,e1,e2,e3⟩:=al p cv z;⟨c,oc,vs,t,e1,hf _ _ _ e2,e3⟩⟩
 | met f y=>
  have e:=x;exact k a _ (.inl rfl) e
 | ext φ=>obtain⟨p,⟨o,e⟩,st⟩:=x;exact⟨st _ _ p λo q=>k _ _ (.inl rfl) q,⟨o,k _ _ (.inl rfl) e⟩,st⟩
theorem HOk.lt (x:HOk P w H h)(e:H a=some o):a < h.objs.size:=(x a o e).lt
theorem HOk.fresh (x:HOk P w H h)(e:h.objs.size<=a):H a=none:=by
 cases q:H a with
 | none=>rfl
 | some u=>exact absurd (aK (x.lt q) e) (bi _)
theorem HOk.kept (x:HOk P w H h)(k:∀b u,h.get? b=some u->h'.get? b=some u):HOk P w H h' :=λa o e=>
 (x a o e).stay (λb u _ q=>k b u q) (λ_ q=>q) λ_ _ q=>q
theorem HOk.laid (x:HOk P w H h)(k:∀b u,h.get? b=some u->h'.get? b=some u)(hp:h.objs.size<=a)(new:zN P w (upd H a o) h' a o):HOk P w (upd H a o) h' :=λb u e=>by
 have hn:=x.fresh hp
 by_cases hb:b=a
 ·subst hb;rw[zl]at e;cases e;exact new
 ·rw[zf hb]at e;exact(x b u e).stay (λc v _ q=>k c v q) (λc q=>by rw[zf (zv q hn)];exact q) (λc xs q=>by rw[zf (zv q hn)];exact q) λc o u q=>by rw[zf (zv q hn)];exact q
end
def Rd (H:Hp)(a:Addr)(u:HO):Prop:=H a=some u\/∃o,H a=some (.frz o u)
theorem Rd.ok {P:Program}{w:World}{H:Hp}{h:Heap}{a:Addr}{u:HO}(r:Rd H a u)(x:HOk P w H h):zN P w H h a u:=by
 rcases r with r | ⟨o,r⟩
 ·exact x a u r
 ·obtain⟨_,q⟩:=x a _ r;exact q
noncomputable def Mut:Option HO->Prop
 | some (.lst _)=>True
 | some (.dK _)=>True
 | some (.dT _)=>True
 | some (.set _ _)=>True
 | some (.ins _ _ _)=>True
 | some (.ext _)=>True
 | _=>False
section
variable {P:Program}{w:World}{H:Hp}{h h' :Heap}{x e:Addr}{o' :HO}
theorem HOk.write (ok:HOk P w H h)(mu:Mut (H x))(he:e=x\/H e=some (.own x))(k:∀b u,b ≠ e->h.get? b=some u->h'.get? b=some u)(heo:∃u,h'.get? e=some u)
  (new:zN P w (upd H x o') h' x o'):HOk P w (upd H x o') h' :=λb u q=>by
 have nown:∀c y,H c=some (.own y)->c ≠ x:=λc y r z=>by subst z;rw[r]at mu;exact mu
 have ntup:∀c xs,H c=some (.tup xs)->c ≠ x:=λc xs r z=>by subst z;rw[r]at mu;exact mu
 by_cases hb:b=x
 ·subst hb;rw[zl]at q;cases q;exact new
 ·rw[zf hb]at q
  by_cases hbe:b=e
  ·have q' :H b=some (.own x):=by
    rcases he with z | z
    ·exact absurd (hbe.trans z) hb
    ·rw[hbe];exact z
   rw[q]at q';cases q';obtain⟨v,hv⟩:=heo;exact⟨v,by rw[hbe];exact hv⟩
  ·refine(ok b u q).stay (λc v hc r=>k c v ?_ r) (λc r=>by rw[zf (nown c b r)];exact r) (λc xs r=>by rw[zf (ntup c xs r)];exact r) λc o u r=>by rw[zf (λz=>by subst z;rw[r]at mu;exact mu)];exact r
   rcases hc with rfl | hc
   ·exact hbe
   ·rintro rfl
    rcases he with z | z
    ·exact nown c b hc z
    ·rw[hc]at z;cases z;exact hb rfl
end
structure Un (fs ex:List Addr) (H H' :Hp) (h h' :Heap):Prop where
 keep:∀b o,h.get? b=some o->H b=none->b ∉ fs->b ∉ ex->h'.get? b=some o
 slot:∀b o,h.get? b=some o->H b=none->b∈fs->b ∉ ex->∃sl,h'.get? b=some { o with slots:=sl }
 free:∀b o,h.get? b=some o->H b=none->b ∉ ex->H' b=none
 there:∀b o,h.get? b=some o->b ∉ ex->∃o',h'.get? b=some o'
 tups:∀b xs,H b=some (.tup xs)->H' b=some (.tup xs)
 frzs:∀b o u,H b=some (.frz o u)->H' b=some (.frz o u)
 tbls:∀b ps q,H b=some (.tbl ps q)->H' b=some (.tbl ps q)
section
variable {fs fs' ex ex' :List Addr}{H H1 H2:Hp}{h h1 h2 h' :Heap}{a x e:Addr}{o:HO}
theorem Un.any (u:Un fs ex H H1 h h1){b:Addr}{ob:Obj}(q:h.get? b=some ob)(n:H b=none)(hx:b ∉ ex):∃sl,h1.get? b=some { ob with slots:=sl }:=by
 by_cases hb:b∈fs
 ·exact u.slot b ob q n hb hx
 ·exact⟨ob.slots,u.keep b ob q n hb hx⟩
theorem Un.kept (k:∀b u,h.get? b=some u->h'.get? b=some u):Un fs ex H H h h' :=
 ⟨λb ob q _ _ _=>k b ob q,λb ob q _ _ _=>⟨ob.slots,k b ob q⟩,λ_ _ _ n _=>n,λb ob q _=>⟨ob,k b ob q⟩,λ_ _ q=>q,λ_ _ _ q=>q,λ_ _ _ q=>q⟩
theorem Un.refl:Un fs ex H H h h:=Un.kept λ_ _ q=>q
theorem Un.laid (k:∀b u,h.get? b=some u->h'.get? b=some u)(hp:h.objs.size<=a)(hn:H a=none):Un fs ex H (upd H a o) h h' where
 keep:=λb u q _ _ _=>k b u q
 slot:=λb u q _ _ _=>⟨u.slots,k b u q⟩
 free:=λb u q n _=>by rw[zf (aD (aK (am q) hp))];exact n
 there:=λb u q _=>⟨u,k b u q⟩
 tups:=λb xs q=>by rw[zf (zv q hn)];exact q
 frzs:=λb u xs q=>by rw[zf (zv q hn)];exact q
 tbls:=λb ps q e=>by rw[zf (zv e hn)];exact e
theorem Un.write (mu:Mut (H x))(he:e=x\/H e=some (.own x))(k:∀b u,b ≠ e->h.get? b=some u->h'.get? b=some u)(heo:∃u,h'.get? e=some u):Un fs ex H (upd H x o) h h' :=by
 have hx:∀b,H b=none->b ≠ x:=λb n z=>by subst z;rw[n]at mu;exact mu
 have hb:∀b,H b=none->b ≠ e:=λb n z=>by
  subst z;rcases he with r | r
  ·exact hx b n r
  ·rw[n]at r;cases r
 have hm:∀b u,H b=some u->¬ Mut (some u)->b ≠ x:=λb u q nm z=>by subst z;rw[q]at mu;exact nm mu
 refine⟨λb u q n _ _=>k b u (hb b n) q,λb u q n _ _=>⟨u.slots,k b u (hb b n) q⟩,λb u q n _=>by rw[zf (hx b n)];exact n,λb u q _=> ?_,
  λb xs q=>by rw[zf (hm b _ q λz=>z)];exact q,λb u xs q=>by rw[zf (hm b _ q λz=>z)];exact q,λb ps q e=>by rw[zf (hm b _ e λz=>z)];exact e⟩
 by_cases hbe:b=e
 ·subst hbe;exact heo
 ·exact⟨u,k b u hbe q⟩
end
def trk (h:Heap)(H:Hp):List Addr:=(aY h.objs.size).filter λa=>(H a).isSome
def XU (h:Heap)(H:Hp):Heap:=PySem.W.hideAll h (trk h H)
theorem ye (h:Heap)(H:Hp):(XU h H).objs.size=h.objs.size:=PySem.W.hideAll_size _ _
theorem Qe {h:Heap}{H:Hp}{b:Addr}{o:Obj}(e:h.get? b=some o)(n:H b=none):(XU h H).get? b=some o:=
 PySem.W.hideAll_get _ e λhm=>by
  have q:=(cU.mp hm).2;rw[n]at q;simp at q
theorem VM {h:Heap}{H:Hp}{b:Addr}{o:Obj}(e:(XU h H).get? b=some o):h.get? b=some o/\H b=none:=by
 have e' :=PySem.W.of_hideAll _ e;refine⟨e', ?_⟩;cases q:H b with
 | none=>rfl
 | some x=>
  have hm:b∈trk h H:=cU.mpr ⟨bH.mpr (am e'),by simp[q]⟩
  have z:(XU h H).get? b=none:=PySem.W.hideAll_none _ hm;rw[z]at e;cases e
end L2
namespace L2
open PySem PySem.Spec PyProof.Rows
structure Mod (K:ag) (mg:Str->Option Value) (base:Heap):Prop where
 kin:K.In base
 glob:base.Ns mainGlobals mg
 blt:∃mb,base.Ns builtinsNs mb/\∀x:Str,x ≠ "__name__"->mb x=bootBuiltins x
 nolimit:base.NoLimit
structure Cx where
 prog:Program
 w:World
 K:ag
 mg:Str->Option Value
 base:Heap
 A:Around
 N:List Str
 s₀:Shared
 H₀:Hp
 env:Env
 outer:List Env
 stack:List Env
 ex:List Addr
 fn:Str->Bool
 calm:Bool
 pn:List (Addr×Obj)
 xe:Value->Shared->Prop
noncomputable def frs (l:List Env):List Addr:=l.filterMap (·.frame)
abbrev Cx.fs (X:Cx):List Addr:=frs X.outer
noncomputable def Vis (sc:Scope)(x:Str):Prop:=sc.names.lookup x=some .local\/sc.names.lookup x=some .cell\/sc.names.lookup x=some .free
noncomputable def Loc (sc:Scope)(x:Str):Prop:=sc.names.lookup x=some .local\/sc.names.lookup x=some .cell
noncomputable def Look (env:Env)(h:Heap)(m:Str->Option Value)(x:Str)(u:Value):Prop:=
 (env.kindOf x=some .local/\m x=some u)\/((env.kindOf x=some .cell\/env.kindOf x=some .free)/\∃c,env.cells.lookup x=some c/\h.IsCell c (some u))
structure Cx.Ok (X:Cx):Prop where
 mod:Mod X.K X.mg X.base
 kind:X.env.scope.kind= .function
 glob:X.env.globals=mainGlobals
 blt:X.env.builtins=builtinsNs
 above:X.s₀.heap.objs.size<=X.env.locals
 inj:∀x y c,X.env.cells.lookup x=some c->X.env.cells.lookup y=some c->x=y
 has:∀x,(X.env.kindOf x=some .cell\/X.env.kindOf x=some .free)->∃c,X.env.cells.lookup x=some c
 cab:∀x c,X.fn x=true->X.env.cells.lookup x=some c->X.s₀.heap.objs.size<=c
 hd:X.calm=true->X.A.handled=none
 frames:X.A.frames=some X.stack
 stk:X.stack=X.outer\/(X.stack=X.env :: X.outer/\X.env.frame=some X.env.locals)
 exf:∀b∈X.ex,b ≠ X.env.locals/\∀x c,X.env.cells.lookup x=some c->c ≠ b
 bs:∀b o,X.base.get? b=some o->X.s₀.heap.get? b=some o/\X.H₀ b=none
 bsz:X.base.objs.size<=X.s₀.heap.objs.size
 noex:∀b o,X.base.get? b=some o->b ∉ X.ex
 exfs:∀b∈X.ex,b ∉ X.fs
 funs:X.s₀.heap.FunFrames X.base X.outer
 frf:∀b∈X.fs,X.H₀ b=none
structure Inv (X:Cx) (pins:List (Addr×Obj)) (σ:List (Option V)) (H:Hp) (s:Shared):Prop where
 ok:X.Ok
 os:s.os=X.s₀.os
 bare:AllBare s.gens
 base:Un X.fs X.ex X.H₀ H X.s₀.heap s.heap
 loc:∃m,s.heap.Ns X.env.locals m/\∀(i:Nat) (x:Str) (v:V),X.N[i]? =some x->σ[i]? =some (some v)->Vis X.env.scope x->∃u,RelV v u/\Look X.env s.heap m x u
 cell:∀x c,X.env.cells.lookup x=some c->∃v,s.heap.IsCell c v
 free:H X.env.locals=none
 freeC:∀x c,X.env.cells.lookup x=some c->H c=none
 pin:∀p∈X.pn++pins,s.heap.get? p.1=some p.2/\H p.1=none/\p.1 ≠ X.env.locals/\p.1 ∉ X.fs/\∀v,p.2.data ≠ .cell v
 hok:HOk X.prog X.w H s.heap
 len:σ.length=X.N.length
section
variable {X:Cx}{pins:List (Addr×Obj)}{σ:List (Option V)}{H H' :Hp}{s:Shared}{h' :Heap}
theorem Cx.Ok.nofr (ok:X.Ok){b:Addr}{o:Obj}(e:X.base.get? b=some o):b ∉ X.fs:=λhb=>by
 have:=(ok.funs.mem hb).1;rw[e]at this;cases this
theorem Inv.bs (I:Inv X pins σ H s):∀b o,X.base.get? b=some o->s.heap.get? b=some o/\H b=none:=λb o e=>
 ⟨I.base.keep b o (I.ok.bs b o e).1 (I.ok.bs b o e).2 (I.ok.nofr e) (I.ok.noex b o e),I.base.free b o (I.ok.bs b o e).1 (I.ok.bs b o e).2 (I.ok.noex b o e)⟩
theorem Inv.bk (I:Inv X pins σ H s):∀b o,X.base.get? b=some o->s.heap.get? b=some o:=λb o e=>(I.bs b o e).1
theorem Inv.mod (I:Inv X pins σ H s):Mod X.K X.mg X.base:=I.ok.mod
theorem Inv.kIn (I:Inv X pins σ H s):X.K.In s.heap:=I.ok.mod.kin.keeps I.bk
theorem Inv.lt (I:Inv X pins σ H s):X.env.locals < s.heap.objs.size:=let ⟨_,hn,_⟩:=I.loc;hn.lt
theorem Inv.sz (I:Inv X pins σ H s):X.s₀.heap.objs.size<=s.heap.objs.size:=ar I.ok.above (f_ I.lt)
theorem Inv.nofs (I:Inv X pins σ H s){a:Addr}(h:s.heap.objs.size<=a):a ∉ X.fs:=λhb=>by
 obtain⟨_,o,ho,_⟩:=I.ok.funs.mem hb;exact absurd (aK (am ho) (ar I.sz h)) (bi _)
theorem Inv.cne (I:Inv X pins σ H s):∀x c,X.env.cells.lookup x=some c->c ≠ X.env.locals:=λx c e z=>by
 obtain⟨v,o,ho,hd⟩:=I.cell x c e;obtain⟨m,⟨o',es,ep,ho',hd',_⟩,_⟩:=I.loc;rw[z,ho']at ho;cases ho;rw[hd']at hd;cases hd
theorem Inv.funs (I:Inv X pins σ H s):s.heap.FunFrames X.base X.outer:=by
 have all:∀(l:List Env),(∀b∈frs l,b∈X.fs)->X.s₀.heap.FunFrames X.base l->s.heap.FunFrames X.base l:=by
  intro l
  induction l with
  | nil=>intro _ _;trivial
  | cons env r ih=>
   intro hs hl;obtain⟨hk,⟨L,o,hf,hn,ho,hd⟩,hr⟩:=hl;have hL:=hs L (by unfold frs;rw[eZ,hf];exact ab)
   obtain⟨sl,e⟩:=I.base.slot L o ho (I.ok.frf L hL) hL λz=>I.ok.exfs L z hL;exact⟨hk,⟨L,_,hf,hn,e,hd⟩,ih (λb hb=>hs b (by unfold frs;rw[eZ,hf];exact a9 _ hb)) hr⟩
 exact all _ (λ_ hb=>hb) I.ok.funs
theorem Inv.stack (I:Inv X pins σ H s):s.heap.FunFrames X.base X.stack:=by
 rcases I.ok.stk with e | ⟨e,hf⟩
 ·rw[e];exact I.funs
 ·rw[e];obtain⟨m,hn,_⟩:=I.loc;refine .cons (by rw[I.ok.kind];decide) hf hn ?_ I.funs
  exact Heap.get?_none_of_le (ar I.ok.bsz I.ok.above)
theorem Inv.stkSub (I:Inv X pins σ H s):∀b∈frs X.stack,b∈X.env.locals :: X.fs:=λb hb=>by
 rcases I.ok.stk with e | ⟨e,hf⟩
 ·rw[e]at hb;exact a9 _ hb
 ·rw[e]at hb;unfold frs at hb;rw[eZ,hf]at hb;exact hb
theorem Inv.stkFree (I:Inv X pins σ H s):∀b∈frs X.stack,H b=none:=λb hb=>by
 rcases ao.mp (I.stkSub b hb) with e | hb
 ·rw[e];exact I.free
 ·obtain⟨_,o,ho,_⟩:=I.ok.funs.mem hb;exact I.base.free b o ho (I.ok.frf b hb) λz=>I.ok.exfs b z hb
theorem Inv.step {g' :Array GenState}{t' :Nat}{d' :Drawn}{ch:List Addr}(I:Inv X pins σ H s)
  (hch:∀b∈ch,(b∈X.ex\/X.s₀.heap.objs.size<=b)/\b ≠ X.env.locals/\(∀x c,X.env.cells.lookup x=some c->c ≠ b)/\∀p∈X.pn++pins,p.1 ≠ b)
  (keep:∀b o,b ≠ X.env.locals->b ∉ X.fs->b ∉ ch->s.heap.get? b=some o->H b=none->h'.get? b=some o)
  (slot:∀b o,b ≠ X.env.locals->b∈X.fs->b ∉ ch->s.heap.get? b=some o->H b=none->∃sl,h'.get? b=some { o with slots:=sl }) (free:∀b o,b ∉ ch->s.heap.get? b=some o->H b=none->H' b=none)
  (there:∀b o,b ∉ ch->s.heap.get? b=some o->∃o',h'.get? b=some o')
  (tups:∀b xs,H b=some (.tup xs)->H' b=some (.tup xs)) (frzs:∀b o u,H b=some (.frz o u)->H' b=some (.frz o u)) (tbls:∀b ps q,H b=some (.tbl ps q)->H' b=some (.tbl ps q))
  (ns:∀m,s.heap.Ns X.env.locals m->h'.Ns X.env.locals m) (hok:HOk X.prog X.w H' h') (hg:AllBare g'):
  Inv X pins σ H' { s with heap:=h',gens:=g',drawn:=d',toks:=t' }:=by
 have neL:∀b o,X.s₀.heap.get? b=some o->b ≠ X.env.locals:=λb o e=>aD (aK (am e) I.ok.above);have neC:∀b o,X.s₀.heap.get? b=some o->b ∉ X.ex->b ∉ ch:=λb o e hx hb=>by
  rcases(hch b hb).1 with z | z
  ·exact hx z
  ·exact absurd (aK (am e) z) (bi _)
 have cellK:∀x c,X.env.cells.lookup x=some c->∀v,s.heap.IsCell c v->h'.IsCell c v:=λx c e v ⟨o,ho,hd⟩=>by
  have nch:=λz=>(hch c z).2.2.1 x c e rfl
  by_cases hc:c∈X.fs
  ·obtain⟨sl,q⟩:=slot c o (I.cne x c e) hc nch ho (I.freeC x c e);exact⟨_,q,hd⟩
  ·exact⟨o,keep c o (I.cne x c e) hc nch ho (I.freeC x c e),hd⟩
 refine⟨I.ok,I.os,hg,⟨λb o e n hb hx=> ?_,λb o e n hb hx=> ?_,λb o e n hx=> ?_,λb o e hx=> ?_,λb xs e=>tups b xs (I.base.tups b xs e),λb o xs e=>frzs b o xs (I.base.frzs b o xs e),λb ps q e=>tbls b ps q (I.base.tbls b ps q e)⟩, ?_,λx c e=> ?_, ?_,λx c e=> ?_,λp hp=> ?_,hok,I.len⟩
 ·exact keep b o (neL b o e) hb (neC b o e hx) (I.base.keep b o e n hb hx) (I.base.free b o e n hx)
 ·obtain⟨sl,e1⟩:=I.base.slot b o e n hb hx;obtain⟨sl',e2⟩:=slot b _ (neL b o e) hb (neC b o e hx) e1 (I.base.free b o e n hx);exact⟨sl',e2⟩
 ·obtain⟨o',e1⟩:=I.base.there b o e hx;exact free b o' (neC b o e hx) e1 (I.base.free b o e n hx)
 ·obtain⟨o',e1⟩:=I.base.there b o e hx;exact there b o' (neC b o e hx) e1
 ·obtain⟨m,hn,hl⟩:=I.loc;refine⟨m,ns m hn,λi x v e1 e2 e3=> ?_⟩;obtain⟨u,r,l⟩:=hl i x v e1 e2 e3;refine⟨u,r, ?_⟩;rcases l with l | ⟨k,c,e,z⟩
  ·exact .inl l
  ·exact .inr ⟨k,c,e,cellK x c e _ z⟩
 ·obtain⟨v,z⟩:=I.cell x c e;exact⟨v,cellK x c e v z⟩
 ·obtain⟨m,⟨o,_,_,ho,_⟩,_⟩:=I.loc;exact free _ o (λz=>(hch _ z).2.1 rfl) ho I.free
 ·obtain⟨v,o,ho,hd⟩:=I.cell x c e;exact free c o (λz=>(hch c z).2.2.1 x c e rfl) ho (I.freeC x c e)
 ·obtain⟨e,n,ne,nf,d⟩:=I.pin p hp;have nch:=λz=>(hch p.1 z).2.2.2 p hp rfl;exact⟨keep p.1 p.2 ne nf nch e n,free p.1 p.2 nch e n,ne,nf,d⟩
theorem Inv.un {t' :Nat}(I:Inv X pins σ H s)(u:Un X.fs [] H H' s.heap h')(hok:HOk X.prog X.w H' h'):Inv X pins σ H' { s with heap:=h',toks:=t' }:=by
 obtain⟨m,⟨o,es,ep,ho,r⟩,_⟩:=id I.loc;obtain⟨sl,hL⟩:=u.any ho I.free (by simp)
 exact I.step (ch:=[]) (λ_ z=>nomatch z) (λb o _ hb _ e n=>u.keep b o e n hb (by simp)) (λb o _ hb _ e n=>u.slot b o e n hb (by simp)) (λb o _ e n=>u.free b o e n (by simp)) (λb o _ e=>u.there b o e (by simp)) u.tups u.frzs u.tbls (λm' hm=>by
  obtain⟨o',es',ep',ho',r'⟩:=hm;rw[ho]at ho';cases ho';exact⟨_,es',ep',hL,r'⟩) hok I.bare
theorem Inv.call {g' :Array GenState}{t' :Nat}{d' :Drawn}{ch:List Addr}(I:Inv X pins σ H s)(u:Un (frs X.stack) ch H H' s.heap h')(hok:HOk X.prog X.w H' h')(hg:AllBare g')
  (hch:∀b∈ch,(b∈X.ex\/X.s₀.heap.objs.size<=b)/\b ≠ X.env.locals/\(∀x c,X.env.cells.lookup x=some c->c ≠ b)/\∀p∈X.pn++pins,p.1 ≠ b):
  Inv X pins σ H' { s with heap:=h',gens:=g',drawn:=d',toks:=t' }:=by
 obtain⟨m,⟨o,es,ep,ho,r⟩,_⟩:=id I.loc;obtain⟨sl,hL⟩:=u.any ho I.free λz=>(hch _ z).2.1 rfl;exact I.step hch (λb o hL hb hc e n=>u.keep b o e n (λz=>(ao.mp (I.stkSub b z)).elim hL hb) hc) (λb o _ _ hc e n=>u.any e n hc) (λb o hc e n=>u.free b o e n hc) (λb o hc e=>u.there b o e hc) u.tups u.frzs u.tbls (λm' hm=>by
  obtain⟨o',es',ep',ho',r'⟩:=hm;rw[ho]at ho';cases ho';exact⟨_,es',ep',hL,r'⟩) hok hg
theorem Inv.turned {t' :Nat}{it:Addr}(I:Inv X pins σ H s)(k:∀b o,b ≠ it->s.heap.get? b=some o->h'.get? b=some o)(hn:H it=none)(hL:it ≠ X.env.locals)
  (h1:it∈X.ex\/X.s₀.heap.objs.size<=it) (h2:∀x c,X.env.cells.lookup x=some c->c ≠ it) (h3:∀p∈X.pn++pins,p.1 ≠ it):Inv X pins σ H { s with heap:=h',toks:=t' }:=by
 have nit:∀b u,H b=some u->b ≠ it:=λb u e z=>by rw[z,hn]at e;cases e
 refine I.step (ch:=[it]) (λb hb=> ?_) (λb o _ _ hc e _=>k b o (λz=>hc (by simp[z])) e) (λb o _ _ hc e _=>⟨o.slots,k b o (λz=>hc (by simp[z])) e⟩) (λ_ _ _ _ n=>n)
  (λb o hc e=>⟨o,k b o (λz=>hc (by simp[z])) e⟩) (λ_ _ e=>e) (λ_ _ _ e=>e) (λ_ _ _ e=>e) (λm hm=> ?_) (λb u e=> ?_) I.bare
 ·have e:=by simpa using hb
  subst e;exact⟨h1,hL,h2,h3⟩
 ·obtain⟨o,es,ep,ho,r⟩:=hm;exact⟨o,es,ep,k _ o (b8 hL) ho,r⟩
 ·refine(I.hok b u e).stay (λc v hc q=>k c v ?_ q) (λ_ q=>q) λ_ _ q=>q;rcases hc with z | z
  ·rw[z];exact nit b u e
  ·exact nit c _ z
theorem Inv.tok (I:Inv X pins σ H s)(t:Nat):Inv X pins σ H { s with toks:=t }:=I.un Un.refl I.hok
theorem Inv.kept {t' :Nat}(I:Inv X pins σ H s)(k:∀b u,s.heap.get? b=some u->h'.get? b=some u):Inv X pins σ H { s with heap:=h',toks:=t' }:=I.un (Un.kept k) (I.hok.kept k)
theorem Inv.laid {a:Addr}{o:HO}{t' :Nat}(I:Inv X pins σ H s)(k:∀b u,s.heap.get? b=some u->h'.get? b=some u)(hp:s.heap.objs.size<=a)(new:zN X.prog X.w (upd H a o) h' a o):
  Inv X pins σ (upd H a o) { s with heap:=h',toks:=t' }:=I.un (Un.laid k hp (I.hok.fresh hp)) (I.hok.laid k hp new)
theorem Inv.write {x e:Addr}{o:HO}{t' :Nat}(I:Inv X pins σ H s)(mu:Mut (H x))(he:e=x\/H e=some (.own x))(k:∀b u,b ≠ e->s.heap.get? b=some u->h'.get? b=some u)(heo:∃u,h'.get? e=some u)
  (new:zN X.prog X.w (upd H x o) h' x o):Inv X pins σ (upd H x o) { s with heap:=h',toks:=t' }:=I.un (Un.write mu he k heo) (I.hok.write mu he k heo new)
theorem Inv.pins_of {pins' :List (Addr×Obj)}(I:Inv X pins σ H s)(h:∀p∈pins',s.heap.get? p.1=some p.2/\H p.1=none/\p.1 ≠ X.env.locals/\p.1 ∉ X.fs/\∀v,p.2.data ≠ .cell v):Inv X pins' σ H s:=
 ⟨I.ok,I.os,I.bare,I.base,I.loc,I.cell,I.free,I.freeC,λp hp=>(bv.mp hp).elim (λz=>I.pin p (eN _ z)) (h p),I.hok,I.len⟩
theorem uz {N:List Str}(hN:N.Nodup){i j:Nat}{x:Str}(a:N[i]? =some x)(b:N[j]? =some x):i=j:=by
 obtain⟨h1,e1⟩:=aw.mp a;obtain⟨h2,e2⟩:=aw.mp b;exact(cI hN).mp (e1.trans e2.symm)
theorem W2 {M:Model}{A:Around}{E:Value->Shared->Prop}{i:Nat}{x:Str}{v:V}{u:Value}{Q:Unit->Shared->Prop}(I:Inv X pins σ H s)(hN:X.N.Nodup)(hi:X.N[i]? =some x)(hx:Loc X.env.scope x)(r:RelV v u)
  (h:∀s',Inv X pins (σ.set i (some v)) H s' ->(∃a,b5 a s.heap s'.heap/\(a=X.env.locals\/X.env.cells.lookup x=some a))->Q () s') (hf:X.fn x=true\/X.env.scope.names.lookup x=some .local:=by first | exact .inl rfl | exact .inr rfl | assumption):wpAny M A (storeName X.env x u) Q E s:=by
 obtain⟨m,hn,hl⟩:=id I.loc;have hcls:(X.env.scope.kind == .class || (X.env.scope.kind == .module && X.env.locals != X.env.globals))=false:=by rw[I.ok.kind];rfl
 have hiσ:i < σ.length:=by rw[I.len];exact(aw.mp hi).1
 have cne:=I.cne;have tracked:∀{a:Addr} {h' :Heap},(∃o,s.heap.get? a=some o/\H a=none)->b5 a _ h' ->HOk _ X.w H h' :=λ{a h'} ha hs b ob e=>by
  obtain⟨_,_,hfree⟩:=ha;refine(I.hok b ob e).stay (λc w' hc q=>(hs.2 c ?_).trans q) (λ_ q=>q) λ_ _ q=>q
  rintro rfl
  rcases hc with rfl | hc
  ·rw[hfree]at e;cases e
  ·rw[hfree]at hc;cases hc
 rcases hx with hk | hk
 ·refine wpAny_storeName_local hk hn (λh' hn' hs=> ?_) hcls;obtain⟨oL,_,_,hoL,_⟩:=id hn;refine h _ ⟨I.ok,I.os,I.bare,⟨λb o e n hb hx=> ?_,λb o e n hb hx=> ?_,I.base.free,λb o e hx=> ?_,I.base.tups,I.base.frzs,I.base.tbls⟩,⟨_,hn',λj y v' e1 e2 e3=> ?_⟩,λy c e=> ?_,I.free,I.freeC,λp hp=> ?_,tracked ⟨oL,hoL,I.free⟩ hs,by simpa using I.len⟩ ⟨_,hs,.inl rfl⟩
  ·exact(hs.2 b (aD (aK (am e) I.ok.above))).trans (I.base.keep b o e n hb hx)
  ·obtain⟨sl,e1⟩:=I.base.slot b o e n hb hx;exact⟨sl,(hs.2 b (aD (aK (am e) I.ok.above))).trans e1⟩
  ·obtain⟨o',e1⟩:=I.base.there b o e hx;exact⟨o',(hs.2 b (aD (aK (am e) I.ok.above))).trans e1⟩
  ·by_cases hj:j=i
   ·subst hj;rw[hi]at e1;cases e1;rw[a_ hiσ]at e2;cases e2;exact⟨u,r,.inl ⟨hk,by simp⟩⟩
   ·rw[aA (b8 hj)]at e2;obtain⟨u',r',q⟩:=hl j y v' e1 e2 e3;refine⟨u',r', ?_⟩;rcases q with ⟨k,e⟩ | ⟨k,c,e,z⟩
    ·refine .inl ⟨k, ?_⟩;have:y ≠ x:=λe=>hj (uz hN e1 (e ▸ hi));simp[this,e]
    ·exact .inr ⟨k,c,e,z.sameBut hs (cne y c e)⟩
  ·obtain⟨w',z⟩:=I.cell y c e;exact⟨w',z.sameBut hs (cne y c e)⟩
  ·obtain⟨e,n,ne,nf,d⟩:=I.pin p hp;exact⟨(hs.2 p.1 ne).trans e,n,ne,nf,d⟩
 ·have hfn:X.fn x=true:=by
   rcases hf with z | z
   ·exact z
   ·rw[z]at hk;cases hk
  obtain⟨c,hc⟩:=I.ok.has x (.inl hk);obtain⟨w',z⟩:=I.cell x c hc;refine wpAny_storeName_cell I.ok.kind hk hc z (λh' hc' hs=> ?_);obtain⟨oc,hoc,hocd⟩:=id z;refine h _ ⟨I.ok,I.os,I.bare,⟨λb o e n hb hx=> ?_,λb o e n hb hx=> ?_,I.base.free,λb o e hx=> ?_,I.base.tups,I.base.frzs,I.base.tbls⟩,⟨m,hn.sameBut hs (b8 (cne x c hc)),λj y v' e1 e2 e3=> ?_⟩,λy c' e=> ?_,I.free,I.freeC,λp hp=> ?_,tracked ⟨oc,hoc,I.freeC x c hc⟩ hs,by simpa using I.len⟩ ⟨c,hs,.inr hc⟩
  ·exact(hs.2 b (aD (aK (am e) (I.ok.cab x c hfn hc)))).trans (I.base.keep b o e n hb hx)
  ·obtain⟨sl,e1⟩:=I.base.slot b o e n hb hx;exact⟨sl,(hs.2 b (aD (aK (am e) (I.ok.cab x c hfn hc)))).trans e1⟩
  ·obtain⟨o',e1⟩:=I.base.there b o e hx;exact⟨o',(hs.2 b (aD (aK (am e) (I.ok.cab x c hfn hc)))).trans e1⟩
  ·by_cases hj:j=i
   ·subst hj;rw[hi]at e1;cases e1;rw[a_ hiσ]at e2;cases e2;exact⟨u,r,.inr ⟨.inl hk,c,hc,hc'⟩⟩
   ·rw[aA (b8 hj)]at e2;obtain⟨u',r',q⟩:=hl j y v' e1 e2 e3;refine⟨u',r', ?_⟩;rcases q with q | ⟨k,c',e,z'⟩
    ·exact .inl q
    ·refine .inr ⟨k,c',e,z'.sameBut hs ?_⟩
     rintro rfl
     exact hj (uz hN e1 (I.ok.inj _ _ _ e hc ▸ hi))
  ·by_cases hcc:c' =c
   ·subst hcc;exact⟨_,hc'⟩
   ·obtain⟨w2,z2⟩:=I.cell y c' e;exact⟨w2,z2.sameBut hs hcc⟩
  ·obtain⟨e,n,ne,nf,d⟩:=I.pin p hp;refine⟨(hs.2 p.1 ?_).trans e,n,ne,nf,d⟩;intro q;rw[q,hoc]at e;have q' :=aI e;exact d w' (by rw[← q'];exact hocd)
theorem jX {M:Model}{A:Around}{E:Value->Shared->Prop}{i:Nat}{x:Str}{v:V}{u:Value}{Q:Unit->Shared->Prop}(I:Inv X pins σ H s)(hN:X.N.Nodup)(hi:X.N[i]? =some x)(hx:Loc X.env.scope x)(r:RelV v u)
  (h:∀s',Inv X pins (σ.set i (some v)) H s' ->Q () s') (hf:X.fn x=true\/X.env.scope.names.lookup x=some .local:=by first | exact .inl rfl | exact .inr rfl | assumption):wpAny M A (storeName X.env x u) Q E s:=
 W2 I hN hi hx r (λs' I' _=>h s' I') hf
theorem Inv.call' {s' :Shared}{ch:List Addr}(I:Inv X pins σ H s)(ho:s'.os=s.os)(u:Un (frs X.stack) ch H H' s.heap s'.heap)(hok:HOk X.prog X.w H' s'.heap)(hg:AllBare s'.gens)
  (hch:∀b∈ch,(b∈X.ex\/X.s₀.heap.objs.size<=b)/\b ≠ X.env.locals/\(∀x c,X.env.cells.lookup x=some c->c ≠ b)/\∀p∈X.pn++pins,p.1 ≠ b):Inv X pins σ H' s' :=by
 obtain⟨h',g',d',t',o'⟩:=s';have e:=ho;subst e;exact I.call u hok hg hch
end
abbrev XK:=Value->Option Addr->Hp->Prop
noncomputable abbrev St:=List (Option V)
abbrev VK:=V->Hp->Prop
abbrev TE:=St->Hp->VK->Prop
abbrev TT:=St->Hp->(Bool->Hp->Prop)->Prop
abbrev TA:=St->Hp->(List V->Hp->Prop)->Prop
structure vQ where
 nx:St->Hp->Prop
 rt:VK
 bk:St->Hp->Prop:=λ_ _=>False
 ct:St->Hp->Prop:=λ_ _=>False
abbrev TS:=vQ->St->Hp->Prop
def EP (X:Cx)(pins:List (Addr×Obj))(σ:St)(Q:VK)(u:Value)(s' :Shared):Prop:=∃v H',Inv X pins σ H' s' /\RelV v u/\Q v H'
def TP (X:Cx)(pins:List (Addr×Obj))(σ:St)(Q:Bool->Hp->Prop)(b:Bool)(s' :Shared):Prop:=∃H',Inv X pins σ H' s' /\Q b H'
def AP (X:Cx)(pins:List (Addr×Obj))(σ:St)(Q:List V->Hp->Prop)(us:List Value)(s' :Shared):Prop:=∃vs H',Inv X pins σ H' s' /\Vals vs us/\Q vs H'
def SP (X:Cx)(pins:List (Addr×Obj))(D:vQ)(f:Flow)(s' :Shared):Prop:=
 match f with
 | .next=>∃σ' H',Inv X pins σ' H' s' /\D.nx σ' H'
 | .brk=>∃σ' H',Inv X pins σ' H' s' /\D.bk σ' H'
 | .cont=>∃σ' H',Inv X pins σ' H' s' /\D.ct σ' H'
 | .ret u=>∃v σ' H',Inv X pins σ' H' s' /\RelV v u/\D.rt v H'
def PE (X:Cx)(e:Expr)(t:TE):Prop:=
 ∀(pins:List (Addr×Obj)) (s:Shared) (σ:St) (H:Hp) (Q:VK),Inv X pins σ H s->t σ H Q->wpAny (model X.prog X.w) X.A (eval e X.env) (EP X pins σ Q) X.xe s
def PT (X:Cx)(e:Expr)(t:TT):Prop:=
 ∀(pins:List (Addr×Obj)) (s:Shared) (σ:St) (H:Hp) (Q:Bool->Hp->Prop),Inv X pins σ H s->t σ H Q->wpAny (model X.prog X.w) X.A (isTrue e X.env (eval e X.env)) (TP X pins σ Q) X.xe s
def PW (X:Cx)(e:Expr)(t:TT):Prop:=
 ∀(whole:Sem Value) (pins:List (Addr×Obj)) (s:Shared) (σ:St) (H:Hp) (Q:Bool->Hp->Prop),Inv X pins σ H s->t σ H Q->wpAny (model X.prog X.w) X.A (isTrue e X.env whole) (TP X pins σ Q) X.xe s
theorem PW.pt {X:Cx}{e:Expr}{t:TT}(h:PW X e t):PT X e t:=h _
def PA (X:Cx)(es:List Expr)(t:TA):Prop:=
 ∀(pos:Pos) (pins:List _) (s:Shared) (σ:St) (H:Hp) (Q:List V->Hp->Prop),Inv X pins σ H s->t σ H Q->wpAny (model X.prog X.w) X.A (spliced (backTo pos (starEach es X.env))) (AP X pins σ Q) X.xe s
def PS (X:Cx)(st:Stmt)(t:TS):Prop:=
 ∀(pins:List (Addr×Obj)) (s:Shared) (σ:St) (H:Hp) (D:vQ),Inv X pins σ H s->t D σ H->wpAny (model X.prog X.w) X.A (exec st X.env) (SP X pins D) X.xe s
def PSs (X:Cx)(st:List Stmt)(t:TS):Prop:=
 ∀(pins:List (Addr×Obj)) (s:Shared) (σ:St) (H:Hp) (D:vQ),Inv X pins σ H s->t D σ H->wpAny (model X.prog X.w) X.A (execs st X.env) (SP X pins D) X.xe s
theorem thn {α:Type}{t:Sem α}{Q Q' :α->Shared->Prop}{M:Model}{A:Around}{E:Value->Shared->Prop}{s:Shared}(h:wpAny M A t Q E s)(hQ:∀a s,Q a s->Q' a s):wpAny M A t Q' E s:=dE h hQ λ_ _ x=>x
end L2
namespace L2
open PySem PySem.Spec PyProof.Rows
section
variable {X:Cx}
theorem bin {a b:Expr}{ta tb:TE}(ha:PE X a ta)(hb:PE X b tb){pins:List (Addr×Obj)}{s:Shared}{σ:St}{H:Hp}{R:V->V->Hp->Prop}(I:Inv X pins σ H s)(h:ta σ H λx H1=>tb σ H1 λy H2=>R x y H2)
  {α:Type} {Q:α->Shared->Prop} {f:Value->Value->Sem α}
  (hf:∀v u s2 x y H2,Inv X pins σ H2 s2->RelV x v->RelV y u->R x y H2->wpAny (model X.prog X.w) X.A (f v u) Q X.xe s2):
  wpAny (model X.prog X.w) X.A (eval a X.env) (λv s₁=>wpAny (model X.prog X.w) X.A (eval b X.env) (λu s₂=>wpAny (model X.prog X.w) X.A (f v u) Q X.xe s₂) X.xe s₁) X.xe s:=by
 refine thn (ha _ s σ H _ I h) λv s1 ⟨x,H1,I1,r1,q1⟩=> ?_;refine thn (hb _ s1 σ H1 _ I1 q1) λu s2 ⟨y,H2,I2,r2,q2⟩=> ?_;exact hf v u s2 x y H2 I2 r1 r2 q2
def W3 (i:Nat):TE:=λσ H Q=>∃v,σ[i]? =some (some v)/\Q v H
def tC (v:V):TE:=λ_ H Q=>Q v H
theorem JP {i:Nat}{x:Str}{pos:Pos}(hN:X.N[i]? =some x)(hv:Vis X.env.scope x)(hd:(x == ("__debug__":Str))=false:=by decide)(hcd:(x == ("__classdict__":Str))=false:=by decide):PE X (.Name x pos) (W3 i):=by
 intro pins s σ H Q I h;obtain⟨v,e,h⟩:=h;obtain⟨m,hn,hl⟩:=I.loc;obtain⟨u,r,l⟩:=hl i x v hN e hv;have fin:EP X _ σ Q u s:=⟨v,H,I,r,h⟩;rcases l with ⟨hk,hm⟩ | ⟨hk,c,hc,hcell⟩
 ·exact wpAny_Name (wpAny_loadName_local I.ok.kind hk hn hm fin) hd
 ·rcases hk with hk | hk
  ·exact wpAny_Name (wpAny_loadName_cell I.ok.kind hk hc hcell fin) hd
  ·exact wpAny_Name (wpAny_loadName_free I.ok.kind hk hc hcell fin hcd) hd
theorem km {i j pos}:PE X (.Constant (.int i) j pos) (tC (.int i)):=λ_ _ _ H _ I h=>wpAny_Constant_int ⟨.int i,H,I.tok _,⟨_,rfl⟩,h⟩
theorem z0r {b j pos}:PE X (.Constant (.bool b) j pos) (tC (.bl b)):=λ_ _ _ H _ I h=>Constant_bool ⟨.bl b,H,I,rfl,h⟩
theorem vR {x j pos}:PE X (.Constant (.str x) j pos) (tC (.str x)):=λ_ _ _ H _ I h=>Calls.Constant_str ⟨.str x,H,I.tok _,⟨_,rfl⟩,h⟩
noncomputable def Gl (X:Cx)(x:Str):Prop:=X.env.kindOf x=some .globalImplicit
theorem yf {E:Value->Shared->Prop}{pins:List (Addr×Obj)}{s:Shared}{σ:St}{H:Hp}{x:Str}{u:Value}{pos:Pos}{Q:Value->Shared->Prop}(I:Inv X pins σ H s)(hg:Gl X x)(hm:X.mg x=some u)(h:Q u s)
  (hd:(x == ("__debug__":Str))=false:=by decide):wpAny (model X.prog X.w) X.A (eval (.Name x pos) X.env) Q E s:=
 f9 I.ok.kind hg (Calls.loadGlobal_global (by rw[I.ok.glob];exact I.mod.glob.keeps I.bk) hm h) hd
theorem Zv {E:Value->Shared->Prop}{pins:List (Addr×Obj)}{s:Shared}{σ:St}{H:Hp}{x:Str}{u:Value}{pos:Pos}{Q:Value->Shared->Prop}(I:Inv X pins σ H s)(hg:Gl X x)(hm:X.mg x=none)(hv:bootBuiltins x=some u)(h:Q u s)
  (hn:x ≠ "__name__":=by decide) (hd:(x == ("__debug__":Str))=false:=by decide):wpAny (model X.prog X.w) X.A (eval (.Name x pos) X.env) Q E s:=by
 obtain⟨mb,h1,h2⟩:=I.mod.blt;exact f9 I.ok.kind hg (Calls.loadGlobal_builtin (by rw[I.ok.glob];exact I.mod.glob.keeps I.bk) hm (by rw[I.ok.blt];exact h1.keeps I.bk) ((h2 x hn).trans hv) h) hd
theorem VN {x:Str}{v:V}{u:Value}{pos:Pos}(hg:Gl X x)(hm:X.mg x=some u)(r:RelV v u)(hd:(x == ("__debug__":Str))=false:=by decide):PE X (.Name x pos) (tC v):=
 λ_ _ _ H _ I h=>yf I hg hm ⟨v,H,I,r,h⟩ hd
theorem u4 {x:Str}{v:V}{u:Value}{pos:Pos}(hg:Gl X x)(hm:X.mg x=none)(hv:bootBuiltins x=some u)(r:RelV v u)(hn:x ≠ "__name__":=by decide)(hd:(x == ("__debug__":Str))=false:=by decide):PE X (.Name x pos) (tC v):=
 λ_ _ _ H _ I h=>Zv I hg hm hv ⟨v,H,I,r,h⟩ hn hd
variable {a b:Expr}{ta tb:TE}{pos:Pos}
variable {tA tB' :TT}{rest:List Expr}
def tOr (t u:TT):TT:=λσ H Q=>t σ H λc H1=>if c=true then Q true H1 else u σ H1 Q
def tNot (t:TT):TT:=λσ H Q=>t σ H λc H1=>Q (!c) H1
theorem kn (ha:PT X a tA):PW X (.BoolOp .Or [a] pos) tA:=by
 intro wh pins s σ H Q I h;refine isTrue_or (thn (ha _ s σ H Q I h) λc s1 e=> ?_);cases c with
 | false=>exact isTrue_or_nil e
 | true=>exact e
theorem z0s (ha:PT X a tA)(hb:PW X (.BoolOp .Or (b :: rest) pos) tB'):PW X (.BoolOp .Or (a :: b :: rest) pos) (tOr tA tB'):=by
 intro wh pins s σ H Q I h;refine isTrue_or (thn (ha _ s σ H _ I h) λc s1 ⟨H1,I1,q1⟩=> ?_);cases c with
 | true=>exact⟨H1,I1,q1⟩
 | false=>exact hb wh _ s1 σ H1 Q I1 q1
theorem ko (ha:PT X a tA):PT X (.UnaryOp .Not a pos) (tNot tA):=by
 intro pins s σ H Q I h;exact isTrue_not (ha _ s σ H (λc H1=>Q _ H1) I h)
def z0t (ta tb:TE):TE:=λσ H Q=>ta σ H λx H1=>∃c,x= .bl c/\if c=true then tb σ H1 Q else Q (.bl false) H1
def tOrV (ta tb:TE):TE:=λσ H Q=>ta σ H λx H1=>∃c,x= .bl c/\if c=true then Q (.bl true) H1 else tb σ H1 Q
def z0u (ta:TE):TE:=λσ H Q=>ta σ H λx H1=>∃c,x= .bl c/\Q (.bl (!c)) H1
theorem ku {op}{t:TE}(h:PE X a t):PE X (.BoolOp op [a] pos) t:=λpins s σ H Q I hw=>BoolOp_one (h _ s σ H Q I hw)
theorem kx (ha:PE X a ta)(hb:PE X (.BoolOp .And (b :: rest) pos) tb):PE X (.BoolOp .And (a :: b :: rest) pos) (z0t ta tb):=by
 intro pins s σ H Q I h;refine BoolOp_and (thn (ha _ s σ H _ I h) λv s1 ⟨x,H1,I1,r1,q1⟩=> ?_);obtain⟨c,rfl,q1⟩:=q1;cases r1;refine b9 ?_;cases c with
 | true=>exact hb _ s1 σ H1 Q I1 q1
 | false=>exact⟨.bl _,H1,I1,rfl,q1⟩
theorem z0v (ha:PE X a ta)(hb:PE X (.BoolOp .Or (b :: rest) pos) tb):PE X (.BoolOp .Or (a :: b :: rest) pos) (tOrV ta tb):=by
 intro pins s σ H Q I h;refine BoolOp_or (thn (ha _ s σ H _ I h) λv s1 ⟨x,H1,I1,r1,q1⟩=> ?_);obtain⟨c,rfl,q1⟩:=q1;cases r1;refine b9 ?_;cases c with
 | false=>exact hb _ s1 σ H1 Q I1 q1
 | true=>exact⟨.bl _,H1,I1,rfl,q1⟩
theorem ky (ha:PE X a ta):PE X (.UnaryOp .Not a pos) (z0u ta):=by
 intro pins s σ H Q I h;refine UnaryOp_ (thn (ha _ s σ H _ I h) λv s1 ⟨x,H1,I1,r1,q1⟩=> ?_);obtain⟨c,rfl,q1⟩:=q1;cases r1;exact not_of (b9 ⟨.bl _,H1,I1,rfl,q1⟩)
def tIf (t:TT)(ta tb:TE):TE:=λσ H Q=>t σ H λc H1=>if c=true then ta σ H1 Q else tb σ H1 Q
theorem Qf {c:Expr}(hc:PT X c tA)(ha:PE X a ta)(hb:PE X b tb):PE X (.IfExp c a b pos) (tIf tA ta tb):=by
 intro pins s σ H Q I h;refine wpAny_IfExp (thn (hc _ s σ H _ I h) λd s1 ⟨H1,I1,q1⟩=> ?_);cases d with
 | true=>exact ha _ s1 σ H1 Q I1 q1
 | false=>exact hb _ s1 σ H1 Q I1 q1
end
end L2
namespace L2
open PySem PySem.Spec PyProof.Rows
def SqL (K:ag)(H:Hp)(a:Addr)(xs:List V):Prop:=
 Rd H a (.lst xs)\/
  ∃(o:Obj) (its:Array Value) (n:Nat),K.lookup a=some o/\o.cls= .type "list"/\o.dict=none/\o.data= .seq its n/\its.size<=sizeLine/\Vals xs its.toList
def SqT (K:ag)(H:Hp)(a:Addr)(xs:List V):Prop:=
 Rd H a (.tup xs)\/
  ∃(o:Obj) (its:Array Value) (n:Nat),K.lookup a=some o/\o.cls= .type "tuple"/\o.data= .seq its n/\its.size<=sizeLine/\Vals xs its.toList
noncomputable def absV:Value->Option V
 | .none=>some .non
 | .bool b=>some (.bl b)
 | .int i _=>some (.int i)
 | .str x _=>some (.str x)
 | .bytes b _=>some (.byt b)
 | .float b _=>some (.flt b)
 | .ref a=>some (.ref a)
 | .type n=>some (.ty n)
 | _=>none
theorem RelV.abs {x:V}{u:Value}(r:RelV x u):absV u=some x:=by
 cases x with
 | non=>cases r;rfl
 | bl _=>cases r;rfl
 | int _=>obtain⟨t,rfl⟩:=r;rfl
 | str _=>obtain⟨t,rfl⟩:=r;rfl
 | byt _=>obtain⟨t,rfl⟩:=r;rfl
 | flt _=>obtain⟨t,rfl⟩:=r;rfl
 | ref _=>cases r;rfl
 | ty _=>cases r;rfl
theorem RelV.inj {x y:V}{u:Value}(r:RelV x u)(q:RelV y u):x=y:=aI (r.abs.symm.trans q.abs)
theorem Vals.inj:∀{xs ys:List V} {us:List Value},Vals xs us->Vals ys us->xs=ys
 | _,_,_,.nil,.nil=>rfl
 | _,_,_,.cons r t,.cons r' t' =>by rw[r.inj r',Vals.inj t t']
section
variable {X:Cx}{pins:List (Addr×Obj)}{σ:St}{H:Hp}{s:Shared}{a:Addr}{xs ys:List V}
theorem SqL.of {K:ag}(h:H a=some (.lst xs)):SqL K H a xs:= .inl (.inl h)
theorem SqT.of {K:ag}(h:H a=some (.tup xs)):SqT K H a xs:= .inl (.inl h)
theorem Inv.list (I:Inv X pins σ H s)(h:SqL X.K H a xs):∃its:List Value,Vals xs its/\PlainL s.heap a its.toArray/\xs.length<=sizeLine:=by
 rcases h with h | ⟨o,its,n,hk,hc,hd,hs,hz,r⟩
 ·obtain⟨z,its,n,r,e⟩:=h.ok I.hok;exact⟨its,r,⟨_,n,e,rfl,rfl,rfl⟩,z⟩
 ·refine⟨its.toList,r,⟨o,n,I.kIn a o hk,hc,hd,by simpa using hs⟩, ?_⟩
  have e:=r.length;simp only[bM]at e;omega
theorem Inv.tuple (I:Inv X pins σ H s)(h:SqT X.K H a xs):∃its:List Value,Vals xs its/\IsTup s.heap a its.toArray/\xs.length<=sizeLine:=by
 rcases h with h | ⟨o,its,n,hk,hc,hs,hz,r⟩
 ·obtain⟨z,its,r,p,_⟩:=h.ok I.hok;exact⟨its,r,p,z⟩
 ·refine⟨its.toList,r,⟨o,I.kIn a o hk,hc,n,by simpa using hs⟩, ?_⟩
  have e:=r.length;simp only[bM]at e;omega
theorem Inv.list_inj (I:Inv X pins σ H s)(h:SqL X.K H a xs)(h' :SqL X.K H a ys):xs=ys:=by
 obtain⟨its,r,⟨o,n,e,_,_,d⟩,_⟩:=I.list h;obtain⟨its',r',⟨o',n',e',_,_,d'⟩,_⟩:=I.list h';rw[e]at e';cases e';rw[d]at d';injection d' with d1 _;have:=by simpa using congrArg Array.toList d1
 subst this;exact r.inj r'
theorem Inv.tuple_inj (I:Inv X pins σ H s)(h:SqT X.K H a xs)(h' :SqT X.K H a ys):xs=ys:=by
 obtain⟨its,r,⟨o,e,_,n,d⟩,_⟩:=I.tuple h;obtain⟨its',r',⟨o',e',_,n',d'⟩,_⟩:=I.tuple h';rw[e]at e';cases e';rw[d]at d';injection d' with d1 _;have:=by simpa using congrArg Array.toList d1
 subst this;exact r.inj r'
end
noncomputable abbrev Cx.wish (X:Cx)(E:Value->Shared->Prop):Cx:={ X with xe:=E }
abbrev Cx.nox (X:Cx):Cx:=X.wish λ_ _=>False
theorem Cx.Ok.wish {X:Cx}(ok:X.Ok)(E:Value->Shared->Prop):(X.wish E).Ok:=
 ⟨ok.mod,ok.kind,ok.glob,ok.blt,ok.above,ok.inj,ok.has,ok.cab,ok.hd,ok.frames,ok.stk,ok.exf,ok.bs,ok.bsz,ok.noex,ok.exfs,ok.funs,ok.frf⟩
theorem Cx.Ok.unwish {X:Cx}{E:Value->Shared->Prop}(ok:(X.wish E).Ok):X.Ok:=
 ⟨ok.mod,ok.kind,ok.glob,ok.blt,ok.above,ok.inj,ok.has,ok.cab,ok.hd,ok.frames,ok.stk,ok.exf,ok.bs,ok.bsz,ok.noex,ok.exfs,ok.funs,ok.frf⟩
section
variable {X:Cx}{pins:List (Addr×Obj)}{σ:St}{H:Hp}{s:Shared}{E:Value->Shared->Prop}
theorem Inv.wish (I:Inv X pins σ H s)(E:Value->Shared->Prop):Inv (X.wish E) pins σ H s:=⟨I.ok.wish E,I.os,I.bare,I.base,I.loc,I.cell,I.free,I.freeC,I.pin,I.hok,I.len⟩
theorem Inv.unwish (I:Inv (X.wish E) pins σ H s):Inv X pins σ H s:=⟨I.ok.unwish,I.os,I.bare,I.base,I.loc,I.cell,I.free,I.freeC,I.pin,I.hok,I.len⟩
theorem SP.unwish {D:vQ}{f:Flow}{s' :Shared}(h:SP (X.wish E) pins D f s'):SP X pins D f s' :=by
 cases f with
 | next=>obtain⟨σ',H',I,q⟩:=h;exact⟨σ',H',I.unwish,q⟩
 | brk=>obtain⟨σ',H',I,q⟩:=h;exact⟨σ',H',I.unwish,q⟩
 | cont=>obtain⟨σ',H',I,q⟩:=h;exact⟨σ',H',I.unwish,q⟩
 | ret u=>obtain⟨v,σ',H',I,r,q⟩:=h;exact⟨v,σ',H',I.unwish,r,q⟩
theorem PSs.nox {st:List Stmt}{t:TS}(h:PSs X.nox st t):PSs X st t:=λpins s σ H D I hw=>
 dE (h _ s σ H D (I.wish _) hw) (λ_ _ q=>q.unwish) λ_ _ z=>cQ z
end
section
variable {X:Cx}{st:Stmt}{rest:List Stmt}{t u:TS}{e:Expr}{te:TE}{pos:Pos}
def z0w:TS:=λD σ H=>D.nx σ H
def tSeq (t u:TS):TS:=λD σ H=>t { D with nx:=u D } σ H
theorem VO:PSs X [] z0w:=λ_ _ σ H _ I h=>wpAny_execs_nil ⟨σ,H,I,h⟩
theorem jd (h1:PS X st t)(h2:PSs X rest u):PSs X (st :: rest) (tSeq t u):=by
 intro pins s σ H D I h;refine wpAny_execs_cons (thn (h1 _ s σ H _ I h) λf s1 q=> ?_);cases f with
 | next=>
  obtain⟨σ',H',I',q⟩:=q;exact h2 _ s1 σ' H' D I' q
 | ret v=>exact q
 | brk=>exact q
 | cont=>exact q
theorem Jh (h1:PS X st t):PSs X [st] t:=by
 intro pins s σ H D I h;refine wpAny_execs_cons (thn (h1 _ s σ H D I h) λf s1 q=> ?_);cases f with
 | next=>exact wpAny_execs_nil q
 | ret v=>exact q
 | brk=>exact q
 | cont=>exact q
theorem Inv.quiet {pins:List (Addr×Obj)}{σ:St}{H:Hp}{s:Shared}(I:Inv X pins σ H s):interactive X.env=false:=by simp[interactive,I.ok.kind]
def z0x (te:TE):TS:=λD σ H=>te σ H λ_ H1=>D.nx σ H1
theorem wl (he:PE X e te)(hs:swapsWith e none pos.line X.env=pure false:=by rfl):PS X (.Expr e pos) (z0x te):=by
 intro pins s σ H D I h;exact wpAny_Expr_any (thn (he _ s σ H _ I h) λv s1 ⟨x,H1,I1,r1,q1⟩=>⟨σ,H1,I1,q1⟩) I.quiet hs
def tRet (te:TE):TS:=λD σ H=>te σ H D.rt
theorem W4 (he:PE X e te):PS X (.Return (some e) pos) (tRet te):=by
 intro pins s σ H D I h;exact wpAny_Return_some (thn (he _ s σ H _ I h) λv s1 ⟨x,H1,I1,r1,q1⟩=>⟨x,σ,H1,I1,r1,q1⟩)
def tIfS (c:TT)(t u:TS):TS:=λD σ H=>c σ H λb H1=>if b=true then t D σ H1 else u D σ H1
theorem z0y {c:Expr}{a b:List Stmt}{tc:TT}(hc:PT X c tc)(ha:PSs X a t)(hb:PSs X b u):PS X (.If c a b pos) (tIfS tc t u):=by
 intro pins s σ H D I h;refine wpAny_If (thn (hc _ s σ H _ I h) λd s1 ⟨H1,I1,q1⟩=> ?_);cases d with
 | true=>exact ha _ s1 σ H1 D I1 q1
 | false=>exact hb _ s1 σ H1 D I1 q1
end
abbrev TG:=V->St->Hp->(St->Hp->Prop)->Prop
abbrev TGs:=List V->St->Hp->(St->Hp->Prop)->Prop
def PG (X:Cx)(target:Expr)(t:TG):Prop:=
 ∀(pins:List (Addr×Obj)) (s:Shared) (σ:St) (H:Hp) (v:V) (u:Value) (Q:St->Hp->Prop),Inv X pins σ H s->RelV v u->t v σ H Q->
  wpAny (model X.prog X.w) X.A (assign target X.env u) (λ_ s' =>∃σ' H',Inv X pins σ' H' s' /\Q σ' H') X.xe s
def PGs (X:Cx)(ts:List Expr)(t:TGs):Prop:=
 ∀(pins:List (Addr×Obj)) (s:Shared) (σ:St) (H:Hp) (vs:List V) (us:List Value) (Q:St->Hp->Prop),Inv X pins σ H s->Vals vs us->t vs σ H Q->
  wpAny (model X.prog X.w) X.A (assignInOrder ((assignEach ts X.env).map (·.2)) us) (λ_ s' =>∃σ' H',Inv X pins σ' H' s' /\Q σ' H') X.xe s
section
variable {X:Cx}{pos:Pos}
def wm (i:Nat):TG:=λv σ H Q=>Q (σ.set i (some v)) H
theorem j7 {i:Nat}{x:Str}(hN:X.N.Nodup)(hi:X.N[i]? =some x)(hx:Loc X.env.scope x)(hf:X.fn x=true\/X.env.scope.names.lookup x=some .local:=by first | exact .inl rfl | exact .inr rfl | assumption):PG X (.Name x pos) (wm i):=by
 intro pins s σ H v u Q I r h;exact wpAny_assign_Name (jX I hN hi hx r (λs' I' =>⟨_,H,I',h⟩) hf)
def z0z:TGs:=λvs σ H Q=>vs=[]/\Q σ H
def yg (t:TG)(u:TGs):TGs:=λvs σ H Q=>∃v r,vs=v :: r/\t v σ H λσ' H' =>u r σ' H' Q
theorem yh:PGs X [] z0z:=by
 intro pins s σ H vs us Q I r h;obtain⟨e,h⟩:=h;exact assignInOrder_nil ⟨σ,H,I,h⟩
theorem jY {e:Expr}{es:List Expr}{t:TG}{u:TGs}(h1:PG X e t)(h2:PGs X es u)
  (hs:(assignEach (e :: es) X.env).map (·.2)=assign e X.env :: (assignEach es X.env).map (·.2):=by rfl):PGs X (e :: es) (yg t u):=by
 intro pins s σ H vs us Q I r h;obtain⟨v,vr,e1,h⟩:=h;subst e1;cases r with
 | cons r rr=>
  rw[hs];refine assignInOrder_cons (thn (h1 _ s σ H _ _ _ I r h) λ_ s1 ⟨σ1,H1,I1,q1⟩=> ?_);exact h2 _ s1 σ1 H1 _ _ Q I1 rr q1
def GM (K:ag)(n:Nat)(t:TGs):TG:=λv σ H Q=>∃a xs,v= .ref a/\SqT K H a xs/\xs.length=n/\t xs σ H Q
theorem vS {es:List Expr}{k:Nat}{t:TGs}{n:Nat}(hc:X.calm=true)(h:PGs X es t)
  (hn:(assignEach es X.env).length=n:=by rfl) (hst:(assignEach es X.env).findIdx? (·.1)=none:=by rfl):PG X (.Tuple es k pos) (GM X.K n t):=by
 intro pins s σ H v u Q I r hw;obtain⟨a,xs,e1,hq,hl,hw⟩:=hw;subst e1;cases r;obtain⟨its,rv,ht,hz⟩:=I.tuple hq;refine assign_Tuple_tuple (I.ok.hd hc) ht (by simp[hn,← hl,rv.length]) hst λh' hx=> ?_
 have I1:Inv X _ σ H { s with heap:=h' }:=I.kept λb o e=>hx b o (aD (am e)) e;exact h _ _ σ H xs _ Q I1 (by simpa using rv) hw
def tAsg (te:TE)(g:TG):TS:=λD σ H=>te σ H λx H1=>g x σ H1 D.nx
theorem kz {tg e:Expr}{te:TE}{g:TG}(he:PE X e te)(hg:PG X tg g)(hs:swapsWithSole [tg] e pos.line X.env=pure false:=by rfl)(hw:swappedStores [tg] e X.env=pure none:=by rfl)
  (h1:(assignEach [tg] X.env).map (·.2)=[assign tg X.env]:=by rfl):PS X (.Assign [tg] e pos) (tAsg te g):=by
 intro pins s σ H D I h;refine wpAny_Assign_stores (thn (he _ s σ H _ I h) λv s1 ⟨x,H1,I1,r1,q1⟩=> ?_) hs hw;rw[h1];exact thn (hg _ s1 σ H1 x v _ I1 r1 q1) λ_ s2 q=>q
theorem JQ {i:Nat}{x:Str}{e:Expr}{te:TE}{pos' :Pos}(hN:X.N.Nodup)(hi:X.N[i]? =some x)(hx:Loc X.env.scope x)(he:PE X e te)(hs:swapsWith e (some (.Name x pos')) pos.line X.env=pure false:=by rfl)(hf:X.fn x=true\/X.env.scope.names.lookup x=some .local:=by first | exact .inl rfl | exact .inr rfl | assumption):
  PS X (.Assign [.Name x pos'] e pos) (tAsg te (wm i)):=by
 intro pins s σ H D I h;refine wpAny_Assign_Name (thn (he _ s σ H _ I h) λv s1 ⟨y,H1,I1,r1,q1⟩=> ?_) hs;exact jX I1 hN hi hx r1 (λs2 I2=>⟨_,H1,I2,q1⟩) hf
def tPar (i j:Nat)(ta:TA):TS:=λD σ H=>ta σ H λvs H1=>∃v w,vs=[v,w]/\D.nx ((σ.set i (some v)).set j (some w)) H1
theorem kA {i j:Nat}{x y:Str}{a b:Expr}{ta:TA}{px py pt:Pos}{kt k2 pt2}(hc:X.calm=true)(hN:X.N.Nodup)(hi:X.N[i]? =some x)(hj:X.N[j]? =some y)(hij:i ≠ j)
  (hx:X.env.scope.names.lookup x=some .local) (hy:X.env.scope.names.lookup y=some .local) (ha:PA X [a,b] ta)
  (hw:swappedStores [.Tuple [.Name x px,.Name y py] kt pt] (.Tuple [a,b] k2 pt2) X.env=pure (some [x,y]))
  (hs:swapsWithSole [.Tuple [.Name x px,.Name y py] kt pt] (.Tuple [a,b] k2 pt2) pos.line X.env=pure false:=by rfl):
  PS X (.Assign [.Tuple [.Name x px,.Name y py] kt pt] (.Tuple [a,b] k2 pt2) pos) (tPar i j ta):=by
 intro pins s σ H D I h;refine a8 (wpAny_standAt ?_);refine a8 (ac ?_);refine a8 (Tuple_ (thn (ha _ _ s σ H _ I h) λus s1 ⟨vs,H1,I1,r1,q1⟩=> ?_));obtain⟨v,w,e1,q1⟩:=q1;subst e1;obtain⟨u1,u2,rfl,rv,rw'⟩:∃u1 u2,us=[u1,u2]/\RelV v u1/\RelV w u2:=by
  cases r1 with
  | cons p q=>
   cases q with
   | cons p' q' =>
    cases q';exact⟨_,_,rfl,p,p'⟩
 refine aQ ?_ (by show 2<=sizeLine;decide)
 have I2:Inv X _ σ H1 { s1 with heap:=s1.heap.push { cls:= .type "tuple",data:= .seq [u1,u2].toArray } }:=I1.kept λb o e=>aa _ e;rw[hw];refine a8 (ac ?_);refine a8 (ce (a8 (unpackItems_tuple (items:= #[u1,u2]) (I.ok.hd hc) (IsTup.new _ _) λh' hx' => ?_)));have I3:=I2.kept (t' :=s1.toks) λb o e=>hx' b o (aD (am e)) e;refine a8 (assignInOrder_cons (wpAny_bindName (jX I3 hN hj (.inl hy) rw' (λs2 I4=> ?_) (.inr hy))));refine assignInOrder_cons (wpAny_bindName (jX I4 hN hi (.inl hx) rv (λs3 I5=>assignInOrder_nil (ac ?_)) (.inr hx)));rw[List.set_comm _ _ (b8 hij)]at I5;exact⟨_,H1,I5,q1⟩
end
section
variable {X:Cx}{pos:Pos}
def kB (c:TT)(tb:TS):TS:=λD σ H=>∃W:Nat->St->Hp->Prop,(∃m,W m σ H)/\∀m σ H,W m σ H->
 c σ H λb H1=>if b=true then ∃N:St->Hp->Prop,(∀σ' H',N σ' H' ->∃m',m' < m/\W m' σ' H')/\tb { D with nx:=N,ct:=N,bk:=D.nx } σ H1 else D.nx σ H1
theorem Qg {c:Expr}{body:List Stmt}{tc:TT}{tb:TS}(hp:PassesOwn (model X.prog X.w) X.A X.env X.xe)(hc:PT X c tc)(hb:PSs X body tb):PS X (.While c body [] pos) (kB tc tb):=by
 intro pins s σ H D I h;obtain⟨W,⟨m0,w0⟩,turn⟩:=h;refine wpAny_While (codeAny_whileLoop (λn s' =>∃σ' H',Inv X _ σ' H' s' /\W n σ' H') ?_ m0 ⟨σ,H,I,w0⟩)
 rintro n s1 ⟨σ1,H1,I1,w1⟩
 refine ck hp (thn (hc _ s1 σ1 H1 _ I1 (turn n σ1 H1 w1)) λb s2 ⟨H2,I2,q2⟩=> ?_);cases b with
 | true=>
  obtain⟨N,hN,q2⟩:=q2;refine ck hp (thn (hb _ s2 σ1 H2 _ I2 q2) λf s3 q3=> ?_);cases f with
  | next=>
   obtain⟨σ3,H3,I3,n3⟩:=q3;obtain⟨m',hm,w3⟩:=hN σ3 H3 n3;exact⟨m',hm,σ3,H3,I3,w3⟩
  | cont=>
   obtain⟨σ3,H3,I3,n3⟩:=q3;obtain⟨m',hm,w3⟩:=hN σ3 H3 n3;exact⟨m',hm,σ3,H3,I3,w3⟩
  | brk=>exact q3
  | ret v=>exact q3
 | false=>
  exact wpAny_execs_nil ⟨σ1,H2,I2,q2⟩
end
structure It where
 go:Nat->Hp->Prop
 yld:Nat->Hp->V->Hp->Prop
 stop:Nat->Hp->Prop
def wY (X:Cx)(pins:List (Addr×Obj))(H:Hp)(b:Addr):Prop:=
 H b=none/\b ≠ X.env.locals/\b ∉ X.fs/\(b∈X.ex\/X.s₀.heap.objs.size<=b)/\(∀x c,X.env.cells.lookup x=some c->c ≠ b)/\∀p∈X.pn++pins,p.1 ≠ b
theorem Inv.fpOk {X:Cx}{pins:List (Addr×Obj)}{σ:St}{H H' :Hp}{s:Shared}{b:Addr}(I:Inv X pins σ H s)(hb:s.heap.objs.size<=b)(hn:H' b=none):wY X pins H' b:=by
 refine⟨hn,cy (aK I.lt hb),I.nofs hb,.inr (ar I.sz hb),λx c e z=> ?_,λp hp z=> ?_⟩
 ·obtain⟨v,q⟩:=I.cell x c e;exact absurd (aK q.lt (by rw[z];exact hb)) (bi _)
 ·exact absurd (aK (am (I.pin p hp).1) (by rw[z];exact hb)) (bi _)
structure Ur (P:Program) (w:World) (K:ag) (tg:Expr) (J:It) (fp:List Addr) (it:Addr) (tn:Nat->Heap->Prop):Prop where
 mem:it∈fp
 obj:∀i h,tn i h->∀b∈fp,∃o,h.get? b=some o/\∀v,o.data ≠ .cell v
 keep:∀i h h',tn i h->(∀b∈fp,∀o,h.get? b=some o->h'.get? b=some o)->tn i h'
 item:∀(X:Cx),X.prog=P->X.w=w->X.K=K->X.calm=true->∀(i:Nat) (pins:List (Addr×Obj)) (s:Shared) (σ:St) (H:Hp) (E:Value->Shared->Prop),Inv X pins σ H s->(∀b∈fp,wY X pins H b)->tn i s.heap->J.go i H->
  wpAny (model P w) X.A (pyNext (.ref it)) (λr s1=>∃u,r=some u/\
   wpAny (model P w) X.A (letOwnedTupleGo tg (.ref it) u) (λ_ s2=>∃x H',Inv X pins σ H' s2/\RelV x u/\J.yld i H x H' /\tn (i+1) s2.heap/\∀b∈fp,H' b=none) E s1) E s
 done:∀(X:Cx),X.prog=P->X.w=w->X.K=K->X.calm=true->∀(i:Nat) (pins:List (Addr×Obj)) (s:Shared) (σ:St) (H:Hp) (E:Value->Shared->Prop),Inv X pins σ H s->(∀b∈fp,wY X pins H b)->tn i s.heap->J.stop i H->
  wpAny (model P w) X.A (pyNext (.ref it)) (λr s1=>r=none/\Inv X pins σ H s1) E s
 self:∀(A:Around) (i:Nat) (s:Shared) (Q:Value->Shared->Prop) (E:Value->Shared->Prop),tn i s.heap->Q (.ref it) s->wpAny (model P w) A (pyIter (.ref it)) Q E s
abbrev TI:=St->Hp->(It->Hp->Prop)->Prop
def PIE (X:Cx)(pins:List (Addr×Obj))(σ:St)(tg:Expr)(R:It->Hp->Prop)(itv:Value)(s2:Shared):Prop:=
 ∃(it:Addr) (fp:List Addr) (tn:Nat->Heap->Prop) (J:It) (H' :Hp),itv= .ref it/\Inv X pins σ H' s2/\Ur X.prog X.w X.K tg J fp it tn/\tn 0 s2.heap/\(∀b∈fp,wY X pins H' b)/\R J H'
def PI (X:Cx)(tg iter:Expr)(wi:TI):Prop:=
 ∀(pins:List (Addr×Obj)) (s:Shared) (σ:St) (H:Hp) (R:It->Hp->Prop),Inv X pins σ H s->wi σ H R->
  wpAny (model X.prog X.w) X.A (eval iter X.env) (λv s1=>wpAny (model X.prog X.w) X.A (pyIter v) (PIE X pins σ tg R) X.xe s1) X.xe s
theorem Us {M:Model}{A:Around}{E:Value->Shared->Prop}{s:Shared}{tg:Expr}{it:Addr}{u:Value}{o:Obj}{n:String}{vs:Array Value}{Q:Unit->Shared->Prop}(ho:s.heap.get? it=some o)(hc:o.cls= .type n)(hd:o.data= .fields vs)
  (hn:["enumerate","zip","dict_itemiterator","dict_reverseitemiterator","odict_iterator","itertools.zip_longest","itertools.pairwise"].contains n=false) (hQ:Q () s):wpAny M A (letOwnedTupleGo tg (.ref it) u) Q E s:=by
 cases tg <;> first
  | exact ac hQ
  | (cases u <;> first
    | exact ac hQ
    | (refine a8 (wpAny_load ho ?_);rw[hc,hd];show wpAny M A (if (["enumerate","zip","dict_itemiterator","dict_reverseitemiterator","odict_iterator","itertools.zip_longest","itertools.pairwise"].contains n && vs[0]? == some _)=true then _ else _) Q E s;rw[if_neg (by intro h;rw[hn]at h;cases h)];exact ac hQ))
def Itl (K:ag)(a:Addr):It:=
 ⟨λi H=>∃xs x,SqL K H a xs/\xs[i]? =some x,λi H x H' =>H' =H/\∀xs,SqL K H a xs->xs[i]? =some x,λi H=>∃xs,SqL K H a xs/\xs.length<=i⟩
def Itt (K:ag)(a:Addr):It:=
 ⟨λi H=>∃xs x,SqT K H a xs/\xs[i]? =some x,λi H x H' =>H' =H/\∀xs,SqT K H a xs->xs[i]? =some x,λi H=>∃xs,SqT K H a xs/\xs.length<=i⟩
noncomputable def Itr (lo:Int)(n:Nat):It:=⟨λi _=>i < n,λi H x H' =>H' =H/\x= .int (lo+i),λi _=>n<=i⟩
theorem W5 {P:Program}{w:World}{K:ag}{tg:Expr}(a it:Addr):Ur P w K tg (Itl K a) [it] it (λi h=>h.IsListIter it a i) where
 mem:=by simp
 obj:=λi h st b hb=>by
  have e:b=it:=by simpa using hb
  subst e;obtain⟨o,e,c,d⟩:=st;exact⟨o,e,λv z=>by rw[d]at z;cases z⟩
 keep:=λi h h' st k=>st.at λo e=>k it (by simp) o e
 item:=by
  intro X hP hw hK hc i pins s σ H E I hf st hg;subst hP hw hK;obtain⟨xs,x,hq,hx⟩:=hg;obtain⟨its,rv,p,hz⟩:=I.list hq;obtain⟨u,hu,ru⟩:=rv.get hx;obtain⟨f0,f1,f2,f3,f4,f5⟩:=hf it (by simp)
  refine wpAny_pyNext_list_item st p.isList (x:=u) (by simpa using hu) λh' st' sb=> ?_
  have I1:Inv X pins σ H { s with heap:=h' }:=I.turned (t' :=s.toks) (λb o hb e=>(sb.2 b hb).trans e) f0 f1 f3 f4 f5;obtain⟨o,e,c,d⟩:=id st';exact⟨u,rfl,Us (s:={ s with heap:=h' }) e c d (by decide) ⟨x,H,I1,ru,⟨rfl,λys hy=>by rw[I.list_inj hy hq];exact hx⟩,st',λb hb=>(hf b hb).1⟩⟩
 done:=by
  intro X hP hw hK hc i pins s σ H E I hf st hg;subst hP hw hK;obtain⟨xs,hq,hx⟩:=hg;obtain⟨its,rv,p,hz⟩:=I.list hq;obtain⟨f0,f1,f2,f3,f4,f5⟩:=hf it (by simp)
  have hl:=rv.length;exact wpAny_pyNext_list_end (I.ok.hd hc) st p.isList (by simp;omega) λh' eb=>⟨rfl,I.turned (t' :=s.toks) (λb o hb e=>eb b o hb e) f0 f1 f3 f4 f5⟩
 self:=λ_ _ _ _ _ st h=>wpAny_pyIter_listiter st h
theorem JR {P:Program}{w:World}{K:ag}{tg:Expr}(a it:Addr):Ur P w K tg (Itt K a) [it] it (λi h=>h.IsTupleIter it a i) where
 mem:=by simp
 obj:=λi h st b hb=>by
  have e:b=it:=by simpa using hb
  subst e;obtain⟨o,e,c,d⟩:=st;exact⟨o,e,λv z=>by rw[d]at z;cases z⟩
 keep:=λi h h' st k=>st.at λo e=>k it (by simp) o e
 item:=by
  intro X hP hw hK hc i pins s σ H E I hf st hg;subst hP hw hK;obtain⟨xs,x,hq,hx⟩:=hg;obtain⟨its,rv,p,hz⟩:=I.tuple hq;obtain⟨u,hu,ru⟩:=rv.get hx;obtain⟨f0,f1,f2,f3,f4,f5⟩:=hf it (by simp)
  refine wpAny_pyNext_tuple_item st (show s.heap.IsTuple a its.toArray from p) (x:=u) (by simpa using hu) λh' st' sb=> ?_
  have I1:Inv X pins σ H { s with heap:=h' }:=I.turned (t' :=s.toks) (λb o hb e=>(sb.2 b hb).trans e) f0 f1 f3 f4 f5;obtain⟨o,e,c,d⟩:=id st';exact⟨u,rfl,Us (s:={ s with heap:=h' }) e c d (by decide) ⟨x,H,I1,ru,⟨rfl,λys hy=>by rw[I.tuple_inj hy hq];exact hx⟩,st',λb hb=>(hf b hb).1⟩⟩
 done:=by
  intro X hP hw hK hc i pins s σ H E I hf st hg;subst hP hw hK;obtain⟨xs,hq,hx⟩:=hg;obtain⟨its,rv,p,hz⟩:=I.tuple hq;obtain⟨f0,f1,f2,f3,f4,f5⟩:=hf it (by simp)
  have hl:=rv.length;exact wpAny_pyNext_tuple_end (I.ok.hd hc) st (show s.heap.IsTuple a its.toArray from p) (by simp;omega) λh' eb=>⟨rfl,I.turned (t' :=s.toks) (λb o hb e=>eb b o hb e) f0 f1 f3 f4 f5⟩
 self:=λ_ _ _ _ _ st h=>wpAny_pyIter_tupleiter st h
theorem Ut {P:Program}{w:World}{K:ag}{tg:Expr}(it:Addr)(lo:Int)(n:Nat):Ur P w K tg (Itr lo n) [it] it (λi h=>IsRangeIter h it (lo+(i:Nat)*1) ((n:Int) - (i:Nat)) 1) where
 mem:=by simp
 obj:=λi h st b hb=>by
  have e:b=it:=by simpa using hb
  subst e;exact⟨_,st,λv z=>by
   have z' :Data.fields _=Data.cell v:=z;cases z'⟩
 keep:=λi h h' st k=>k it (by simp) _ st
 item:=by
  intro X hP hw hK hc i pins s σ H E I hf st hg;subst hP hw hK;obtain⟨f0,f1,f2,f3,f4,f5⟩:=hf it (by simp)
  have W:=Walks.range (prog:=X.prog) (w:=X.w) (I.ok.hd hc) it lo 1 n;refine W.item i s _ _ hg st λv h' tk hv st' kk=> ?_;obtain⟨t,rfl⟩:=hv;have I1:Inv X pins σ H { s with heap:=h',toks:=tk }:=I.turned (λb o hb e=>kk b o (by simpa using hb) e) f0 f1 f3 f4 f5
  refine⟨_,rfl,Us (s:={ s with heap:=h',toks:=tk }) (n:="range_iterator") st' rfl rfl (by decide) ⟨.int (lo+i),H,I1,⟨t, ?_⟩,⟨rfl,rfl⟩,st',λb hb=>(hf b hb).1⟩⟩
  rw[Int.mul_one]
 done:=by
  intro X hP hw hK hc i pins s σ H E I hf st hg;subst hP hw hK;obtain⟨f0,f1,f2,f3,f4,f5⟩:=hf it (by simp)
  exact wpAny_pyNext_range_end (I.ok.hd hc) st (by have:n<=i:=hg;omega) λh' eb=>⟨rfl,I.turned (t' :=s.toks) (λb o hb e=>eb b o hb e) f0 f1 f3 f4 f5⟩
 self:=λ_ _ _ _ _ st h=>wpAny_pyIter_rangeiter st h
end L2
namespace L2
open PySem PySem.Spec PyProof.Rows
section
variable {X:Cx}{tg:Expr}
theorem uA {pins:List (Addr×Obj)}{σ:St}{H:Hp}{s:Shared}{R:It->Hp->Prop}{E:Value->Shared->Prop}{lo hi:Int}{t u v:Tok}{tk:Nat}(I:Inv X pins σ H s)(h1: -(2 ^ 62)<=lo)(h2:lo < 2 ^ 62)(h3: -(2 ^ 62)<=hi)(h4:hi < 2 ^ 62)
  (q:R (Itr lo (hi - lo).toNat) H):wpAny (model X.prog X.w) X.A (pyIter (.ref s.heap.objs.size)) (PIE X pins σ tg R) E { s with heap:=s.heap.push { cls:= .type "range",data:= .fields #[.int lo t,.int hi u,.int 1 v] },toks:=tk }:=by
 refine wpAny_pyIter_range (IsRange.new ..) (small_one h1 h2 h3 h4) ?_;have I1:Inv X _ σ H { s with heap:=s.heap.push { cls:= .type "range",data:= .fields #[.int lo t,.int hi u,.int 1 v] },toks:=tk }:=I.kept λb o e=>aa _ e;refine⟨(s.heap.push _).objs.size,[(s.heap.push _).objs.size],_,_,H,rfl,
  I1.kept λb o e=>aa _ e,Ut _ lo _, ?_,λb hb=> ?_,q⟩
 ·have e1:lo+((0:Nat))*1=lo:=by simp
  have e2:(((hi - lo).toNat):Int) - ((0:Nat))=fQ lo hi 1:=by rw[rangeSize_one];split <;> omega
  rw[e1,e2];exact af _ rfl
 ·have e:b=(s.heap.push { cls:= .type "range",data:= .fields #[.int lo t,.int hi u,.int 1 v] }).objs.size:=by simpa using hb
  subst e;exact I1.fpOk (ak _) (I1.hok.fresh (ak _))
def z0A (ta:TA):TI:=λσ H R=>ta σ H λvs H1=>∃j:Int,vs=[.int j]/\ -(2 ^ 62)<=j/\j < 2 ^ 62/\R (Itr 0 j.toNat) H1
def z0B (ta:TA):TI:=λσ H R=>ta σ H λvs H1=>∃i j:Int,vs=[.int i,.int j]/\(-(2 ^ 62)<=i/\i < 2 ^ 62/\ -(2 ^ 62)<=j/\j < 2 ^ 62)/\R (Itr i (j - i).toNat) H1
theorem yi {a:Expr}{ta:TA}{p pos:Pos}(hg:Gl X "range")(hm:X.mg "range"=none)(ha:PA X [a] ta)(hs:starEach [a] X.env=[(false,eval a X.env)]:=by rfl):PI X tg (.Call (.Name "range" p) [a] [] pos) (z0A ta):=by
 intro pins s σ H R I h;refine Call_ (Zv I hg hm boot_range (aM (thn (ha pos _ s σ H _ I h) λus s1 ⟨vs,H1,I1,r1,q1⟩=> ?_) hs rfl));obtain⟨j,e,q1,q2,q⟩:=q1;subst e;cases r1 with
 | cons r rr=>
  cases rr;obtain⟨t,rfl⟩:=r;exact call_range_1 (uA I1 (by omega) (by omega) q1 q2 (by simpa using q))
theorem yj {a b:Expr}{ta:TA}{p pos:Pos}(hg:Gl X "range")(hm:X.mg "range"=none)(ha:PA X [a,b] ta)(hs:starEach [a,b] X.env=[(false,eval a X.env),(false,eval b X.env)]:=by rfl)(hs2:starEach [b] X.env=[(false,eval b X.env)]:=by rfl):
  PI X tg (.Call (.Name "range" p) [a,b] [] pos) (z0B ta):=by
 intro pins s σ H R I h;refine Call_ (Zv I hg hm boot_range (aM (thn (ha pos _ s σ H _ I h) λus s1 ⟨vs,H1,I1,r1,q1⟩=> ?_) (by rw[hs,hs2]) (by rw[hs2];rfl)))
 obtain⟨i,j,e,⟨q1,q2,q3,q4⟩,q⟩:=q1;subst e;cases r1 with
 | cons r rr=>
  cases rr with
  | cons r' rr=>
   cases rr;obtain⟨t,rfl⟩:=r;obtain⟨t',rfl⟩:=r';exact call_range_2 (uA I1 q1 q2 q3 q4 q)
def tFor (wi:TI)(g:TG)(tb:TS):TS:=λD σ H=>wi σ H λJ H1=>∃W:Nat->Nat->St->Hp->Prop,(∃m,W 0 m σ H1)/\∀i m σ H,W i m σ H->
 (J.stop i H/\D.nx σ H)\/(J.go i H/\∃N:St->Hp->Prop,(∀σ' H',N σ' H' ->∃m',m' < m/\W (i+1) m' σ' H')/\∀x H',J.yld i H x H' ->g x σ H' λσ2 H2=>tb { D with nx:=N,ct:=N,bk:=D.nx } σ2 H2)
noncomputable def uB (fp:List Addr)(h:Heap):List (Addr×Obj):=fp.filterMap λb=>(h.get? b).map λo=>(b,o)
theorem ZT {fp:List Addr}{h:Heap}{b:Addr}{o:Obj}(hb:b∈fp)(e:h.get? b=some o):(b,o)∈uB fp h:=ip.mpr ⟨b,hb,by rw[e];rfl⟩
theorem yk {fp:List Addr}{h:Heap}{p:Addr×Obj}(hp:p∈uB fp h):p.1∈fp/\h.get? p.1=some p.2:=by
 obtain⟨b,hb,e⟩:=ip.mp hp;cases q:h.get? b with
 | none=>rw[q]at e;cases e
 | some o=>
  rw[q]at e;have e' :=aI e;subst e';exact⟨hb,q⟩
theorem Inv.pinned {pins:List (Addr×Obj)}{σ:St}{H:Hp}{s:Shared}{fp:List Addr}(I:Inv X pins σ H s)(hf:∀b∈fp,wY X pins H b)(ho:∀b∈fp,∃o,s.heap.get? b=some o/\∀v,o.data ≠ .cell v):Inv X (pins++uB fp s.heap) σ H s:=
 I.pins_of λp hp=>(bv.mp hp).elim (λz=>I.pin p (b6 _ z)) λz=>by
  obtain⟨hb,e⟩:=yk z;obtain⟨f0,f1,f2,_⟩:=hf p.1 hb;obtain⟨o,e',d⟩:=ho p.1 hb;rw[e]at e';cases e';exact⟨e,f0,f1,f2,d⟩
theorem Inv.unpinned {pins pl:List (Addr×Obj)}{σ:St}{H:Hp}{s:Shared}(I:Inv X (pins++pl) σ H s):Inv X pins σ H s:=I.pins_of λp hp=>I.pin p (b6 _ (eN _ hp))
theorem vT {iter:Expr}{body:List Stmt}{wi:TI}{g:TG}{tb:TS}{pos:Pos}(hp:PassesOwn (model X.prog X.w) X.A X.env X.xe)(hc:X.calm=true)(hi:PI X tg iter wi)(hg:PG X tg g)(hb:PSs X body tb)
  (hs:∀x,foldedSetIterable iter X.env x=pure x:=by intro _;rfl):PS X (.For tg iter body [] pos) (tFor wi g tb):=by
 intro pins s σ H D I h;refine wpAny_For (thn (hi _ s σ H _ I h) λv s1 h1=>thn h1 λitv s2 h2=> ?_) hs;obtain⟨it,fp,tn,J,H2,e,I2,T,st2,f2,W,⟨m0,w0⟩,turn⟩:=h2;subst e;have stat:∀{H' :Hp},(∀b∈fp,H' b=none)->∀b∈fp,wY X _ H' b:=λhn b hb=>⟨hn b hb,(f2 b hb).2⟩;refine codeAny_forLoop_any (λn s' =>∃i σ' H',Inv X _ σ' H' s' /\tn i s'.heap/\(∀b∈fp,H' b=none)/\W i n σ' H') ?_ m0 ⟨0,σ,H2,I2,st2,λb hb=>(f2 b hb).1,w0⟩
 rintro n s3 ⟨i,σ3,H3,I3,st3,fr3,w3⟩
 rcases turn i n σ3 H3 w3 with ⟨stop,qn⟩ | ⟨go,N,hN,step⟩
 ·refine ck hp (thn (T.done X rfl rfl rfl hc i _ s3 σ3 H3 _ I3 (stat fr3) st3 stop) λr s4 ⟨hr,I4⟩=> ?_);subst hr;exact wpAny_execs_nil ⟨σ3,H3,I4,qn⟩
 ·refine ck hp (thn (T.item X rfl rfl rfl hc i _ s3 σ3 H3 _ I3 (stat fr3) st3 go) λr s4 ⟨u,hr,h4⟩=> ?_);subst hr;refine ck hp (thn h4 λ_ s5 ⟨x,H5,I5,r5,y5,st5,fr5⟩=> ?_);have I5' :=I5.pinned (stat fr5) (T.obj _ _ st5);refine ck hp (thn (hg _ s5 σ3 H5 x u _ I5' r5 (step x H5 y5)) λ_ s6 ⟨σ6,H6,I6,q6⟩=> ?_);refine ck hp (thn (hb _ s6 σ6 H6 _ I6 q6) λf s7 q7=> ?_);have again:∀{σ7:St} {H7:Hp},Inv X (pins++uB fp _) σ7 H7 s7->N σ7 H7->∃m,m < n/\∃i σ' H',Inv X _ σ' H' s7/\tn i _/\(∀b∈fp,H' b=none)/\W i m σ' H' :=λ{σ7 H7} I7 n7=>by
   obtain⟨m',hm,w7⟩:=hN σ7 H7 n7;refine⟨m',hm,i+1,σ7,H7,I7.unpinned,T.keep _ _ _ st5 λb hb o e=>(I7.pin _ (b6 _ (b6 _ (ZT hb e)))).1,λb hb=> ?_,w7⟩;obtain⟨o,e,d⟩:=T.obj _ _ st5 b hb;exact(I7.pin _ (b6 _ (b6 _ (ZT hb e)))).2.1
  cases f with
  | next=>obtain⟨σ7,H7,I7,n7⟩:=q7;exact again I7 n7
  | cont=>obtain⟨σ7,H7,I7,n7⟩:=q7;exact again I7 n7
  | brk=>obtain⟨σ7,H7,I7,q7⟩:=q7;exact⟨σ7,H7,I7.unpinned,q7⟩
  | ret v=>obtain⟨x7,σ7,H7,I7,r7,q7⟩:=q7;exact⟨x7,σ7,H7,I7.unpinned,r7,q7⟩
end
end L2
namespace L2
open PySem PySem.Spec PyProof.Rows
abbrev R2:=V->V->Hp->VK->Prop
def OpR (X:Cx)(f:Value->Value->Sem Value)(r:R2):Prop:=
 ∀(pins:List (Addr×Obj)) (s:Shared) (σ:St) (H:Hp) (x y:V) (v u:Value) (Q:VK),Inv X pins σ H s->RelV x v->RelV y u->r x y H Q->
  wpAny (model X.prog X.w) X.A (f v u) (EP X pins σ Q) X.xe s
def UnR (X:Cx)(f:Value->Sem Value)(r:V->Hp->VK->Prop):Prop:=
 ∀(pins:List (Addr×Obj)) (s:Shared) (σ:St) (H:Hp) (x:V) (v:Value) (Q:VK),Inv X pins σ H s->RelV x v->r x H Q->
  wpAny (model X.prog X.w) X.A (f v) (EP X pins σ Q) X.xe s
def Za (X:Cx)(f:Value)(r:List V->Hp->VK->Prop):Prop:=
 ∀(pins:List (Addr×Obj)) (s:Shared) (σ:St) (H:Hp) (xs:List V) (us:List Value) (Q:VK),Inv X pins σ H s->Vals xs us->r xs H Q->
  wpAny (model X.prog X.w) X.A (call f us) (EP X pins σ Q) X.xe s
def TruR (X:Cx)(r:V->Hp->(Bool->Hp->Prop)->Prop):Prop:=
 ∀(pins:List _) (s:Shared) (σ:St) (H:Hp) (x:V) (v:Value) (Q:Bool->Hp->Prop),Inv X pins σ H s->RelV x v->r x H Q->
  wpAny (model X.prog X.w) X.A (truthy v) (TP X pins σ Q) X.xe s
def tOp (r:R2)(ta tb:TE):TE:=λσ H Q=>ta σ H λx H1=>tb σ H1 λy H2=>r x y H2 Q
def tUn (r:V->Hp->VK->Prop)(ta:TE):TE:=λσ H Q=>ta σ H λx H1=>r x H1 Q
def rI (C:Int->Int->Prop)(g:Int->Int->V):R2:=λx y H Q=>∃i j,x= .int i/\y= .int j/\C i j/\Q (g i j) H
def rI0 (g:Int->Int->V):R2:=λx y H Q=>∃i j,x= .int i/\y= .int j/\Q (g i j) H
def rU (g:Int->V):V->Hp->VK->Prop:=λx H Q=>∃i,x= .int i/\Q (g i) H
section
variable {X:Cx}{a b c:Expr}{ta tb tc:TE}{pos:Pos}
theorem z0C (ha:PE X a ta)(hb:PE X b tb){pins:List (Addr×Obj)}{s:Shared}{σ:St}{H:Hp}{R:V->V->Hp->Prop}(I:Inv X pins σ H s)
  (h:ta σ H λx H1=>tb σ H1 λy H2=>R x y H2) {Q:Value->Shared->Prop} {f:Value->Value->Sem Value}
  (hf:∀v u s2 x y H2,Inv X pins σ H2 s2->RelV x v->RelV y u->R x y H2->wpAny (model X.prog X.w) X.A (f v u) Q X.xe s2):
  wpAny (model X.prog X.w) X.A (eval a X.env) (λv s₁=>wpAny (model X.prog X.w) X.A (eval b X.env) (λu s₂=>wpAny (model X.prog X.w) X.A (f v u) Q X.xe s₂) X.xe s₁) X.xe s:=by
 refine thn (ha _ s σ H _ I h) λv s1 ⟨x,H1,I1,r1,q1⟩=> ?_;refine thn (hb _ s1 σ H1 _ I1 q1) λu s2 ⟨y,H2,I2,r2,q2⟩=> ?_;exact hf v u s2 x y H2 I2 r1 r2 q2
theorem z0D {op:Operator}{r:R2}(ho:OpR X (binaryOp op) r)(ha:PE X a ta)(hb:PE X b tb):PE X (.BinOp a op b pos) (tOp r ta tb):=by
 intro pins s σ H Q I h;exact wpAny_BinOp (z0C ha hb I h λv u s2 x y H2 I2 rx ry q=>ho _ s2 σ H2 x y v u Q I2 rx ry q)
theorem z0E {op:UnaryOp}{r:V->Hp->VK->Prop}(ho:UnR X (unaryOp op) r)(ha:PE X a ta):PE X (.UnaryOp op a pos) (tUn r ta):=by
 intro pins s σ H Q I h;exact UnaryOp_ (thn (ha _ s σ H _ I h) λv s1 ⟨x,H1,I1,r1,q1⟩=>ho _ s1 σ H1 x v Q I1 r1 q1)
theorem opI {f:Value->Value->Sem Value}{C:Int->Int->Prop}{g:Int->Int->Int}
  (rule:∀(i j:Int) (t u:Tok) (s:Shared) (Q:Value->Shared->Prop) (E:Value->Shared->Prop),C i j->Q (.int (g i j) s.toks) { s with toks:=s.toks+1 }->wpAny (model X.prog X.w) X.A (f (.int i t) (.int j u)) Q E s):
  OpR X f (rI C λi j=> .int (g i j)):=by
 intro pins s σ H x y v u Q I rx ry h;obtain⟨i,j,rfl,rfl,hc,q⟩:=h;obtain⟨t,rfl⟩:=rx;obtain⟨t',rfl⟩:=ry;exact rule i j t t' s _ _ hc ⟨.int _,H,I.tok _,⟨_,rfl⟩,q⟩
theorem opI0 {f:Value->Value->Sem Value}{g:Int->Int->Int}
  (rule:∀(i j:Int) (t u:Tok) (s:Shared) (Q:Value->Shared->Prop) (E:Value->Shared->Prop),Q (.int (g i j) s.toks) { s with toks:=s.toks+1 }->wpAny (model X.prog X.w) X.A (f (.int i t) (.int j u)) Q E s):
  OpR X f (rI0 λi j=> .int (g i j)):=by
 intro pins s σ H x y v u Q I rx ry h;obtain⟨i,j,rfl,rfl,q⟩:=h;obtain⟨t,rfl⟩:=rx;obtain⟨t',rfl⟩:=ry;exact rule i j t t' s _ _ ⟨.int _,H,I.tok _,⟨_,rfl⟩,q⟩
theorem z0F {f:Value->Value->Sem Value}{g:Int->Int->Bool}
  (rule:∀(i j:Int) (t u:Tok) (s:Shared) (Q:Value->Shared->Prop) (E:Value->Shared->Prop),Q (.bool (g i j)) s->wpAny (model X.prog X.w) X.A (f (.int i t) (.int j u)) Q E s):
  OpR X f (rI0 λi j=> .bl (g i j)):=by
 intro pins s σ H x y v u Q I rx ry h;obtain⟨i,j,rfl,rfl,q⟩:=h;obtain⟨t,rfl⟩:=rx;obtain⟨t',rfl⟩:=ry;exact rule i j t t' s _ _ ⟨.bl _,H,I,rfl,q⟩
noncomputable def CDiv (i j:Int):Prop:=0 < j/\j < 1073741824
noncomputable def WV (i j:Int):Prop:=(-(2 ^ 64) < i/\i < 2 ^ 64)\/(-(2 ^ 64) < j/\j < 2 ^ 64)
theorem WV.ok {i j:Int}(h:WV i j):IntMulOk i j:=by
 rcases h with ⟨h1,h2⟩ | ⟨h1,h2⟩
 ·exact .of_left (intBits_le_64 h1 h2)
 ·exact .of_right (intBits_le_64 h1 h2)
theorem kC:OpR X (binaryOp .Add) (rI0 λi j=> .int (i+j)):=opI0 λ_ _ _ _ _ _ _ q=>add_int q
theorem kD:OpR X (binaryOp .Sub) (rI0 λi j=> .int (i - j)):=opI0 λ_ _ _ _ _ _ _ q=>sub_int q
theorem kE:OpR X (binaryOp .Mult) (rI WV λi j=> .int (i*j)):=opI λ_ _ _ _ _ _ _ hc q=>mul_int q hc.ok
theorem VP:OpR X (binaryOp .FloorDiv) (rI CDiv λi j=> .int (i / j)):=opI λi j _ _ _ _ _ hc q=>by
 have h1:=hc.1;have h2:=hc.2;exact floordiv_int (by omega) (by rw[ff i (by omega)];exact q) (.inl (PyProof.noPylong_small (by omega)))
theorem kG:OpR X (binaryOp .Mod) (rI (λ_ j=>0 < j) λi j=> .int (i % j)):=opI λi j _ _ _ _ _ hc q=>by
 exact mod_int' (by omega) (by rw[Int.fmod_eq_emod_of_nonneg i (by omega)];exact q)
theorem unI {f:Value->Sem Value}{g:Int->Int}
  (rule:∀(i:Int) (t:Tok) (s:Shared) (Q:Value->Shared->Prop) (E:Value->Shared->Prop),Q (.int (g i) s.toks) { s with toks:=s.toks+1 }->wpAny (model X.prog X.w) X.A (f (.int i t)) Q E s):
  UnR X f (rU λi=> .int (g i)):=by
 intro pins s σ H x v Q I rx h;obtain⟨i,rfl,q⟩:=h;obtain⟨t,rfl⟩:=rx;exact rule i t s _ _ ⟨.int _,H,I.tok _,⟨_,rfl⟩,q⟩
theorem kH:UnR X (unaryOp .USub) (rU λi=> .int (-i)):=unI λ_ _ _ _ _ q=>neg_int q
theorem yl:OpR X (binaryOp .Add) (λx y H Q=>∃i k,x= .int i/\y= .bl k/\Q (.int (i+b2i k)) H):=by
 intro pins s σ H x y v u Q I rx ry h;obtain⟨i,k,rfl,rfl,q⟩:=h;obtain⟨t,rfl⟩:=rx;cases ry;exact add_int_bool ⟨.int _,H,I.tok _,⟨_,rfl⟩,q⟩
end
section
variable {X:Cx}{a b c:Expr}{ta tb tc:TE}{pos:Pos}
theorem z0G:OpR X (compareOp .Lt) (rI0 λi j=> .bl (decide (i < j))):=z0F λ_ _ _ _ _ _ _ q=>lt_int q
theorem z0H:OpR X (compareOp .LtE) (rI0 λi j=> .bl (decide (i<=j))):=z0F λ_ _ _ _ _ _ _ q=>le_int q
theorem z0I:OpR X (compareOp .Gt) (rI0 λi j=> .bl (decide (j < i))):=z0F λ_ _ _ _ _ _ _ q=>gt_int q
theorem je (b:Expr){op:CmpOp}(h:op ≠ .In:=by decide)(h2:op ≠ .NotIn:=by decide):behindInMarks op b=false:=by
 have e1:(op == CmpOp.In)=false:=by cases op <;> first | rfl | exact absurd rfl h
 have e2:(op == CmpOp.NotIn)=false:=by cases op <;> first | rfl | exact absurd rfl h2
 cases b <;> simp[behindInMarks,e1,e2]
theorem VQ {op:CmpOp}{r:R2}(ho:OpR X (compareOp op) r)(ha:PE X a ta)(hb:PE X b tb)(hm:behindInMarks op b=false):PE X (.Compare a [op] [b] pos) (tOp r ta tb):=by
 intro pins s σ H Q I h;exact wpAny_Compare1 (z0C ha hb I h λv u s2 x y H2 I2 rx ry q=>ho _ s2 σ H2 x y v u Q I2 rx ry q) hm
def kJ (t:TE):TT:=λσ H Q=>t σ H λx H' =>∃k,x= .bl k/\Q k H'
theorem VR {op:CmpOp}{r:R2}(ho:OpR X (compareOp op) r)(ha:PE X a ta)(hb:PE X b tb)(hm:behindInMarks op b=false):PT X (.Compare a [op] [b] pos) (kJ (tOp r ta tb)):=by
 intro pins s σ H Q I h;refine wpAny_isTrue_Compare1 (thn (ha _ s σ H _ I h) λv s1 ⟨x,H1,I1,r1,q1⟩=>thn (hb _ s1 σ H1 _ I1 q1) λu s2 ⟨y,H2,I2,r2,q2⟩=>
  thn (ho _ s2 σ H2 x y v u _ I2 r1 r2 q2) λc s3 ⟨z,H3,I3,r3,k,e,q3⟩=> ?_) hm
 subst e;cases r3;exact b9 ⟨H3,I3,q3⟩
def vU (r r' :R2)(ta tb tc:TE):TE:=λσ H Q=>ta σ H λx H1=>tb σ H1 λy H2=>r x y H2 λz H3=>∃k,z= .bl k/\
 (if k=true then tc σ H3 λw' H4=>r' y w' H4 Q else Q (.bl false) H3)
theorem Qh {op op' :CmpOp}{r r' :R2}(ho:OpR X (compareOp op) r)(ho' :OpR X (compareOp op') r')(ha:PE X a ta)(hb:PE X b tb)(hc:PE X c tc)
  (hm:lastMarks [op,op'] [b,c]=false:=by with_unfolding_all rfl):PE X (.Compare a [op,op'] [b,c] pos) (vU r r' ta tb tc):=by
 intro pins s σ H Q I h;refine Compare_chain (thn (ha _ s σ H _ I h) λv s1 ⟨x,H1,I1,r1,q1⟩=>chain_link (thn (hb _ s1 σ H1 _ I1 q1) λu s2 ⟨y,H2,I2,r2,q2⟩=>
  thn (ho _ s2 σ H2 x y v u _ I2 r1 r2 q2) λd s3 ⟨z,H3,I3,r3,k,e,q3⟩=> ?_)) hm
 subst e;cases r3;refine b9 ?_;cases k with
 | false=>exact ite_ff ⟨.bl _,H3,I3,rfl,q3⟩
 | true=>exact ite_tt (chain_last (thn (hc _ s3 σ H3 _ I3 q3) λw' s4 ⟨z',H4,I4,r4,q4⟩=>ho' _ s4 σ H4 y z' u w' Q I4 r2 r4 q4))
theorem Qi {op op' :CmpOp}{r r' :R2}(ho:OpR X (compareOp op) r)(ho' :OpR X (compareOp op') r')(ha:PE X a ta)(hb:PE X b tb)(hc:PE X c tc)
  (hm:lastMarks [op,op'] [b,c]=false:=by with_unfolding_all rfl):PT X (.Compare a [op,op'] [b,c] pos) (kJ (vU r r' ta tb tc)):=by
 intro pins s σ H Q I h;refine isTrue_chain (thn (ha _ s σ H _ I h) λv s1 ⟨x,H1,I1,r1,q1⟩=>test_link (thn (hb _ s1 σ H1 _ I1 q1) λu s2 ⟨y,H2,I2,r2,q2⟩=>
  thn (ho _ s2 σ H2 x y v u _ I2 r1 r2 q2) λd s3 ⟨z,H3,I3,r3,k,e,q3⟩=> ?_)) hm
 subst e;cases r3;refine b9 ?_;cases k with
 | false=>
  obtain⟨k',e',q'⟩:=q3;cases e';exact ite_ff ⟨H3,I3,q'⟩
 | true=>
  refine ite_tt (test_last (thn (hc _ s3 σ H3 _ I3 q3) λw' s4 ⟨z',H4,I4,r4,q4⟩=>thn (ho' _ s4 σ H4 y z' u w' _ I4 r2 r4 q4) λd' s5 ⟨z2,H5,I5,r5,k2,e2,q5⟩=> ?_));subst e2;cases r5;exact b9 ⟨H5,I5,q5⟩
def TruV (K:ag)(x:V)(H:Hp)(k:Bool):Prop:=
 match x with
 | .non=>k=false
 | .bl b=>k=b
 | .int i=>k=(i != 0)
 | .str y=>y.length<=sizeLine/\k=((y.length:Int) != 0)
 | .byt y=>y.size<=sizeLine/\k=((y.size:Int) != 0)
 | .ref p=>(∃xs,SqL K H p xs/\k= !xs.isEmpty)\/(∃xs,SqT K H p xs/\k= !xs.isEmpty)\/∃kvs,H p=some (.dK kvs)/\k= !kvs.isEmpty
 | _=>False
theorem Uu {κ:Type}{kvs:List (κ×V)}{vs:List (κ×Value)}(r:KV kvs vs):(!vs.isEmpty)= !kvs.isEmpty:=by
 cases r <;> rfl
theorem JS {xs:List V}{its:List Value}(r:Vals xs its):(!its.toArray.isEmpty)= !xs.isEmpty:=by
 cases r <;> simp
theorem W6:(sizeLine:Nat) < 2 ^ 63:=by decide
theorem kK:TruR X (λx H Q=>∃k,TruV X.K x H k/\Q k H):=by
 intro pins s σ H x v Q I rx h;obtain⟨k,e,q⟩:=h;have hs:=bC;cases x with
 | non=>
  cases rx;have e' :k=false:=e;subst e';exact truthy_none ⟨H,I,q⟩
 | bl b=>
  cases rx;have e' :k=b:=e;subst e';exact b9 ⟨H,I,q⟩
 | int i=>
  obtain⟨t,rfl⟩:=rx;have e' :k=(i != 0):=e;subst e';exact PySem.P.truthy_int ⟨H,I,q⟩
 | str y=>
  obtain⟨t,rfl⟩:=rx;obtain⟨hy,e'⟩:y.length<=sizeLine/\k=((y.length:Int) != 0):=e;subst e';exact PySem.P.truthy_str (by omega) ⟨H,I.tok _,q⟩
 | byt y=>
  obtain⟨t,rfl⟩:=rx;obtain⟨hy,e'⟩:y.size<=sizeLine/\k=((y.size:Int) != 0):=e;subst e';exact PySem.W.truthy_bytes (by omega) ⟨H,I.tok _,q⟩
 | ref p=>
  cases rx;have e' :=e;rcases e' with ⟨xs,hx,e'⟩ | ⟨xs,hx,e'⟩ | ⟨kvs,hx,e'⟩
  ·subst e';obtain⟨its,r,pl,hz⟩:=I.list hx;have hlen:=r.length;exact wpAny_truthy_list pl.isList (by simp only[aB];omega) ⟨H,I.tok _,by rw[JS r];exact q⟩
  ·subst e';obtain⟨its,r,pl,hz⟩:=I.tuple hx;have hlen:=r.length;exact truthy_tuple pl (by simp only[aB];omega) ⟨H,I.tok _,by rw[JS r];exact q⟩
  ·subst e';obtain⟨hz,hS,vs,r,m⟩:kvs.length<=sizeLine/\(p == sysModules)=false/\∃vs,KV kvs vs/\s.heap.DictOf _ p vs:=I.hok p _ hx;have hlen:=eI r;exact wpAny_truthy_dict hS m (by omega) ⟨H,I.tok _,by rw[Uu r];exact q⟩
 | _=>exact(e).elim
theorem Qj (ha:PE X a ta)(he:∀whole,isTrue a X.env whole=(do let v ← whole;standAt a.pos;holding [v] (truthy v))):
  PT X a (λσ H Q=>ta σ H λx H' =>∃k,TruV X.K x H' k/\Q k H'):=by
 intro pins s σ H Q I h;exact isTrue_plain (thn (ha _ s σ H _ I h) λv s1 ⟨x,H1,I1,r1,q1⟩=>kK _ s1 σ H1 x v Q I1 r1 q1) (he _)
theorem Uv:OpR X (binaryOp .Add) (λx y H Q=>∃i j,x= .str i/\y= .str j/\i.length+j.length<=sizeLine/\Q (.str (i++j)) H):=by
 intro pins s σ H x y v u Q I rx ry h;obtain⟨i,j,rfl,rfl,hz,q⟩:=h;obtain⟨t,rfl⟩:=rx;obtain⟨t',rfl⟩:=ry;exact add_str (λt' tk=>⟨.str _,H,I.tok _,⟨_,rfl⟩,q⟩) hz
theorem Zr {x:V}{us:List Value}(r:Vals [x] us):∃u,us=[u]/\RelV x u:=by
 cases r with
 | cons r1 r2=>cases r2;exact⟨_,rfl,r1⟩
theorem Uw {x y:V}{us:List Value}(r:Vals [x,y] us):∃u w',us=[u,w']/\RelV x u/\RelV y w' :=by
 cases r with
 | cons r1 r2=>
  cases r2 with
  | cons r3 r4=>cases r4;exact⟨_,_,rfl,r1,r3⟩
theorem Qk:Za X (.builtin "abs") (λxs H Q=>∃i,xs=[.int i]/\Q (.int (if i < 0 then -i else i)) H):=by
 intro pins s σ H xs us Q I r h;obtain⟨i,rfl,q⟩:=h;obtain⟨u,rfl,t,rfl⟩:=Zr r;exact call_abs_int λu tk=>⟨.int _,H,I.tok _,⟨_,rfl⟩,q⟩
theorem ym (hc:X.calm=true):Za X (.builtin "min") (λxs H Q=>∃i j,xs=[.int i,.int j]/\Q (.int (if j < i then j else i)) H):=by
 intro pins s σ H xs us Q I r h;obtain⟨i,j,rfl,q⟩:=h;obtain⟨u,w',rfl,⟨t,rfl⟩,⟨t',rfl⟩⟩:=Uw r;refine min_two_ints (I.ok.hd hc) λh' tk k=>⟨_,H,I.kept k, ?_,q⟩
 by_cases hj:j < i
 ·rw[if_pos hj,if_pos hj];exact⟨_,rfl⟩
 ·rw[if_neg hj,if_neg hj];exact⟨_,rfl⟩
theorem yn:Za X (.type "int") (λxs H Q=>(∃i,xs=[.int i]/\Q (.int i) H)\/∃k,xs=[.bl k]/\Q (.int (if k then 1 else 0)) H):=by
 intro pins s σ H xs us Q I r h;rcases h with ⟨i,rfl,q⟩ | ⟨k,rfl,q⟩
 ·obtain⟨u,rfl,t,rfl⟩:=Zr r;exact call_int_int ⟨.int i,H,I,⟨_,rfl⟩,q⟩
 ·obtain⟨u,rfl,r1⟩:=Zr r;cases r1;exact call_int_bool ⟨.int _,H,I.tok _,⟨_,rfl⟩,q⟩
end
end L2
namespace L2
open PySem PySem.Spec PyProof.Rows
structure z0J (h:Heap) (x dx C:Addr) (mA:Str->Option Value):Prop where
 obj:h.get? x=some (hX C dx)
 ns:h.Ns1 dx mA
 ne:dx ≠ x
theorem yo {h:Heap}{dx:Addr}{mA:Str->Option Value}(n:h.Ns1 dx mA):∃od,h.get? dx=some od/\∀name,i9 name od=some (mA name):=by
 obtain⟨o,es,ep,ho,hd,hk,_,hm⟩:=n;refine⟨o,ho,λname=> ?_⟩;have e:=hm name;unfold nsFind findBy at e;rw[← Array.find?_toList]at e;unfold i9;rw[hd];dsimp only;split
 ·rename_i y q;rw[q]at e;exact congrArg _ e
 ·rename_i q;rw[q]at e;have a:es.toList.any (·.refKey)=false:=by
   rw[iE];intro y hy;obtain⟨z,t,hkey⟩:=hk y (Array.mem_toList_iff.mp hy);simp[DictEntry.refKey,hkey]
  have a' :¬ es.toList.any (·.refKey)=true:=by rw[a];exact az
  rw[if_neg a'];exact congrArg _ e
theorem z0J.look {h:Heap}{x dx C:Addr}{mA:Str->Option Value}(I:z0J h x dx C mA):∃od,PySem.W.InstAt h x (hX C dx) C (some od)/\∀name,i9 name od=some (mA name):=
 let ⟨od,ho,hl⟩:=yo I.ns
 ⟨od,⟨I.obj,rfl,rfl,ho⟩,hl⟩
section
variable {P:Program}{w:World}{H H' :Hp}{h h' :Heap}{a C dx:Addr}{fs fs' :List (Str×V)}
theorem VS (hok:HOk P w H h)(e:H a=some (.ins C dx fs)):∃mA,z0J h a dx C mA/\(∀f,GL (fs.lookup f) (mA f))/\PySem.Within mA (fs.map (·.1))/\fs.length<=1000/\H dx=some (.own a):=by
 obtain⟨d,z,ne,ob,mA,n,r,q⟩:=(show zN P w H h a _ from hok a _ e);exact⟨mA,⟨ob,n,ne⟩,r,q,z,d⟩
end
structure Cls (K:ag) (C:Addr):Prop where
 pg:k_ K C Str.empty=true
 hd:PySem.W.hasDictIn K C=true
 po:PySem.W.plainOver K C=true
 sa:PySem.W.findIn K (.ref C) "__setattr__"=some (some (.builtin "object.__setattr__"))
theorem Cls.get {K:ag}{C:Addr}(c:Cls K C)(f:Str):k_ K C f=true:=c.pg
section
variable {X:Cx}{pins:List (Addr×Obj)}{σ:St}{H:Hp}{s:Shared}{A:Around}{E:Value->Shared->Prop}{Q:Value->Shared->Prop}{c:Value}{b:Bool}
inductive Ux (K:ag) (H:Hp):V->Value->Prop where
 | non:Ux K H .non (.type "NoneType")
 | bl (x:Bool):Ux K H (.bl x) (.type "bool")
 | int (i:Int):Ux K H (.int i) (.type "int")
 | str (x:Str):Ux K H (.str x) (.type "str")
 | flt (x:UInt64):Ux K H (.flt x) (.type "float")
 | lst {a:Addr} {xs:List V} (e:H a=some (.lst xs)):Ux K H (.ref a) (.type "list")
 | frz {a:Addr} {o:Obj} {xs:List V} (e:H a=some (.frz o (.lst xs))):Ux K H (.ref a) (.type "list")
 | tup {a:Addr} {xs:List V} (e:H a=some (.tup xs)):Ux K H (.ref a) (.type "tuple")
 | dK {a:Addr} {kvs:List (Key×V)} (e:H a=some (.dK kvs)):Ux K H (.ref a) (.type "dict")
 | dT {a:Addr} {kvs:List (List Key×Addr×V)} (e:H a=some (.dT kvs)):Ux K H (.ref a) (.type "dict")
 | ins {a C dx:Addr} {fs:List (Str×V)} (e:H a=some (.ins C dx fs)) (cl:Cls K C) (ha:PySem.W.findIn K (.ref C) "__class__"=some (some (.builtin "object.__class__")))
   (hn:PySem.W.specialIn K (.builtin "object.__class__") "__get__"=some (some (.builtin "getset_descriptor.__get__"))) (htk:PySem.W.takesIn K (.builtin "object.__class__")=some true)
   (hm:PySem.W.mroIn K C (.type "object")=some true):Ux K H (.ref a) (.ref C)
theorem yq {x:V}{u t:Value}(I:Inv X pins σ H s)(rx:RelV x u)(ty:Ux X.K H x t)(e:bq X.K t c=some b)(h:∀tk,Q (.bool b) { s with toks:=tk }):
  wpAny (model X.prog X.w) A (call (.builtin "isinstance") [u,c]) Q E s:=by
 cases ty with
 | non=>cases (rx);exact bw iF I.kIn True.intro e (λz=>nomatch z) h
 | bl y=>cases (rx);exact bw iG I.kIn True.intro e (λz=>nomatch z) h
 | int i=>obtain⟨t,q⟩:=(rx);cases q;exact bw l5 I.kIn True.intro e (λz=>nomatch z) h
 | str y=>obtain⟨t,q⟩:=(rx);cases q;exact bw l6 I.kIn True.intro e (λz=>nomatch z) h
 | flt y=>obtain⟨t,q⟩:=(rx);cases q;exact bw PySem.W.kitx_float I.kIn True.intro e (λz=>nomatch z) h
 | @lst a xs ea=>
  cases (rx);obtain⟨_,_,n,_,h1⟩:=(show zN _ X.w H _ a _ from I.hok a _ ea);exact bw dL I.kIn ⟨_,h1,rfl⟩ e (λz=>nomatch z) h
 | @frz a ob xs ea=>
  cases (rx);obtain⟨_,_,_,n,_,h1⟩:=(show zN _ X.w H _ a _ from I.hok a _ ea);exact bw dL I.kIn ⟨_,h1,rfl⟩ e (λz=>nomatch z) h
 | @tup a xs ea=>
  cases (rx);obtain⟨_,_,_,p,_⟩:=(show zN _ X.w H _ a _ from I.hok a _ ea);obtain⟨o,h1,h2,_⟩:=p;exact bw iq I.kIn ⟨o,h1,h2⟩ e (λz=>nomatch z) h
 | @dK a kvs ea=>
  cases (rx);obtain⟨_,_,vs,_,p⟩:=(show zN _ X.w H _ a _ from I.hok a _ ea);obtain⟨o,es,ep,h1,h2,_⟩:=p;exact bw iH I.kIn ⟨o,h1,h2.1⟩ e (λz=>nomatch z) h
 | @dT a kvs ea=>
  cases (rx);obtain⟨_,_,xs,_,o,es,ep,h1,h2,_⟩:=(show zN _ X.w H _ a _ from I.hok a _ ea);exact bw iH I.kIn ⟨o,h1,h2.1⟩ e (λz=>nomatch z) h
 | @ins a C dx fs ea cl ha hn htk hm=>
  cases (rx);obtain⟨mA,O,_⟩:=VS I.hok ea;obtain⟨od,J,_⟩:=O.look;exact bw (PySem.W.kitx_own (cl.get _) cl.hd ha hn htk hm) I.kIn J e (λz=>nomatch z) h
end
end L2
namespace L2
open PySem PySem.Spec PyProof.Rows
structure jR (k:Nat) (A:Around):Prop where
 hd:A.handled=none
 dp:A.depth+3*k+5 < recursionLimit
 un:A.units+16*k+200 < cLine
 gd:A.guards=some []
theorem jR.mono {j k:Nat}{A:Around}(r:jR k A)(h:j<=k):jR j A:=⟨r.hd,by have:=r.dp;omega,by have:=r.un;omega,r.gd⟩
theorem jR.deeper {k:Nat}{A:Around}(r:jR (k+1) A)(env:Env):jR k (A.deeper env):=
 ⟨r.hd,by have:=r.dp;show A.depth+1+3*k+5 < _;omega,by have:=r.un;show A.units+3+16*k+200 < _;omega,r.gd⟩
theorem jR.depth {k:Nat}{A:Around}(r:jR k A):A.depth < recursionLimit:=by have:=r.dp;omega
theorem jR.units {k:Nat}{A:Around}(r:jR k A):A.units+64 < cLine:=by have:=r.un;omega
def tNil:TA:=λ_ H Q=>Q [] H
def z0K (ta:TE)(tr:TA):TA:=λσ H Q=>ta σ H λx H1=>tr σ H1 λxs H2=>Q (x :: xs) H2
section
variable {X:Cx}{e:Expr}{es:List Expr}{te:TE}{t:TA}{pos:Pos}
theorem zD:PA X [] tNil:=λ_ _ _ _ H Q I h=>fE ⟨[],H,I,.nil,h⟩
theorem zj (ha:PE X e te)(hr:PA X es t)(hs:starEach (e :: es) X.env=(false,eval e X.env) :: starEach es X.env:=by rfl):PA X (e :: es) (z0K te t):=by
 intro pos pins s σ H Q I h;rw[hs];refine fg (thn (ha _ s σ H _ I h) λu s1 ⟨x,H1,I1,r1,q1⟩=> ?_);exact thn (hr pos _ s1 σ H1 _ I1 q1) λus s2 ⟨xs,H2,I2,r2,q2⟩=>⟨x :: xs,H2,I2,.cons r1 r2,q2⟩
def tTup (t:TA):TE:=λσ H Q=>t σ H λxs H1=>xs.length<=sizeLine/\∀p,H1 p=none->Q (.ref p) (upd H1 p (.tup xs))
def tLst (t:TA):TE:=λσ H Q=>t σ H λxs H1=>xs.length<=sizeLine/\∀p,H1 p=none->Q (.ref p) (upd H1 p (.lst xs))
theorem vV {x1}(h:PA X es t):PE X (.Tuple es x1 pos) (tTup t):=by
 intro pins s σ H Q I hq;refine wpAny_Tuple_spliced (thn (h pos _ s σ H _ I hq) λus s1 ⟨xs,H1,I1,r,z,q⟩=>⟨by rw[← r.length];exact z, ?_⟩)
 have hf:=I1.hok.fresh (ak _);refine⟨.ref _,upd H1 _ _,I1.laid (λb u e=>aa _ e) (ak _) ?_,rfl,q _ hf⟩;exact⟨z,us,r,⟨_,af _ rfl,rfl,_,rfl⟩,.inr ⟨_,af _ rfl,rfl⟩⟩
theorem yr (h:PA X es t):PE X (.List es pos) (tLst t):=by
 intro pins s σ H Q I hq;refine wpAny_List_spliced (thn (h pos _ s σ H _ I hq) λus s1 ⟨xs,H1,I1,r,z,q⟩=>⟨by rw[← r.length];exact z, ?_⟩)
 have hf:=I1.hok.fresh (ak _);refine⟨.ref _,upd H1 _ _,I1.laid (λb u e=>aa _ e) (ak _) ?_,rfl,q _ hf⟩;exact⟨z,us,0,r,af _ rfl⟩
end
abbrev Sp:=List V->Hp->VK->XK->Prop
abbrev CXT:=List Env->Hp->Shared->XK->Value->Shared->Prop
structure GN (P:Program) (w:World) (K:ag) (mg:Str->Option Value) (base:Heap) (A:Around) (outer:List Env) (s:Shared) (H:Hp):Prop where
 frames:A.frames=some outer
 mod:Mod K mg base
 bs:∀b o,base.get? b=some o->s.heap.get? b=some o/\H b=none
 bsz:base.objs.size<=s.heap.objs.size
 funs:s.heap.FunFrames base outer
 frf:∀b∈frs outer,H b=none
 hok:HOk P w H s.heap
 bare:AllBare s.gens
def CE (outer:List Env)(P:Program)(w:World)(H:Hp)(s:Shared)(Q:VK)(u:Value)(s' :Shared):Prop:=
 ∃v H',s'.os=s.os/\AllBare s'.gens/\Un (frs outer) [] H H' s.heap s'.heap/\HOk P w H' s'.heap/\RelV v u/\Q v H'
def CR (CX:CXT)(outer:List Env)(P:Program)(w:World)(H:Hp)(s:Shared)(Q:VK)(E:XK)(r:Result)(s' :Shared):Prop:=
 match r with
 | .ok (.ret u)=>CE outer P w H s Q u s'
 | .ok _=>False
 | .error e=>CX outer H s E e s'
structure W7 (P:Program) (w:World) (K:ag) (mg:Str->Option Value) (base:Heap) (CX:CXT) (k:Nat) (f:Addr) (fd:FuncData) (ps:List Str) (sp:Sp):Prop where
 len:∀vs H Q E,sp vs H Q E->vs.length=ps.length
 run:∀(A:Around) (outer:List Env) (s:Shared) (H:Hp) (args:Args) (us:List Value) (vs:List V) (Q:VK) (E:XK),jR k A->GN P w K mg base A outer s H->BindsTo s fd args (ps.zip us)->Vals vs us->sp vs H Q E->
  codeAny (model P w) A (.call (.ref f) args) (CR CX outer P w H s Q E) s
section
variable {X:Cx}{pins:List (Addr×Obj)}{σ:St}{H:Hp}{s s' :Shared}
theorem Inv.env0 (I:Inv X pins σ H s):GN X.prog X.w X.K X.mg X.base X.A X.stack s H:=
 ⟨I.ok.frames,I.ok.mod,I.bs,ar I.ok.bsz I.sz,I.stack,I.stkFree,I.hok,I.bare⟩
theorem Inv.after {Q:VK}{u:Value}(I:Inv X pins σ H s)(h:CE X.stack X.prog X.w H s Q u s'):EP X pins σ Q u s' :=by
 obtain⟨v,H',os,bare,un,hok,r,q⟩:=h;obtain⟨hh,g,d,t,os'⟩:=s';obtain rfl:os' =s.os:=os;exact⟨v,H',I.call un hok bare (λb z=>absurd z (by simp)),r,q⟩
end
def z0L (sp:Sp)(dvs:List V)(E:XK)(t:TA):TE:=λσ H Q=>t σ H λvs H1=>sp (vs++dvs) H1 Q E
noncomputable def Binds (K:ag)(fd:FuncData)(ps:List Str)(ds:List Value):Prop:=
 ∀(s:Shared) (us:List Value),K.In s.heap->(us++ds).length=ps.length->BindsTo s fd ⟨us,[]⟩ (ps.zip (us++ds))
theorem Binds.all {K:ag}{fd:FuncData}{ps:List Str}(h:∀us:List Value,us.length=ps.length->bindArgs fd ⟨us,[]⟩=pure (ps.zip us)):Binds K fd ps []:=λs us _ hl=>by
 rw[bJ]at hl ⊢;exact .of_eq (h us hl)
def JT (CX:CXT)(X:Cx)(E:XK):Prop:=∀(pins:List (Addr×Obj)) (σ:St) (H:Hp) (s:Shared) (e:Value) (s' :Shared),Inv X pins σ H s->CX X.stack H s E e s' ->X.xe e s'
section
variable {X:Cx}{CX:CXT}{k:Nat}{f C:Addr}{fd:FuncData}{ps:List Str}{sp:Sp}{dvs:List V}{ds:List Value}{E:XK}{x m:Str}{p pos apos:Pos}{e o:Expr}{es:List Expr}{ta:TE}{t:TA}
theorem kL {pins:List (Addr×Obj)}{σ:St}{H:Hp}{s:Shared}{Q:VK}{us:List Value}{vs:List V}(F:W7 X.prog X.w X.K X.mg X.base CX k f fd ps sp)(hr:jR k X.A)(hb:Binds X.K fd ps ds)(hd:Vals dvs ds)(hx:JT CX X E)
  (I:Inv X pins σ H s) (r:Vals vs us) (h:sp (vs++dvs) H Q E):wpAny (model X.prog X.w) X.A (call (.ref f) us) (EP X pins σ Q) X.xe s:=by
 have r2:=r.append hd;have hl:(us++ds).length=ps.length:=by rw[← r2.length];exact F.len _ _ _ _ h
 refine wpAny_call (di (F.run X.A _ s H _ _ _ Q E hr I.env0 (hb s us I.kIn hl) r2 h) λr s' hq=> ?_);cases r with
 | error e=>exact hx _ σ H s e s' I hq
 | ok fl=>
  cases fl with
  | ret u=>exact I.after hq
  | next=>exact cQ hq
  | brk=>exact cQ hq
  | cont=>exact cQ hq
theorem Ji (F:W7 X.prog X.w X.K X.mg X.base CX k f fd ps sp)(hr:jR k X.A)(hg:Gl X x)(hm:X.mg x=some (.ref f))(hk:cJ X.K (.ref f)=true)(hb:Binds X.K fd ps ds)(hd:Vals dvs ds)(hx:JT CX X E)
  (ha:PA X (e :: es) t) (hdb:(x == ("__debug__":Str))=false:=by decide) (he:starEach (e :: es) X.env=(false,eval e X.env) :: starEach es X.env:=by rfl) (hpl:(backTo pos (starEach es X.env)).any (·.1)=false:=by rfl):
  PE X (.Call (.Name x p) (e :: es) [] pos) (z0L sp dvs E t):=by
 intro pins s σ H Q I h;refine bP (yf I hg hm ?_ hdb);refine PySem.W.callWith_K I.ok.mod.kin hk (thn (ha pos _ s σ H _ I h) λus s1 ⟨vs,H1,I1,r,q⟩=>⟨I1.kIn, ?_⟩) he hpl;exact kL F hr hb hd hx I1 r q
end
section
variable {X:Cx}{CX:CXT}{k:Nat}{f C:Addr}{fd:FuncData}{ps ks:List Str}{sp:Sp}{E:XK}{x m:Str}{p pos apos kpos:Pos}{e o:Expr}{es:List Expr}{kws:List Keyword}{te ta:TE}{t tk:TA}{nm:Option Str}
variable {g:List Value->List Value->List Value}{gV:List V->List V->List V}
end
structure Jj (N P:List Str) (sc:Scope):Prop where
 kind:sc.kind= .function
 co:sc.isCoroutine=false
 gen:sc.isGenerator=false
 nd:N.Nodup
 pre:N.take P.length=P
 par:∀x∈P,sc.names.lookup x=some .local\/sc.names.lookup x=some .cell
 nofree:∀y∈sc.names,y.2 ≠ .free
theorem W8 {kindOf:Str->Option NameKind}{x:Str}:∀{binds:List (Str×Value)} {m:Str->Option Value},(∀v,(x,v) ∉ binds)->bindL kindOf binds m x=m x
 | [],_,_=>rfl
 | (n,v) :: r,m,h=>by
  unfold bindL;rw[W8 λw hw=>h w (a9 _ hw)];split
  ·have:x ≠ n:=by rintro rfl;exact h v ab
   simp[this]
  ·rfl
theorem W9 {kindOf:Str->Option NameKind}{x:Str}:∀{binds:List (Str×Value)} {m:Str->Option Value},(∀v,(x,v) ∉ binds)->bindC kindOf binds m x=m x
 | [],_,_=>rfl
 | (n,v) :: r,m,h=>by
  unfold bindC;rw[W9 λw hw=>h w (a9 _ hw)];split
  ·rfl
  ·have:x ≠ n:=by rintro rfl;exact h v ab
   simp[this]
theorem Wa {kindOf:Str->Option NameKind}{x:Str}{v:Value}:∀{P:List Str} {vs:List Value} {i:Nat} {m:Str->Option Value},P.Nodup->P[i]? =some x->vs[i]? =some v->kindOf x=some .local->
  bindL kindOf (P.zip vs) m x=some v
 | [],_,_,_,_,h,_,_=>by simp at h
 | _ :: _,[],_,_,_,_,h,_=>by simp at h
 | p :: P,w :: vs,0,m,nd,h1,h2,hk=>by
  simp at h1 h2;subst h1;subst h2;show bindL _ ((p,w) :: P.zip vs) m p=_;unfold bindL;rw[W8 λv hv=>(cn.mp nd).1 (bY hv).1,if_pos hk];simp
 | p :: P,w :: vs,i+1,m,nd,h1,h2,hk=>by
  show bindL _ ((p,w) :: P.zip vs) m x=_;exact Wa (cn.mp nd).2 (by simpa using h1) (by simpa using h2) hk
theorem Wb {kindOf:Str->Option NameKind}{x:Str}{v:Value}:∀{P:List Str} {vs:List Value} {i:Nat} {m:Str->Option Value},P.Nodup->P[i]? =some x->vs[i]? =some v->kindOf x ≠ some .local->
  bindC kindOf (P.zip vs) m x=some v
 | [],_,_,_,_,h,_,_=>by simp at h
 | _ :: _,[],_,_,_,_,h,_=>by simp at h
 | p :: P,w :: vs,0,m,nd,h1,h2,hk=>by
  simp at h1 h2;subst h1;subst h2;show bindC _ ((p,w) :: P.zip vs) m p=_;unfold bindC;rw[W9 λv hv=>(cn.mp nd).1 (bY hv).1,if_neg hk];simp
 | p :: P,w :: vs,i+1,m,nd,h1,h2,hk=>by
  show bindC _ ((p,w) :: P.zip vs) m x=_;exact Wb (cn.mp nd).2 (by simpa using h1) (by simpa using h2) hk
def start (N:List Str)(vs:List V):St:=vs.map some++ai (N.length - vs.length) none
def JU (CX:CXT)(P:Program)(w:World)(K:ag)(mg:Str->Option Value)(base:Heap)(N:List Str)(qual:Str)(scope:Scope)(f:Addr)(cd:Value)(A:Around)(outer:List Env)(s:Shared)(H:Hp)(E:XK):Cx where
 prog:=P
 w:=w
 K:=K
 mg:=mg
 base:=base
 A:=A.deeper (envOfC qual scope s.heap.objs.size f cd)
 N:=N
 s₀:=s
 H₀:=H
 env:=envOfC qual scope s.heap.objs.size f cd
 outer:=outer
 stack:=envOfC qual scope s.heap.objs.size f cd :: outer
 ex:=[]
 calm:=true
 fn:=λ_=>true
 pn:=[]
 xe:=λe s' =>wpAny (model P w) (A.deeper (envOfC qual scope s.heap.objs.size f cd)) (leaving (envOfC qual scope s.heap.objs.size f cd) e) (λ_ s'' =>CX outer H s E e s'') (λe' s'' =>CX outer H s E e' s'') s'
theorem uC {sc:Scope}{n:Nat}{x:Str}(h:sc.names.lookup x=some .cell):∃c,(cellsFrom n sc.names []).lookup x=some c:=by
 have q:=g7 _ n [] (.inl h);exact fJ.mp q
theorem yt {CX:CXT}{P:Program}{w:World}{K:ag}{mg:Str->Option Value}{base:Heap}{N ps:List Str}{qual:Str}{scope:Scope}{f:Addr}{cd:Value}{A:Around}{outer:List Env}{s s1:Shared}{H:Hp}{E:XK}{us:List Value}{vs:List V}
  (S:Jj N ps scope) (hd:A.handled=none) (e0:GN P w K mg base A outer s H) (hl:vs.length=ps.length) (r:Vals vs us)
  (x:InCallC s s.heap.objs.size (bindL (envOfC qual scope s.heap.objs.size f cd).kindOf (ps.zip us) λ_=>none) (cellsFrom (s.heap.objs.size+1) scope.names []) (bindC (envOfC qual scope s.heap.objs.size f cd).kindOf (ps.zip us) λ_=>none) s1):
  Inv (JU CX P w K mg base N qual scope f cd A outer s H E) [] (start N vs) H s1:=by
 have hpl:=by have:=congrArg ll S.pre;rw[cK]at this;omega
 obtain⟨h1,tk,rfl,hk⟩:=x.done;have noA:∀b,b ∉ (JU CX P w K mg base N qual scope f cd A outer s H E).ex:=λb z=>absurd (show b∈([]:List _) from z) (by simp)
 refine⟨⟨e0.mod,S.kind,rfl,rfl,ak _,λy z c h1 h2=> ?_,λy hy=> ?_,λy c _ h=> ?_,λ_=>hd,Around.frames_deeper e0.frames,.inr ⟨rfl,rfl⟩,λb z=>absurd z (noA b),e0.bs,e0.bsz,λb _ _=>noA b,λb z=>absurd z (noA b),e0.funs,e0.frf⟩,
  rfl,e0.bare,Un.kept hk,⟨_,x.toInCall.ns,λi y v h1 h2 h3=> ?_⟩,λy c h=>⟨_,x.cell y c h⟩,e0.hok.fresh (ak _),λy c h=> ?_,λp hp=>absurd (show p∈([]:List _) from hp) (by simp),e0.hok.kept hk, ?_⟩
 ·exact name_of_addr x.apart (b_ h1) (b_ h2)
 ·rcases hy with hy | hy
  ·exact uC hy
  ·exact absurd rfl (S.nofree _ (b_ hy))
 ·exact f_ (x.above y c (b_ h))
 ·have hi:i < vs.length:=by
   unfold start at h2
   by_cases hi:i < vs.length
   ·exact hi
   ·rw[aP (by simpa using hi)]at h2
    rw[aR]at h2;split at h2 <;> cases h2
  have ha:vs[i]? =some v:=by
   unfold start at h2;rw[aT (by simpa using hi),ax]at h2
   cases e:vs[i]? with
   | none=>rw[e]at h2;cases h2
   | some a=>rw[e]at h2;cases h2;rfl
  obtain⟨u,hu,rv⟩:=r.get ha;have hp:ps[i]? =some y:=by
   rw[← S.pre,fK (by omega)];exact h1
  have ndP:ps.Nodup:=by rw[← S.pre];exact S.nd.sublist (List.take_sublist _ _)
  refine⟨u,rv, ?_⟩;rcases S.par y (bK hp) with k | k
  ·exact .inl ⟨k,Wa ndP hp hu k⟩
  ·obtain⟨c,e⟩:=uC k;refine .inr ⟨.inl k,c,e, ?_⟩;have q:=x.cell y c e;rw[Wb ndP hp hu (by show scope.names.lookup y ≠ _;rw[k];decide)]at q
   exact q
 ·exact e0.hok.fresh (f_ (x.above y c (b_ h)))
 ·unfold start;show _=N.length;rw[aC,ae,aU];omega
theorem z0M {CX:CXT}{P:Program}{w:World}{K:ag}{mg:Str->Option Value}{base:Heap}{k:Nat}{f:Addr}{name qual:Str}{params:Arguments}{body:List Stmt}{scope:Scope}{dV kV doc pm cdv ct oc:Value}{an od:Option Addr}
  {osl:Array (Option Value)} {N ps:List Str} {sp:Sp} (lk:K.lookup f=some ⟨oc,od,.func (c7 name qual params body scope dV kV doc pm an cdv ct),osl⟩) (hcd:fj K cdv qual=true) (S:Jj N ps scope)
  (len:∀vs H Q E,sp vs H Q E->vs.length=ps.length)
  (hbody:∀(A:Around) (outer:List Env) (s:Shared) (H:Hp) (vs:List V) (Q:VK) (E:XK),jR k (A.deeper (envOfC qual scope s.heap.objs.size f cdv))->sp vs H Q E->
   ∃t,PSs (JU CX P w K mg base N qual scope f cdv A outer s H E) body t/\t { nx:=λ_ H' =>Q .non H',rt:=Q } (start N vs) H):
  W7 P w K mg base CX (k+1) f (c7 name qual params body scope dV kV doc pm an cdv ct) ps sp:=by
 refine⟨len,λA outer s H args us vs Q E hr e0 hb r hsp=> ?_⟩;have hl:=len _ _ _ _ hsp;have KX:=e0.mod.kin.keeps λb o e=>(e0.bs b o e).1;have lim:=e0.mod.nolimit.keeps λb o e=>(e0.bs b o e).1;have hkind:∀y∈ps.zip us,scope.names.lookup y.1=some _\/(scope.names.lookup y.1=some _/\((cellsFrom (s.heap.objs.size+1) _ []).lookup y.1).isSome=true):=λ⟨n,v⟩ hy=>by
  rcases S.par n (bY hy).1 with q | q
  ·exact .inl q
  ·exact .inr ⟨q,g7 _ _ _ (.inl q)⟩
 refine codeAny_call_function hr.depth (KX _ _ lk) rfl S.co S.gen rfl (PySem.W.codeRec_of KX hcd) (hb _ _ _ _ ?_);refine wpAny_newFunctionEnv_cells S.kind hkind λenv he s1 x=> ?_;subst he;refine⟨lim.keeps x.toInCall.keep,codeAny_func ?_⟩;obtain⟨t,ht,hq⟩:=hbody A _ s H vs Q E (hr.deeper _) hsp;have I:Inv (JU CX P w K mg _ N _ _ f cdv A _ s H E) [] _ H s1:=yt S hr.hd e0 hl r x;refine dE (ht [] s1 _ H _ I hq) (λfl s' hs=> ?_) λe s' hs=>hs;have fin:∀{σ' :St} {H' :Hp} {v:V} {u:Value},Inv (JU CX P w K mg base N qual scope f cdv A outer s H E) [] σ' H' s' ->RelV v u->Q v H' ->CE _ P w H s Q u s' :=
  λ{σ' H' v u} J rv q=>⟨v,H',J.os,J.bare,J.base,J.hok,rv,q⟩
 cases fl with
 | ret u=>
  obtain⟨v,σ',H',J,rv,q⟩:=hs;exact fin J rv q
 | next=>
  obtain⟨σ',H',J,q⟩:=hs;exact fin (v:=V.non) J rfl q
 | brk=>
  obtain⟨_,_,_,q⟩:=hs;exact cQ q
 | cont=>
  obtain⟨_,_,_,q⟩:=hs;exact cQ q
end L2
namespace L2
open PySem PySem.Spec PyProof.Rows
section
variable {X:Cx}{x:Str}{p pos:Pos}{e:Expr}{es:List Expr}{t:TA}{id T:String}{r:List V->Hp->VK->Prop}
def tCB (r:List V->Hp->VK->Prop)(t:TA):TE:=λσ H Q=>t σ H λvs H1=>r vs H1 Q
theorem ZC (hc:Za X (.builtin id) r)(hg:Gl X x)(hm:X.mg x=none)(hv:bootBuiltins x=some (.builtin id))(ha:PA X (e :: es) t)(hn:x ≠ "__name__":=by decide)(hdb:(x == ("__debug__":Str))=false:=by decide)
  (he:starEach (e :: es) X.env=(false,eval e X.env) :: starEach es X.env:=by rfl) (hpl:(backTo pos (starEach es X.env)).any (·.1)=false:=by rfl):PE X (.Call (.Name x p) (e :: es) [] pos) (tCB r t):=by
 intro pins s σ H Q I h;refine bP (Zv I hg hm hv ?_ hn hdb);exact PyProof.Rows.callWith_builtin1 (thn (ha pos _ s σ H _ I h) λus s1 ⟨vs,H1,I1,r1,q1⟩=>hc _ s1 σ H1 vs us Q I1 r1 q1) he hpl
theorem ZI (hc:Za X (.type T) r)(hg:Gl X x)(hm:X.mg x=none)(hv:bootBuiltins x=some (.type T))(ha:PA X (e :: es) t)(hn:x ≠ "__name__":=by decide)(hdb:(x == ("__debug__":Str))=false:=by decide)
  (he:starEach (e :: es) X.env=(false,eval e X.env) :: starEach es X.env:=by rfl) (hpl:(backTo pos (starEach es X.env)).any (·.1)=false:=by rfl):PE X (.Call (.Name x p) (e :: es) [] pos) (tCB r t):=by
 intro pins s σ H Q I h;refine bP (Zv I hg hm hv ?_ hn hdb);exact aM (thn (ha pos _ s σ H _ I h) λus s1 ⟨vs,H1,I1,r1,q1⟩=>hc _ s1 σ H1 vs us Q I1 r1 q1) he hpl
end
end L2
namespace HT
open PySem PyProof.Rows
section
open PySem.SeqAt
open PySem.AutoSeq1 (wpAny_loadPart')
open PySem.MeetsSeq PySem.MeetsSeq2 PySem.MeetsSeq3
end
section
variable {prog:Program}{w:World}{A:Around}{E:Value->Shared->Prop}{s:Shared}
theorem cat_tup {t b:Addr}{vs ws:List Value}{Q:Value->Shared->Prop}(ht:IsTup s.heap t vs.toArray)(hb:IsTup s.heap b ws.toArray)(hv:vs ≠ [])
  (h1:ws=[]->Q (.ref t) s) (h2:ws ≠ []->Q (.ref s.heap.objs.size) { s with heap:=s.heap.push { cls:= .type "tuple",data:= .seq (vs++ws).toArray } })
  (hsz:vs.length+ws.length<=sizeLine):wpAny (model prog w) A (binaryOp .Add (.ref t) (.ref b)) Q E s:=by
 obtain⟨⟨cls,dd,data,sl⟩,ho,hc,n,hd⟩:=id ht;obtain⟨⟨cls2,dd2,data2,sl2⟩,ho2,hc2,n2,hd2⟩:=id hb;subst hc hd hc2 hd2;have e:vs.toArray++ws.toArray=(vs++ws).toArray:=by simp
 by_cases hw:ws=[]
 ·exact concat_meets ⟨_,ho,rfl⟩ ⟨_,ho2,rfl⟩ noFill_tuple_add seq_tuple_add dM dH (dy _ _)
   (tuple_addW1 t b _ _ n n2 dd dd2 sl sl2 (by simpa using hv) (by simp[hw])) ⟨ho,ho2,h1 hw⟩
 ·refine concat_meets ⟨_,ho,rfl⟩ ⟨_,ho2,rfl⟩ noFill_tuple_add seq_tuple_add dM dH (dy _ _)
   (tuple_addW2 t b _ _ n n2 dd dd2 sl sl2 (by simpa using hv) (by simpa using hw) (by exact hsz)) ⟨ho,ho2, ?_⟩
  rw[e];exact h2 hw
noncomputable def sIx (n d:Nat):Option Int->Nat
 | none=>d
 | some v=>if v < 0 then (v+(n:Int)).toNat else min v.toNat n
theorem sIx_none (n d:Nat):sIx n d none=d:=rfl
theorem sIx_nat (n d k:Nat):sIx n d (some (k:Int))=min k n:=by
 show (if (k) < 0 then ((k:Int)+(n)).toNat else min _ n)=min k n
 rw[if_neg (by omega),bE]
theorem yu (v:Int)(n d:Nat):(if v < 0 then max (v+(n:Int)) 0 else min v (n:Int))=((sIx n d (some v):Nat):Int):=by
 show (if v < 0 then max _ 0 else min v (n))=(((if v < 0 then (v+(n)).toNat else min _ n):Nat):Int)
 by_cases hv:v < 0
 ·simp only[if_pos hv];omega
 ·simp only[if_neg hv];omega
theorem Uy (lo hi:Option Int)(n:Nat):fD lo hi 1 (n:Int)=(((sIx n 0 lo:Nat):Int),((sIx n n hi:Nat):Int)):=by
 refine Prod.ext ?_ ?_
 ·cases lo with
  | none=>rfl
  | some v=>exact yu v n 0
 ·cases hi with
  | none=>rfl
  | some v=>exact yu v n n
theorem Uz (i j:Nat):dm (i:Int) (j:Int) 1=j - i:=by
 unfold dm;split <;> omega
theorem JV {v:Value}{o:Option Int}{Q:Option Int->Shared->Prop}(p:IsPart v o)(h:Q o s):wpAny (model prog w) A (Builtin.Slice.slicePartIndex v) Q E s:=by
 cases p with
 | none=>exact slicePart_none h
 | int i t=>exact slicePart_int h
theorem sliceApplied_gen {sl:Addr}{vl vu:Value}{lo hi:Option Int}{n:Nat}{Q:Int×Int×Nat->Shared->Prop}(hs:s.heap.IsSliceOf sl vl vu .none)(pl:IsPart vl lo)(pu:IsPart vu hi)
  (h:Q (((sIx n 0 lo:Nat):Int),1,sIx n n hi - sIx n 0 lo) s):wpAny (model prog w) A (Builtin.Slice.sliceApplied (.ref sl) (pure (n:Int))) Q E s:=by
 obtain⟨os,hos,hcs,hds⟩:=id hs;refine a8 (a8 (aS hos hds rfl (a8 (aS hos hds rfl (a8 (aS hos hds rfl (ac ?_)))))));refine a8 (slicePart_none ?_);refine a8 (JV pl (a8 (JV pu (a8 (ac ?_)))));show wpAny _ _ (match fD lo hi 1 _ with | (lo,hi)=>pure (lo,(1:Int),dm lo hi 1)) _ _ s
 rw[Uy lo hi n];show wpAny _ _ (pure _) _ _ s;rw[Uz];exact ac h
theorem Ql (xs:Array Value)(i k:Nat):((aY k).filterMap λ(m:Nat)=>xs[((i:Int)+(m:Int)*1).toNat]?).toArray=((xs.toList.drop i).take k).toArray:=by
 have e:(λ(m:Nat)=>xs[((i:Int)+(m)*1).toNat]?)=λm=>xs[i+m]? :=by
  funext m
  have:((i:Int)+(m)*1).toNat=i+m:=by omega
  rw[this]
 rw[e];have:=pick_run xs i k;rw[List.filterMap_map]at this;have e2:((λx=>xs[x]?) ∘ λx=>i+x)=λm=>xs[i+m]? :=rfl;rw[e2]at this;rw[this]
theorem getItem_tuple_cut {t sl:Addr}{items:Array Value}{vl vu:Value}{lo hi:Option Int}{Q:Value->Shared->Prop}(ht:IsTup s.heap t items)(hs:s.heap.IsSliceOf sl vl vu .none)(pl:IsPart vl lo)(pu:IsPart vu hi)
  (hw:¬ (sIx items.size 0 lo=0/\sIx items.size items.size hi=items.size))
  (h:Q (.ref s.heap.objs.size) { s with heap:=s.heap.push { cls:= .type "tuple",data:= .seq ((items.toList.drop (sIx items.size 0 lo)).take (sIx items.size items.size hi - sIx items.size 0 lo)).toArray } })
  (hsz:items.size<=sizeLine):wpAny (model prog w) A (getItem (.ref t) (.ref sl)) Q E s:=by
 have htake:sizeOk (.seq ((items.toList.drop (sIx items.size 0 lo)).take (sIx items.size items.size hi - sIx items.size 0 lo)).toArray):=by
  show ((items.toList.drop _).take _).toArray.size<=sizeLine;rw[aB,cK,fR,bM];omega
 obtain⟨os,hos,hcs,hds⟩:=id hs;have hTs:s.TypeIs (.ref sl) _:=⟨os,hos,hcs⟩;unfold getItem
 try with_reducible refine bI ?_
 refine a8 (wpAny_sequenceKey ht.typeIs (by decide) ?_)
 refine a8 (b7 ht.typeIs bb
  (aN bb ht.typeIs entry_tuple_getitem ?_ (args_tuple_getitem _ _)))
 show wpAny _ _ (fk _ >>= _) _ _ s;refine a8 (tupleItemsOf_ ht ?_);refine a8 (cz hTs ?_);refine a8 (sliceApplied_gen hs pl pu ?_);have hno:¬ ((((sIx items.size 0 lo):Int) == 0 && (1:Int) == 1 && (sIx items.size items.size hi - sIx items.size 0 lo) == items.size)=true):=by
  intro q;rw[ah,ah]at q;have q1:=eq_of_beq q.1.1;have q2:=eq_of_beq q.2;exact hw ⟨by omega,by omega⟩
 show wpAny _ _ (if (((sIx _ 0 lo:Nat):Int) == 0 && (1) == 1 && (sIx _ _ hi - sIx _ 0 lo) == items.size)=true then _ else _) _ _ s
 rw[if_neg hno,Ql]
 first
  | exact a8 (aQ (ac ⟨_,rfl,ac h⟩) htake)
  | exact a8 _
  | exact a8 _
  | exact a8 _
end
end HT
namespace L2
open PySem PySem.Spec PyProof.Rows
abbrev TO:=St->Hp->(Option Int->Hp->Prop)->Prop
def PO (X:Cx)(e:Option Expr)(t:TO):Prop:=
 ∀(pins:List (Addr×Obj)) (s:Shared) (σ:St) (H:Hp) (Q:Option Int->Hp->Prop),Inv X pins σ H s->t σ H Q->
  wpAny (model X.prog X.w) X.A (evalPart e X.env) (λu s' =>∃o H',Inv X pins σ H' s' /\IsPart u o/\Q o H') X.xe s
def VT:TO:=λ_ H Q=>Q none H
def z0N (t:TE):TO:=λσ H Q=>t σ H λx H1=>∃i,x= .int i/\Q (some i) H1
section
variable {X:Cx}{e:Expr}{te:TE}{lo hi:Option Expr}{tl th:TO}{pos p2:Pos}
theorem VU:PO X none VT:=by
 intro pins s σ H Q I h;exact ac ⟨none,H,I,.none,h⟩
theorem VV (h:PE X e te):PO X (some e) (z0N te):=by
 intro pins s σ H Q I hw;refine thn (h _ s σ H _ I hw) λu s1 ⟨x,H1,I1,r1,q1⟩=> ?_;obtain⟨i,rfl,q⟩:=q1;obtain⟨t,rfl⟩:=r1;exact⟨some i,H1,I1,.int i t,q⟩
def SlR (X:Cx)(r:V->Option Int->Option Int->Hp->VK->Prop):Prop:=
 ∀(pins:List (Addr×Obj)) (s:Shared) (σ:St) (H:Hp) (x:V) (v vl vu:Value) (lo hi:Option Int) (sl:Addr) (Q:VK),Inv X pins σ H s->RelV x v->s.heap.IsSliceOf sl vl vu .none->IsPart vl lo->IsPart vu hi->r x lo hi H Q->
  ∃T id,typeLookup (.type T) "__getitem__"=pure (some (.builtin id))/\s.TypeIs v T/\wpAny (model X.prog X.w) X.A (getItem v (.ref sl)) (EP X pins σ Q) X.xe s
theorem SlR.or {r r' :V->Option Int->Option Int->Hp->VK->Prop}(h:SlR X r)(h' :SlR X r'):SlR X (λx lo hi H Q=>r x lo hi H Q\/r' x lo hi H Q):=by
 intro pins s σ H x v vl vu lo hi sl Q I rx hs pl pu q;rcases q with q | q
 ·exact h _ s σ H x v vl vu lo hi sl Q I rx hs pl pu q
 ·exact h' _ s σ H x v vl vu lo hi sl Q I rx hs pl pu q
def tSl (r:V->Option Int->Option Int->Hp->VK->Prop)(te:TE)(tl th:TO):TE:=λσ H Q=>te σ H λx H1=>tl σ H1 λl H2=>th σ H2 λu H3=>r x l u H3 Q
theorem Qm {r:V->Option Int->Option Int->Hp->VK->Prop}(hr:SlR X r)(he:PE X e te)(hl:PO X lo tl)(hu:PO X hi th):PE X (.Subscript e (.Slice lo hi none p2) pos) (tSl r te tl th):=by
 intro pins s σ H Q I h;refine Subscript_ (thn (he _ s σ H _ I h) λv s1 ⟨x,H1,I1,r1,q1⟩=> ?_);refine wpAny_Slice (thn (hl _ s1 σ H1 _ I1 q1) λvl s2 ⟨l,H2,I2,pl,q2⟩=>thn (hu _ s2 σ H2 _ I2 q2) λvu s3 ⟨u,H3,I3,pu,q3⟩=> ?_);refine ac ?_;have I4:Inv X _ σ H3 { s3 with heap:=s3.heap.push { cls:= .type "slice",data:= .fields #[vl,vu,.none] } }:=I3.kept λb ob q=>aa _ q;obtain⟨T,id,hT,ht,hg⟩:=hr _ _ σ H3 x v vl vu l u _ Q I4 r1 (Heap.IsSliceOf.new ..) pl pu q3;exact tail_any ht hT hg (by with_unfolding_all rfl)
noncomputable def XV (xs:List V)(lo hi:Option Int):List V:=(xs.drop (HT.sIx xs.length 0 lo)).take (HT.sIx xs.length xs.length hi - HT.sIx xs.length 0 lo)
theorem Jk (xs:List V)(lo hi:Option Int):(XV xs lo hi).length<=xs.length:=by
 unfold XV;rw[cK,fR];omega
def rSlT (K:ag):V->Option Int->Option Int->Hp->VK->Prop:=λx lo hi H Q=>∃a xs,x= .ref a/\SqT K H a xs/\
 ¬ (HT.sIx xs.length 0 lo=0/\HT.sIx xs.length xs.length hi=xs.length)/\∀p,H p=none->Q (.ref p) (upd H p (.tup (XV xs lo hi)))
theorem kM:SlR X (rSlT X.K):=by
 intro pins s σ H x v vl vu lo hi sl Q I rx hs pl pu h;obtain⟨a,xs,rfl,hx,hw,q⟩:=h;cases rx;obtain⟨its,r,ht,hz⟩:=I.tuple hx;have hlen:its.toArray.size=xs.length:=by exact r.length.symm
 refine⟨"tuple",_,bb.lookup,ht.typeIs, ?_⟩;refine HT.getItem_tuple_cut ht hs pl pu (by rw[hlen];exact hw) ?_ (by rw[hlen];exact hz)
 rw[hlen];refine⟨.ref _,_,I.laid (λb ob q=>aa _ q) (ak _) ?_,rfl,q _ (I.hok.fresh (ak _))⟩;exact⟨ar (Jk xs lo hi) hz,_,(r.drop _).take _,ITN.new _ _⟩
def z0O (K:ag):R2:=λx y H Q=>∃a b xs ys,x= .ref a/\y= .ref b/\SqT K H a xs/\SqT K H b ys/\xs ≠ []/\xs.length+ys.length<=sizeLine/\
 (ys=[]->Q (.ref a) H)/\(ys ≠ []->∀p,H p=none->Q (.ref p) (upd H p (.tup (xs++ys))))
theorem Vals.nil_iff {xs:List V}{us:List Value}(r:Vals xs us):us=[]↔xs=[]:=by
 cases r with
 | nil=>simp
 | cons _ _=>simp
theorem VW:OpR X (binaryOp .Add) (z0O X.K):=by
 intro pins s σ H x y v u Q I rx ry h;obtain⟨a,b,xs,ys,rfl,rfl,ha,hb,hx,hz,q1,q2⟩:=h;cases rx;cases ry;obtain⟨its,r1,p1,_⟩:=I.tuple ha;obtain⟨its2,r2,p2,_⟩:=I.tuple hb;refine HT.cat_tup p1 p2 (λz=>hx (r1.nil_iff.mp z)) (λz=>⟨.ref a,H,I,rfl,q1 (r2.nil_iff.mp z)⟩) (λz=> ?_) (by rw[← r1.length,← r2.length];exact hz)
 refine⟨.ref _,_,I.laid (λb ob q=>aa _ q) (ak _) ?_,rfl,q2 (λw=>z (r2.nil_iff.mpr w)) _ (I.hok.fresh (ak _))⟩;exact⟨by rw[aC];exact hz,_,r1.append r2,ITN.new _ _⟩
end
end L2
namespace L2
open PySem PySem.Spec PyProof.Rows
noncomputable def ixN (n:Nat)(i:Int):Option Nat:=if 0<=i then (if i < n then some i.toNat else none) else if -(n:Int)<=i then some (i+n).toNat else none
def atI {α:Type}(xs:List α)(i:Int):Option α:=(ixN xs.length i).bind λj=>xs[j]?
theorem VX {n:Nat}{i:Int}{j:Nat}(h:ixN n i=some j):seqIndex? i n=some j/\j < n/\ -(n:Int)<=i/\i < n:=by
 unfold ixN at h
 by_cases h0:0<=i
 ·rw[if_pos h0]at h
  by_cases h1:i < n
  ·rw[if_pos h1]at h;have e:=aI h;exact⟨by rw[seqIndex_of h0 h1,e],by omega,by omega,h1⟩
  ·rw[if_neg h1]at h;cases h
 ·rw[if_neg h0]at h
  by_cases h1: -(n)<=i
  ·rw[if_pos h1]at h;have e:=aI h;exact⟨by rw[seqIndex_neg (by omega) h1,e],by omega,h1,by omega⟩
  ·rw[if_neg h1]at h;cases h
theorem u5 {α:Type}{xs:List α}{i:Int}{v:α}(h:atI xs i=some v):∃j,seqIndex? i xs.length=some j/\xs[j]? =some v/\j < xs.length/\ -(xs.length:Int)<=i/\i < xs.length:=by
 unfold atI at h;cases e:ixN _ i with
 | none=>rw[e]at h;cases h
 | some j=>
  rw[e]at h;obtain⟨h1,h2,h3,h4⟩:=VX e;exact⟨j,h1,h,h2,h3,h4⟩
theorem j8 {α:Type}{xs:List α}{j:Nat}{v:α}(h:xs[j]? =some v):atI xs (j:Int)=some v:=by
 have hj:=(aw.mp h).1;have e:ixN xs.length (j)=some j:=by
  unfold ixN;rw[if_pos (by omega),if_pos (by omega)];simp
 unfold atI;rw[e];exact h
noncomputable def yv (b:Expr):Prop:=∀o i,subscripted b false o i=operate [o,i] (getItem o i)
def IxR (X:Cx)(r:R2):Prop:=
 ∀(value slice:Expr) (pins:List (Addr×Obj)) (s:Shared) (σ:St) (H:Hp) (x y:V) (v u:Value) (Q:VK),Inv X pins σ H s->RelV x v->RelV y u->r x y H Q->
  subscripted slice false v u=operate [v,u] (getItem v u)->wpAny (model X.prog X.w) X.A (subscriptTail value slice v u) (EP X pins σ Q) X.xe s
def MtR (X:Cx)(id:String)(r:V->List V->Hp->VK->Prop):Prop:=
 ∀(pins:List (Addr×Obj)) (s:Shared) (σ:St) (H:Hp) (x:V) (xs:List V) (v:Value) (us:List Value) (Q:VK),Inv X pins σ H s->RelV x v->Vals xs us->r x xs H Q->
  wpAny (model X.prog X.w) X.A (call (.builtin id) (v :: us)) (EP X pins σ Q) X.xe s
section
variable {X:Cx}{a b:Expr}{ta tb:TE}{pos:Pos}
theorem IxR.or {r r' :R2}(h:IxR X r)(h' :IxR X r'):IxR X (λx y H Q=>r x y H Q\/r' x y H Q):=by
 intro value slice pins s σ H x y v u Q I rx ry q hs;rcases q with q | q
 ·exact h _ _ _ s σ H x y v u Q I rx ry q hs
 ·exact h' _ _ _ s σ H x y v u Q I rx ry q hs
theorem kN {r:R2}(hr:IxR X r)(ha:PE X a ta)(hb:PE X b tb)(hs:yv b):PE X (.Subscript a b pos) (tOp r ta tb):=by
 intro pins s σ H Q I h;exact Subscript_ (z0C ha hb I h λv u s2 x y H2 I2 rx ry q=>hr a b _ s2 σ H2 x y v u Q I2 rx ry q (hs _ _))
def rIxL (K:ag):R2:=λx y H Q=>∃p xs i v,x= .ref p/\y= .int i/\SqL K H p xs/\atI xs i=some v/\Q v H
def rIxT (K:ag):R2:=λx y H Q=>∃p xs i v,x= .ref p/\y= .int i/\SqT K H p xs/\atI xs i=some v/\Q v H
def rIxS:R2:=λx y H Q=>∃z i c,x= .str z/\y= .int i/\z.length<=sizeLine/\atI z.cps.toList i=some c/\Q (.str ⟨#[c]⟩) H
theorem VY:IxR X (rIxL X.K):=by
 intro value slice pins s σ H x y v u Q I rx ry h hs;obtain⟨p,xs,i,z,rfl,rfl,hq,he,q⟩:=h;cases rx;obtain⟨t,rfl⟩:=ry;obtain⟨its,r,pl,hz⟩:=I.list hq;obtain⟨j,h1,h2,h3,h4,h5⟩:=u5 he;obtain⟨w,ew,rw'⟩:=r.get h2;have hl:=r.length;have hn:=W6;have fin:EP X _ σ Q w s:=⟨z,H,I,rw',q⟩
 by_cases h0:0<=i
 ·have hj:=by
   rw[seqIndex_of h0 h5]at h1;exact aI h1
  exact item_listR pl.isList h0 (by omega) (by rw[hj];simpa using ew) fin hs
 ·have hj:(i+(its.toArray.size)).toNat=j:=by
   rw[seqIndex_neg (by omega) h4]at h1
   rw[aB,← hl];exact aI h1
  exact subscriptTail_builtinR pl.isList.typeIs slot_list_getitem.lookup
   (wpAny_getItem_list_neg pl.isList (by omega) (by rw[aB] <;> omega) (by omega) (by rw[hj];simpa using ew) ⟨rfl,fin⟩) hs
theorem kO:IxR X (rIxT X.K):=by
 intro value slice pins s σ H x y v u Q I rx ry h hs;obtain⟨p,xs,i,z,rfl,rfl,hq,he,q⟩:=h;cases rx;obtain⟨t,rfl⟩:=ry;obtain⟨its,r,pl,hz⟩:=I.tuple hq;obtain⟨j,h1,h2,h3,h4,h5⟩:=u5 he;obtain⟨w,ew,rw'⟩:=r.get h2;have hl:=r.length;have hn:=W6;have fin:EP X _ σ Q w s:=⟨z,H,I,rw',q⟩;exact subscriptTail_builtinR pl.typeIs slot_tuple_getitem.lookup
  (getItem_tuple pl (by omega) (by omega) (by rw[aB,← hl];exact h1) (by simpa using ew) ⟨rfl,fin⟩) hs
theorem kP:IxR X rIxS:=by
 intro value slice pins s σ H x y v u Q I rx ry h hs;obtain⟨z,i,c,rfl,rfl,hz,he,q⟩:=h;obtain⟨t,rfl⟩:=rx;obtain⟨t',rfl⟩:=ry;obtain⟨j,h1,h2,h3,h4,h5⟩:=u5 he;have hl:z.cps.toList.length=z.length:=by simp[Str.length]
 rw[hl]at h1 h4 h5;have hn:=W6;exact tail_any (typeIs_str s z t) slot_str_getitem.lookup (getItem_str (by
  have e1:decide (i < -(2 ^ 63))=false:=decide_eq_false (by omega)
  have e2:decide (i ≥ 2 ^ 63)=false:=decide_eq_false (by omega)
  rw[e1,e2,Bool.or_false]) (by rw[h1];simpa using h2) ⟨.str _,H,I.tok _,⟨_,rfl⟩,q⟩) hs
def rIx (K:ag):R2:=λx y H Q=>rIxL K x y H Q\/rIxT K x y H Q\/rIxS x y H Q
theorem kQ:IxR X (rIx X.K):=VY.or (kO.or kP)
theorem Wc (lo hi:Option Int)(n:Nat):(sliceBounds lo hi none n).1=((HT.sIx n 0 lo:Nat):Int)/\(sliceBounds lo hi none n).2.1=((HT.sIx n n hi:Nat):Int)/\(sliceBounds lo hi none n).2.2=1:=by
 refine⟨?_, ?_,rfl⟩
 ·cases lo with
  | none=>simp[sliceBounds,HT.sIx]
  | some i=>
   simp only[sliceBounds,HT.sIx,l7,show (1) > 0 by decide,if_true]
   by_cases h:i < 0
   ·simp only[h,if_true] <;> omega
   ·simp only[h,if_false] <;> omega
 ·cases hi with
  | none=>simp[sliceBounds,HT.sIx]
  | some i=>
   simp only[sliceBounds,HT.sIx,l7,show (1) > 0 by decide,if_true]
   by_cases h:i < 0
   ·simp only[h,if_true] <;> omega
   ·simp only[h,if_false] <;> omega
theorem wq (its:List Value)(lo hi:Option Int):slicePick its.toArray lo hi none=((its.drop (HT.sIx its.length 0 lo)).take (HT.sIx its.length its.length hi - HT.sIx its.length 0 lo)).toArray:=by
 obtain⟨h1,h2,h3⟩:=Wc lo hi _;unfold slicePick;rw[h1,h2,h3];simp only[sliceRange_one,pick_run,aB] <;> rfl
def rSlL (K:ag):V->Option Int->Option Int->Hp->VK->Prop:=λx lo hi H Q=>∃a xs,x= .ref a/\SqL K H a xs/\∀p,H p=none->Q (.ref p) (upd H p (.lst (XV xs lo hi)))
theorem VZ:SlR X (rSlL X.K):=by
 intro pins s σ H x v vl vu lo hi sl Q I rx hs pl pu h;obtain⟨a,xs,rfl,hx,q⟩:=h;cases rx;obtain⟨its,r,ht,hz⟩:=I.list hx;have hlen:=r.length;refine⟨"list",_,slot_list_getitem.lookup,ht.isList.typeIs, ?_⟩;refine wpAny_getItem_list_slice ht.isList hs pl pu .none (by simp) ?_ (by rw[aB] <;> omega)
 rw[wq,← hlen];refine⟨.ref _,_,I.laid (λb ob q=>aa _ q) (ak _) ?_,rfl,q _ (I.hok.fresh (ak _))⟩;exact⟨ar (Jk xs lo hi) hz,_,0,(r.drop _).take _,af _ rfl⟩
theorem Wd:Za X (.builtin "len") (λxs H Q=>∃p ys,xs=[.ref p]/\(SqL X.K H p ys\/SqT X.K H p ys)/\Q (.int ys.length) H):=by
 intro pins s σ H xs us Q I r h;obtain⟨p,ys,rfl,hq,q⟩:=h;obtain⟨u,rfl,rx⟩:=Zr r;cases rx;have hn:=W6;rcases hq with hq | hq
 ·obtain⟨its,r',pl,hz⟩:=I.list hq;have hlen:=r'.length;exact Calls.call_len_list pl.isList (by simp only[aB] <;> omega) ⟨.int _,H,I.tok _,⟨s.toks+1,by rw[aB,hlen]⟩,q⟩
 ·obtain⟨its,r',pl,hz⟩:=I.tuple hq;have hlen:=r'.length;exact len_tuple pl (by simp only[aB] <;> omega) ⟨.int _,H,I.tok _,⟨s.toks+1,by rw[aB,hlen]⟩,q⟩
theorem We:Za X (.builtin "len") (λxs H Q=>∃z,xs=[.str z]/\z.length<=sizeLine/\Q (.int z.length) H):=by
 intro pins s σ H xs us Q I r h;obtain⟨z,rfl,hz,q⟩:=h;obtain⟨u,rfl,t,rfl⟩:=Zr r;have hn:=W6;exact len_str (by omega) ⟨.int _,H,I.tok _,⟨_,rfl⟩,q⟩
theorem Za.or {f:Value}{r r' :List V->Hp->VK->Prop}(h:Za X f r)(h' :Za X f r'):Za X f (λxs H Q=>r xs H Q\/r' xs H Q):=by
 intro pins s σ H xs us Q I rs q;rcases q with q | q
 ·exact h _ s σ H xs us Q I rs q
 ·exact h' _ s σ H xs us Q I rs q
theorem wt:Za X (.type "tuple") (λxs H Q=>∃p ys,xs=[.ref p]/\((SqL X.K H p ys/\∀l,H l=none->Q (.ref l) (upd H l (.tup ys)))\/(SqT X.K H p ys/\Q (.ref p) H))):=by
 intro pins s σ H xs us Q I r h;obtain⟨p,ys,rfl,h⟩:=h;obtain⟨u,rfl,rx⟩:=Zr r;cases rx;rcases h with ⟨hq,q⟩ | ⟨hq,q⟩
 ·obtain⟨its,r',pl,hz⟩:=I.list hq;have hlen:=r'.length;refine call_tuple_list pl.isList (λh' kp=> ?_) (by simp only[aB] <;> omega)
  have I1:Inv X _ σ H { s with heap:=h' }:=I.kept kp;have I2:Inv X _ σ (upd H _ (.tup ys)) { s with heap:=h'.push _ }:=
   I1.laid (λb o e=>aa _ e) (ak _) (show zN _ X.w _ _ _ _ from ⟨hz,its,r',ITN.new _ _⟩)
  exact⟨.ref _,_,I2,rfl,q _ (I1.hok.fresh (ak _))⟩
 ·obtain⟨its,r',pl,hz⟩:=I.tuple hq;exact call_tuple_same pl ⟨.ref p,H,I,rfl,q⟩
def tyV (K:ag)(T:String)(x:V)(H:Hp):Prop:=match x with
 | .str _=>T="str"
 | .int _=>T="int"
 | .ref p=>(T="list"/\∃xs,SqL K H p xs)\/(T="tuple"/\∃o,K.lookup p=some o/\o.cls= .type "tuple"/\o.dict=none)\/
   (T="dict"/\((∃kvs,H p=some (.dK kvs))\/∃kvs,H p=some (.dT kvs)))\/(T="set"/\∃S n,H p=some (.set S n))
 | _=>False
theorem vW {pins:List (Addr×Obj)}{σ:St}{H:Hp}{s:Shared}{T:String}{x:V}{v:Value}(I:Inv X pins σ H s)(r:RelV x v)(ty:tyV X.K T x H):
  s.TypeIs v T/\∀a,v= .ref a->∃ob,s.heap.get? a=some ob/\ob.dict=none:=by
 cases x with
 | str z=>
  obtain⟨t,rfl⟩:=r;cases (ty);exact⟨typeIs_str s z t,λ_ e=>nomatch e⟩
 | int i=>
  obtain⟨t,rfl⟩:=r;cases (ty);exact⟨typeIs_int s i t,λ_ e=>nomatch e⟩
 | ref p=>
  cases r;rcases ty with ⟨rfl,xs,hq⟩ | ⟨rfl,o,hk,hc,hd⟩ | ⟨rfl,hk⟩ | ⟨rfl,S,n,hk⟩
  ·obtain⟨its,_,pl,_⟩:=I.list hq;refine⟨pl.isList.typeIs,λa e=> ?_⟩;cases e;obtain⟨o,n,e,c,hd,_⟩:=pl;exact⟨o,e,hd⟩
  ·refine⟨⟨o,I.kIn p o hk,hc⟩,λa e=> ?_⟩;cases e;exact⟨o,I.kIn _ o hk,hd⟩
  ·have z:∃o,s.heap.get? p=some o/\o.ExactDict:=by
    rcases hk with ⟨kvs,hk⟩ | ⟨kvs,hk⟩
    ·obtain⟨_,_,_,_,o,_,_,e,ex,_⟩:=I.hok p _ hk;exact⟨o,e,ex⟩
    ·obtain⟨_,_,_,_,o,_,_,e,ex,_⟩:=I.hok p _ hk;exact⟨o,e,ex⟩
   obtain⟨o,e,ex⟩:=z;refine⟨⟨o,e,ex.1⟩,λa e2=> ?_⟩;cases e2;exact⟨o,e,ex.2.1⟩
  ·obtain⟨o,_,_,_,e,ex,_⟩:=I.hok p _ hk;refine⟨⟨o,e,ex.1⟩,λa e2=> ?_⟩;cases e2;exact⟨o,e,ex.2.1⟩
 | _=>exact cQ ty
def tBM0 (K:ag)(T:String)(r:V->List V->Hp->VK->Prop)(to:TE):TE:=λσ H Q=>to σ H λx H1=>tyV K T x H1/\r x [] H1 Q
def tBM (K:ag)(T:String)(r:V->List V->Hp->VK->Prop)(to:TE)(t:TA):TE:=λσ H Q=>to σ H λx H1=>tyV K T x H1/\t σ H1 λxs H2=>r x xs H2 Q
variable {o e:Expr}{es:List Expr}{to:TE}{t:TA}{name:Str}{apos cpos:Pos}{T id:String}{r:V->List V->Hp->VK->Prop}
theorem kR (pa:PlainAttrs T)(slot:Slot T name id)(hty:typeOf (.builtin id)=pure (.type "method_descriptor"))(hm:MtR X id r)(ho:PE X o to)
  (hbase:attributeBase o name X.env (eval o X.env)=eval o X.env:=by rfl) (hline:(apos.endLine == cpos.line)=true:=by rfl):PE X (.Call (.Attribute o name apos) [] [] cpos) (tBM0 X.K T r to):=by
 intro pins s σ H Q I h;refine wpAny_Call_method0_late hbase hline (thn (ho _ s σ H _ I h) λv s1 ⟨x,H1,I1,r1,ty,q1⟩=> ?_);obtain⟨h1,h2⟩:=vW I1 r1 ty;exact⟨T,id,pa,slot,hty,h1,h2,dN rfl (ig (hm _ s1 σ H1 x [] v [] Q I1 r1 .nil q1))⟩
theorem yw (pa:PlainAttrs T)(slot:Slot T name id)(hty:typeOf (.builtin id)=pure (.type "method_descriptor"))(hm:MtR X id r)(ho:PE X o to)(ha:PA X (e :: es) t)
  (hbase:attributeBase o name X.env (eval o X.env)=eval o X.env:=by rfl)
  (hfew:((backTo cpos (starEach (e :: es) X.env)).all (λx=> !x.1) && (backToKw cpos (keywordEach [] X.env)).all (λx=>x.1.isSome)
   && decide ((e :: es).length+([]:List Keyword).length+(if ([]:List Keyword).isEmpty then 0 else 1) < 30))=true:=by rfl)
  (hline:(apos.endLine == cpos.line)=true:=by rfl) (hs:starEach (e :: es) X.env=(false,eval e X.env) :: starEach es X.env:=by rfl) (hplain:(backTo cpos (starEach es X.env)).any (·.1)=false:=by rfl):
  PE X (.Call (.Attribute o name apos) (e :: es) [] cpos) (tBM X.K T r to t):=by
 intro pins s σ H Q I h;refine wpAny_Call_method_late hbase hfew hline rfl (thn (ho _ s σ H _ I h) λv s1 ⟨x,H1,I1,r1,ty,q1⟩=> ?_);obtain⟨h1,h2⟩:=vW I1 r1 ty;refine⟨T,id,pa,slot,hty,h1,h2, ?_⟩;have hA:=ha cpos _ s1 σ H1 _ I1 q1;rw[hs]at hA ⊢;refine dN (by show (false || (backTo _ _).any _)=false;rw[hplain] <;> rfl) (Calls.evalArgs_plain ?_)
 exact thn hA λus s2 ⟨vs,H2,I2,r2,q2⟩=>hm _ s2 σ H2 x vs v us Q I2 r1 r2 q2
end
end L2
namespace L2
open PySem PySem.Spec PyProof.Rows
def MtM (X:Cx)(id:String)(r:V->List V->Hp->VK->Prop):Prop:=
 ∀(pins:List (Addr×Obj)) (s:Shared) (σ:St) (H:Hp) (x:V) (xs:List V) (v:Value) (us:List Value) (Q:VK),Inv X pins σ H s->RelV x v->Vals xs us->r x xs H Q->
  wpAny (model X.prog X.w) X.A (call (.builtin id) (v :: us)) (EP X pins σ Q) X.xe s
theorem Vals.one:∀{x:V} {us:List Value},Vals [x] us->∃u,us=[u]/\RelV x u
 | _,_,.cons r .nil=>⟨_,rfl,r⟩
theorem Vals.rep {xs:List V}{us:List Value}(h:Vals xs us):∀k:Nat,Vals (ai k xs).flatten (ai k us).flatten
 | 0=> .nil
 | k+1=>by
  exact Vals.append h (Vals.rep h k)
theorem jg (its:List Value):∀(k:Nat) (acc:List Value),
  fr (λx1 x2=>x1++x2) acc.toArray (ai k its.toArray)=(acc++(ai k its).flatten).toArray
 | 0,acc=>by simp
 | k+1,acc=>by
  have e:acc.toArray++its.toArray=(acc++its).toArray:=by simp
  have e2:(acc++its)++(ai k its).flatten=acc++(ai (k+1) its).flatten:=by
   rw[bA,fF,bF]
  rw[← e2,← jg its k _,← e,bA,List.foldl_cons]
section
variable {X:Cx}{pins:List (Addr×Obj)}{σ:St}{H:Hp}{s:Shared}{l b:Addr}{xs ys zs:List V}
theorem Inv.lset {its its' :List Value}{n:Nat}{f:Array Value->Array Value}{t' :Nat}(I:Inv X pins σ H s)(hH:H l=some (.lst xs))
  (e:s.heap.get? l=some { cls:= .type "list",data:= .seq its.toArray n }) (hf:f its.toArray=its'.toArray) (hv:Vals ys its') (hz:ys.length<=sizeLine):
  Inv X pins σ (upd H l (.lst ys)) { s with heap:=s.heap.update l (cC f),toks:=t' }:=by
 have q:=PySem.IsL.update e f;rw[hf]at q;refine I.write (by rw[hH];exact trivial) (.inl rfl) (λb' u hb hu=>(dO _ _ (b8 hb)).trans hu) ⟨_,q⟩ ?_
 exact⟨hz,its',_,hv,q⟩
theorem Inv.lnew {its:List Value}{t' :Nat}(I:Inv X pins σ H s)(hv:Vals ys its)(hz:ys.length<=sizeLine):
  Inv X pins σ (upd H s.heap.objs.size (.lst ys)) { s with heap:=s.heap.push { cls:= .type "list",data:= .seq its.toArray },toks:=t' }:=
 I.laid (λ_ _ q=>aa _ q) (ak _) ⟨hz,its,0,hv,af _ rfl⟩
theorem Inv.fresh (I:Inv X pins σ H s):H s.heap.objs.size=none:=I.hok.fresh (ak _)
theorem Inv.lstM (I:Inv X pins σ H s)(hH:H l=some (.lst xs)):xs.length<=sizeLine/\∃(its:List Value) (n:Nat),Vals xs its/\xs.length=its.length/\s.heap.get? l=some { cls:= .type "list",data:= .seq its.toArray n }:=by
 obtain⟨z,its,n,r,e⟩:=I.hok l _ hH;exact⟨z,its,n,r,r.length,e⟩
theorem uD {n:Nat}(h:n<=sizeLine):bQ n=false:=by
 exact decide_eq_false (by omega)
end
section
variable {X:Cx}
def x8:V->List V->Hp->VK->Prop:=λx vs H Q=>∃l xs y,x= .ref l/\vs=[y]/\H l=some (.lst xs)/\xs.length < sizeLine/\Q .non (upd H l (.lst (xs++[y])))
theorem Jl:MtM X "list.append" x8:=by
 intro pins s σ H x vs v us Q I rx rv h;obtain⟨l,xs,y,rfl,rfl,hH,hz,q⟩:=h;cases rx;obtain⟨u,rfl,ru⟩:=rv.one;obtain⟨z,its,n,r,hl,e⟩:=I.lstM hH;refine fu F.slot_list_append ⟨_,e,rfl⟩ F.entry_list_append (F.args_list_append_2 _ _) (PySem.list_append l _ n u (by rw[aB];omega)) ⟨e, ?_⟩
 refine⟨.non,_,I.lset hH e (by simp) (r.append (.cons ru .nil)) ?_,rfl,q⟩
 rw[aC,aG];omega
def x9:V->List V->Hp->VK->Prop:=λx vs H Q=>∃l b xs zs,x= .ref l/\vs=[.ref b]/\H l=some (.lst xs)/\H b=some (.lst zs)/\xs.length+zs.length<=sizeLine/\Q .non (upd H l (.lst (xs++zs)))
theorem yx:MtM X "list.extend" x9:=by
 intro pins s σ H x vs v us Q I rx rv h;obtain⟨l,b,xs,zs,rfl,rfl,hH,hB,hz,q⟩:=h;cases rx;obtain⟨u,rfl,ru⟩:=rv.one;cases ru;obtain⟨z,its,n,r,hl,e⟩:=I.lstM hH;obtain⟨z2,its2,n2,r2,hl2,e2⟩:=I.lstM hB;have hsz:its.toArray.size+its2.toArray.size<=sizeLine:=by rw[aB,aB];omega
 have hlong:¬ (!its.toArray.isEmpty && bQ (its.toArray.size+its2.toArray.size))=true:=by
  rw[uD hsz,Bool.and_false];exact az
 refine fu F.slot_list_extend ⟨_,e,rfl⟩ F.entry_list_extend (F.args_list_extend_2 _ _)
  (AutoSeq1.list_extend_list_list_0 l _ n b _ n2 hlong (by omega) (by omega)) ⟨e,e2, ?_⟩
 refine⟨.non,_,I.lset hH e (by simp) (r.append r2) ?_,rfl,q⟩
 rw[aC];omega
def rCat:R2:=λx y H Q=>∃l b xs zs,x= .ref l/\y= .ref b/\H l=some (.lst xs)/\H b=some (.lst zs)/\xs.length+zs.length<=sizeLine/\∀p,H p=none->Q (.ref p) (upd H p (.lst (xs++zs)))
theorem kS:OpR X (binaryOp .Add) rCat:=by
 intro pins s σ H x y v u Q I rx ry h;obtain⟨l,b,xs,zs,rfl,rfl,hH,hB,hz,q⟩:=h;cases rx;cases ry;obtain⟨z,its,n,r,hl,e⟩:=I.lstM hH;obtain⟨z2,its2,n2,r2,hl2,e2⟩:=I.lstM hB;refine PySem.P.add_list e e2 ?_ (by rw[aB,aB];omega)
 have ea:its.toArray++its2.toArray=(its++its2).toArray:=by simp
 rw[ea];exact⟨.ref _,_,I.lnew (r.append r2) (by rw[aC];omega),rfl,q _ I.fresh⟩
def rRep:R2:=λx y H Q=>∃l k xs,x= .ref l/\y= .int k/\H l=some (.lst xs)/\ -(2 ^ 63)<=k/\k < 2 ^ 63/\xs.length*k.toNat<=sizeLine/\
 ∀p,H p=none->Q (.ref p) (upd H p (.lst (ai k.toNat xs).flatten))
theorem jx {α:Type}(xs:List α)(k:Nat):(ai k xs).flatten.length=k*xs.length:=by
 induction k with
 | zero=>simp
 | succ k ih=>rw[bA,fF,aC,ih,iI,iJ]
theorem kT:OpR X (binaryOp .Mult) rRep:=by
 intro pins s σ H x y v u Q I rx ry h;obtain⟨l,k,xs,rfl,rfl,hH,h1,h2,hz,q⟩:=h;cases rx;obtain⟨t,rfl⟩:=ry;obtain⟨z,its,n,r,hl,e⟩:=I.lstM hH;have hlen:its.toArray.size*k.toNat<=sizeLine:=by rw[aB,← hl];exact hz
 have hcap:¬ its.toArray.size*k.toNat > (2 ^ 63 - 1) / 8:=by
  have:(sizeLine)<=(2 ^ 63 - 1) / 8:=by decide
  omega
 have hfit:¬ (!Builtin.List.listFitsIndex k)=true:=by
  rw[fitsIndex_both h1 h2];exact az
 have hlong:¬ bQ (its.toArray.size*k.toNat)=true:=by
  rw[uD hlen];exact az
 have hnew:fr (λx1 x2=>x1++x2) #[] (ai (if its.toArray.isEmpty=true then 0 else k.toNat) its.toArray)=(ai k.toNat its).flatten.toArray:=by
  have f0:∀m,fr (λx1 x2=>x1++x2) #[] _=(ai m its).flatten.toArray:=λm=>by
   have:=jg its m [];exact this
  rw[f0];cases its with
  | nil=>simp
  | cons a r' =>rw[if_neg (by simp)]
 refine wpAny_binaryOp_repeat_ref (by decide) ⟨_,e,rfl⟩ (λs' =>typeIs_int s' k t) noFill_list_mul lr eV repeat_list l8.lookup
  (fu eV (typeIs_int s k t) l9 (iK _ _) (int___rmul___int_list k t l _ n)
   ⟨e,rfl,⟨_,e,rfl⟩,fu F.slot_list_mul ⟨_,e,rfl⟩ F.entry_list_mul (F.args_list_mul_2 _ _) (AutoListH.list___mul___list_int_3 l _ n k t hfit hcap hlong) ⟨e, ?_⟩⟩)
 rw[hnew];exact⟨.ref _,_,I.lnew (r.rep _) (by rw[jx,cR];exact hz),rfl,q _ I.fresh⟩
end
end L2
namespace Att
open PySem PySem.W PySem.Calls PyProof.Rows
theorem Jm {P:Params}{h:Heap}:∀(ns:List Int) (vs:List Value),WellAll P h vs (ns.map WData.int)->IntsAre vs ns:=by
 intro ns
 induction ns with
 | nil=>
  intro vs w;cases w;exact .nil
 | cons n ns ih=>
  intro vs w;cases w with
  | cons a b=>
   cases a;exact .cons _ _ (ih _ b)
theorem yy {l:OpenLaw}{n:Nat}(hn:l.most=some n){P:Params}{h:Heap}{args:List WData}{vals:List Value}
  (hpre:l.row.toRowW.claim.pre args=true) (hwl:WellAll P h vals args):
  ∃a vs ns,vals=[Value.ref a]/\args=[WData.list (ns.map WData.int)]/\h.get? a=some { cls:= .type "list",data:= .seq vs.toArray }/\IntsAre vs ns/\ns.length<=n:=by
 have hsh:=(pre_splitW hpre).1;have hc:=(pre_splitW hpre).2;obtain⟨d,r,rfl,h1,h2⟩:=hasAllW_cons hsh;obtain rfl:=hasAllW_nil h2;obtain⟨xs,rfl,h3⟩:=hasW_list h1;obtain⟨ns,rfl⟩:=items_int h3;have hlen:ns.length<=n:=by
  have h4:=by
   have h4:=(holds_andW hc).1;rw[hn]at h4;exact h4
  have h5:=condW_of h4 (w_not (w_lt w_lit (w_len_list (w_arg rfl))));rw[ae]at h5;refine Nat.le_of_not_lt λq=> ?_;have q' :(n) < ((ns.length):Int):=by omega
  first
   | (rw[decide_eq_true q']at h5;exact absurd h5 (by decide))
   | (simp at h5)
 cases hwl with
 | cons w1 w2=>
  cases w2;cases w1 with
  | list ho hall=>exact⟨_,_,ns,rfl,rfl,ho,Jm ns _ hall,hlen⟩
theorem yz (l:OpenLaw)(args:List WData):l.row.toRowW.claim.post args (.bool true) args=true:=
 postW_of
  (show WShape.has [] _ _=true by first | rfl | decide | simp[WShape.has,WShape.arms,WShape.armsAll])
  (show (WTm.eq _ _).value [] _=some _ from w_eq_bool (w_res rfl) w_lit) rfl
theorem attach_call {l:OpenLaw}{n:Nat}{q:Program}{loose:List Str}{XP:(Str->Option Value)->Heap->Prop}{YP:World->Heap->Prop}{d:DefRec}
  (hn:l.most=some n) (hdf:d.params.defaults=[])
  (call:∀(w:World) (s₀ s₁:Shared) (mg mb:Str->Option Value) (fa:Addr) (o:Obj) (pm cd doc:Value) (a:Addr) (vs:List Value) (ns:List Int),
   Ground q loose [] XP w s₀ mg mb s₁.heap->YP w s₁.heap->
   s₁.heap.get? fa=some o->o.data= .func (docDef d.name d.params d.body d.scope pm cd doc)->s₁.heap.CodeRec cd d.name->mg d.name=some (.ref fa)->
   s₁.heap.get? a=some { cls:= .type "list",data:= .seq vs.toArray }->IntsAre vs ns->ns.length<=n->s₁.gens= #[]->
   codeAny (model l.prog w) callerA (.call (.ref fa) ⟨[.ref a],[]⟩) (λr s' =>r= .ok (.ret (.bool true))/\OldK s₁.heap s'.heap/\s'.os=s₁.os/\AllBare s'.gens) s₁):
  WalkO q loose XP YP l.row.toRowW d [] (λf vs=>lG f vs):=by
 intro w s₀ s₁ mg mb G Y fa o pm cd doc dV kV ho hd hcd hD hmg hg args vals as hpre hlay hrd hwl hlo;obtain rfl:dV= .none:=Dflts.none hD hdf;obtain rfl:kV= .none:=Dflts.noKw hD;obtain⟨a,vs,ns,rfl,rfl,hobj,hints,hlen⟩:=yy hn hpre hwl;refine enter_call (di (call w _ _ mg mb fa o pm cd doc a vs ns G Y ho (fd_plain hd) hcd hmg hobj hints hlen hg) λr s' hq=> ?_);obtain⟨rfl,h2,h3,h4⟩:=hq;exact⟨.inl ⟨.bool _,.bool _,[],rfl,λ_=>rfl,.bool _,yz l _,λ_=>⟨List.Pairwise.nil,λ_ hm=>(nomatch hm)⟩⟩,h2,h3,h4⟩
end Att
namespace L2
open PySem PySem.Spec PyProof.Rows
theorem Wf:∀{vs:List Value} {ns:List Int},IntsAre vs ns->Vals (ns.map V.int) vs
 | _,_,.nil=> .nil
 | _,_,.cons n t h=> .cons ⟨t,rfl⟩ (Wf h)
def GO (H:Hp):Prop:=∀b,H b=none\/∃o xs,H b=some (.frz o (.lst xs))
theorem Qn {P:Program}{w:World}{K:ag}{mg mb:Str->Option Value}{CX:CXT}{k:Nat}{fa a:Addr}{fd:FuncData}{x:Str}{sp:Sp}{s₁:Shared}{vs:List Value}{ns:List Int}
  (KX:K.In s₁.heap) (hns:s₁.heap.Ns mainGlobals mg) (hb:s₁.heap.Ns builtinsNs mb) (hbb:∀x:Str,x ≠ "__name__"->mb x=bootBuiltins x) (hlim:s₁.heap.NoLimit) (hg:s₁.gens= #[])
  (ha:s₁.heap.get? a=some { cls:= .type "list",data:= .seq vs.toArray }) (hi:IntsAre vs ns) (hl:ns.length<=sizeLine) (hr:jR k callerA)
  (F:∀base:Heap,K.In base->base.Ns mainGlobals mg->W7 P w K mg base CX k fa fd [x] sp) (hbind:∀(s:Shared) (u:Value),BindsTo s fd ⟨[u],[]⟩ [(x,u)])
  (hsp:∀H:Hp,GO H->SqL K H a (ns.map V.int)->sp [.ref a] H (λv _=>v= .bl true) λ_ _ _=>False)
  (hCX:∀H e s',CX [] H s₁ (λ_ _ _=>False) e s' ->False):
  codeAny (model P w) callerA (.call (.ref fa) ⟨[.ref a],[]⟩) (λr s' =>r= .ok (.ret (.bool true))/\OldK s₁.heap s'.heap/\s'.os=s₁.os/\AllBare s'.gens) s₁:=by
 have rv:=Wf hi;have lenV:=hi.length;have core:∀H,GO H->SqL K H a (ns.map V.int)->HOk P w H s₁.heap->(∀b,H b ≠ none->b=a)->(H a ≠ none->K.lookup a=none)->
   codeAny (model P w) callerA (.call (.ref fa) ⟨[.ref a],[]⟩) (λr s' =>r= .ok (.ret (.bool true))/\OldK s₁.heap s'.heap/\s'.os=s₁.os/\AllBare s'.gens) s₁:=by
  intro H hO hS hok hA hK;have base_of:∀{b:Addr} {o:Obj},s₁.heap.get? b=some o->H b=none->(XU _ H).get? b=some o:=λe n=>Qe e n;have noA:∀{b:Addr} {o:Obj} {es:Array _} {ep:Nat},s₁.heap.get? b=some o->o.data= .dict es ep->H b=none:=λ{b o es ep} e d=>by
   cases q:H b with
   | none=>rfl
   | some u=>
    have e' :=hA b (by rw[q];simp)
    subst e';rw[ha]at e;cases e;have d' :=d;cases d'
  have nsK:∀{b:Addr} {m:Str->Option _},s₁.heap.Ns b m->(XU _ H).Ns b m:=λ{b m} ⟨o,es,ep,e,d,r⟩=>⟨o,es,ep,base_of e (noA e d),d,r⟩;have hKb:=λb o e=>base_of (KX b o e) (by
   cases q:H b with
   | none=>rfl
   | some u=>
    have e' :=hA b (by rw[q];simp)
    subst e';rw[hK (by rw[q];simp)]at e;cases e)
  have hM:Mod K mg _:=⟨hKb,nsK hns,⟨mb,nsK hb,hbb⟩,let ⟨mc,h1,h2⟩:=hlim;⟨mc,nsK h1,h2⟩⟩;have e0:GN P w K mg _ callerA [] _ H:=⟨rfl,hM,λb o e=>VM e,Nat.le_of_eq (ye _ _),trivial,λb hb=>absurd (show b∈([]:List _) from hb) (by simp),hok,.of_eq hg⟩
  refine di ((F _ hKb (nsK hns)).run _ [] _ H _ _ [.ref a] _ _ hr e0 (hbind _ _) (.cons rfl .nil) (hsp H hO hS)) λr s' h=> ?_;cases r with
  | error e=>exact(hCX H e s' h).elim
  | ok fl=>
   cases fl with
   | next=>exact cQ h
   | brk=>exact cQ h
   | cont=>exact cQ h
   | ret u=>
    obtain⟨v,H',os,bare,un,hok',r',q⟩:=h;have q' :=q;subst q';obtain rfl:u=Value.bool _:=r';refine⟨rfl,OldK.of_keep λb o e=> ?_,os,bare⟩;cases q:H b with
    | none=>exact un.keep b o e q (by intro z;exact absurd (show b∈([]:List _) from z) (by simp)) (by simp)
    | some u=>
     rcases hO b with z | ⟨ob,xs,z⟩
     ·rw[q]at z;cases z
     ·have z2:=un.frzs b ob _ z;obtain⟨e1,_⟩:=hok b _ z;obtain⟨e2,_⟩:=hok' b _ z2;rw[e]at e1;cases e1;exact e2
 cases hk:K.lookup a with
 | some o=>
  have e:=KX a o hk;rw[ha]at e;cases e;refine core (λ_=>none) (λ_=> .inl rfl) (.inr ⟨_,vs.toArray,_,hk,rfl,rfl,rfl,by rw[aB,lenV];exact hl,by simpa using rv⟩) (λb u z=>by have z' :=z;cases z') (λb z=>absurd rfl z) λz=>absurd rfl z
 | none=>
  refine core (λb=>if b=a then some (.frz { cls:= .type "list",data:= .seq vs.toArray } _) else none) (λb=> ?_) (.inl (.inr ⟨{ cls:= .type _,data:= .seq _ },if_pos rfl⟩)) (λb u z=> ?_) (λb z=> ?_) λ_=>hk
  ·by_cases hb:b=a
   ·exact .inr ⟨_,_,if_pos hb⟩
   ·exact .inl (if_neg hb)
  ·by_cases hb:b=a
   ·have z' :=(if_pos hb).symm.trans z;cases z';subst hb;exact⟨ha,by rw[ae];exact hl,vs,_,rv,ha⟩
   ·have z' :=(if_neg hb).symm.trans z;cases z'
  ·by_cases hb:b=a
   ·exact hb
   ·exact absurd (if_neg hb) z
end L2
namespace L2
open PySem PySem.Spec PyProof.Rows
theorem walk_of {l:PySem.W.OpenLaw}{n k:Nat}{q:Program}{loose:List Str}{XP:(Str->Option Value)->Heap->Prop}{YP:World->Heap->Prop}{d:DefRec}{K:Params->ag}{CX:World->CXT}{sp:World->Sp}{x:Str}
  (hn:l.most=some n) (hn2:n<=sizeLine) (hdf:d.params.defaults=[]) (hr:jR k callerA)
  (hY:∀(w:World) (h:Heap),YP w h->(K w.params).In h)
  (F:∀(w:World) (mg:Str->Option Value) (fa:Addr) (h:Heap),(K w.params).In h->h.Ns mainGlobals mg->mg d.name=some (.ref fa)->
   ∃fd:FuncData,(∀(s:Shared) (u:Value),BindsTo s fd ⟨[u],[]⟩ [(x,u)])/\
    ∀base:Heap,(K w.params).In base->base.Ns mainGlobals mg->W7 l.prog w (K w.params) mg base (CX w) k fa fd [x] (sp w))
  (hsp:∀(w:World) (H:Hp) (a:Addr) (ns:List Int),ns.length<=n->GO H->SqL (K w.params) H a (ns.map V.int)->sp w [.ref a] H (λv _=>v= .bl true) λ_ _ _=>False)
  (hCX:∀(w:World) (H:Hp) (s:Shared) (e:Value) (s' :Shared),CX w [] H s (λ_ _ _=>False) e s' ->False):
  PySem.W.WalkO q loose XP YP l.row.toRowW d [] (λf vs=>lG f vs):=by
 refine Att.attach_call hn hdf λw s₀ s₁ mg mb fa o pm cd doc a vs ns G Y ho hd hcd hmg hobj hints hlen hg=> ?_;have KX:=hY w _ Y;obtain⟨fd,hb,hF⟩:=F w mg fa _ KX G.T.g hmg;exact Qn KX G.T.g G.T.b G.T.builtins G.T.nolimit hg hobj hints (ar hlen hn2) hr hF hb (λH hO hS=>hsp w H a ns hlen hO hS) λH e s' =>hCX w H _ e s'
end L2
namespace L2
open PySem PySem.Spec PyProof.Rows
noncomputable def ZJ (s:Stmt):Arguments:=match s with
 | .FunctionDef _ a _ _ _ _ _ _ _ _=>a
 | _=>{ posonlyargs:=[],args:=[],vararg:=none,kwonlyargs:=[],kw_defaults:=[],kwarg:=none,defaults:=[] }
noncomputable def Z6 (s:Stmt):List Stmt:=match s with
 | .FunctionDef _ _ b _ _ _ _ _ _ _=>b
 | _=>[]
noncomputable def zg (s:Stmt):Scope:=match s with
 | .FunctionDef _ _ _ _ _ _ sc _ _ _=>sc
 | _=>{ kind:= .function,names:=[],isGenerator:=false,isCoroutine:=false }
abbrev CX0:CXT:=λ_ _ _ _ _ _=>False
structure Fun (K:ag) (x qual:Str) (st:Stmt) (f:Addr) (fd:FuncData):Prop where
 ex:∃(oc:Value) (od:Option Addr) (kV doc pm:Value) (an:Option Addr) (cdv ct:Value) (osl:Array (Option Value)),
  fd=c7 x qual (ZJ st) (Z6 st) (zg st) .none kV doc pm an cdv ct/\K.lookup f=some ⟨oc,od,.func fd,osl⟩/\fj K cdv qual=true
 kp:cJ K (.ref f)=true
section
variable {P:Program}{w:World}{K:ag}{mg:Str->Option Value}{base:Heap}
theorem Fun.ok {x qual:Str}{st:Stmt}{f:Addr}{fd:FuncData}{N ps:List Str}{k:Nat}{sp:Sp}(F:Fun K x qual st f fd)(S:Jj N ps (zg st))(len:∀vs H Q E,sp vs H Q E->vs.length=ps.length)
  (hbody:∀(cdv:Value) (A:Around) (outer:List Env) (s:Shared) (H:Hp) (vs:List V) (Q:VK) (E:XK),jR k (A.deeper (envOfC qual (zg st) s.heap.objs.size f cdv))->sp vs H Q E->
   ∃t,PSs (JU CX0 P w K mg base N qual (zg st) f cdv A outer s H E).nox (Z6 st) t/\t { nx:=λ_ H' =>Q .non H',rt:=Q } (start N vs) H):W7 P w K mg base CX0 (k+1) f fd ps sp:=by
 obtain⟨oc,od,kV,doc,pm,an,cdv,ct,osl,rfl,lk,hcd⟩:=F.ex;refine z0M lk hcd S len λA outer s H vs Q E hr hsp=> ?_;obtain⟨t,h,q⟩:=hbody cdv A _ s H vs Q E hr hsp;exact⟨t,h.nox,q⟩
theorem Fun.binds {x qual:Str}{st:Stmt}{f:Addr}{fd:FuncData}{ps:List Str}(F:Fun K x qual st f fd)
  (h:∀(kV doc pm:Value) (an:Option Addr) (cdv ct:Value) (us:List Value),us.length=ps.length->bindArgs (c7 x qual (ZJ st) (Z6 st) (zg st) .none kV doc pm an cdv ct) ⟨us,[]⟩=pure (ps.zip us)):Binds K fd ps []:=by
 obtain⟨oc,od,kV,doc,pm,an,cdv,ct,osl,rfl,lk,hcd⟩:=F.ex;exact .all (h kV doc pm an cdv ct)
theorem kU {x qual:Str}{st:Stmt}{f:Addr}{oc:Value}{od an:Option Addr}{osl:Array (Option Value)}{kV doc pm cdv ct:Value}(l:K.lookup f=some ⟨oc,od,.func (c7 x qual (ZJ st) (Z6 st) (zg st) .none kV doc pm an cdv ct),osl⟩)
  (c:fj K cdv qual=true) (k:cJ K (.ref f)=true):Fun K x qual st f (c7 x qual (ZJ st) (Z6 st) (zg st) .none kV doc pm an cdv ct):=⟨⟨oc,od,kV,doc,pm,an,cdv,ct,osl,rfl,l,c⟩,k⟩
end
section
variable {X:Cx}
theorem pv (i:Nat){x:Str}{pos:Pos}(hN:X.N[i]? =some x:=by rfl)(hv:Vis X.env.scope x:=by first | exact Or.inl rfl | exact Or.inr (Or.inl rfl) | exact Or.inr (Or.inr rfl))(hd:(x == ("__debug__":Str))=false:=by decide)
  (hcd:(x == ("__classdict__":Str))=false:=by decide):PE X (.Name x pos) (W3 i):=JP hN hv hd hcd
end
def zm (H H' :Hp):Prop:=∀b o,H b=some o->H' b=some o
theorem zm.refl (H:Hp):zm H H:=λ_ _ h=>h
theorem zm.trans {H H1 H2:Hp}(a:zm H H1)(b:zm H1 H2):zm H H2:=λc o h=>b c o (a c o h)
theorem zm.free {H H' :Hp}(e:zm H H'){l:Addr}(h:H' l=Option.none):H l=Option.none:=by
 cases q:H l with
 | none=>rfl
 | some o=>
  rw[e l o q]at h;cases h
end L2
namespace L2
open PySem PySem.Spec PyProof.Rows PySem.W
structure Lies (P:Program) (w:World) (outer:List Env) (H:Hp) (s s' :Shared) (ea:Addr) (cls a0:Value) (B:Heap) (H' :Hp):Prop where
 os:s'.os=s.os
 bare:AllBare s'.gens
 fly:Heap.FlyingW B outer ea cls a0 s'.heap
 hok:HOk P w H' B
 un:Un (frs outer) [] H H' s.heap s'.heap
 inB:∀b o,s.heap.get? b=some o->b ∉ frs outer->(H b=none->B.get? b=some o)/\∃o',B.get? b=some o'
def CX1 (P:Program)(w:World):CXT:=λouter H s E e s' =>∃ea cls a0 B H',e= .ref ea/\Lies P w outer H s s' ea cls a0 B H' /\E cls none H'
end L2
namespace L2
open PySem PySem.Spec PyProof.Rows PySem.W
noncomputable def ExAt (cls:Value)(a:Addr)(h:Heap):Prop:=∃o,h.get? a=some o/\o.cls=cls
end L2
namespace L2
open PySem PySem.Spec PyProof.Rows PySem.W
end L2
namespace PySem
open PySem.W
end PySem
namespace L2
open PySem PySem.Spec PyProof.Rows PySem.W
section
variable {X:Cx}{pins:List (Addr×Obj)}{σ:St}{H H' :Hp}{s s' :Shared}{ea C:Addr}{cls a0:Value}{B:Heap}{h' :Heap}
def kX (X:Cx)(E:XK):Prop:=∀(pins:List (Addr×Obj)) (σ:St) (H:Hp) (s:Shared) (e:Value) (s' :Shared) (C:Addr) (m:Str->Option Value) (E' :Value->Shared->Prop) (cenv:Env),Inv X pins σ H s->s.heap.Ns C m->H C=none->X.s₀.heap.objs.size<=C->C ∉ frs X.stack->cenv.frame=X.env.frame->CX1 X.prog X.w X.stack H s E e s' ->
 wpAny (model X.prog X.w) X.A (noteFrame e cenv) (λ_ s'' =>∃m,s''.heap.Ns C m/\∀h',b5 C s''.heap h' ->∀env:Env,env.locals=C->wpAny (model X.prog X.w) X.A (passOn "comprehension.variables-let-go" e env:Sem Value) (λ_ _=>False) X.xe { s'' with heap:=h' }) E' s'
theorem ZU {E:XK}(h:E=λ_ _ _=>False):kX X E:=λpins σ H s e s' C m E' cenv I _ _ _ _ _ ⟨_,_,_,_,_,_,_,z⟩=>by subst h;exact z.elim
end
end L2
namespace L2
open PySem PySem.Spec PyProof.Rows
theorem PE.imp {X:Cx}{e:Expr}{t t' :TE}(h:PE X e t)(i:∀σ H Q,t' σ H Q->t σ H Q):PE X e t' :=λpins s σ H Q I q=>h _ s σ H Q I (i σ H Q q)
theorem PT.imp {X:Cx}{e:Expr}{t t' :TT}(h:PT X e t)(i:∀σ H Q,t' σ H Q->t σ H Q):PT X e t' :=λpins s σ H Q I q=>h _ s σ H Q I (i σ H Q q)
theorem PA.imp {X:Cx}{e:List Expr}{t t' :TA}(h:PA X e t)(i:∀σ H Q,t' σ H Q->t σ H Q):PA X e t' :=λpos pins s σ H Q I q=>h pos _ s σ H Q I (i σ H Q q)
theorem PS.imp {X:Cx}{e:Stmt}{t t' :TS}(h:PS X e t)(i:∀D σ H,t' D σ H->t D σ H):PS X e t' :=λpins s σ H D I q=>h _ s σ H D I (i D σ H q)
theorem PSs.imp {X:Cx}{e:List Stmt}{t t' :TS}(h:PSs X e t)(i:∀D σ H,t' D σ H->t D σ H):PSs X e t' :=λpins s σ H D I q=>h _ s σ H D I (i D σ H q)
end L2
namespace PV
open PySem
noncomputable def Wg:Expr->Bool
 | .Starred _ _=>false
 | _=>true
theorem zE {e:Expr}{rest:List Expr}{env:Env}(h:Wg e=true):starEach (e :: rest) env=(false,eval e env) :: starEach rest env:=by
 cases e <;> first | rfl | cases h
theorem st2 {a b:Expr}{env:Env}(h:Wg a=true)(h' :Wg b=true):starEach [a,b] env=[(false,eval a env),(false,eval b env)]:=by
 rw[zE h,zE h'];rfl
theorem st1 {a:Expr}{env:Env}(h:Wg a=true):starEach [a] env=[(false,eval a env)]:=by
 rw[zE h];rfl
theorem Z0 {pos:Pos}{env:Env}:∀{es:List Expr},es.all Wg=true->((backTo pos (starEach es env)).any λx=>x.fst)=false
 | [],_=>rfl
 | e :: es,h=>by
  rw[cY,ah]at h;rw[zE h.1];have:=Z0 (pos:=pos) (env:=env) h.2;show (false || ((backTo pos _).any λx=>x.fst))=false
  rw[this];rfl
open PySem PySem.Spec PyProof.Rows L2
noncomputable abbrev Sg:=L2.St
inductive T where
 | non | bl (b:Bool) | int (i:Int) | str (x:Str) | tup (xs:List T) | lst (xs:List T) | fz (xs:List T)
inductive R (α:Type) where
 | ok (a:α) | ex (c:Nat) | bad
noncomputable def R.bind {α β:Type}(r:R α)(f:α->R β):R β:=match r with
 | .ok a=>f a
 | .ex c=> .ex c
 | .bad=> .bad
mutual
inductive Rep (H:Hp):V->T->Prop where
 | non:Rep H .non .non
 | bl (b:Bool):Rep H (.bl b) (.bl b)
 | int (i:Int):Rep H (.int i) (.int i)
 | str (x:Str):Rep H (.str x) (.str x)
 | tup {a:Addr} {xs:List V} {ts:List T}:H a=some (.tup xs)->zr H xs ts->Rep H (.ref a) (.tup ts)
 | lst {a:Addr} {xs:List V} {ts:List T}:H a=some (.lst xs)->zr H xs ts->Rep H (.ref a) (.lst ts)
 | fz {a:Addr} {o:Obj} {xs:List V} {ts:List T}:H a=some (.frz o (.lst xs))->zr H xs ts->Rep H (.ref a) (.fz ts)
inductive zr (H:Hp):List V->List T->Prop where
 | nil:zr H [] []
 | cons {v:V} {t:T} {vs:List V} {ts:List T}:Rep H v t->zr H vs ts->zr H (v :: vs) (t :: ts)
end
mutual
theorem Rep.mono {H H' :Hp}(s:zm H H'):∀{v:V} {t:T},Rep H v t->Rep H' v t
 | _,_,.non=> .non
 | _,_,.bl b=> .bl b
 | _,_,.int i=> .int i
 | _,_,.str x=> .str x
 | _,_,.tup h r=> .tup (s _ _ h) (zr.mono s r)
 | _,_,.lst h r=> .lst (s _ _ h) (zr.mono s r)
 | _,_,.fz h r=> .fz (s _ _ h) (zr.mono s r)
theorem zr.mono {H H' :Hp}(s:zm H H'):∀{v:List V} {t:List T},zr H v t->zr H' v t
 | _,_,.nil=> .nil
 | _,_,.cons h r=> .cons (Rep.mono s h) (zr.mono s r)
end
theorem zr.length {H:Hp}:∀{vs:List V} {ts:List T},zr H vs ts->vs.length=ts.length
 | _,_,.nil=>rfl
 | _,_,.cons _ r=>congrArg _ (zr.length r)
theorem zr.get {H:Hp}:∀{vs:List V} {ts:List T} {i:Nat} {t:T},zr H vs ts->ts[i]? =some t->∃v,vs[i]? =some v/\Rep H v t
 | _,_,_,_,.nil,e=>by simp at e
 | _,_,0,_,.cons r _,e=>by simp at e;subst e;exact⟨_,rfl,r⟩
 | _,_,i+1,t,.cons _ q,e=>by
  obtain⟨v,h1,h2⟩:=zr.get q (by simpa using e)
  exact⟨v,by simpa using h1,h2⟩
theorem zr.getV {H:Hp}:∀{vs:List V} {ts:List T} {i:Nat} {v:V},zr H vs ts->vs[i]? =some v->∃t,ts[i]? =some t/\Rep H v t
 | _,_,_,_,.nil,e=>by simp at e
 | _,_,0,_,.cons r _,e=>by simp at e;subst e;exact⟨_,rfl,r⟩
 | _,_,i+1,v,.cons _ q,e=>by
  obtain⟨t,h1,h2⟩:=zr.getV q (by simpa using e)
  exact⟨t,by simpa using h1,h2⟩
theorem zr.append {H:Hp}:∀{vs ws:List V} {ts us:List T},zr H vs ts->zr H ws us->zr H (vs++ws) (ts++us)
 | _,_,_,_,.nil,q=>q
 | _,_,_,_,.cons r t,q=> .cons r (zr.append t q)
theorem zr.take {H:Hp}:∀{vs:List V} {ts:List T} (n:Nat),zr H vs ts->zr H (vs.take n) (ts.take n)
 | _,_,0,_=> .nil
 | _,_,_+1,.nil=> .nil
 | _,_,n+1,.cons r t=> .cons r (zr.take n t)
theorem zr.drop {H:Hp}:∀{vs:List V} {ts:List T} (n:Nat),zr H vs ts->zr H (vs.drop n) (ts.drop n)
 | _,_,0,r=>r
 | _,_,_+1,.nil=> .nil
 | _,_,n+1,.cons _ t=>zr.drop n t
theorem zr.rep {H:Hp}{vs:List V}{ts:List T}(h:zr H vs ts):∀n:Nat,zr H (ai n vs).flatten (ai n ts).flatten
 | 0=> .nil
 | n+1=>by
  exact h.append (zr.rep h n)
theorem zr.nil_iff {H:Hp}{vs:List V}{ts:List T}(h:zr H vs ts):vs=[]↔ts=[]:=by
 cases h <;> simp
def zB (B H H' :Hp):Hp:=λb=>match H b with
 | none=>H' b
 | some _=>B b
theorem zR {B H H' :Hp}{b:Addr}(h:H b=none):zB B H H' b=H' b:=by unfold zB;rw[h]
theorem zO {B H H' :Hp}{b:Addr}{o:HO}(h:H b=some o):zB B H H' b=B b:=by unfold zB;rw[h]
theorem zB.ge {B H H' :Hp}(s:zm B H)(s' :zm H H'):zm B (zB B H H'):=λb o h=>by
 rw[zO (s b o h)];exact h
theorem zB.le {B H H' :Hp}(s:zm B H)(s' :zm H H'):zm (zB B H H') H' :=λb o h=>by
 cases q:H b with
 | none=>rw[zR q]at h;exact h
 | some u=>rw[zO q]at h;exact s' b o (s b o h)
theorem zB.self (B H:Hp)(s:zm B H):zB B H H=B:=by
 funext b
 cases q:H b with
 | none=>
  rw[zR q,q];cases z:B b with
  | none=>rfl
  | some o=>rw[s b o z]at q;cases q
 | some u=>rw[zO q]
theorem zB.trans {B H H1 H2:Hp}(s1:zm H H1)(s2:zm H1 H2):zB (zB B H H1) H1 H2=zB B H H2:=by
 funext b
 cases q:H b with
 | none=>
  rw[zR q];cases z:H1 b with
  | none=>rw[zR z]
  | some o=>rw[zO z,zR q,z,s2 b o z]
 | some u=>rw[zO q,zO (s1 b u q),zO q]
inductive Fd where
 | tv (t:T) | tl (ts:List T)
noncomputable abbrev Ob:=Nat×List (Str×Fd)
noncomputable def atts:List Str:=["kind","remaining","done","undone","first","last","answered"]
def InC (vs:List (Str×V)):Prop:=∀f,f ∉ atts->vs.lookup f=none
inductive Sl where
 | un | vl (t:T) | ow (ts:List T) | xc (c:Nat) | ob (k n:Nat) | oc (k:Nat) (fs:List (Str×Fd)) | st (os:List Ob)
noncomputable def Sl.isS:Sl->Bool
 | .ob _ _=>true
 | .st _=>true
 | _=>false
noncomputable def Sl.isO:Sl->Bool
 | .ob _ _=>true
 | .oc _ _=>true
 | .st _=>true
 | _=>false
noncomputable abbrev En:=List Sl
structure Fx where
 B0:Hp
 H0:Hp
 E:XK
 cl:Nat->Value
 as:List Addr
def GP (ρ:En)(σ:Sg)(l:Addr):Prop:=∀(j:Nat) (us:List T),ρ[j]? =some (Sl.ow us)->σ[j]? ≠ some (some (V.ref l))
def FdR (Y:Fx)(B:Hp)(ρ:En)(σ:Sg)(H:Hp)(o:Addr->Prop)(v:V):Fd->Prop
 | .tv t=>Rep B v t
 | .tl ts=>∃l xs,v= .ref l/\B l=none/\Y.H0 l=none/\H l=some (.lst xs)/\zr B xs ts/\GP ρ σ l/\o l
def FsO (B H:Hp)(vs:List (Str×V))(fs:List (Str×Fd)):Prop:=∀(m:Nat) (f:Str) (d:Fd),fs[m]? =some (f,d)->∃v,vs[m]? =some (f,v)/\match d with
 | .tv t=>Rep B v t
 | .tl ts=>∃l xs,v= .ref l/\H l=some (.lst xs)/\zr B xs ts
theorem FsO.mono {B B' H H' :Hp}{vs:List (Str×V)}{fs:List (Str×Fd)}(h:FsO B H vs fs)(s:zm B B')(s' :zm H H'):FsO B' H' vs fs:=λm f d e=>by
 obtain⟨v,e1,r⟩:=h m f d e;refine⟨v,e1, ?_⟩;cases d with
 | tv t=>exact Rep.mono s r
 | tl ts=>obtain⟨l,xs,a,b,c⟩:=r;exact⟨l,xs,a,s' _ _ b,c.mono s⟩
structure StI (Y:Fx) (B:Hp) (ρ:En) (σ:Sg) (H:Hp) (as:List Addr) (O:Addr->Option (Nat×Nat)):Prop where
 pre:Y.as <+:as
 len:∀(i:Nat) (os:List Ob),ρ[i]? =some (Sl.st os)->as.length=os.length
 one:∀(i j:Nat) (os os' :List Ob),ρ[i]? =some (Sl.st os)->ρ[j]? =some (Sl.st os')->i=j
 ob:∀(i k n:Nat),ρ[i]? =some (Sl.ob k n)->∃a C dx vs,as[n]? =some a/\σ[i]? =some (some (V.ref a))/\Y.cl k= .ref C/\H a=some (.ins C dx vs)/\B a=none/\Y.H0 a=none/\InC vs
 oc:∀(i k:Nat) (fs:List (Str×Fd)),ρ[i]? =some (Sl.oc k fs)->∃a C dx vs,σ[i]? =some (some (V.ref a))/\Y.cl k= .ref C/\Y.H0 a=some (.ins C dx vs)/\InC vs/\FsO B Y.H0 vs fs
 st:∀(i:Nat) (os:List Ob),ρ[i]? =some (Sl.st os)->∀(n k:Nat) (fs:List (Str×Fd)),os[n]? =some (k,fs)->∃a C dx vs,as[n]? =some a/\Y.cl k= .ref C/\H a=some (.ins C dx vs)/\B a=none/\Y.H0 a=none/\O a=some (n,0)/\(vs.length=fs.length/\InC vs)/\
  ∀(m:Nat) (f:Str) (d:Fd),fs[m]? =some (f,d)->∃v,vs[m]? =some (f,v)/\FdR Y B ρ σ H (λl=>O l=some (n,m+1)) v d
structure SI (Y:Fx) (B:Hp) (ρ:En) (σ:Sg) (H:Hp):Prop where
 s0:zm Y.B0 Y.H0
 sH:zm Y.H0 H
 sB:zm B H
 old:∀b o,Y.H0 b=some o->B b=Y.B0 b
 len:ρ.length=σ.length
 vl:∀(i:Nat) (t:T),ρ[i]? =some (Sl.vl t)->∃v:V,σ[i]? =some (some v)/\Rep B v t
 ow:∀(i:Nat) (ts:List T),ρ[i]? =some (Sl.ow ts)->∃(a:Addr) (xs:List V),σ[i]? =some (some (V.ref a))/\B a=none/\Y.H0 a=none/\H a=some (.lst xs)/\zr B xs ts/\
  ∀(j:Nat) (us:List T),j ≠ i->ρ[j]? =some (Sl.ow us)->σ[j]? ≠ some (some (V.ref a))
 xc:∀(i:Nat) (c:Nat),ρ[i]? =some (Sl.xc c)->∃a:Addr,σ[i]? =some (some (V.ref a))/\B a=some (.ext (ExAt (Y.cl c) a))
 st:∃as O,StI Y B ρ σ H as O
theorem StI.on {Y Y' :Fx}{B B' :Hp}{ρ ρ' :En}{σ σ' :Sg}{H H' :Hp}{as:List Addr}{O:Addr->Option (Nat×Nat)}(x:StI Y B ρ σ H as O)(hO:∀(i:Nat) (s:Sl),s.isO=true->ρ'[i]? =some s->ρ[i]? =some s/\σ'[i]? =σ[i]?)(hB:zm B B')(hc:Y'.cl=Y.cl)(hA:Y'.as=Y.as)(h0:zm Y.H0 Y'.H0)
  (hH:∀b o,H b=some o->B b=none->Y.H0 b=none->((∃C dx vs,o= .ins C dx vs)\/GP ρ σ b)->H' b=some o/\B' b=none/\Y'.H0 b=none/\(GP ρ σ b->GP ρ' σ' b)):StI Y' B' ρ' σ' H' as O where
 pre:=by rw[hA];exact x.pre
 len:=λi os h=>x.len i os (hO i _ rfl h).1
 one:=λi j os os' h1 h2=>x.one i j os os' (hO i _ rfl h1).1 (hO j _ rfl h2).1
 ob:=λi k n h=>by
  obtain⟨h1,h2⟩:=hO i _ rfl h;obtain⟨a,C,dx,vs,e1,e2,e3,e4,e5,e6⟩:=x.ob i k n h1;obtain⟨g1,g2,g3,_⟩:=hH a _ e4 e5 e6.1 (.inl ⟨_,_,_,rfl⟩);rw[h2,hc];exact⟨a,C,dx,vs,e1,e2,e3,g1,g2,g3,e6.2⟩
 oc:=λi k fs h=>by
  obtain⟨h1,h2⟩:=hO i _ rfl h;obtain⟨a,C,dx,vs,e1,e2,e3,e4,e5⟩:=x.oc i k fs h1;rw[h2,hc];exact⟨a,C,dx,vs,e1,e2,h0 _ _ e3,e4,e5.mono hB h0⟩
 st:=λi os h n k fs e=>by
  obtain⟨a,C,dx,vs,e1,e2,e3,e4,e5,e6,e7,e8⟩:=x.st i os (hO i _ rfl h).1 n k fs e;obtain⟨g1,g2,g3,_⟩:=hH a _ e3 e4 e5 (.inl ⟨_,_,_,rfl⟩);refine⟨a,C,dx,vs,e1,by rw[hc];exact e2,g1,g2,g3,e6,e7,λm f d z=> ?_⟩
  obtain⟨v,z1,z2⟩:=e8 m f d z;refine⟨v,z1, ?_⟩;cases d with
  | tv t=>exact Rep.mono hB z2
  | tl ts=>
   obtain⟨l,xs,p1,p2,p3,p4,p5,p6,p7⟩:=z2;obtain⟨g1,g2,g3,g4⟩:=hH l _ p4 p2 p3 (.inr p6);exact⟨l,xs,p1,g2,g3,g1,p5.mono hB,g4 p6,p7⟩
theorem StI.no {Y:Fx}{B:Hp}{ρ:En}{σ:Sg}{H:Hp}(h:∀(i:Nat) (s:Sl),s.isO=true->ρ[i]? ≠ some s):∃as O,StI Y B ρ σ H as O:=⟨Y.as,λ_=>none,fS _,λi os e=>(h i _ rfl e).elim,λi j os os' e=>(h i _ rfl e).elim,λi k n e=>(h i _ rfl e).elim,λi k fs e=>(h i _ rfl e).elim,λi os e=>(h i _ rfl e).elim⟩
theorem SI.grow {Y:Fx}{B:Hp}{ρ:En}{σ:Sg}{H H' :Hp}(I:SI Y B ρ σ H)(s:zm H H'):SI Y (zB B H H') ρ σ H' where
 s0:=I.s0
 sH:=I.sH.trans s
 sB:=zB.le I.sB s
 old:=λb o h=>by rw[zO (I.sH b o h)];exact I.old b o h
 len:=I.len
 vl:=λi t h=>let ⟨v,e,r⟩:=I.vl i t h;⟨v,e,r.mono (zB.ge I.sB s)⟩
 ow:=λi ts h=>let ⟨a,xs,e,b,h0,hh,r,d⟩:=I.ow i ts h;⟨a,xs,e,by rw[zO hh];exact b,h0,s _ _ hh,r.mono (zB.ge I.sB s),d⟩
 xc:=λi c h=>let ⟨a,e,r⟩:=I.xc i c h;⟨a,e,zB.ge I.sB s a _ r⟩
 st:=let ⟨as,O,x⟩:=I.st;⟨as,O,x.on (λ_ _ _ h=>⟨h,rfl⟩) (zB.ge I.sB s) rfl rfl (zm.refl _) λb o h hb h0 _=>⟨s _ _ h,by rw[zO h];exact hb,h0,id⟩⟩
def XP (Y:Fx)(B:Hp)(c:Nat):Prop:=∀(d:Option Addr) (H' :Hp),zm Y.H0 H' ->zm B H' ->Y.E (Y.cl c) d H'
def Po {α β:Type}(Y:Fx)(rel:Hp->Hp->β->α->Prop)(B H:Hp)(r:R α)(Q:β->Hp->Prop):Prop:=match r with
 | .ok a=>∀b H',zm H H' ->rel (zB B H H') H' b a->Q b H'
 | .ex c=>XP Y B c
 | .bad=>False
abbrev rC:Hp->Hp->V->T->Prop:=λB _ v t=>Rep B v t
abbrev rB:Hp->Hp->V->T->Prop:=λ_ H v t=>Rep H v t
abbrev rCs:Hp->Hp->List V->List T->Prop:=λB _ v t=>zr B v t
abbrev rE {α:Type}:Hp->Hp->α->α->Prop:=λ_ _ a b=>a=b
def tS {α β:Type}(Y:Fx)(rel:Hp->Hp->β->α->Prop)(f:En->R α)(ρ:En):Sg->Hp->(β->Hp->Prop)->Prop:=λσ H Q=>∃B,SI Y B ρ σ H/\Po Y rel B H (f ρ) Q
structure Snd (X:Cx) (Y:Fx) (e:Expr) (f:En->R T):Prop where
 mk ::
 go:∀ρ,PE X e (tS Y rC f ρ)
instance {X:Cx}{Y:Fx}{e:Expr}{f:En->R T}:CoeFun (Snd X Y e f) λ_=>∀ρ,PE X e (tS Y rC f ρ):=⟨Snd.go⟩
structure jh (X:Cx) (Y:Fx) (e:Expr) (f:En->R T):Prop where
 mk ::
 go:∀ρ,PE X e (tS Y rB f ρ)
instance {X:Cx}{Y:Fx}{e:Expr}{f:En->R T}:CoeFun (jh X Y e f) λ_=>∀ρ,PE X e (tS Y rB f ρ):=⟨jh.go⟩
structure u6 (X:Cx) (Y:Fx) (e:Expr) (f:En->R Bool):Prop where
 mk ::
 go:∀ρ,PT X e (tS Y rE f ρ)
instance {X:Cx}{Y:Fx}{e:Expr}{f:En->R Bool}:CoeFun (u6 X Y e f) λ_=>∀ρ,PT X e (tS Y rE f ρ):=⟨u6.go⟩
structure uE (X:Cx) (Y:Fx) (es:List Expr) (f:En->R (List T)):Prop where
 mk ::
 go:∀ρ,PA X es (tS Y rCs f ρ)
instance {X:Cx}{Y:Fx}{es:List Expr}{f:En->R (List T)}:CoeFun (uE X Y es f) λ_=>∀ρ,PA X es (tS Y rCs f ρ):=⟨uE.go⟩
theorem step {α α' β β' :Type}{Y:Fx}{rel:Hp->Hp->β->α->Prop}{rel' :Hp->Hp->β' ->α' ->Prop}{f:En->R α}{k:α->R α'}{ρ:En}{B:Hp}{σ:Sg}{H:Hp}{Q:β' ->Hp->Prop}{K:β->Hp->Prop}
  (I:SI Y B ρ σ H) (h:Po Y rel' B H ((f ρ).bind k) Q)
  (n:∀a b H1,f ρ= .ok a->zm H H1->rel (zB B H H1) H1 b a->SI Y (zB B H H1) ρ σ H1->Po Y rel' (zB B H H1) H1 (k a) Q->K b H1):tS Y rel f ρ σ H K:=by
 refine⟨B,I, ?_⟩;cases e:f ρ with
 | bad=>rw[e]at h;exact h
 | ex c=>rw[e]at h;exact h
 | ok a=>
  rw[e]at h;intro b H1 s r;refine n a b H1 e s r (I.grow s) ?_;have h' :Po Y _ B H (k a) Q:=h;revert h';cases k a with
  | bad=>exact λh' =>h'
  | ex c=>exact λh' d H' s0 sB' =>h' d H' s0 ((zB.ge I.sB s).trans sB')
  | ok a' =>exact λh' b' H2 s2 r2=>h' b' H2 (s.trans s2) (by rw[← zB.trans s s2];exact r2)
theorem Zw {α β:Type}{Y:Fx}{rel:Hp->Hp->β->α->Prop}{ρ:En}{B:Hp}{σ:Sg}{H:Hp}{a:α}{b:β}{Q:β->Hp->Prop}(I:SI Y B ρ σ H)(h:Po Y rel B H (.ok a) Q)(r:rel B H b a):Q b H:=h b H (zm.refl H) (by rw[zB.self B H I.sB];exact r)
theorem Snd.b {X:Cx}{Y:Fx}{e:Expr}{f:En->R T}(h:Snd X Y e f):jh X Y e f:= .mk λρ=>PE.imp (h ρ) λσ H Q ⟨B,I,q⟩=>⟨B,I,by
 revert q;cases f ρ with
 | bad=>exact λq=>q
 | ex c=>exact λq=>q
 | ok a=>exact λq b H' s r=>q b H' s (r.mono (zB.le I.sB s))⟩
section
variable {X:Cx}{Y:Fx}{a b c:Expr}{fa fb fc:En->R T}{pos:Pos}
def vE (i:Nat):En->R T:=λρ=>match ρ[i]? with
 | some (.vl t)=> .ok t
 | _=> .bad
def vB (i:Nat):En->R T:=λρ=>match ρ[i]? with
 | some (.vl t)=> .ok t
 | some (.ow ts)=> .ok (.lst ts)
 | _=> .bad
def cE (t:T):En->R T:=λ_=> .ok t
theorem z0P (i:Nat){x:Str}(h:PE X (.Name x pos) (W3 i)):Snd X Y (.Name x pos) (vE i):= .mk λρ=>PE.imp h λσ H Q ⟨B,I,q⟩=>by
 unfold vE at q;split at q
 ·rename_i t e;obtain⟨v,e1,r⟩:=I.vl i t e;exact⟨v,e1,Zw I q r⟩
 ·exact q.elim
theorem kY (i:Nat){x:Str}(h:PE X (.Name x pos) (W3 i)):jh X Y (.Name x pos) (vB i):= .mk λρ=>PE.imp h λσ H Q ⟨B,I,q⟩=>by
 unfold vB at q;split at q
 ·rename_i t e;obtain⟨v,e1,r⟩:=I.vl i t e;exact⟨v,e1,Zw I q (r.mono I.sB)⟩
 ·rename_i ts e;obtain⟨a,xs,e1,_,_,hh,r,_⟩:=I.ow i ts e;exact⟨.ref a,e1,Zw I q (.lst hh (r.mono I.sB))⟩
 ·exact q.elim
theorem z0Q {i j}:Snd X Y (.Constant (.int i) j pos) (cE (.int i)):= .mk λρ=>PE.imp km λσ H Q ⟨B,I,q⟩=>Zw I q (.int i)
theorem s_bl {i j}:Snd X Y (.Constant (.bool i) j pos) (cE (.bl i)):= .mk λρ=>PE.imp z0r λσ H Q ⟨B,I,q⟩=>Zw I q (.bl i)
theorem z0R {i j}:Snd X Y (.Constant (.str i) j pos) (cE (.str i)):= .mk λρ=>PE.imp vR λσ H Q ⟨B,I,q⟩=>Zw I q (.str i)
def ze:En->R (List T):=λ_=> .ok []
def za (f:En->R T)(g:En->R (List T)):En->R (List T):=λρ=>(f ρ).bind λt=>(g ρ).bind λts=> .ok (t :: ts)
theorem z0S:uE X Y [] ze:= .mk λρ=>PA.imp zD λσ H Q ⟨B,I,q⟩=>Zw I q .nil
theorem kZ {es:List Expr}{g:En->R (List T)}(h:Snd X Y a fa)(hs:uE X Y es g)(hq:starEach (a :: es) X.env=(false,eval a X.env) :: starEach es X.env:=by exact zE rfl):uE X Y (a :: es) (za fa g):= .mk λρ=>
 PA.imp (zj (h ρ) (hs ρ) hq) λσ H Q ⟨B,I,q⟩=>step I q λt v H1 _ s1 r1 I1 q1=>step I1 q1 λts vs H2 _ s2 r2 I2 q2=>Zw I2 q2 (.cons (r1.mono (zB.ge I1.sB s2)) r2)
theorem zm.new {H:Hp}{p:Addr}(h:H p=none)(o:HO):zm H (upd H p o):=λb u q=>by rw[zf (zv q h)];exact q
theorem j9 {B H:Hp}{p:Addr}(h:H p=none)(o:HO):zB B H (upd H p o) p=some o:=by rw[zR h,zl]
noncomputable def bnd:Nat:=16777216
theorem Zf {n:Nat}(h:n<=bnd):n<=sizeLine:=by exact h
def Z1 (g:En->R (List T)):En->R T:=λρ=>(g ρ).bind λts=>if ts.length<=bnd then .ok (.tup ts) else .bad
def j4 (g:En->R (List T)):En->R T:=λρ=>(g ρ).bind λts=>if ts.length<=bnd then .ok (.lst ts) else .bad
theorem xa {ρ:En}{σ:Sg}{B H:Hp}{xs:List V}{ts:List T}(I:SI Y B ρ σ H)(r:zr B xs ts){p:Addr}(h:H p=none):Rep (zB B H (upd H p (.tup xs))) (.ref p) (.tup ts):=
 .tup (j9 h _) (r.mono (zB.ge I.sB (zm.new h _)))
theorem xb {ρ:En}{σ:Sg}{B H:Hp}{xs:List V}{ts:List T}(I:SI Y B ρ σ H)(r:zr B xs ts){p:Addr}(h:H p=none):Rep (zB B H (upd H p (.lst xs))) (.ref p) (.lst ts):=
 .lst (j9 h _) (r.mono (zB.ge I.sB (zm.new h _)))
theorem z0T {es:List Expr}{g:En->R (List T)}{x1}(h:uE X Y es g):Snd X Y (.Tuple es x1 pos) (Z1 g):= .mk λρ=>PE.imp (vV (h ρ)) λσ H Q ⟨B,I,q⟩=>
 step I q λts vs H1 _ s1 r1 I1 q1=>by
  split at q1
  ·rename_i hb;refine⟨by rw[r1.length];exact Zf hb,λp hp=>q1 _ _ (zm.new hp _) (xa I1 r1 hp)⟩
  ·exact q1.elim
theorem z0U {es:List Expr}{g:En->R (List T)}(h:uE X Y es g):Snd X Y (.List es pos) (j4 g):= .mk λρ=>PE.imp (yr (h ρ)) λσ H Q ⟨B,I,q⟩=>
 step I q λts vs H1 _ s1 r1 I1 q1=>by
  split at q1
  ·rename_i hb;refine⟨by rw[r1.length];exact Zf hb,λp hp=>q1 _ _ (zm.new hp _) (xb I1 r1 hp)⟩
  ·exact q1.elim
end
end PV
namespace PV
open PySem PySem.Spec PyProof.Rows L2
noncomputable def eqL (f:T->T->Option Bool):List T->List T->Option Bool
 | [],[]=>some true
 | [],_ :: _=>some false
 | _ :: _,[]=>some false
 | x :: xs,y :: ys=>match f x y with
  | none=>none
  | some b=>match eqL f xs ys with
   | none=>none
   | some c=>some (b && c)
noncomputable def b2 (b:Bool):Int:=if b then 1 else 0
def eqF:Nat->T->T->Option Bool
 | _,.non,.non=>some true
 | _,.bl a,.bl b=>some (a == b)
 | _,.bl a,.int j=>some (b2 a == j)
 | _,.int i,.bl b=>some (i == b2 b)
 | _,.int i,.int j=>some (i == j)
 | _,.str x,.str y=>some (x == y)
 | n+1,.tup xs,.tup ys=>eqL (eqF n) xs ys
 | n+1,.lst xs,.lst ys=>eqL (eqF n) xs ys
 | n+1,.fz xs,.lst ys=>eqL (eqF n) xs ys
 | n+1,.lst xs,.fz ys=>eqL (eqF n) xs ys
 | n+1,.fz xs,.fz ys=>eqL (eqF n) xs ys
 | 0,.tup _,.tup _=>none
 | 0,.lst _,.lst _=>none
 | 0,.fz _,.lst _=>none
 | 0,.lst _,.fz _=>none
 | 0,.fz _,.fz _=>none
 | _,.non,_=>some false
 | _,.bl _,_=>some false
 | _,.int _,_=>some false
 | _,.str _,_=>some false
 | _,.tup _,_=>some false
 | _,.lst _,_=>some false
 | _,.fz _,_=>some false
mutual
theorem Rep.fn {H:Hp}:∀{v:V} {t t' :T},Rep H v t->Rep H v t' ->t=t'
 | _,_,_,.non,.non=>rfl
 | _,_,_,.bl _,.bl _=>rfl
 | _,_,_,.int _,.int _=>rfl
 | _,_,_,.str _,.str _=>rfl
 | _,_,_,.tup h r,.tup h' r' =>by
  rw[h]at h';cases h';rw[zr.fn r r']
 | _,_,_,.tup h r,.lst h' r' =>by rw[h]at h';cases h'
 | _,_,_,.tup h r,.fz h' r' =>by rw[h]at h';cases h'
 | _,_,_,.lst h r,.tup h' r' =>by rw[h]at h';cases h'
 | _,_,_,.lst h r,.lst h' r' =>by
  rw[h]at h';cases h';rw[zr.fn r r']
 | _,_,_,.lst h r,.fz h' r' =>by rw[h]at h';cases h'
 | _,_,_,.fz h r,.tup h' r' =>by rw[h]at h';cases h'
 | _,_,_,.fz h r,.lst h' r' =>by rw[h]at h';cases h'
 | _,_,_,.fz h r,.fz h' r' =>by
  rw[h]at h';cases h';rw[zr.fn r r']
theorem zr.fn {H:Hp}:∀{v:List V} {t t' :List T},zr H v t->zr H v t' ->t=t'
 | _,_,_,.nil,.nil=>rfl
 | _,_,_,.cons h r,.cons h' r' =>by rw[Rep.fn h h',zr.fn r r']
end
theorem Z9 {f:T->T->Option Bool}(hf:∀x b,f x x=some b->b=true):∀(xs:List T) (b:Bool),eqL f xs xs=some b->b=true
 | [],b,h=>by
  have h' :=h;cases h';rfl
 | x :: xs,b,h=>by
  unfold eqL at h;cases e:f x x with
  | none=>rw[e]at h;cases h
  | some c=>
   rw[e]at h;cases e' :eqL f xs xs with
   | none=>rw[e']at h;cases h
   | some d=>
    rw[e']at h;cases h;rw[hf x c e,Z9 hf xs d e'];rfl
theorem zV:∀(n:Nat) (t:T) (b:Bool),eqF n t t=some b->b=true
 | n,.non,b,h=>by unfold eqF at h;cases h;rfl
 | n,.bl x,b,h=>by unfold eqF at h;cases h;simp
 | n,.int x,b,h=>by unfold eqF at h;cases h;simp
 | n,.str x,b,h=>by unfold eqF at h;cases h;simp
 | 0,.tup x,b,h=>by cases h
 | 0,.lst x,b,h=>by cases h
 | 0,.fz x,b,h=>by cases h
 | n+1,.tup x,b,h=>by exact Z9 (zV n) x b h
 | n+1,.lst x,b,h=>by exact Z9 (zV n) x b h
 | n+1,.fz x,b,h=>by exact Z9 (zV n) x b h
theorem yA {f:T->T->Option Bool}:∀{xs ys:List T} {b:Bool},eqL f xs ys=some b->
  ∃e:Nat->Bool,(∀j x y,xs[j]? =some x->ys[j]? =some y->f x y=some (e j))/\((aY (min xs.length ys.length)).all e && xs.length == ys.length)=b
 | [],[],b,h=>by
  have h' :=h;cases h';exact⟨λ_=>true,λj x y h=>by simp at h,by simp⟩
 | [],y :: ys,b,h=>by
  have h' :=h;cases h';exact⟨λ_=>true,λj x y h=>by simp at h,by simp⟩
 | x :: xs,[],b,h=>by
  have h' :=h;cases h';exact⟨λ_=>true,λj x y h h' =>by simp at h',by simp⟩
 | x :: xs,y :: ys,b,h=>by
  unfold eqL at h;cases e:f x y with
  | none=>rw[e]at h;cases h
  | some c=>
   rw[e]at h;cases e' :eqL f xs ys with
   | none=>rw[e']at h;cases h
   | some d=>
    rw[e']at h;cases h;obtain⟨g,h1,h2⟩:=yA e';refine⟨λj=>match j with | 0=>c | j+1=>g j,λj u v hu hv=> ?_, ?_⟩
    ·cases j with
     | zero=>simp at hu hv;subst hu hv;exact e
     | succ j=>exact h1 j u v (by simpa using hu) (by simpa using hv)
    ·have z:min (x :: xs).length (y :: ys).length=min xs.length ys.length+1:=by simp only[ay];omega
     rw[z,cS,cY,iL];have z2:((x :: xs).length == (y :: ys).length)=(xs.length == ys.length):=by simp
     rw[z2,← h2,Bool.and_assoc];rfl
section
variable {X:Cx}{pins:List (Addr×Obj)}{σ:Sg}{H:Hp}{s:Shared}
theorem Zs {a:Addr}{xs:List V}{ts:List T}(I:L2.Inv X pins σ H s)(h:H a=some (.tup xs))(r:zr H xs ts):∃its:List Value,Vals xs its/\s.heap.IsTuple a its.toArray/\ts.length=its.length/\xs.length<=sizeLine:=by
 obtain⟨its,rv,p,z⟩:=I.tuple (SqT.of h);exact⟨its,rv,p,by rw[← r.length];exact rv.length,z⟩
theorem zH {a:Addr}{xs:List V}{ts:List T}(I:L2.Inv X pins σ H s)(h:Rd H a (.lst xs))(r:zr H xs ts):∃its:List Value,Vals xs its/\s.heap.IsList a its.toArray/\ts.length=its.length/\xs.length<=sizeLine:=by
 obtain⟨its,rv,p,z⟩:=I.list (.inl h);exact⟨its,rv,p.isList,by rw[← r.length];exact rv.length,z⟩
end
noncomputable abbrev EqN (A:Around)(s:Shared)(u u' :Value)(b:Bool):Prop:=cP A s u u' b/\g_ A s u u' b/\dP A s u u' (!b)
section
variable {X:Cx}{pins:List (Addr×Obj)}{σ:Sg}{H:Hp}{s:Shared}
theorem yB {xs ys:List V}{ts us:List T}{its its' :List Value}{A:Around}{f:T->T->Option Bool}{e:Nat->Bool}(r:zr H xs ts)(r' :zr H ys us)(v:Vals xs its)(v' :Vals ys its')
  (he:∀(j:Nat) (x y:T),ts[j]? =some x->us[j]? =some y->f x y=some (e j))
  (ih:∀(x y:T) (b:Bool) (p q:V) (u w:Value),f x y=some b->Rep H p x->Rep H q y->RelV p u->RelV q w->EqN A s u w b) (j:Nat) (h1:j < its.toArray.size) (h2:j < its'.toArray.size):
  cP A s its.toArray[j] its'.toArray[j] (e j):=by
 have l1:=v.length;have l2:=v'.length;have k1:j < xs.length:=by simp at h1;omega
 have k2:j < ys.length:=by simp at h2;omega
 obtain⟨t,et,rt⟩:=r.getV (aj k1);obtain⟨t',et',rt'⟩:=r'.getV (aj k2);obtain⟨u,eu,ru⟩:=v.get (aj k1);obtain⟨u',eu',ru'⟩:=v'.get (aj k2);have q1:=by
  have:its[j]? =some its.toArray[j]:=by simp at h1 ⊢
  rw[eu]at this;exact(aI this).symm
 have q2:=by
  have:its'[j]? =some its'.toArray[j]:=by simp at h2 ⊢
  rw[eu']at this;exact(aI this).symm
 rw[q1,q2];exact(ih t t' _ _ _ u u' (he j t t' et et') rt rt' ru ru').1
theorem xf {A:Around}{a c:Addr}{xs ys:List V}{ts us:List T}{b:Bool}{f:T->T->Option Bool}(I:L2.Inv X pins σ H s)(hu:A.units < cLine)(ha:H a=some (.tup xs))(hc:H c=some (.tup ys))(r:zr H xs ts)(r' :zr H ys us)
  (hb:eqL f ts us=some b) (hr:∀x b,f x x=some b->b=true)
  (ih:∀(x y:T) (b:Bool) (p q:V) (u w:Value),f x y=some b->Rep H p x->Rep H q y->RelV p u->RelV q w->EqN A.in1 s u w b):EqN A s (.ref a) (.ref c) b:=by
 obtain⟨its,v,p,l,_⟩:=Zs I ha r;obtain⟨its',v',p',l',_⟩:=Zs I hc r';obtain⟨e,he,hb'⟩:=yA hb;have hp:=yB r r' v v' he ih;have z:((aY (min its.toArray.size its'.toArray.size)).all e && its.toArray.size == its'.toArray.size)=b:=by
  rw[← hb'];simp[l,l']
 have R:=g_.tuples p p' hu hp;have N:=dP.tuples p p' hu hp;rw[z]at R;have N' :dP A s (.ref a) (.ref c) (!b):=by
  rw[← z];exact N
 refine⟨?_,R,N'⟩
 by_cases hac:a=c
 ·subst hac;rw[ha]at hc;cases hc;have:=r.fn r';subst this;rw[Z9 hr ts b hb];exact lu _
 ·exact ir hac R
theorem wu {A:Around}{a c:Addr}{xs ys:List V}{ts us:List T}{b:Bool}{f:T->T->Option Bool}(I:L2.Inv X pins σ H s)(hu:A.units < cLine)(ha:Rd H a (.lst xs))(hc:Rd H c (.lst ys))(r:zr H xs ts)(r' :zr H ys us)
  (hb:eqL f ts us=some b) (hr:∀x b,f x x=some b->b=true)
  (ih:∀(x y:T) (b:Bool) (p q:V) (u w:Value),f x y=some b->Rep H p x->Rep H q y->RelV p u->RelV q w->EqN A.in1 s u w b):EqN A s (.ref a) (.ref c) b:=by
 obtain⟨its,v,p,l,_⟩:=zH I ha r;obtain⟨its',v',p',l',_⟩:=zH I hc r';obtain⟨e,he,hb'⟩:=yA hb;have hp:=yB r r' v v' he ih;have RN:g_ A s (.ref a) (.ref c) b/\dP A s (.ref a) (.ref c) (!b):=by
  by_cases hl:its.toArray.size=its'.toArray.size
  ·have z:(aY its.toArray.size).all e=b:=by
    rw[← hb'];have:ts.length=us.length:=by simp at hl;omega
    rw[this];have k:its.toArray.size=us.length:=by simp;omega
    rw[k];simp
   have R:=g_.lists p p' hl hu hp;have N:=dP.lists p p' hl hu hp;rw[z]at R;refine⟨R, ?_⟩;rw[← z];exact N
  ·have hl' :(its.toArray.size != its'.toArray.size)=true:=by simpa using hl
   have z:b=false:=by
    rw[← hb'];have:¬ ts.length=us.length:=by simp at hl;omega
    simp[this]
   subst z;exact⟨g_.lists_lengths p p' hl' hu,dP.lists_lengths p p' hl' hu⟩
 refine⟨?_,RN.1,RN.2⟩
 by_cases hac:a=c
 ·subst hac;have hxy:xs=ys:=by
   rcases ha with ha | ⟨o,ha⟩ <;> rcases hc with hc | ⟨o',hc⟩ <;> (rw[ha]at hc;cases hc) <;> rfl
  subst hxy;have:=r.fn r';subst this;rw[Z9 hr ts b hb];exact lu _
 ·exact ir hac RN.1
end
section
variable {X:Cx}{pins:List (Addr×Obj)}{σ:Sg}{H:Hp}{s:Shared}
theorem Wh {A:Around}:A.in1.units=A.units+1:=rfl
set_option maxHeartbeats 2000000 in
theorem yC (I:L2.Inv X pins σ H s):∀(A:Around),A.units < cLine->∀(x y:T) (b:Bool) (p q:V) (u w:Value),eqF 0 x y=some b->Rep H p x->Rep H q y->RelV p u->RelV q w->EqN A s u w b:=by
 intro A hu x y b p q u w h rp rq ru rw';have hu' :=hu;cases rp with
 | non=>
  obtain rfl:u=Value.none:=ru;cases rq with
  | non=>obtain rfl:w=Value.none:=rw';unfold eqF at h;cases h;exact⟨.same _,.none_none,.none_none⟩
  | bl c=>obtain rfl:w=Value.bool c:=rw';unfold eqF at h;cases h;exact⟨.none_bool _,.none_bool _,.none_bool _⟩
  | int c=>obtain⟨t,rfl⟩:=rw';unfold eqF at h;cases h;exact⟨.none_int _ _,.none_int _ _,.none_int _ _⟩
  | str c=>obtain⟨t,rfl⟩:=rw';unfold eqF at h;cases h;exact⟨.none_str _ _,.none_str _ _,.none_str _ _⟩
  | tup h1 r1=>obtain rfl:w=Value.ref _:=rw';unfold eqF at h;cases h;obtain⟨i,_,p,_⟩:=Zs I h1 r1;exact⟨.none_tuple p hu',.none_tuple p hu',.none_tuple p hu'⟩
  | lst h1 r1=>obtain rfl:w=Value.ref _:=rw';unfold eqF at h;cases h;obtain⟨i,_,p,_⟩:=zH I (.inl h1) r1;exact⟨.none_list p hu',.none_list p hu',.none_list p hu'⟩
  | fz h1 r1=>obtain rfl:w=Value.ref _:=rw';unfold eqF at h;cases h;obtain⟨i,_,p,_⟩:=zH I (.inr ⟨_,h1⟩) r1;exact⟨.none_list p hu',.none_list p hu',.none_list p hu'⟩
 | bl d=>
  obtain rfl:u=Value.bool d:=ru;cases rq with
  | non=>obtain rfl:w=Value.none:=rw';unfold eqF at h;cases h;exact⟨.bool_none _,.bool_none _,.bool_none _⟩
  | bl c=>obtain rfl:w=Value.bool c:=rw';unfold eqF at h;cases h;exact⟨.bool_bool _ _,.bool_bool _ _,.bool_bool _ _⟩
  | int c=>obtain⟨t,rfl⟩:=rw';unfold eqF at h;cases h;exact⟨.bool_int _ _ _,.bool_int _ _ _,.bool_int _ _ _⟩
  | str c=>obtain⟨t,rfl⟩:=rw';unfold eqF at h;cases h;exact⟨.bool_str _ _ _,.bool_str _ _ _,.bool_str _ _ _⟩
  | tup h1 r1=>obtain rfl:w=Value.ref _:=rw';unfold eqF at h;cases h;obtain⟨i,_,p,_⟩:=Zs I h1 r1;exact⟨.bool_tuple _ p hu',.bool_tuple _ p hu',.bool_tuple _ p hu'⟩
  | lst h1 r1=>obtain rfl:w=Value.ref _:=rw';unfold eqF at h;cases h;obtain⟨i,_,p,_⟩:=zH I (.inl h1) r1;exact⟨.bool_list _ p hu',.bool_list _ p hu',.bool_list _ p hu'⟩
  | fz h1 r1=>obtain rfl:w=Value.ref _:=rw';unfold eqF at h;cases h;obtain⟨i,_,p,_⟩:=zH I (.inr ⟨_,h1⟩) r1;exact⟨.bool_list _ p hu',.bool_list _ p hu',.bool_list _ p hu'⟩
 | int d=>
  obtain⟨t0,rfl⟩:=ru;cases rq with
  | non=>obtain rfl:w=Value.none:=rw';unfold eqF at h;cases h;exact⟨.int_none _ _,.int_none _ _,.int_none _ _⟩
  | bl c=>obtain rfl:w=Value.bool c:=rw';unfold eqF at h;cases h;exact⟨.int_bool _ _ _,.int_bool _ _ _,.int_bool _ _ _⟩
  | int c=>obtain⟨t,rfl⟩:=rw';unfold eqF at h;cases h;exact⟨.int_int _ _ _ _,.int_int _ _ _ _,.int_int _ _ _ _⟩
  | str c=>obtain⟨t,rfl⟩:=rw';unfold eqF at h;cases h;exact⟨.int_str _ _ _ _,.int_str _ _ _ _,.int_str _ _ _ _⟩
  | tup h1 r1=>obtain rfl:w=Value.ref _:=rw';unfold eqF at h;cases h;obtain⟨i,_,p,_⟩:=Zs I h1 r1;exact⟨.int_tuple _ _ p hu',.int_tuple _ _ p hu',.int_tuple _ _ p hu'⟩
  | lst h1 r1=>obtain rfl:w=Value.ref _:=rw';unfold eqF at h;cases h;obtain⟨i,_,p,_⟩:=zH I (.inl h1) r1;exact⟨.int_list _ _ p hu',.int_list _ _ p hu',.int_list _ _ p hu'⟩
  | fz h1 r1=>obtain rfl:w=Value.ref _:=rw';unfold eqF at h;cases h;obtain⟨i,_,p,_⟩:=zH I (.inr ⟨_,h1⟩) r1;exact⟨.int_list _ _ p hu',.int_list _ _ p hu',.int_list _ _ p hu'⟩
 | str d=>
  obtain⟨t0,rfl⟩:=ru;cases rq with
  | non=>obtain rfl:w=Value.none:=rw';unfold eqF at h;cases h;exact⟨.str_none _ _,.str_none _ _,.str_none _ _⟩
  | bl c=>obtain rfl:w=Value.bool c:=rw';unfold eqF at h;cases h;exact⟨.str_bool _ _ _,.str_bool _ _ _,.str_bool _ _ _⟩
  | int c=>obtain⟨t,rfl⟩:=rw';unfold eqF at h;cases h;exact⟨.str_int _ _ _ _,.str_int _ _ _ _,.str_int _ _ _ _⟩
  | str c=>obtain⟨t,rfl⟩:=rw';unfold eqF at h;cases h;exact⟨.str_str _ _ _ _,.str_str _ _ _ _,.str_str _ _ _ _⟩
  | tup h1 r1=>obtain rfl:w=Value.ref _:=rw';unfold eqF at h;cases h;obtain⟨i,_,p,_⟩:=Zs I h1 r1;exact⟨.str_tuple _ _ p hu',.str_tuple _ _ p hu',.str_tuple _ _ p hu'⟩
  | lst h1 r1=>obtain rfl:w=Value.ref _:=rw';unfold eqF at h;cases h;obtain⟨i,_,p,_⟩:=zH I (.inl h1) r1;exact⟨.str_list _ _ p hu',.str_list _ _ p hu',.str_list _ _ p hu'⟩
  | fz h1 r1=>obtain rfl:w=Value.ref _:=rw';unfold eqF at h;cases h;obtain⟨i,_,p,_⟩:=zH I (.inr ⟨_,h1⟩) r1;exact⟨.str_list _ _ p hu',.str_list _ _ p hu',.str_list _ _ p hu'⟩
 | tup h0 r0=>
  obtain rfl:u=Value.ref _:=ru;obtain⟨i0,_,p0,_⟩:=Zs I h0 r0;cases rq with
  | non=>obtain rfl:w=Value.none:=rw';unfold eqF at h;cases h;exact⟨.tuple_none p0 hu',.tuple_none p0 hu',.tuple_none p0 hu'⟩
  | bl c=>obtain rfl:w=Value.bool c:=rw';unfold eqF at h;cases h;exact⟨.tuple_bool _ p0 hu',.tuple_bool _ p0 hu',.tuple_bool _ p0 hu'⟩
  | int c=>obtain⟨t,rfl⟩:=rw';unfold eqF at h;cases h;exact⟨.tuple_int _ _ p0 hu',.tuple_int _ _ p0 hu',.tuple_int _ _ p0 hu'⟩
  | str c=>obtain⟨t,rfl⟩:=rw';unfold eqF at h;cases h;exact⟨.tuple_str _ _ p0 hu',.tuple_str _ _ p0 hu',.tuple_str _ _ p0 hu'⟩
  | tup h1 r1=>unfold eqF at h;cases h
  | lst h1 r1=>obtain rfl:w=Value.ref _:=rw';unfold eqF at h;cases h;obtain⟨i,_,p,_⟩:=zH I (.inl h1) r1;exact⟨.tuple_list p0 p hu',.tuple_list p0 p hu',.tuple_list p0 p hu'⟩
  | fz h1 r1=>obtain rfl:w=Value.ref _:=rw';unfold eqF at h;cases h;obtain⟨i,_,p,_⟩:=zH I (.inr ⟨_,h1⟩) r1;exact⟨.tuple_list p0 p hu',.tuple_list p0 p hu',.tuple_list p0 p hu'⟩
 | lst h0 r0=>
  obtain rfl:u=Value.ref _:=ru;obtain⟨i0,_,p0,_⟩:=zH I (.inl h0) r0;cases rq with
  | non=>obtain rfl:w=Value.none:=rw';unfold eqF at h;cases h;exact⟨.list_none p0 hu',.list_none p0 hu',.list_none p0 hu'⟩
  | bl c=>obtain rfl:w=Value.bool c:=rw';unfold eqF at h;cases h;exact⟨.list_bool _ p0 hu',.list_bool _ p0 hu',.list_bool _ p0 hu'⟩
  | int c=>obtain⟨t,rfl⟩:=rw';unfold eqF at h;cases h;exact⟨.list_int _ _ p0 hu',.list_int _ _ p0 hu',.list_int _ _ p0 hu'⟩
  | str c=>obtain⟨t,rfl⟩:=rw';unfold eqF at h;cases h;exact⟨.list_str _ _ p0 hu',.list_str _ _ p0 hu',.list_str _ _ p0 hu'⟩
  | tup h1 r1=>obtain rfl:w=Value.ref _:=rw';unfold eqF at h;cases h;obtain⟨i,_,p,_⟩:=Zs I h1 r1;exact⟨.list_tuple p0 p hu',.list_tuple p0 p hu',.list_tuple p0 p hu'⟩
  | lst h1 r1=>unfold eqF at h;cases h
  | fz h1 r1=>unfold eqF at h;cases h
 | fz h0 r0=>
  obtain rfl:u=Value.ref _:=ru;obtain⟨i0,_,p0,_⟩:=zH I (.inr ⟨_,h0⟩) r0;cases rq with
  | non=>obtain rfl:w=Value.none:=rw';unfold eqF at h;cases h;exact⟨.list_none p0 hu',.list_none p0 hu',.list_none p0 hu'⟩
  | bl c=>obtain rfl:w=Value.bool c:=rw';unfold eqF at h;cases h;exact⟨.list_bool _ p0 hu',.list_bool _ p0 hu',.list_bool _ p0 hu'⟩
  | int c=>obtain⟨t,rfl⟩:=rw';unfold eqF at h;cases h;exact⟨.list_int _ _ p0 hu',.list_int _ _ p0 hu',.list_int _ _ p0 hu'⟩
  | str c=>obtain⟨t,rfl⟩:=rw';unfold eqF at h;cases h;exact⟨.list_str _ _ p0 hu',.list_str _ _ p0 hu',.list_str _ _ p0 hu'⟩
  | tup h1 r1=>obtain rfl:w=Value.ref _:=rw';unfold eqF at h;cases h;obtain⟨i,_,p,_⟩:=Zs I h1 r1;exact⟨.list_tuple p0 p hu',.list_tuple p0 p hu',.list_tuple p0 p hu'⟩
  | lst h1 r1=>unfold eqF at h;cases h
  | fz h1 r1=>unfold eqF at h;cases h
set_option maxHeartbeats 2000000 in
theorem xg (I:L2.Inv X pins σ H s):∀(n:Nat) (A:Around),A.units+n < cLine->∀(x y:T) (b:Bool) (p q:V) (u w:Value),eqF n x y=some b->Rep H p x->Rep H q y->RelV p u->RelV q w->EqN A s u w b:=by
 intro n
 induction n with
 | zero=>exact λA hu x y b p q u w h=>yC I A (by omega) x y b p q u w h
 | succ n ih=>
  intro A hu x y b p q u w h rp rq ru rw';have low:=λh=>yC I A (by omega) x y b p q u w h rp rq ru rw'
  have hu' :A.units < cLine:=by omega
  have ih' :=ih A.in1 (by rw[Wh];omega)
  cases rp with
  | tup h0 r0=>
   cases rq with
   | tup h1 r1=>
    obtain rfl:u=Value.ref _:=ru;obtain rfl:w=Value.ref _:=rw';exact xf I hu' h0 h1 r0 r1 h (zV n) ih'
   | _=>exact low (by exact h)
  | lst h0 r0=>
   cases rq with
   | lst h1 r1=>
    obtain rfl:u=Value.ref _:=ru;obtain rfl:w=Value.ref _:=rw';exact wu I hu' (.inl h0) (.inl h1) r0 r1 h (zV n) ih'
   | fz h1 r1=>
    obtain rfl:u=Value.ref _:=ru;obtain rfl:w=Value.ref _:=rw';exact wu I hu' (.inl h0) (.inr ⟨_,h1⟩) r0 r1 h (zV n) ih'
   | _=>exact low (by exact h)
  | fz h0 r0=>
   cases rq with
   | lst h1 r1=>
    obtain rfl:u=Value.ref _:=ru;obtain rfl:w=Value.ref _:=rw';exact wu I hu' (.inr ⟨_,h0⟩) (.inl h1) r0 r1 h (zV n) ih'
   | fz h1 r1=>
    obtain rfl:u=Value.ref _:=ru;obtain rfl:w=Value.ref _:=rw';exact wu I hu' (.inr ⟨_,h0⟩) (.inr ⟨_,h1⟩) r0 r1 h (zV n) ih'
   | _=>exact low (by exact h)
  | _=>exact low (by cases rq <;> (exact h))
end
section
variable {X:Cx}{Y:Fx}{a b c d:Expr}{fa fb fc fd:En->R T}{pos:Pos}
def rG (Y:Fx)(g:T->T->R T):R2:=λx y H Q=>∃B t t',zm B H/\Rep B x t/\Rep B y t' /\Po Y rC B H (g t t') Q
def zd (g:T->T->R T)(fa fb:En->R T):En->R T:=λρ=>(fa ρ).bind λx=>(fb ρ).bind λy=>g x y
theorem u7 {op:Operator}{g:T->T->R T}(ho:OpR X (binaryOp op) (rG Y g))(ha:Snd X Y a fa)(hb:Snd X Y b fb):Snd X Y (.BinOp a op b pos) (zd g fa fb):= .mk λρ=>
 PE.imp (z0D ho (ha ρ) (hb ρ)) λσ H Q ⟨B,I,q⟩=>step I q λt v H1 _ s1 r1 I1 q1=>step I1 q1 λt' v' H2 _ s2 r2 I2 q2=>
  ⟨_,t,t',I2.sB,r1.mono (zB.ge I1.sB s2),r2,q2⟩
theorem po0 {g:R T}{B H:Hp}{Q:VK}{t:T}{v:V}(sB:zm B H)(q:Po Y rC B H g Q)(e:g= .ok t)(r:Rep B v t):Q v H:=by
 subst e;exact q v H (zm.refl H) (by rw[zB.self B H sB];exact r)
theorem XW {g:R T}{B H:Hp}{Q:VK}{ts:List T}{xs:List V}{p:Addr}(sB:zm B H)(q:Po Y rC B H g Q)(e:g= .ok (.tup ts))(r:zr B xs ts)(h:H p=none):Q (.ref p) (upd H p (.tup xs)):=by
 subst e;exact q _ _ (zm.new h _) (.tup (j9 h _) (r.mono (zB.ge sB (zm.new h _))))
theorem z0V {g:R T}{B H:Hp}{Q:VK}{ts:List T}{xs:List V}{p:Addr}(sB:zm B H)(q:Po Y rC B H g Q)(e:g= .ok (.lst ts))(r:zr B xs ts)(h:H p=none):Q (.ref p) (upd H p (.lst xs)):=by
 subst e;exact q _ _ (zm.new h _) (.lst (j9 h _) (r.mono (zB.ge sB (zm.new h _))))
def zy:T->T->R T
 | .int i,.int j=> .ok (.int (i+j))
 | .bl x,.int j=> .ok (.int (b2 x+j))
 | .int i,.bl y=> .ok (.int (i+b2 y))
 | .str x,.str y=>if x.length+y.length<=bnd then .ok (.str (x++y)) else .bad
 | .tup xs,.tup ys=>if xs.length+ys.length<=bnd then .ok (.tup (xs++ys)) else .bad
 | .lst xs,.lst ys=>if xs.length+ys.length<=bnd then .ok (.lst (xs++ys)) else .bad
 | _,_=> .bad
theorem Qo {prog:Program}{w:World}{A:Around}{E:Value->Shared->Prop}{s:Shared}{t b:Addr}{vs ws:List Value}{Q:Value->Shared->Prop}(ht:IsTup s.heap t vs.toArray)(hb:IsTup s.heap b ws.toArray)(hv:vs=[])
  (h1:Q (.ref b) s):wpAny (model prog w) A (binaryOp .Add (.ref t) (.ref b)) Q E s:=by
 obtain⟨⟨cls,dd,data,sl⟩,ho,hc,n,hd⟩:=id ht;obtain⟨⟨cls2,dd2,data2,sl2⟩,ho2,hc2,n2,hd2⟩:=id hb;subst hc hd hc2 hd2;exact concat_meets ⟨_,ho,rfl⟩ ⟨_,ho2,rfl⟩ noFill_tuple_add seq_tuple_add dM dH (dy _ _)
   (tuple_addW0 t b _ _ n n2 dd dd2 sl sl2 (by simp[hv])) ⟨ho,ho2,h1⟩
theorem xh:OpR X (binaryOp .Add) (rG Y zy):=by
 intro pins s σ H x y v u Q I rx ry h;obtain⟨B,t,t',sB,r,r',q⟩:=h;cases r with
 | int i=>
  cases r' with
  | int j=>exact kC pins s σ H _ _ v u Q I rx ry ⟨i,j,rfl,rfl,po0 sB q rfl (.int _)⟩
  | bl y=>exact yl pins s σ H _ _ v u Q I rx ry ⟨i,y,rfl,rfl,po0 sB q rfl (.int _)⟩
  | _=>exact q.elim
 | bl x=>
  cases r' with
  | int j=>
   obtain rfl:v=Value.bool x:=rx;obtain⟨tk,rfl⟩:=ry;exact IntBool.add_bool_int (⟨.int _,H,I.tok _,⟨_,rfl⟩,po0 sB q rfl (.int _)⟩)
  | _=>exact q.elim
 | str x=>
  cases r' with
  | str y=>
   by_cases hb:x.length+y.length<=bnd
   ·exact Uv pins s σ H _ _ v u Q I rx ry ⟨x,y,rfl,rfl,Zf hb,po0 sB q (if_pos hb) (.str _)⟩
   ·rw[show zy (.str x) (.str y)= .bad from if_neg hb]at q;exact q.elim
  | _=>exact q.elim
 | @tup a xs ts h1 r1=>
  cases r' with
  | @tup a' ys us h2 r2=>
   by_cases hb:ts.length+us.length<=bnd
   ·have eg:zy (.tup ts) (.tup us)= .ok _:=if_pos hb;have hz:xs.length+ys.length<=sizeLine:=by rw[r1.length,r2.length];exact Zf hb
    by_cases hx:xs=[]
    ·obtain rfl:v=Value.ref a:=rx;obtain rfl:u=Value.ref a' :=ry;obtain⟨its,rv,p,_⟩:=I.tuple (SqT.of (sB _ _ h1));obtain⟨its',rv',p',_⟩:=I.tuple (SqT.of (sB _ _ h2));have et:=r1.nil_iff.mp hx;refine Qo p p' (rv.nil_iff.mpr hx) ⟨.ref a',H,I,rfl,po0 sB q eg ?_⟩;rw[et];exact .tup h2 r2
    ·refine VW _ s σ H _ _ v u Q I rx ry ⟨a,a',xs,ys,rfl,rfl,SqT.of (sB _ _ h1),SqT.of (sB _ _ h2),hx,hz,λhy=> ?_,λhy p hp=> ?_⟩
     ·refine po0 sB q eg ?_;rw[r2.nil_iff.mp hy,bJ];exact .tup h1 r1
     ·exact XW sB q eg (r1.append r2) hp
   ·rw[show zy (.tup ts) (.tup us)= .bad from if_neg hb]at q;exact q.elim
  | _=>exact q.elim
 | @lst a xs ts h1 r1=>
  cases r' with
  | @lst a' ys us h2 r2=>
   by_cases hb:ts.length+us.length<=bnd
   ·have eg:zy (.lst ts) (.lst us)= .ok _:=if_pos hb;have hz:xs.length+ys.length<=sizeLine:=by rw[r1.length,r2.length];exact Zf hb
    exact kS _ s σ H _ _ v u Q I rx ry ⟨a,a',xs,ys,rfl,rfl,sB _ _ h1,sB _ _ h2,hz,λp hp=>z0V sB q eg (r1.append r2) hp⟩
   ·rw[show zy (.lst ts) (.lst us)= .bad from if_neg hb]at q;exact q.elim
  | _=>exact q.elim
 | _=>cases r' <;> exact q.elim
theorem z0W (ha:Snd X Y a fa)(hb:Snd X Y b fb):Snd X Y (.BinOp a .Add b pos) (zd zy fa fb):=u7 xh ha hb
noncomputable def JW:T->T->R T
 | .int i,.int j=> .ok (.int (i - j))
 | _,_=> .bad
noncomputable def JJ:T->T->R T
 | .int i,.int j=>if 0 < j then .ok (.int (i % j)) else .bad
 | _,_=> .bad
noncomputable def wv:T->T->R T
 | .int i,.int j=>if 0 < j/\j < 1073741824 then .ok (.int (i / j)) else .bad
 | _,_=> .bad
instance (i j:Int):Decidable (WV i j):=by unfold WV;infer_instance
def zY:T->T->R T
 | .int i,.int j=>if WV i j then .ok (.int (i*j)) else .bad
 | .lst xs,.int k=>if 0<=k/\k < 1000000/\xs.length*k.toNat<=bnd then .ok (.lst (ai k.toNat xs).flatten) else .bad
 | .tup xs,.int k=>if 2<=k/\k < 1000000/\xs ≠ []/\xs.length*k.toNat<=bnd then .ok (.tup (ai k.toNat xs).flatten) else .bad
 | _,_=> .bad
theorem xi:OpR X (binaryOp .Sub) (rG Y JW):=by
 intro pins s σ H x y v u Q I rx ry h;obtain⟨B,t,t',sB,r,r',q⟩:=h;cases r with
 | int i=>
  cases r' with
  | int j=>exact kD _ s σ H _ _ v u Q I rx ry ⟨i,j,rfl,rfl,po0 sB q rfl (.int _)⟩
  | _=>exact q.elim
 | _=>cases r' <;> exact q.elim
theorem xj:OpR X (binaryOp .Mod) (rG Y JJ):=by
 intro pins s σ H x y v u Q I rx ry h;obtain⟨B,t,t',sB,r,r',q⟩:=h;cases r with
 | int i=>
  cases r' with
  | int j=>
   by_cases hj:0 < j
   ·exact kG _ s σ H _ _ v u Q I rx ry ⟨i,j,rfl,rfl,hj,po0 sB q (if_pos hj) (.int _)⟩
   ·rw[show JJ (.int i) (.int j)= .bad from if_neg hj]at q;exact q.elim
  | _=>exact q.elim
 | _=>cases r' <;> exact q.elim
theorem Qp:OpR X (binaryOp .FloorDiv) (rG Y wv):=by
 intro pins s σ H x y v u Q I rx ry h;obtain⟨B,t,t',sB,r,r',q⟩:=h;cases r with
 | int i=>
  cases r' with
  | int j=>
   by_cases hj:0 < j/\j < 1073741824
   ·exact VP _ s σ H _ _ v u Q I rx ry ⟨i,j,rfl,rfl,hj,po0 sB q (if_pos hj) (.int _)⟩
   ·rw[show wv (.int i) (.int j)= .bad from if_neg hj]at q;exact q.elim
  | _=>exact q.elim
 | _=>cases r' <;> exact q.elim
theorem UA (l:Addr)(items:Array Value)(n:Nat)(dd:Option Addr)(sl:Array (Option Value))(x:Int)(u:Tok)(h1:2<=x)(h2:x < 1000000)(hne:items.isEmpty=false)(hsz:items.size*x.toNat<=sizeLine):
  Meets (Builtin.«tuple.__mul__» ⟨[.ref l,.int x u],[]⟩) (λ_ R s=>s.heap.get? l=some { cls:= .type "tuple",dict:=dd,data:= .seq items n,slots:=sl }/\
   R (.ok (.ret (Value.ref s.heap.objs.size))) { s with heap:=s.heap.push { cls:=Value.type "tuple",data:=Data.seq (fr (λx1 x2=>x1++x2) #[] (ai x.toNat items)) },toks:=s.toks }):=
 .of_wp λprog w A R s h=>by
  obtain⟨hl,h⟩:=h;have e0:(items.size:Int)*x=((items.size*x.toNat:Nat):Int):=by
   have:x=((x.toNat:Nat):Int):=by omega
   rw[eW,← this]
  have sl1:(sizeLine:Nat)=16777216:=bC;have c1:¬ (decide (x < -(2 ^ 63)) || decide (x ≥ 2 ^ 63))=true:=by simp;omega
  have c2:¬ (items.isEmpty || x == 1)=true:=by simp[hne];omega
  have c3:¬ (decide (x<=0) || items.isEmpty)=true:=by simp[hne];omega
  have c4:¬ ((items.size:Int)*x > (2 ^ 63 - 1) / 8):=by rw[e0];omega
  have c5:¬ fv ((items.size:Int)*x)=true:=by
   unfold fv;rw[e0];intro z;have:=of_decide_eq_true z;omega
  unfold Builtin.«tuple.__mul__»
  wp_walk using wpAny_loadPart' hl
  rw[if_neg c1]
  wp_walk using wpAny_loadPart' hl
  rw[if_neg c2]
  try dsimp only
  rw[if_neg c3]
  try dsimp only
  rw[if_neg c4]
  try dsimp only
  rw[if_neg c5]
  try dsimp only
  have hsz' :sizeOk (.seq (fr (λx1 x2=>x1++x2) #[] (ai x.toNat items))):=by
   show (fr (λx1 x2=>x1++x2) #[] _).size<=sizeLine;have:=jg items.toList x.toNat [];have q:=by
    simpa using this
   rw[q,aB,jx,cR];exact hsz
  exact a8 (aQ (ac ⟨_,rfl,h⟩) hsz')
theorem Wi:seqRepeat? (.type "tuple")=pure (some (.builtin "tuple.__mul__")):=by
 unfold seqRepeat?;rw[la (name:="__mul__") fT.lookup (by decide+kernel),la (name:="__rmul__") iM.lookup (by decide+kernel)]
 rfl
theorem jS:fillsNumberSlot (.type "tuple") "mul"=pure false:=
 PySem.fillsNumberSlot_seq fT.lookup (by decide+kernel) iM.lookup (by decide+kernel)
theorem JK (a:Int)(t:Tok)(l:Addr)(items:Array Value)(n:Nat)(dd:Option Addr)(sl:Array (Option Value)):
  Meets (Builtin.«int.__rmul__» ⟨[.int a t,.ref l],[]⟩) (λ_ R s=>s.heap.get? l=some { cls:= .type "tuple",dict:=dd,data:= .seq items n,slots:=sl }/\R (.ok (.ret Value.notImplemented)) s):=
 .of_wp λprog w A R s h=>by obtain⟨hl,h⟩:=h;wp_walk;exact⟨_,rfl,h⟩
theorem xk {prog:Program}{w:World}{A:Around}{E:Value->Shared->Prop}{s:Shared}{l:Addr}{its:List Value}{k:Int}{t:Tok}{Q:Value->Shared->Prop}(p:IsTup s.heap l its.toArray)(hne:its ≠ [])(h1:2<=k)(h2:k < 1000000)
  (hsz:its.length*k.toNat<=sizeLine) (q:Q (.ref s.heap.objs.size) { s with heap:=s.heap.push { cls:= .type "tuple",data:= .seq (ai k.toNat its).flatten.toArray } }):
  wpAny (model prog w) A (binaryOp .Mult (.ref l) (.int k t)) Q E s:=by
 obtain⟨⟨cls,dd,data,sl⟩,ho,hc,n,hd⟩:=id p;subst hc hd;refine wpAny_binaryOp_repeat_ref (by decide) ⟨_,ho,rfl⟩ (λs' =>typeIs_int s' k t) jS lr eV Wi l8.lookup
  (fu eV (typeIs_int s k t) l9 (iK _ _) (JK k t l _ n dd sl)
   ⟨ho,rfl,⟨_,ho,rfl⟩,fu fT ⟨_,ho,rfl⟩ F.entry_tuple_mul (F.args_tuple_mul_2 _ _) (UA l _ n dd sl k t h1 h2 (by simpa using hne) (by simpa using hsz)) ⟨ho, ?_⟩⟩)
 have:=jg its k.toNat [];rw[this];exact q
theorem xl:OpR X (binaryOp .Mult) (rG Y zY):=by
 intro pins s σ H x y v u Q I rx ry h;obtain⟨B,t,t',sB,r,r',q⟩:=h;cases r with
 | int i=>
  cases r' with
  | int j=>
   by_cases hj:WV i j
   ·exact kE _ s σ H _ _ v u Q I rx ry ⟨i,j,rfl,rfl,hj,po0 sB q (if_pos hj) (.int _)⟩
   ·rw[show zY (.int i) (.int j)= .bad from if_neg hj]at q;exact q.elim
  | _=>exact q.elim
 | @lst l xs ts h1 r1=>
  cases r' with
  | int k=>
   by_cases hk:0<=k/\k < 1000000/\ts.length*k.toNat<=bnd
   ·have eg:zY (.lst ts) (.int k)= .ok _:=if_pos hk;exact kT _ s σ H _ _ v u Q I rx ry ⟨l,k,xs,rfl,rfl,sB _ _ h1,by omega,by omega,by rw[r1.length];exact Zf hk.2.2,λp hp=>z0V sB q eg (r1.rep _) hp⟩
   ·rw[show zY (.lst ts) (.int k)= .bad from if_neg hk]at q;exact q.elim
  | _=>exact q.elim
 | @tup l xs ts h1 r1=>
  cases r' with
  | int k=>
   by_cases hk:2<=k/\k < 1000000/\ts ≠ []/\ts.length*k.toNat<=bnd
   ·have eg:zY (.tup ts) (.int k)= .ok _:=if_pos hk;obtain rfl:v=Value.ref l:=rx;obtain⟨tk,rfl⟩:=ry;obtain⟨its,rv,p,_⟩:=I.tuple (SqT.of (sB _ _ h1));have ln:=r1.length.symm.trans rv.length;have hne:its ≠ []:=λz=>hk.2.2.1 (by rw[z]at ln;exact fU.mp ln)
    refine xk p hne hk.1 hk.2.1 (by rw[← ln];exact Zf hk.2.2.2) ⟨.ref _,upd H _ (.tup (ai k.toNat xs).flatten),I.laid (λb u e=>aa _ e) (ak _) ?_,rfl, ?_⟩
    ·exact⟨by rw[jx,r1.length,cR];exact Zf hk.2.2.2,(ai _ its).flatten,rv.rep _,⟨_,af _ rfl,rfl,_,rfl⟩,.inr ⟨_,af _ rfl,rfl⟩⟩
    ·exact XW sB q eg (r1.rep _) (I.hok.fresh (ak _))
   ·rw[show zY (.tup ts) (.int k)= .bad from if_neg hk]at q;exact q.elim
  | _=>exact q.elim
 | _=>cases r' <;> exact q.elim
theorem z0X (ha:Snd X Y a fa)(hb:Snd X Y b fb):Snd X Y (.BinOp a .Sub b pos) (zd JW fa fb):=u7 xi ha hb
theorem z0Y (ha:Snd X Y a fa)(hb:Snd X Y b fb):Snd X Y (.BinOp a .Mod b pos) (zd JJ fa fb):=u7 xj ha hb
theorem K0 (ha:Snd X Y a fa)(hb:Snd X Y b fb):Snd X Y (.BinOp a .FloorDiv b pos) (zd wv fa fb):=u7 Qp ha hb
theorem z0Z (ha:Snd X Y a fa)(hb:Snd X Y b fb):Snd X Y (.BinOp a .Mult b pos) (zd zY fa fb):=u7 xl ha hb
def u8 (fa:En->R T):En->R T:=λρ=>(fa ρ).bind λx=>match x with
 | .int i=> .ok (.int (-i))
 | _=> .bad
theorem z10 (ha:Snd X Y a fa):Snd X Y (.UnaryOp .USub a pos) (u8 fa):= .mk λρ=>PE.imp (z0E kH (ha ρ)) λσ H Q ⟨B,I,q⟩=>step I q λt v H1 _ s1 r1 I1 q1=>by
 cases r1 with
 | int i=>exact⟨i,rfl,po0 I1.sB q1 rfl (.int _)⟩
 | _=>exact q1.elim
def JX (g:T->T->R Bool):R2:=λx y H Q=>∃t t' b,Rep H x t/\Rep H y t' /\g t t' = .ok b/\Q (.bl b) H
def ZV (g:T->T->R Bool)(fa fb:En->R T):En->R T:=λρ=>(fa ρ).bind λx=>(fb ρ).bind λy=>(g x y).bind λb=> .ok (.bl b)
def zx (g:T->T->R Bool)(fa fb:En->R T):En->R Bool:=λρ=>(fa ρ).bind λx=>(fb ρ).bind λy=>g x y
noncomputable def Nx (g:T->T->R Bool):Prop:=∀t t' c,g t t' ≠ .ex c
theorem Qq {op:CmpOp}{g:T->T->R Bool}(nx:Nx g)(ho:OpR X (compareOp op) (JX g))(ha:jh X Y a fa)(hb:jh X Y b fb)(hm:behindInMarks op b=false):Snd X Y (.Compare a [op] [b] pos) (ZV g fa fb):= .mk λρ=>
 PE.imp (VQ ho (ha ρ) (hb ρ) hm) λσ H Q ⟨B,I,q⟩=>step I q λt v H1 _ s1 r1 I1 q1=>step I1 q1 λt' v' H2 _ s2 r2 I2 q2=>by
  cases e:g t t' with
  | bad=>rw[e]at q2;exact q2.elim
  | ex c=>exact absurd e (nx _ _ _)
  | ok b=>rw[e]at q2;exact⟨t,t',b,r1.mono s2,r2,e,Zw I2 q2 (.bl b)⟩
theorem Wj {op:CmpOp}{g:T->T->R Bool}(nx:Nx g)(ho:OpR X (compareOp op) (JX g))(ha:jh X Y a fa)(hb:jh X Y b fb)(hm:behindInMarks op b=false):u6 X Y (.Compare a [op] [b] pos) (zx g fa fb):= .mk λρ=>
 PT.imp (VR ho (ha ρ) (hb ρ) hm) λσ H Q ⟨B,I,q⟩=>step I q λt v H1 _ s1 r1 I1 q1=>step I1 q1 λt' v' H2 _ s2 r2 I2 q2=>by
  cases e:g t t' with
  | bad=>rw[e]at q2;exact q2.elim
  | ex c=>exact absurd e (nx _ _ _)
  | ok b=>rw[e]at q2;exact⟨t,t',b,r1.mono s2,r2,e,b,rfl,Zw I2 q2 rfl⟩
def eqC (t t' :T):R Bool:=match eqF 30 t t' with
 | some b=> .ok b
 | none=> .bad
def neC (t t' :T):R Bool:=match eqF 30 t t' with
 | some b=> .ok (!b)
 | none=> .bad
theorem K1:Nx eqC:=λt t' c h=>by unfold eqC at h;split at h <;> cases h
theorem z11:Nx neC:=λt t' c h=>by unfold neC at h;split at h <;> cases h
theorem vX (hu:X.A.units+64 < cLine):OpR X (compareOp .Eq) (JX eqC):=by
 intro pins s σ H x y v u Q I rx ry h;obtain⟨t,t',b,r,r',e,q⟩:=h;unfold eqC at e;split at e
 ·rename_i k ek;have e' :=by injection e
  subst e';exact(xg I 30 X.A (by omega) t t' k x y v u ek r r' rx ry).2.1 _ _ _ _ ⟨.bl k,H,I,rfl,q⟩
 ·cases e
theorem K2 (hu:X.A.units+64 < cLine):OpR X (compareOp .NotEq) (JX neC):=by
 intro pins s σ H x y v u Q I rx ry h;obtain⟨t,t',b,r,r',e,q⟩:=h;unfold neC at e;split at e
 ·rename_i k ek;cases e;exact(xg I 30 X.A (by omega) t t' k x y v u ek r r' rx ry).2.2 _ _ _ _ ⟨.bl _,H,I,rfl,q⟩
 ·cases e
noncomputable def ltC:T->T->R Bool
 | .int i,.int j=> .ok (decide (i < j))
 | _,_=> .bad
noncomputable def leC:T->T->R Bool
 | .int i,.int j=> .ok (decide (i<=j))
 | .str x,.str y=> .ok (!decide (y.cps.toList < x.cps.toList))
 | _,_=> .bad
noncomputable def gtC:T->T->R Bool
 | .int i,.int j=> .ok (decide (j < i))
 | _,_=> .bad
theorem z12:Nx ltC:=λt t' c h=>by unfold ltC at h;split at h <;> cases h
theorem ww:Nx leC:=λt t' c h=>by unfold leC at h;split at h <;> cases h
theorem z13:Nx gtC:=λt t' c h=>by unfold gtC at h;split at h <;> cases h
theorem K3:OpR X (compareOp .Lt) (JX ltC):=by
 intro pins s σ H x y v u Q I rx ry h;obtain⟨t,t',b,r,r',e,q⟩:=h;unfold ltC at e;split at e
 ·rename_i i j;cases e;cases r;cases r';exact z0G _ s σ H _ _ v u Q I rx ry ⟨i,j,rfl,rfl,q⟩
 ·cases e
theorem K4:OpR X (compareOp .Gt) (JX gtC):=by
 intro pins s σ H x y v u Q I rx ry h;obtain⟨t,t',b,r,r',e,q⟩:=h;unfold gtC at e;split at e
 ·rename_i i j;cases e;cases r;cases r';exact z0I _ s σ H _ _ v u Q I rx ry ⟨i,j,rfl,rfl,q⟩
 ·cases e
theorem ji:OpR X (compareOp .LtE) (JX leC):=by
 intro pins s σ H x y v u Q I rx ry h;obtain⟨t,t',b,r,r',e,q⟩:=h;unfold leC at e;split at e
 ·rename_i i j;cases e;cases r;cases r';exact z0H _ s σ H _ _ v u Q I rx ry ⟨i,j,rfl,rfl,q⟩
 ·cases e;cases r;cases r';obtain⟨t1,rfl⟩:=rx;obtain⟨t2,rfl⟩:=ry;exact PySem.P.le_str ⟨.bl _,H,I,rfl,q⟩
 ·cases e
end
section
variable {X:Cx}{Y:Fx}{a b c d:Expr}{fa fb fc fd:En->R T}{pos:Pos}
noncomputable def jI (f:T->Option Bool):List T->Option Bool
 | []=>some false
 | t :: r=>match f t with
  | none=>none
  | some b=>match jI f r with
   | none=>none
   | some c=>some (b || c)
def inC (t t' :T):R Bool:=match t' with
 | .tup ys=>match jI (λy=>eqF 30 y t) ys with | some b=> .ok b | none=> .bad
 | .lst ys=>match jI (λy=>eqF 30 y t) ys with | some b=> .ok b | none=> .bad
 | _=> .bad
def uF (t t' :T):R Bool:=(inC t t').bind λb=> .ok (!b)
theorem Qr:Nx inC:=λt t' c h=>by
 unfold inC at h;split at h
 ·split at h <;> cases h
 ·split at h <;> cases h
 ·cases h
theorem K5:Nx uF:=λt t' c h=>by
 unfold uF at h;cases e:inC t t' with
 | bad=>rw[e]at h;cases h
 | ex k=>exact absurd e (Qr _ _ _)
 | ok k=>rw[e]at h;cases h
open Classical in
theorem xm {H:Hp}(f:T->Option Bool):∃e:Value->Bool,∀(v:V) (t:T) (u:Value) (b:Bool),RelV v u->Rep H v t->f t=some b->e u=b:=by
 refine⟨λu=>decide (∃v t,RelV v u/\Rep H v t/\f t=some true),λv t u b rv r e=> ?_⟩;cases b with
 | true=>exact decide_eq_true ⟨v,t,rv,r,e⟩
 | false=>
  refine decide_eq_false ?_
  rintro⟨v',t',rv',r',e'⟩
  have:=rv.inj rv';subst this;have:=r.fn r';subst this;rw[e]at e';cases e'
theorem yD {H:Hp}{f:T->Option Bool}{e:Value->Bool}(he:∀(v:V) (t:T) (u:Value) (b:Bool),RelV v u->Rep H v t->f t=some b->e u=b):∀{xs:List V} {ts:List T} {its:List Value} {b:Bool},
  Vals xs its->zr H xs ts->jI f ts=some b->its.any e=b/\∀u∈its,∃v t k,RelV v u/\Rep H v t/\f t=some k
 | _,_,_,b,.nil,.nil,h=>by
  have h' :=h;cases h';exact⟨rfl,λu hu=>by simp at hu⟩
 | _,_,_,b,.cons rv vs,.cons r rs,h=>by
  rename_i v u vals us t ts;unfold jI at h;cases q:f t with
  | none=>rw[q]at h;cases h
  | some k=>
   rw[q]at h;cases q' :jI f ts with
   | none=>rw[q']at h;cases h
   | some k' =>
    rw[q']at h;cases h;obtain⟨h1,h2⟩:=yD he vs rs q';refine⟨by rw[eJ,h1,he v t u k rv r q],λw hw=> ?_⟩
    rcases ao.mp hw with rfl | hw
    ·exact⟨v,t,k,rv,r,q⟩
    ·exact h2 w hw
theorem yE (hu:X.A.units+64 < cLine)(neg:Bool):OpR X (compareOp (if neg then .NotIn else .In)) (JX (if neg then uF else inC)):=by
 intro pins s σ H x y v u Q I rx ry h;obtain⟨t,t',b,r,r',e,q⟩:=h;have hs:∃k,inC t t' = .ok k/\b=(if neg then !k else k):=by
  cases neg with
  | false=>exact⟨b,e,rfl⟩
  | true=>
   have e' :uF t t' = .ok b:=e;unfold uF at e';cases z:inC t t' with
   | bad=>rw[z]at e';cases e'
   | ex k=>exact absurd z (Qr _ _ _)
   | ok k=>rw[z]at e';cases e';exact⟨k,rfl,rfl⟩
 obtain⟨k,ek,rfl⟩:=hs;unfold inC at ek;obtain⟨f,hf⟩:=xm λy=>eqF 30 y t;have eqa:∀w,(∃v t' k,RelV v w/\Rep H v t' /\eqF 30 t' t=some k)->cP X.A.in1 s w v (f w):=λw ⟨v',t',k,rv,rr,ee⟩=>by
  rw[hf v' t' w k rv rr ee];exact(xg I 30 _ (by rw[Wh];omega) t' t k v' x w v ee rr r rv rx).1
 split at ek
 ·split at ek
  ·rename_i k' hk;cases ek;cases r' with
   | @tup l xs _ h1 r1=>
    obtain rfl:u=Value.ref l:=ry;obtain⟨its,rv,p,_⟩:=Zs I h1 r1;obtain⟨h2,h3⟩:=yD hf rv r1 hk;have h4:its.toArray.any f=k:=by simpa using h2
    cases neg with
    | false=>exact SeqAt.in_tupleAt f p (λw hw=>eqa w (h3 w (by simpa using hw))) (by rw[h4];exact⟨.bl k,H,I,rfl,q⟩)
    | true=>exact SeqAt.notIn_tupleAt f p (λw hw=>eqa w (h3 w (by simpa using hw))) (by rw[h4];exact⟨.bl _,H,I,rfl,q⟩)
  ·cases ek
 ·split at ek
  ·rename_i k' hk;cases ek;cases r' with
   | @lst l xs _ h1 r1=>
    obtain rfl:u=Value.ref l:=ry;obtain⟨its,rv,p,_⟩:=zH I (.inl h1) r1;obtain⟨h2,h3⟩:=yD hf rv r1 hk;have h4:its.toArray.any f=k:=by simpa using h2
    cases neg with
    | false=>exact SeqAt.in_listAt f p (λw hw=>eqa w (h3 w (by simpa using hw))) (by rw[h4];exact⟨.bl k,H,I,rfl,q⟩)
    | true=>exact SeqAt.notIn_listAt f p (λw hw=>eqa w (h3 w (by simpa using hw))) (by rw[h4];exact⟨.bl _,H,I,rfl,q⟩)
  ·cases ek
 ·cases ek
theorem vY (hu:X.A.units+64 < cLine):OpR X (compareOp .In) (JX inC):=yE hu false
theorem xn (hu:X.A.units+64 < cLine):OpR X (compareOp .NotIn) (JX uF):=yE hu true
noncomputable def Q5 (t t' :T):R Bool:=match t' with
 | .non=>match t with | .non=> .ok true | _=> .ok false
 | .bl k=>match t with | .bl j=> .ok (j == k) | _=> .ok false
 | _=> .bad
def u9 (t t' :T):R Bool:=(Q5 t t').bind λb=> .ok (!b)
theorem xo:Nx Q5:=λt t' c h=>by
 unfold Q5 at h;split at h
 ·split at h <;> cases h
 ·split at h <;> cases h
 ·cases h
theorem K6:Nx u9:=λt t' c h=>by
 unfold u9 at h;cases e:Q5 t t' with
 | bad=>rw[e]at h;cases h
 | ex k=>exact absurd e (xo _ _ _)
 | ok k=>rw[e]at h;cases h
theorem yF (neg:Bool):OpR X (compareOp (if neg then .IsNot else .Is)) (JX (if neg then u9 else Q5)):=by
 intro pins s σ H x y v u Q I rx ry h;obtain⟨t,t',b,r,r',e,q⟩:=h;have hs:∃k,Q5 t t' = .ok k/\b=(if neg then !k else k):=by
  cases neg with
  | false=>exact⟨b,e,rfl⟩
  | true=>
   have e' :u9 t t' = .ok b:=e;unfold u9 at e';cases z:Q5 t t' with
   | bad=>rw[z]at e';cases e'
   | ex k=>exact absurd z (xo _ _ _)
   | ok k=>rw[z]at e';cases e';exact⟨k,rfl,rfl⟩
 obtain⟨k,ek,rfl⟩:=hs;have go:plainIs v u=true/\(v == u)=k:=by
  cases r' with
  | non=>
   obtain rfl:u=Value.none:=ry;cases r with
   | non=>obtain rfl:v=Value.none:=rx;cases ek;exact⟨rfl,rfl⟩
   | bl j=>obtain rfl:v=Value.bool j:=rx;cases ek;exact⟨rfl,rfl⟩
   | int j=>obtain⟨t,rfl⟩:=rx;cases ek;exact⟨rfl,rfl⟩
   | str j=>obtain⟨t,rfl⟩:=rx;cases ek;exact⟨rfl,rfl⟩
   | tup _ _=>obtain rfl:v=Value.ref _:=rx;cases ek;exact⟨rfl,rfl⟩
   | lst _ _=>obtain rfl:v=Value.ref _:=rx;cases ek;exact⟨rfl,rfl⟩
   | fz _ _=>obtain rfl:v=Value.ref _:=rx;cases ek;exact⟨rfl,rfl⟩
  | bl k' =>
   obtain rfl:u=Value.bool k' :=ry;cases r with
   | non=>obtain rfl:v=Value.none:=rx;cases ek;exact⟨rfl,rfl⟩
   | bl j=>obtain rfl:v=Value.bool j:=rx;cases ek;exact⟨rfl,by cases j <;> cases k' <;> rfl⟩
   | int j=>obtain⟨t,rfl⟩:=rx;cases ek;exact⟨rfl,rfl⟩
   | str j=>obtain⟨t,rfl⟩:=rx;cases ek;exact⟨rfl,rfl⟩
   | tup _ _=>obtain rfl:v=Value.ref _:=rx;cases ek;exact⟨rfl,rfl⟩
   | lst _ _=>obtain rfl:v=Value.ref _:=rx;cases ek;exact⟨rfl,rfl⟩
   | fz _ _=>obtain rfl:v=Value.ref _:=rx;cases ek;exact⟨rfl,rfl⟩
  | _=>cases ek
 cases neg with
 | false=>exact wpAny_is_plain go.1 (by rw[go.2];exact⟨.bl k,H,I,rfl,q⟩)
 | true=>exact wpAny_isNot_plain go.1 (by rw[go.2];exact⟨.bl _,H,I,rfl,q⟩)
theorem K7:OpR X (compareOp .Is) (JX Q5):=yF false
theorem xp:OpR X (compareOp .IsNot) (JX u9):=yF true
def chE (g g' :T->T->R Bool)(fa fb fc:En->R T):En->R T:=λρ=>(fa ρ).bind λx=>(fb ρ).bind λy=>(g x y).bind λk=>if k=true then (fc ρ).bind λz=>(g' y z).bind λk' => .ok (.bl k') else .ok (.bl false)
def chT (g g' :T->T->R Bool)(fa fb fc:En->R T):En->R Bool:=λρ=>(fa ρ).bind λx=>(fb ρ).bind λy=>(g x y).bind λk=>if k=true then (fc ρ).bind λz=>g' y z else .ok false
theorem xq {op op' :CmpOp}{g g' :T->T->R Bool}(nx:Nx g)(nx' :Nx g')(ho:OpR X (compareOp op) (JX g))(ho' :OpR X (compareOp op') (JX g'))(ha:jh X Y a fa)(hb:jh X Y b fb)(hc:jh X Y c fc)
  (hm:lastMarks [op,op'] [b,c]=false:=by with_unfolding_all rfl):Snd X Y (.Compare a [op,op'] [b,c] pos) (chE g g' fa fb fc):= .mk λρ=>
 PE.imp (Qh ho ho' (ha ρ) (hb ρ) (hc ρ) hm) λσ H Q ⟨B,I,q⟩=>step I q λt v H1 _ s1 r1 I1 q1=>step I1 q1 λt' v' H2 _ s2 r2 I2 q2=>by
  cases e:g t t' with
  | bad=>rw[e]at q2;exact q2.elim
  | ex c=>exact absurd e (nx _ _ _)
  | ok k=>
   rw[e]at q2;refine⟨t,t',k,r1.mono s2,r2,e,k,rfl, ?_⟩;cases k with
   | false=>exact Zw I2 q2 (.bl _)
   | true=>
    refine step I2 q2 λt3 v3 H3 _ s3 r3 I3 q3=> ?_
    ·cases e:g' t' t3 with
     | bad=>rw[e]at q3;exact q3.elim
     | ex c=>exact absurd e (nx' _ _ _)
     | ok k=>rw[e]at q3;exact⟨t',t3,k,r2.mono s3,r3,e,Zw I3 q3 (.bl k)⟩
theorem xr {op op' :CmpOp}{g g' :T->T->R Bool}(nx:Nx g)(nx' :Nx g')(ho:OpR X (compareOp op) (JX g))(ho' :OpR X (compareOp op') (JX g'))(ha:jh X Y a fa)(hb:jh X Y b fb)(hc:jh X Y c fc)
  (hm:lastMarks [op,op'] [b,c]=false:=by with_unfolding_all rfl):u6 X Y (.Compare a [op,op'] [b,c] pos) (chT g g' fa fb fc):= .mk λρ=>
 PT.imp (Qi ho ho' (ha ρ) (hb ρ) (hc ρ) hm) λσ H Q ⟨B,I,q⟩=>step I q λt v H1 _ s1 r1 I1 q1=>step I1 q1 λt' v' H2 _ s2 r2 I2 q2=>by
  cases e:g t t' with
  | bad=>rw[e]at q2;exact q2.elim
  | ex c=>exact absurd e (nx _ _ _)
  | ok k=>
   rw[e]at q2;refine⟨t,t',k,r1.mono s2,r2,e,k,rfl, ?_⟩;cases k with
   | false=>exact⟨false,rfl,Zw I2 q2 rfl⟩
   | true=>
    refine step I2 q2 λt3 v3 H3 _ s3 r3 I3 q3=> ?_
    ·cases e:g' t' t3 with
     | bad=>rw[e]at q3;exact q3.elim
     | ex c=>exact absurd e (nx' _ _ _)
     | ok k=>rw[e]at q3;exact⟨t',t3,k,r2.mono s3,r3,e,k,rfl,Zw I3 q3 rfl⟩
def xt (r r' r'' :R2)(ta tb tc td:TE):TE:=λσ H Q=>ta σ H λx H1=>tb σ H1 λy H2=>r x y H2 λz H3=>∃k,z= .bl k/\
 (if k=true then tc σ H3 λw' H4=>r' y w' H4 λz' H5=>∃k',z' = .bl k' /\(if k' =true then td σ H5 λw2 H6=>r'' w' w2 H6 Q else Q (.bl false) H5) else Q (.bl false) H3)
theorem yG {op op' op'' :CmpOp}{r r' r'' :R2}{ta tb tc td:TE}(ho:OpR X (compareOp op) r)(ho' :OpR X (compareOp op') r')(ho'' :OpR X (compareOp op'') r'')(ha:PE X a ta)(hb:PE X b tb)(hc:PE X c tc)(hd:PE X d td)
  (hm:lastMarks [op,op',op''] [b,c,d]=false:=by with_unfolding_all rfl):PE X (.Compare a [op,op',op''] [b,c,d] pos) (xt r r' r'' ta tb tc td):=by
 intro pins s σ H Q I h;refine Compare_chain (thn (ha _ s σ H _ I h) λv s1 ⟨x,H1,I1,r1,q1⟩=>chain_link (thn (hb _ s1 σ H1 _ I1 q1) λu s2 ⟨y,H2,I2,r2,q2⟩=>
  thn (ho _ s2 σ H2 x y v u _ I2 r1 r2 q2) λd' s3 ⟨z,H3,I3,r3,k,e,q3⟩=> ?_)) hm
 subst e;cases r3;refine b9 ?_;cases k with
 | false=>exact ite_ff ⟨.bl _,H3,I3,rfl,q3⟩
 | true=>
  refine ite_tt (chain_link (thn (hc _ s3 σ H3 _ I3 q3) λw' s4 ⟨z',H4,I4,r4,q4⟩=>thn (ho' _ s4 σ H4 y z' u w' _ I4 r2 r4 q4) λd2 s5 ⟨z5,H5,I5,r5,k5,e5,q5⟩=> ?_));subst e5;cases r5;refine b9 ?_;cases k5 with
  | false=>exact ite_ff ⟨.bl _,H5,I5,rfl,q5⟩
  | true=>exact ite_tt (chain_last (thn (hd _ s5 σ H5 _ I5 q5) λw6 s6 ⟨z6,H6,I6,r6,q6⟩=>ho'' _ s6 σ H6 z' z6 w' w6 Q I6 r4 r6 q6))
def ch3E (g g' g'' :T->T->R Bool)(fa fb fc fd:En->R T):En->R T:=λρ=>(fa ρ).bind λx=>(fb ρ).bind λy=>(g x y).bind λk=>if k=true then (fc ρ).bind λz=>(g' y z).bind λk' =>
 if k' =true then (fd ρ).bind λw=>(g'' z w).bind λk'' => .ok (.bl k'') else .ok (.bl false) else .ok (.bl false)
theorem Qs {op op' op'' :CmpOp}{g g' g'' :T->T->R Bool}(nx:Nx g)(nx' :Nx g')(nx'' :Nx g'')(ho:OpR X (compareOp op) (JX g))(ho' :OpR X (compareOp op') (JX g'))(ho'' :OpR X (compareOp op'') (JX g''))
  (ha:jh X Y a fa) (hb:jh X Y b fb) (hc:jh X Y c fc) (hd:jh X Y d fd)
  (hm:lastMarks [op,op',op''] [b,c,d]=false:=by with_unfolding_all rfl):Snd X Y (.Compare a [op,op',op''] [b,c,d] pos) (ch3E g g' g'' fa fb fc fd):= .mk λρ=>
 PE.imp (yG ho ho' ho'' (ha ρ) (hb ρ) (hc ρ) (hd ρ) hm) λσ H Q ⟨B,I,q⟩=>step I q λt v H1 _ s1 r1 I1 q1=>step I1 q1 λt' v' H2 _ s2 r2 I2 q2=>by
  cases e:g t t' with
  | bad=>rw[e]at q2;exact q2.elim
  | ex c=>exact absurd e (nx _ _ _)
  | ok k=>
   rw[e]at q2;refine⟨t,t',k,r1.mono s2,r2,e,k,rfl, ?_⟩;cases k with
   | false=>exact Zw I2 q2 (.bl _)
   | true=>
    refine step I2 q2 λt3 v3 H3 _ s3 r3 I3 q3=> ?_
    ·cases e:g' t' t3 with
     | bad=>rw[e]at q3;exact q3.elim
     | ex c=>exact absurd e (nx' _ _ _)
     | ok k=>
      rw[e]at q3;refine⟨t',t3,k,r2.mono s3,r3,e,k,rfl, ?_⟩;cases k with
      | false=>exact Zw I3 q3 (.bl _)
      | true=>
       refine step I3 q3 λt4 v4 H4 _ s4 r4 I4 q4=> ?_
       ·cases e:g'' t3 t4 with
        | bad=>rw[e]at q4;exact q4.elim
        | ex c=>exact absurd e (nx'' _ _ _)
        | ok k=>rw[e]at q4;exact⟨t3,t4,k,r3.mono s4,r4,e,Zw I4 q4 (.bl k)⟩
variable {rest:List Expr}{ga gb:En->R Bool}
def j2 (fa fb:En->R T):En->R T:=λρ=>(fa ρ).bind λx=>match x with
 | .bl true=>fb ρ
 | .bl false=> .ok (.bl false)
 | _=> .bad
def orE (fa fb:En->R T):En->R T:=λρ=>(fa ρ).bind λx=>match x with
 | .bl true=> .ok (.bl true)
 | .bl false=>fb ρ
 | _=> .bad
def Qt (fa:En->R T):En->R T:=λρ=>(fa ρ).bind λx=>match x with
 | .bl k=> .ok (.bl (!k))
 | _=> .bad
theorem z14 {op}(h:Snd X Y a fa):Snd X Y (.BoolOp op [a] pos) fa:= .mk λρ=>ku (h ρ)
theorem z15 (ha:Snd X Y a fa)(hb:Snd X Y (.BoolOp .And (b :: rest) pos) fb):Snd X Y (.BoolOp .And (a :: b :: rest) pos) (j2 fa fb):= .mk λρ=>
 PE.imp (kx (ha ρ) (hb ρ)) λσ H Q ⟨B,I,q⟩=>step I q λt v H1 _ s1 r1 I1 q1=>by
  cases r1 with
  | bl k=>
   refine⟨k,rfl, ?_⟩;cases k with
   | true=>exact⟨_,I1,q1⟩
   | false=>exact Zw I1 q1 (.bl _)
  | _=>exact q1.elim
theorem s_or (ha:Snd X Y a fa)(hb:Snd X Y (.BoolOp .Or (b :: rest) pos) fb):Snd X Y (.BoolOp .Or (a :: b :: rest) pos) (orE fa fb):= .mk λρ=>
 PE.imp (z0v (ha ρ) (hb ρ)) λσ H Q ⟨B,I,q⟩=>step I q λt v H1 _ s1 r1 I1 q1=>by
  cases r1 with
  | bl k=>
   refine⟨k,rfl, ?_⟩;cases k with
   | false=>exact⟨_,I1,q1⟩
   | true=>exact Zw I1 q1 (.bl _)
  | _=>exact q1.elim
theorem z16 (ha:Snd X Y a fa):Snd X Y (.UnaryOp .Not a pos) (Qt fa):= .mk λρ=>
 PE.imp (ky (ha ρ)) λσ H Q ⟨B,I,q⟩=>step I q λt v H1 _ s1 r1 I1 q1=>by
  cases r1 with
  | bl k=>exact⟨k,rfl,Zw I1 q1 (.bl _)⟩
  | _=>exact q1.elim
structure Qu (X:Cx) (Y:Fx) (e:Expr) (f:En->R Bool):Prop where
 mk ::
 go:∀ρ,PW X e (tS Y rE f ρ)
instance {X:Cx}{Y:Fx}{e:Expr}{f:En->R Bool}:CoeFun (Qu X Y e f) λ_=>∀ρ,PW X e (tS Y rE f ρ):=⟨Qu.go⟩
theorem Qu.t {e:Expr}{f:En->R Bool}(h:Qu X Y e f):u6 X Y e f:= .mk λρ=>(h ρ).pt
theorem PW.imp {e:Expr}{t t' :TT}(h:PW X e t)(i:∀σ H Q,t' σ H Q->t σ H Q):PW X e t' :=λwh pins s σ H Q I q=>h wh _ s σ H Q I (i σ H Q q)
def orT (fa fb:En->R Bool):En->R Bool:=λρ=>(fa ρ).bind λx=>if x=true then .ok true else fb ρ
def WW (fa:En->R Bool):En->R Bool:=λρ=>(fa ρ).bind λx=> .ok (!x)
theorem z17 (h:u6 X Y a ga):Qu X Y (.BoolOp .Or [a] pos) ga:= .mk λρ=>kn (h ρ)
theorem w_or (ha:u6 X Y a ga)(hb:Qu X Y (.BoolOp .Or (b :: rest) pos) gb):Qu X Y (.BoolOp .Or (a :: b :: rest) pos) (orT ga gb):= .mk λρ=>
 PW.imp (z0s (ha ρ) (hb ρ)) λσ H Q ⟨B,I,q⟩=>step I q λt v H1 _ s1 r1 I1 q1=>by
  have r1' :=r1;subst r1';cases v with
  | false=>exact⟨_,I1,q1⟩
  | true=>exact Zw I1 q1 rfl
theorem z18 (ha:u6 X Y a ga):u6 X Y (.UnaryOp .Not a pos) (WW ga):= .mk λρ=>
 PT.imp (ko (ha ρ)) λσ H Q ⟨B,I,q⟩=>step I q λt v H1 _ s1 r1 I1 q1=>by
  have r1' :=r1;subst r1';exact Zw I1 q1 rfl
noncomputable def tru:T->R Bool
 | .bl k=> .ok k
 | .non=> .ok false
 | .int i=> .ok (i != 0)
 | .tup xs=> .ok (!xs.isEmpty)
 | .lst xs=> .ok (!xs.isEmpty)
 | _=> .bad
def jT (fa:En->R T):En->R Bool:=λρ=>(fa ρ).bind tru
theorem isE {H:Hp}{xs:List V}{ts:List T}(r:zr H xs ts):(!xs.isEmpty)= !ts.isEmpty:=by cases r <;> rfl
theorem z19 (ha:jh X Y a fa)(he:∀whole,isTrue a X.env whole=(do let v ← whole;standAt a.pos;holding [v] (truthy v)):=by intro _;rfl):u6 X Y a (jT fa):= .mk λρ=>
 PT.imp (Qj (ha ρ) he) λσ H Q ⟨B,I,q⟩=>step I q λt v H1 _ s1 r1 I1 q1=>by
  cases r1 with
  | bl k=>exact⟨k,rfl,Zw I1 q1 rfl⟩
  | non=>exact⟨false,rfl,Zw I1 q1 rfl⟩
  | int i=>exact⟨_,rfl,Zw I1 q1 rfl⟩
  | tup h r=>exact⟨_,.inr (.inl ⟨_,SqT.of h,rfl⟩),Zw I1 q1 (isE r)⟩
  | lst h r=>exact⟨_,.inl ⟨_,SqL.of h,rfl⟩,Zw I1 q1 (isE r)⟩
  | _=>exact q1.elim
def ifE (g:En->R Bool)(fa fb:En->R T):En->R T:=λρ=>(g ρ).bind λk=>if k=true then fa ρ else fb ρ
theorem s_if (hc:u6 X Y c ga)(ha:Snd X Y a fa)(hb:Snd X Y b fb):Snd X Y (.IfExp c a b pos) (ifE ga fa fb):= .mk λρ=>
 PE.imp (Qf (hc ρ) (ha ρ) (hb ρ)) λσ H Q ⟨B,I,q⟩=>step I q λt v H1 _ s1 r1 I1 q1=>by
  have r1' :=r1;subst r1';cases v with
  | true=>exact⟨_,I1,q1⟩
  | false=>exact⟨_,I1,q1⟩
end
end PV
namespace PV
open PySem PySem.Spec PyProof.Rows L2
section
variable {X:Cx}{Y:Fx}{a b c d:Expr}{fa fb fc fd:En->R T}{pos p:Pos}
def ap1 (g:T->R T)(fa:En->R T):En->R T:=λρ=>(fa ρ).bind g
noncomputable abbrev St1 (X:Cx)(a:Expr):Prop:=starEach [a] X.env=[(false,eval a X.env)]
theorem Wk {id:String}{x:Str}{r:List V->Hp->VK->Prop}{g:T->R T}(hc:Za X (.builtin id) r)(hr:∀v t B H Q,Rep H v t->zm B H->Po Y rC B H (g t) Q->r [v] H Q)
  (gl:Gl X x) (mg:X.mg x=none) (bt:bootBuiltins x=some (.builtin id)) (ha:jh X Y a fa) (hs:St1 X a:=by exact st1 rfl) (hn:x ≠ "__name__":=by decide) (hd:(x == ("__debug__":Str))=false:=by decide):Snd X Y (.Call (.Name x p) [a] [] pos) (ap1 g fa):= .mk λρ=>
 PE.imp (ZC hc gl mg bt (zj (ha ρ) zD hs) hn hd hs rfl) λσ H Q ⟨B,I,q⟩=>step I q λt v H1 _ s1 r1 I1 q1=>hr v t _ H1 Q r1 I1.sB q1
theorem vZ {id:String}{x:Str}{r:List V->Hp->VK->Prop}{g:T->R T}(hc:Za X (.type id) r)(hr:∀v t B H Q,Rep B v t->zm B H->Po Y rC B H (g t) Q->r [v] H Q)
  (gl:Gl X x) (mg:X.mg x=none) (bt:bootBuiltins x=some (.type id)) (ha:Snd X Y a fa) (hs:St1 X a:=by exact st1 rfl) (hn:x ≠ "__name__":=by decide) (hd:(x == ("__debug__":Str))=false:=by decide):Snd X Y (.Call (.Name x p) [a] [] pos) (ap1 g fa):= .mk λρ=>
 PE.imp (ZI hc gl mg bt (zj (ha ρ) zD hs) hn hd hs rfl) λσ H Q ⟨B,I,q⟩=>step I q λt v H1 _ s1 r1 I1 q1=>hr v t _ H1 Q r1 I1.sB q1
def Zo:T->R T
 | .tup xs=> .ok (.int xs.length)
 | .lst xs=> .ok (.int xs.length)
 | .fz xs=> .ok (.int xs.length)
 | .str x=>if x.length<=bnd then .ok (.int x.length) else .bad
 | _=> .bad
theorem z1a (v:V)(t:T)(B H:Hp)(Q:VK)(r:Rep H v t)(sB:zm B H)(q:Po Y rC B H (Zo t) Q):
  (∃p ys,[v]=[V.ref p]/\(SqL X.K H p ys\/SqT X.K H p ys)/\Q (V.int ys.length) H)\/(∃z,[v]=[V.str z]/\z.length<=sizeLine/\Q (V.int z.length) H):=by
 cases r with
 | tup h r=>exact .inl ⟨_,_,rfl,.inr (SqT.of h),po0 sB q rfl (by rw[r.length];exact .int _)⟩
 | lst h r=>exact .inl ⟨_,_,rfl,.inl (SqL.of h),po0 sB q rfl (by rw[r.length];exact .int _)⟩
 | fz h r=>exact .inl ⟨_,_,rfl,.inl (.inl (.inr ⟨_,h⟩)),po0 sB q rfl (by rw[r.length];exact .int _)⟩
 | str x=>
  by_cases hb:x.length<=bnd
  ·exact .inr ⟨x,rfl,Zf hb,po0 sB q (if_pos hb) (.int _)⟩
  ·rw[show Zo (.str x)= .bad from if_neg hb]at q;exact q.elim
 | _=>exact q.elim
theorem z1b (gl:Gl X "len")(mg:X.mg "len"=none)(ha:jh X Y a fa)(hs:St1 X a:=by exact st1 rfl):Snd X Y (.Call (.Name "len" p) [a] [] pos) (ap1 Zo fa):=
 Wk (Wd.or We) z1a gl mg PySem.boot_len ha hs
noncomputable def Qv:T->R T
 | .tup xs=> .ok (.tup xs)
 | .lst xs=> .ok (.tup xs)
 | _=> .bad
theorem z1c (v:V)(t:T)(B H:Hp)(Q:VK)(r:Rep B v t)(sB:zm B H)(q:Po Y rC B H (Qv t) Q):
  ∃p ys,[v]=[V.ref p]/\((SqL X.K H p ys/\∀l,H l=none->Q (.ref l) (upd H l (.tup ys)))\/(SqT X.K H p ys/\Q (.ref p) H)):=by
 cases r with
 | tup h r=>exact⟨_,_,rfl,.inr ⟨SqT.of (sB _ _ h),po0 sB q rfl (.tup h r)⟩⟩
 | lst h r=>exact⟨_,_,rfl,.inl ⟨SqL.of (sB _ _ h),λl hl=>XW sB q rfl r hl⟩⟩
 | _=>exact q.elim
theorem xu (gl:Gl X "tuple")(mg:X.mg "tuple"=none)(ha:Snd X Y a fa)(hs:St1 X a:=by exact st1 rfl):Snd X Y (.Call (.Name "tuple" p) [a] [] pos) (ap1 Qv fa):=
 vZ wt z1c gl mg (PyProof.Rows.Boot.«tuple») ha hs
noncomputable def tyN:T->String
 | .non=>"NoneType"
 | .bl _=>"bool"
 | .int _=>"int"
 | .str _=>"str"
 | .tup _=>"tuple"
 | .lst _=>"list"
 | .fz _=>"list"
def isT (n:String)(t:T):Bool:=tyN t == n || (n == "int" && tyN t == "bool")
theorem z1d {H:Hp}{v:V}{t:T}(K:ag)(r:Rep H v t):Ux K H v (.type (tyN t)):=by
 cases r with
 | non=>exact .non
 | bl b=>exact .bl b
 | int b=>exact .int b
 | str b=>exact .str b
 | tup h _=>exact .tup h
 | lst h _=>exact .lst h
 | fz h _=>exact .frz h
theorem Qw:Za X (.builtin "isinstance") (λxs H Q=>∃v n t,xs=[v,.ty n]/\Rep H v t/\bq X.K (.type (tyN t)) (.type n)=some (isT n t)/\Q (.bl (isT n t)) H):=by
 intro pins s σ H xs us Q I rv h;obtain⟨v,n,t,rfl,r,hk,q⟩:=h;obtain⟨u,w,rfl,ru,rw'⟩:=Uw rv;obtain rfl:w=Value.type n:=rw';exact yq I ru (z1d X.K r) hk λtk=>⟨.bl _,H,I.tok tk,rfl,q⟩
def wZ (n:String)(t:T):R T:= .ok (.bl (isT n t))
theorem xv (K:ag)(t:T):bq K (.type (tyN t)) (.type "int")=some (isT "int" t):=by cases t <;> rfl
theorem Qx (K:ag)(t:T):bq K (.type (tyN t)) (.type "bool")=some (isT "bool" t):=by cases t <;> rfl
theorem xw (K:ag)(t:T):bq K (.type (tyN t)) (.type "str")=some (isT "str" t):=by cases t <;> rfl
theorem Wl (K:ag)(t:T):bq K (.type (tyN t)) (.type "tuple")=some (isT "tuple" t):=by cases t <;> rfl
theorem Qy (K:ag)(t:T):bq K (.type (tyN t)) (.type "list")=some (isT "list" t):=by cases t <;> rfl
theorem Qz {n:String}{p' :Pos}(hk:∀t,bq X.K (.type (tyN t)) (.type n)=some (isT n t))(gl:Gl X "isinstance")(mg:X.mg "isinstance"=none)(gl' :Gl X (aE n))(mg' :X.mg (aE n)=none)(bt:bootBuiltins (aE n)=some (.type n))(ha:jh X Y a fa)
  (hs:starEach [a,.Name (aE n) p'] X.env=[(false,eval a X.env),(false,eval (.Name (aE n) p') X.env)]:=by exact st2 rfl rfl) (hs2:starEach [.Name (aE n) p'] X.env=[(false,eval (.Name (aE n) p') X.env)]:=by exact st1 rfl)
  (hn:aE n ≠ "__name__":=by decide) (hd:(aE n == ("__debug__":Str))=false:=by decide) (hz:((backTo pos (starEach [.Name (aE n) p'] X.env)).any λx=>x.fst)=false:=by exact Z0 rfl):
  Snd X Y (.Call (.Name "isinstance" p) [a,.Name (aE n) p'] [] pos) (ap1 (wZ n) fa):= .mk λρ=>
 PE.imp (ZC Qw gl mg PyProof.Rows.Boot.«isinstance» (zj (ha ρ) (zj (u4 (v:= .ty n) gl' mg' bt rfl hn hd) zD hs2) (by rw[hs,hs2])) (by decide) (by decide) (by rw[hs,hs2]) hz) λσ H Q ⟨B,I,q⟩=>
  step I q λt v H1 _ s1 r1 I1 q1=>⟨v,n,t,rfl,r1,hk t,po0 I1.sB q1 rfl (.bl _)⟩
def atT (xs:List T)(i:Int):R T:=match atI xs i with
 | some t=> .ok t
 | none=> .bad
def ixT:T->T->R T
 | .tup xs,.int i=>atT xs i
 | .lst xs,.int i=>atT xs i
 | .fz xs,.int i=>atT xs i
 | .str z,.int i=>if z.length<=bnd then match atI z.cps.toList i with | some c=> .ok (.str ⟨#[c]⟩) | none=> .bad else .bad
 | _,_=> .bad
theorem yH {H:Hp}{xs:List V}{ts:List T}{i:Int}{t:T}(r:zr H xs ts)(h:atI ts i=some t):∃v,atI xs i=some v/\Rep H v t:=by
 unfold atI at h ⊢;rw[r.length];cases e:ixN _ i with
 | none=>rw[e]at h;cases h
 | some j=>
  rw[e]at h;obtain⟨v,h1,h2⟩:=r.get (h);exact⟨v,h1,h2⟩
theorem s_ix (ha:Snd X Y a fa)(hb:Snd X Y b fb)(hs:yv b:=by exact λ_ _=>rfl):Snd X Y (.Subscript a b pos) (zd ixT fa fb):= .mk λρ=>
 PE.imp (kN kQ (ha ρ) (hb ρ) hs) λσ H Q ⟨B,I,q⟩=>step I q λt v H1 _ s1 r1 I1 q1=>step I1 q1 λt' v' H2 _ s2 r2 I2 q2=>by
  have r1:=r1.mono (zB.ge I1.sB s2);cases r2 with
  | int i=>
   cases r1 with
   | @tup _ xs ts h r=>
    have q2:Po Y rC _ H2 (atT ts i) Q:=q2;unfold atT at q2;split at q2
    ·rename_i t' e;obtain⟨w,e1,e2⟩:=yH r e;exact .inr (.inl ⟨_,xs,i,w,rfl,rfl,SqT.of (I2.sB _ _ h),e1,po0 I2.sB q2 rfl e2⟩)
    ·exact q2.elim
   | @lst _ xs ts h r=>
    have q2:Po Y rC _ H2 (atT ts i) Q:=q2;unfold atT at q2;split at q2
    ·rename_i t' e;obtain⟨w,e1,e2⟩:=yH r e;exact .inl ⟨_,xs,i,w,rfl,rfl,SqL.of (I2.sB _ _ h),e1,po0 I2.sB q2 rfl e2⟩
    ·exact q2.elim
   | @fz _ _ xs ts h r=>
    have q2:Po Y rC _ H2 (atT ts i) Q:=q2;unfold atT at q2;split at q2
    ·rename_i t' e;obtain⟨w,e1,e2⟩:=yH r e;exact .inl ⟨_,xs,i,w,rfl,rfl,.inl (.inr ⟨_,I2.sB _ _ h⟩),e1,po0 I2.sB q2 rfl e2⟩
    ·exact q2.elim
   | str z=>
    have q2:Po Y rC _ H2 (if z.length<=bnd then match atI z.cps.toList i with | some c=> .ok _ | none=> .bad else .bad) Q:=q2
    split at q2
    ·rename_i hb;split at q2
     ·rename_i c e;exact .inr (.inr ⟨z,i,c,rfl,rfl,Zf hb,e,po0 I2.sB q2 rfl (.str _)⟩)
     ·exact q2.elim
    ·exact q2.elim
   | _=>exact q2.elim
  | _=>cases r1 <;> exact q2.elim
structure xx (X:Cx) (Y:Fx) (e:Option Expr) (f:En->R (Option Int)):Prop where
 mk ::
 go:∀ρ,PO X e (tS Y rE f ρ)
instance {X:Cx}{Y:Fx}{e:Option Expr}{f:En->R (Option Int)}:CoeFun (xx X Y e f) λ_=>∀ρ,PO X e (tS Y rE f ρ):=⟨xx.go⟩
def noO:En->R (Option Int):=λ_=> .ok none
def ua (fa:En->R T):En->R (Option Int):=λρ=>(fa ρ).bind λt=>match t with
 | .int i=> .ok (some i)
 | _=> .bad
theorem PO.imp {e:Option Expr}{t t' :TO}(h:PO X e t)(i:∀σ H Q,t' σ H Q->t σ H Q):PO X e t' :=λpins s σ H Q I q=>h _ s σ H Q I (i σ H Q q)
theorem K8:xx X Y none noO:= .mk λρ=>PO.imp VU λσ H Q ⟨B,I,q⟩=>Zw I q rfl
theorem K9 (ha:Snd X Y a fa):xx X Y (some a) (ua fa):= .mk λρ=>PO.imp (VV (ha ρ)) λσ H Q ⟨B,I,q⟩=>step I q λt v H1 _ s1 r1 I1 q1=>by
 cases r1 with
 | int i=>exact⟨i,rfl,Zw I1 q1 rfl⟩
 | _=>exact q1.elim
noncomputable def cut (xs:List T)(lo hi:Option Int):List T:=(xs.drop (HT.sIx xs.length 0 lo)).take (HT.sIx xs.length xs.length hi - HT.sIx xs.length 0 lo)
def slT (t:T)(lo hi:Option Int):R T:=match t with
 | .tup xs=> .ok (.tup (cut xs lo hi))
 | .lst xs=> .ok (.lst (cut xs lo hi))
 | _=> .bad
def slE (fa:En->R T)(fl fh:En->R (Option Int)):En->R T:=λρ=>(fa ρ).bind λt=>(fl ρ).bind λlo=>(fh ρ).bind λhi=>slT t lo hi
theorem yI {H:Hp}{xs:List V}{ts:List T}{lo hi:Option Int}(r:zr H xs ts):zr H (XV xs lo hi) (cut ts lo hi):=by
 unfold XV cut;rw[r.length];exact(r.drop _).take _
theorem jy {prog:Program}{w:World}{A:Around}{E:Value->Shared->Prop}{s:Shared}{t sl:Addr}{items:Array Value}{vl vu:Value}{lo hi:Option Int}{Q:Value->Shared->Prop}(ht:IsTup s.heap t items)(hs:s.heap.IsSliceOf sl vl vu .none)(pl:IsPart vl lo)(pu:IsPart vu hi)
  (hw:HT.sIx items.size 0 lo=0/\HT.sIx items.size items.size hi=items.size) (h:Q (.ref t) s):wpAny (model prog w) A (getItem (.ref t) (.ref sl)) Q E s:=by
 obtain⟨os,hos,hcs,hds⟩:=id hs;have hTs:s.TypeIs (.ref sl) _:=⟨os,hos,hcs⟩;unfold getItem
 try with_reducible refine bI ?_
 refine a8 (wpAny_sequenceKey ht.typeIs (by decide) ?_)
 refine a8 (b7 ht.typeIs bb
  (aN bb ht.typeIs entry_tuple_getitem ?_ (args_tuple_getitem _ _)))
 show wpAny _ _ (fk _ >>= _) _ _ s;refine a8 (tupleItemsOf_ ht ?_);refine a8 (cz hTs ?_);refine a8 (HT.sliceApplied_gen hs pl pu ?_);have hyes:(((HT.sIx items.size 0 lo):Int) == 0 && (1:Int) == 1 && (HT.sIx items.size items.size hi - HT.sIx items.size 0 lo) == items.size)=true:=by
  rw[hw.1,hw.2];simp
 show wpAny _ _ (if (((HT.sIx _ 0 lo:Nat):Int) == 0 && (1) == 1 && (HT.sIx _ _ hi - HT.sIx _ 0 lo) == items.size)=true then _ else _) _ _ s
 rw[if_pos hyes];refine a8 (a8 (cz ht.typeIs (ac ?_)));exact a8 (ce (ac ⟨_,rfl,ac h⟩))
theorem UB:SlR X (λx lo hi H Q=>∃a xs,x= .ref a/\SqT X.K H a xs/\(HT.sIx xs.length 0 lo=0/\HT.sIx xs.length xs.length hi=xs.length)/\Q (.ref a) H):=by
 intro pins s σ H x v vl vu lo hi sl Q I rx hs pl pu h;obtain⟨a,xs,rfl,hx,hw,q⟩:=h;obtain rfl:v=Value.ref a:=rx;obtain⟨its,r,ht,hz⟩:=I.tuple hx;have hlen:its.toArray.size=xs.length:=by exact r.length.symm
 refine⟨"tuple",_,bb.lookup,ht.typeIs, ?_⟩;exact jy ht hs pl pu (by rw[hlen];exact hw) ⟨.ref a,H,I,rfl,q⟩
theorem xy {xs:List T}{lo hi:Option Int}(h1:HT.sIx xs.length 0 lo=0)(h2:HT.sIx xs.length xs.length hi=xs.length):cut xs lo hi=xs:=by
 unfold cut;rw[h1,h2];simp
theorem xz {lo hi:Option Expr}{fl fh:En->R (Option Int)}{p2:Pos}(ha:Snd X Y a fa)(hl:xx X Y lo fl)(hh:xx X Y hi fh):Snd X Y (.Subscript a (.Slice lo hi none p2) pos) (slE fa fl fh):= .mk λρ=>
 PE.imp (Qm (kM.or (UB.or VZ)) (ha ρ) (hl ρ) (hh ρ)) λσ H Q ⟨B,I,q⟩=>step I q λt v H1 _ s1 r1 I1 q1=>step I1 q1 λl l' H2 _ s2 el I2 q2=>step I2 q2 λh h' H3 _ s3 eh I3 q3=>by
  have el' :=el;have eh' :=eh;subst el' eh';have r1:=r1.mono ((zB.ge I1.sB s2).trans (zB.ge I2.sB s3));cases r1 with
  | @tup _ xs ts hx r=>
   by_cases hw:HT.sIx xs.length 0 l' =0/\HT.sIx xs.length xs.length h' =xs.length
   ·refine .inr (.inl ⟨_,xs,rfl,SqT.of (I3.sB _ _ hx),hw,po0 I3.sB q3 rfl ?_⟩);rw[r.length]at hw;rw[xy hw.1 hw.2];exact .tup hx r
   ·exact .inl ⟨_,xs,rfl,SqT.of (I3.sB _ _ hx),hw,λp hp=>XW I3.sB q3 rfl (yI r) hp⟩
  | @lst _ xs ts hx r=>
   exact .inr (.inr ⟨_,xs,rfl,SqL.of (I3.sB _ _ hx),λp hp=>z0V I3.sB q3 rfl (yI r) hp⟩)
  | _=>exact q3.elim
noncomputable def yJ (t t' :T):R T:=match t,t' with
 | .int i,.int j=> .ok (.int (if j < i then j else i))
 | _,_=> .bad
theorem Ka (hc:X.calm=true)(gl:Gl X "min")(mg:X.mg "min"=none)(ha:Snd X Y a fa)(hb:Snd X Y b fb)
  (hs:starEach [a,b] X.env=[(false,eval a X.env),(false,eval b X.env)]:=by exact st2 rfl rfl) (hs2:starEach [b] X.env=[(false,eval b X.env)]:=by exact st1 rfl):
  Snd X Y (.Call (.Name "min" p) [a,b] [] pos) (zd yJ fa fb):= .mk λρ=>
 PE.imp (ZC (ym hc) gl mg PyProof.Rows.Boot.«min» (zj (ha ρ) (zj (hb ρ) zD hs2) (by rw[hs,hs2])) (by decide) (by decide) (by rw[hs,hs2]) (by rw[hs2];rfl)) λσ H Q ⟨B,I,q⟩=>
  step I q λt v H1 _ s1 r1 I1 q1=>step I1 q1 λt' v' H2 _ s2 r2 I2 q2=>by
   cases r1 with
   | int i=>
    cases r2 with
    | int j=>exact⟨i,j,rfl,po0 I2.sB q2 rfl (.int _)⟩
    | _=>exact q2.elim
   | _=>cases r2 <;> exact q2.elim
noncomputable def Wm:List T->Option Bool
 | []=>some true
 | .bl k :: r=>match Wm r with | some j=>some (k && j) | none=>none
 | _ :: _=>none
def V0:T->R T
 | .lst ts=>match Wm ts with | some k=> .ok (.bl k) | none=> .bad
 | _=> .bad
theorem yK:∀{H:Hp} {xs:List V} {ts:List T} {its:List Value} {k:Bool},zr H xs ts->Vals xs its->Wm ts=some k->∃tr:Nat->Bool,(∀i v,its[i]? =some v->v=Value.bool (tr i))/\(aY its.length).all tr=k
 | _,_,_,_,k,.nil,.nil,h=>by
  have h' :=h;cases h';exact⟨λ_=>true,λi v e=>by simp at e,rfl⟩
 | H,_,_,_,k,.cons r rs,.cons (b:=u) rv vs,h=>by
  cases r with
  | bl b=>
   unfold Wm at h;split at h
   ·rename_i j e;cases h;obtain⟨tr,h1,h2⟩:=yK rs vs e;obtain rfl:u=Value.bool b:=rv;refine⟨λi=>match i with | 0=>b | i+1=>tr i,λi v e=> ?_, ?_⟩
    ·cases i with
     | zero=>simp at e;exact e.symm
     | succ i=>exact h1 i v (by simpa using e)
    ·rw[ay,cS,cY,iL,← h2];rfl
   ·cases h
  | _=>cases h
theorem yL (hh:X.A.handled=none):Za X (.builtin "all") (λvs H Q=>∃l xs ts k,vs=[.ref l]/\H l=some (.lst xs)/\zr H xs ts/\Wm ts=some k/\Q (.bl k) H):=by
 intro pins s σ H vs us Q I rv h;obtain⟨l,xs,ts,k,rfl,hl,r,hk,q⟩:=h;obtain⟨u,rfl,ru⟩:=Zr rv;obtain rfl:u=Value.ref l:=ru;obtain⟨its,rv,p,_⟩:=zH I (.inl hl) r;obtain⟨tr,h1,h2⟩:=yK r rv hk;refine call_all_walk (cA p ?_);have hlt:=I.hok.lt hl;have old:∀b o,s.heap.get? b=some o->(s.heap.push { cls:= .type "list_iterator",data:= .fields #[.ref l,.int 0 0] }).get? b=some o:=λb o e=>aa _ e;refine⟨s.heap.objs.size,_,_,_,_,_,tr,rfl,lH (A:=X.A.in1) hh _ l (aD hlt) its.toArray, ?_, ?_,λh' tk hk' => ?_⟩
 ·refine⟨?_,p.at λo e=>old _ o e⟩;exact⟨_,af _ rfl,rfl,rfl⟩
 ·intro i v s' Q' E' hi hq;rw[h1 i v (by simpa using hi)]
  exact b9 hq
 ·rw[aB,h2];refine⟨.bl k,H,I.kept (λb o e=>hk' b o ?_ (old b o e)),rfl,q⟩;simp;exact aD (am e)
theorem z1e (hh:X.A.handled=none)(gl:Gl X "all")(mg:X.mg "all"=none)(ha:jh X Y a fa)(hs:St1 X a:=by exact st1 rfl):Snd X Y (.Call (.Name "all" p) [a] [] pos) (ap1 V0 fa):=
 Wk (yL hh) (λv t B H Q r sB q=>by
  cases r with
  | @lst l xs ts h r=>
   have q:Po Y rC B H (match Wm ts with | some k=> .ok _ | none=> .bad) Q:=q
   split at q
   ·rename_i k e;exact⟨l,xs,ts,k,rfl,h,r,e,po0 sB q rfl (.bl k)⟩
   ·exact q.elim
  | _=>exact q.elim) gl mg PyProof.Rows.Boot.«all» ha hs
end
inductive RS where
 | nx (ρ:En) | rt (t:T) | bk (ρ:En) | ct (ρ:En) | ex (c:Nat) | bad | rf (ts:List T)
noncomputable def R.s {α:Type}(r:R α)(k:α->RS):RS:=match r with
 | .ok a=>k a
 | .ex c=> .ex c
 | .bad=> .bad
def PoS (Y:Fx)(B:Hp)(r:RS)(D:vQ):Prop:=match r with
 | .nx ρ' =>∀σ' H' B',zm B B' ->SI Y B' ρ' σ' H' ->D.nx σ' H'
 | .rt t=>∀v H',zm Y.H0 H' ->Rep (zB Y.B0 Y.H0 H') v t->D.rt v H'
 | .bk ρ' =>∀σ' H' B',zm B B' ->SI Y B' ρ' σ' H' ->D.bk σ' H'
 | .ct ρ' =>∀σ' H' B',zm B B' ->SI Y B' ρ' σ' H' ->D.ct σ' H'
 | .ex c=>XP Y B c
 | .bad=>False
 | .rf ts=>∀a xs H' B',zm Y.H0 H' ->Y.H0 a=none->H' a=some (.lst xs)->zr B' xs ts->B' a=none->zm B' (zB Y.B0 Y.H0 H')->D.rt (.ref a) H'
theorem PoS.up {Y:Fx}{B B' :Hp}{r:RS}{D:vQ}(s:zm B B')(h:PoS Y B r D):PoS Y B' r D:=by
 cases r with
 | nx ρ=>exact λσ' H' B2 s2 I=>h σ' H' B2 (s.trans s2) I
 | bk ρ=>exact λσ' H' B2 s2 I=>h σ' H' B2 (s.trans s2) I
 | ct ρ=>exact λσ' H' B2 s2 I=>h σ' H' B2 (s.trans s2) I
 | rt t=>exact h
 | rf t=>exact h
 | ex c=>exact λd H' s0 sB=>h d H' s0 (s.trans sB)
 | bad=>exact h
def tSS (Y:Fx)(f:En->RS)(ρ:En):TS:=λD σ H=>∃B,SI Y B ρ σ H/\PoS Y B (f ρ) D
structure JF (X:Cx) (Y:Fx) (e:Stmt) (f:En->RS):Prop where
 mk ::
 go:∀ρ,PS X e (tSS Y f ρ)
instance {X:Cx}{Y:Fx}{e:Stmt}{f:En->RS}:CoeFun (JF X Y e f) λ_=>∀ρ,PS X e (tSS Y f ρ):=⟨JF.go⟩
structure WX (X:Cx) (Y:Fx) (e:List Stmt) (f:En->RS):Prop where
 mk ::
 go:∀ρ,PSs X e (tSS Y f ρ)
instance {X:Cx}{Y:Fx}{e:List Stmt}{f:En->RS}:CoeFun (WX X Y e f) λ_=>∀ρ,PSs X e (tSS Y f ρ):=⟨WX.go⟩
theorem jj {α β:Type}{Y:Fx}{rel:Hp->Hp->β->α->Prop}{f:En->R α}{k:α->RS}{ρ:En}{B:Hp}{σ:Sg}{H:Hp}{D:vQ}{K:β->Hp->Prop}
  (I:SI Y B ρ σ H) (h:PoS Y B ((f ρ).s k) D)
  (n:∀a b H1,f ρ= .ok a->zm H H1->rel (zB B H H1) H1 b a->SI Y (zB B H H1) ρ σ H1->PoS Y (zB B H H1) (k a) D->K b H1):tS Y rel f ρ σ H K:=by
 refine⟨B,I, ?_⟩;cases e:f ρ with
 | bad=>rw[e]at h;exact h
 | ex c=>rw[e]at h;exact h
 | ok a=>
  rw[e]at h;exact λb H1 s r=>n a b H1 e s r (I.grow s) (PoS.up (zB.ge I.sB s) h)
theorem zp {α:Type}{xs:List α}{i j:Nat}{x y:α}(h:(xs.set i x)[j]? =some y):(j=i/\y=x)\/(j ≠ i/\xs[j]? =some y):=by
 by_cases e:j=i
 ·subst e
  by_cases hl:j < xs.length
  ·rw[a_ hl]at h;exact .inl ⟨rfl,(aI h).symm⟩
  ·rw[aV (by rw[bx];omega)]at h;cases h
 ·rw[aA (b8 e)]at h;exact .inr ⟨e,h⟩
theorem uG {α:Type}{xs:List α}{i:Nat}{x y:α}(h:(xs.set i x)[i]? =some y):i < xs.length:=by
 by_cases hl:i < xs.length
 ·exact hl
 ·rw[aV (by rw[bx];omega)]at h;cases h
theorem StI.set {Y:Fx}{B:Hp}{ρ:En}{σ:Sg}{H:Hp}{as:List Addr}{O:Addr->Option (Nat×Nat)}(x:StI Y B ρ σ H as O)(i:Nat)(s:Sl)(v:Option V)(h1:s.isO=false)(h3:∀ts,s ≠ .ow ts):StI Y B (ρ.set i s) (σ.set i v) H as O:=
 x.on (λj y hy h=>by
  rcases zp h with ⟨_,e⟩ | ⟨hj,h'⟩
  ·rw[e,h1]at hy;cases hy
  ·exact⟨h',aA (b8 hj)⟩) (zm.refl _) rfl rfl (zm.refl _) λb o hb b0 h0 _=>⟨hb,b0,h0,λok j us h=>by
  rcases zp h with ⟨_,e⟩ | ⟨hj,h'⟩
  ·exact absurd e.symm (h3 us)
  ·rw[aA (b8 hj)];exact ok j us h'⟩
theorem SI.setV {Y:Fx}{B:Hp}{ρ:En}{σ:Sg}{H:Hp}(I:SI Y B ρ σ H)(i:Nat){v:V}{t:T}(r:Rep B v t):SI Y B (ρ.set i (.vl t)) (σ.set i (some v)) H where
 s0:=I.s0
 sH:=I.sH
 sB:=I.sB
 old:=I.old
 len:=by rw[bx,bx];exact I.len
 vl:=λj u h=>by
  rcases zp h with ⟨rfl,e⟩ | ⟨hj,h'⟩
  ·cases e;exact⟨v,a_ (by rw[← I.len];exact uG h),r⟩
  ·obtain⟨w,e,rr⟩:=I.vl j u h';exact⟨w,by rw[aA (b8 hj)];exact e,rr⟩
 ow:=λj us h=>by
  rcases zp h with ⟨rfl,e⟩ | ⟨hj,h'⟩
  ·cases e
  ·obtain⟨a,xs,e,b0,h0,hh,rr,d⟩:=I.ow j us h';refine⟨a,xs,by rw[aA (b8 hj)];exact e,b0,h0,hh,rr,λk ws hk hw=> ?_⟩
   rcases zp hw with ⟨rfl,e'⟩ | ⟨hk',hw'⟩
   ·cases e'
   ·rw[aA (b8 hk')];exact d k ws hk hw'
 xc:=λj c h=>by
  rcases zp h with ⟨rfl,e⟩ | ⟨hj,h'⟩
  ·cases e
  ·obtain⟨a,e,r⟩:=I.xc j c h';exact⟨a,by rw[aA (b8 hj)];exact e,r⟩
 st:=let ⟨as,O,x⟩:=I.st;⟨as,O,x.set i _ _ rfl (λ_=>Sl.noConfusion)⟩
theorem SI.newO {Y:Fx}{B:Hp}{ρ:En}{σ:Sg}{H:Hp}(I:SI Y B ρ σ H)(i:Nat){p:Addr}{xs:List V}{ts:List T}(hp:H p=none)(r:zr B xs ts):SI Y B (ρ.set i (.ow ts)) (σ.set i (some (.ref p))) (upd H p (.lst xs)) where
 s0:=I.s0
 sH:=I.sH.trans (zm.new hp _)
 sB:=I.sB.trans (zm.new hp _)
 old:=I.old
 len:=by rw[bx,bx];exact I.len
 vl:=λj u h=>by
  rcases zp h with ⟨rfl,e⟩ | ⟨hj,h'⟩
  ·cases e
  ·obtain⟨w,e,rr⟩:=I.vl j u h';exact⟨w,by rw[aA (b8 hj)];exact e,rr⟩
 ow:=λj us h=>by
  have op:∀k ws a,ρ[k]? =some (Sl.ow ws)->σ[k]? =some (some (V.ref a))->a ≠ p:=λk ws a h1 h2=>by
   obtain⟨a',xs',e,_,_,hh,_⟩:=I.ow k ws h1;rw[e]at h2;cases h2;exact zv hh hp
  rcases zp h with ⟨rfl,e⟩ | ⟨hj,h'⟩
  ·cases e;refine⟨p,xs,a_ (by rw[← I.len];exact uG h),I.sB.free hp,I.sH.free hp,zl,r,λk ws hk hw=> ?_⟩
   rcases zp hw with ⟨rfl,e'⟩ | ⟨hk',hw'⟩
   ·exact absurd rfl hk
   ·rw[aA (b8 hk')];exact λz=>op k ws p hw' z rfl
  ·obtain⟨a,xs',e,b0,h0,hh,rr,d⟩:=I.ow j us h';refine⟨a,xs',by rw[aA (b8 hj)];exact e,b0,h0,by rw[zf (op j us a h' e)];exact hh,rr,λk ws hk hw=> ?_⟩
   rcases zp hw with ⟨rfl,e'⟩ | ⟨hk',hw'⟩
   ·rw[a_ (by rw[← I.len];exact uG hw)]
    intro z;exact op j us a h' e (by injection z with z;injection z with z;injection z with z;exact z.symm)
   ·rw[aA (b8 hk')];exact d k ws hk hw'
 xc:=λj c h=>by
  rcases zp h with ⟨rfl,e⟩ | ⟨hj,h'⟩
  ·cases e
  ·obtain⟨a,e,r⟩:=I.xc j c h';exact⟨a,by rw[aA (b8 hj)];exact e,r⟩
 st:=by
  obtain⟨as,O,x⟩:=I.st;refine⟨as,O,x.on (λj y hy h=> ?_) (zm.refl _) rfl rfl (zm.refl _) λb o hb b0 h0 _=> ?_⟩
  ·rcases zp h with ⟨_,e⟩ | ⟨hj,h'⟩
   ·subst e;cases hy
   ·exact⟨h',aA (b8 hj)⟩
  ·have hne:b ≠ p:=zv hb hp;refine⟨by rw[zf hne];exact hb,b0,h0,λok j us h=> ?_⟩
   rcases zp h with ⟨rfl,e⟩ | ⟨hj,h'⟩
   ·rw[a_ (by rw[← I.len];exact uG h)]
    intro z;injection z with z;injection z with z;injection z with z;exact hne z.symm
   ·rw[aA (b8 hj)];exact ok j us h'
theorem SI.chg {Y:Fx}{B:Hp}{ρ:En}{σ:Sg}{H:Hp}(I:SI Y B ρ σ H)(i:Nat){p:Addr}{ts us:List T}{ys:List V}(hi:ρ[i]? =some (.ow ts))(he:σ[i]? =some (some (.ref p)))(r:zr B ys us):SI Y B (ρ.set i (.ow us)) σ (upd H p (.lst ys)):=by
 obtain⟨p',xs,e,b0,h0,hh,rr,d⟩:=I.ow i ts hi;rw[he]at e;cases e;have nb:∀b o,B b=some o->b ≠ p:=λb o h z=>by subst z;rw[b0]at h;cases h
 have n0:∀b o,Y.H0 b=some o->b ≠ p:=λb o h z=>by subst z;rw[h0]at h;cases h
 refine⟨I.s0,λb o h=>by rw[zf (n0 b o h)];exact I.sH b o h,λb o h=>by rw[zf (nb b o h)];exact I.sB b o h,I.old,by rw[bx];exact I.len,λj u h=> ?_,λj ws h=> ?_,λj c h=> ?_, ?_⟩
 rotate_right
 ·obtain⟨as,O,x⟩:=I.st;refine⟨as,O,x.on (λj y hy h=> ?_) (zm.refl _) rfl rfl (zm.refl _) λb o hb b0' h0' cs=> ?_⟩
  ·rcases zp h with ⟨_,e⟩ | ⟨hj,h'⟩
   ·subst e;cases hy
   ·exact⟨h',rfl⟩
  ·have hne:b ≠ p:=λz=>by
    subst z;rcases cs with ⟨C,dx,vs,ez⟩ | ok
    ·rw[hh]at hb;cases hb;cases ez
    ·exact ok i ts hi he
   refine⟨by rw[zf hne];exact hb,b0',h0',λok j us h=> ?_⟩
   rcases zp h with ⟨rfl,e⟩ | ⟨hj,h'⟩
   ·rw[he];intro z;injection z with z;injection z with z;injection z with z;exact hne z.symm
   ·exact ok j us h'
 rotate_right
 ·rcases zp h with ⟨rfl,z⟩ | ⟨hj,h'⟩
  ·cases z
  ·exact I.xc j c h'
 ·rcases zp h with ⟨rfl,z⟩ | ⟨hj,h'⟩
  ·cases z
  ·exact I.vl j u h'
 ·rcases zp h with ⟨rfl,z⟩ | ⟨hj,h'⟩
  ·cases z;refine⟨p,ys,he,b0,h0,zl,r,λk vs hk hw=> ?_⟩;rcases zp hw with ⟨rfl,e'⟩ | ⟨hk',hw'⟩
   ·exact absurd rfl hk
   ·exact d k vs hk hw'
  ·obtain⟨a,xs',e,c0,g0,gg,ss,d'⟩:=I.ow j ws h';have hne:a ≠ p:=λz=>by subst z;exact d j ws hj h' e
   refine⟨a,xs',e,c0,g0,by rw[zf hne];exact gg,ss,λk vs hk hw=> ?_⟩
   rcases zp hw with ⟨rfl,e'⟩ | ⟨hk',hw'⟩
   ·rw[he];intro z;injection z with z;injection z with z;injection z with z;exact hne z.symm
   ·exact d' k vs hk hw'
noncomputable def XX:Sl->Sl
 | .ow ts=> .vl (.lst ts)
 | .ob _ _=> .un
 | .st _=> .un
 | x=>x
def frz (ρ:En):En:=ρ.map XX
theorem SI.up {Y:Fx}{B:Hp}{ρ:En}{σ:Sg}{H:Hp}(I:SI Y B ρ σ H):zm B (zB B Y.H0 H):=λb o h=>by
 cases q:Y.H0 b with
 | none=>rw[zR q];exact I.sB b o h
 | some u=>rw[zO q];exact h
theorem SI.frz {Y:Fx}{B:Hp}{ρ:En}{σ:Sg}{H:Hp}(I:SI Y B ρ σ H):SI Y (zB B Y.H0 H) (PV.frz ρ) σ H:=by
 have up:zm B (zB B _ H):=λb o h=>by
  cases q:Y.H0 b with
  | none=>rw[zR q];exact I.sB b o h
  | some u=>rw[zO q];exact h
 refine⟨I.s0,I.sH,λb o h=> ?_,λb o h=>by rw[zO h];exact I.old b o h,by unfold PV.frz;rw[ae];exact I.len,λj t h=> ?_,λj ts h=> ?_,λj c h=> ?_, ?_⟩
 rotate_right
 ·have no:∀(j:Nat) (y:Sl),y.isS=true->(PV.frz ρ)[j]? ≠ some y:=λj y hy h=>by
   unfold PV.frz at h;rw[ax]at h;cases e:ρ[j]? with
   | none=>rw[e]at h;cases h
   | some x=>rw[e]at h;cases x <;> (cases h;cases hy)
  obtain⟨as,O,x⟩:=I.st;refine⟨Y.as,λ_=>none,fS _,λi os e=>(no i _ rfl e).elim,λi j os os' e=>(no i _ rfl e).elim,λi k n e=>(no i _ rfl e).elim,λi k fs h=> ?_,λi os e=>(no i _ rfl e).elim⟩;have h' :ρ[i]? =some (Sl.oc k fs):=by
   unfold PV.frz at h;rw[ax]at h;cases e:ρ[i]? with
   | none=>rw[e]at h;cases h
   | some x=>rw[e]at h;cases x <;> (cases h;try rfl)
  obtain⟨a,C,dx,vs,e1,e2,e3,e4,e5⟩:=x.oc i k fs h';exact⟨a,C,dx,vs,e1,e2,e3,e4,e5.mono up (zm.refl _)⟩
 rotate_right
 ·unfold PV.frz at h;rw[ax]at h;cases e:ρ[j]? with
  | none=>rw[e]at h;cases h
  | some x=>
   rw[e]at h;cases x with
   | xc d=>
    cases h;obtain⟨a,e1,r⟩:=I.xc j _ e;exact⟨a,e1,up a _ r⟩
   | un=>cases h
   | vl _=>cases h
   | ow _=>cases h
   | ob _ _=>cases h
   | oc _ _=>cases h
   | st _=>cases h
 ·cases q:Y.H0 b with
  | none=>rw[zR q]at h;exact h
  | some u=>rw[zO q]at h;exact I.sB b o h
 ·unfold PV.frz at h;rw[ax]at h;cases e:ρ[j]? with
  | none=>rw[e]at h;cases h
  | some x=>
   rw[e]at h;cases x with
   | un=>cases h
   | vl u=>
    cases h;obtain⟨v,e1,r⟩:=I.vl j _ e;exact⟨v,e1,r.mono up⟩
   | ow us=>
    cases h;obtain⟨a,xs,e1,b0,h0,hh,rr,_⟩:=I.ow j us e;exact⟨.ref a,e1,.lst (by rw[zR h0];exact hh) (rr.mono up)⟩
   | xc _=>cases h
   | ob _ _=>cases h
   | oc _ _=>cases h
   | st _=>cases h
 ·unfold PV.frz at h;rw[ax]at h;cases e:ρ[j]? with
  | none=>rw[e]at h;cases h
  | some x=>
   rw[e]at h;cases x with
   | un=>cases h
   | vl u=>cases h
   | ow us=>cases h
   | xc _=>cases h
   | ob _ _=>cases h
   | oc _ _=>cases h
   | st _=>cases h
theorem uH {Y:Fx}{B H H' :Hp}(s0:zm Y.H0 H)(old:∀b o,Y.H0 b=some o->B b=Y.B0 b)(s:zm H H')(sB:zm B H):zm (zB B H H') (zB Y.B0 Y.H0 H'):=λb o h=>by
 cases q:H b with
 | none=>
  rw[zR q]at h;rw[zR (s0.free q)];exact h
 | some u=>
  rw[zO q]at h;cases z:Y.H0 b with
  | none=>rw[zR z];exact s b o (sB b o h)
  | some w=>rw[zO z,← old b w z];exact h
section
variable {X:Cx}{Y:Fx}{a b c d:Expr}{fa fb fc fd:En->R T}{pos p:Pos}{st:Stmt}{sts sts' :List Stmt}{f g:En->RS}
def nxS:En->RS:=λρ=> .nx ρ
def zn (f g:En->RS):En->RS:=λρ=>match f ρ with
 | .nx ρ' =>g ρ'
 | r=>r
theorem z1f:WX X Y [] nxS:= .mk λρ=>PSs.imp VO λD σ H ⟨B,I,q⟩=>q σ H B (zm.refl B) I
theorem z1g (h:JF X Y st f):WX X Y [st] f:= .mk λρ=>Jh (h ρ)
theorem Kc (h1:JF X Y st f)(h2:WX X Y sts g):WX X Y (st :: sts) (zn f g):= .mk λρ=>by
 refine PSs.imp (jd (u:=λD σ H=>∃ρ',tSS Y g ρ' D σ H) (h1 ρ) ?_) ?_
 ·intro pins s σ H D I ⟨ρ',q⟩;exact h2 ρ' _ s σ H D I q
 ·intro D σ H ⟨B,I,q⟩;refine⟨B,I, ?_⟩;unfold zn at q;cases e:f ρ with
  | nx ρ' =>
   rw[e]at q;intro σ' H' B' s' I';exact⟨ρ',B',I',PoS.up s' q⟩
  | rt t=>rw[e]at q;exact q
  | rf t=>rw[e]at q;exact q
  | bk ρ' =>rw[e]at q;exact q
  | ct ρ' =>rw[e]at q;exact q
  | ex c=>rw[e]at q;exact q
  | bad=>rw[e]at q;exact q
def zI (i:Nat)(fa:En->R T):En->RS:=λρ=>(fa ρ).s λt=> .nx (ρ.set i (.vl t))
theorem Ke {i:Nat}{x:Str}{p' :Pos}(hN:X.N.Nodup)(hi:X.N[i]? =some x)(hx:L2.Loc X.env.scope x)(ha:Snd X Y a fa)(hs:swapsWith a (some (.Name x p')) pos.line X.env=pure false:=by rfl)
  (hf:X.fn x=true\/X.env.scope.names.lookup x=some .local:=by first | exact .inl rfl | exact .inr rfl | assumption):JF X Y (.Assign [.Name x p'] a pos) (zI i fa):= .mk λρ=>
 PS.imp (JQ hN hi hx (ha ρ) hs hf) λD σ H ⟨B,I,q⟩=>jj I q λt v H1 _ s1 r1 I1 q1=>q1 _ _ _ (zm.refl _) (I1.setV i r1)
def uI (i:Nat)(ga:En->R (List T)):En->RS:=λρ=>(ga ρ).s λts=>if ts.length<=bnd then .nx (ρ.set i (.ow ts)) else .bad
theorem Kf {i:Nat}{x:Str}{p' :Pos}{es:List Expr}{ga:En->R (List T)}(hN:X.N.Nodup)(hi:X.N[i]? =some x)(hx:L2.Loc X.env.scope x)(ha:uE X Y es ga)(hs:swapsWith (.List es p) (some (.Name x p')) pos.line X.env=pure false:=by rfl)
  (hf:X.fn x=true\/X.env.scope.names.lookup x=some .local:=by first | exact .inl rfl | exact .inr rfl | assumption):JF X Y (.Assign [.Name x p'] (.List es p) pos) (uI i ga):= .mk λρ=>
 PS.imp (JQ hN hi hx (yr (ha ρ)) hs hf) λD σ H ⟨B,I,q⟩=>jj I q λts vs H1 _ s1 r1 I1 q1=>by
  split at q1
  ·rename_i hb;exact⟨by rw[r1.length];exact Zf hb,λp hp=>q1 _ _ _ (zm.refl _) (I1.newO i hp r1)⟩
  ·exact q1.elim
def zq (fa:En->R T):En->RS:=λρ=>(fa (frz ρ)).s λt=> .rt t
theorem z1h (ha:Snd X Y a fa):JF X Y (.Return (some a) pos) (zq fa):= .mk λρ=>
 PS.imp (W4 (ha _)) λD σ H ⟨B,I,q⟩=>by
  refine⟨_,I.frz, ?_⟩;unfold zq at q;cases e:fa _ with
  | bad=>rw[e]at q;exact q
  | ex c=>
   rw[e]at q;exact λd H' s0 sG=>q d H' s0 (I.up.trans sG)
  | ok t=>
   rw[e]at q;intro v H' s r;have J:=I.frz;exact q v H' (I.sH.trans s) (r.mono (uH J.sH J.old s J.sB))
def ifS (g:En->R Bool)(f1 f2:En->RS):En->RS:=λρ=>(g ρ).s λk=>if k=true then f1 ρ else f2 ρ
theorem z1i {ga:En->R Bool}(hc:u6 X Y c ga)(h1:WX X Y sts f)(h2:WX X Y sts' g):JF X Y (.If c sts sts' pos) (ifS ga f g):= .mk λρ=>
 PS.imp (z0y (hc ρ) (h1 ρ) (h2 ρ)) λD σ H ⟨B,I,q⟩=>jj I q λt v H1 _ s1 r1 I1 q1=>by
  have r1' :=r1;subst r1';cases v with
  | true=>exact⟨_,I1,q1⟩
  | false=>exact⟨_,I1,q1⟩
def jU (fa:En->R T):En->RS:=λρ=>(fa ρ).s λ_=> .nx ρ
theorem Kg (ha:Snd X Y a fa)(hs:swapsWith a none pos.line X.env=pure false:=by rfl):JF X Y (.Expr a pos) (jU fa):= .mk λρ=>
 PS.imp (wl (ha ρ) hs) λD σ H ⟨B,I,q⟩=>jj I q λt v H1 _ s1 r1 I1 q1=>q1 _ _ _ (zm.refl _) I1
def Q6 (i:Nat)(fa:En->R T):En->RS:=λρ=>match ρ[i]? with
 | some (.ow ts)=>(fa ρ).s λt=>if ts.length < bnd then .nx (ρ.set i (.ow (ts++[t]))) else .bad
 | _=> .bad
def Q7 (i:Nat)(fa:En->R T):En->RS:=λρ=>match ρ[i]? with
 | some (.ow ts)=>(fa ρ).s λt=>match t with
  | .lst us=>if ts.length+us.length<=bnd then .nx (ρ.set i (.ow (ts++us))) else .bad
  | _=> .bad
 | _=> .bad
theorem uJ {n:Nat}(h:n < bnd):n < sizeLine:=by exact h
theorem z1j {i:Nat}{x:Str}{px pa:Pos}(hv:PE X (.Name x px) (W3 i))(ha:Snd X Y a fa)(hb:attributeBase (.Name x px) "append" X.env (eval (.Name x px) X.env)=eval (.Name x px) X.env:=by rfl)(hs:St1 X a:=by exact st1 rfl)
  (hz:(pa.endLine == p.line)=true:=by rfl) (hw:swapsWith (.Call (.Attribute (.Name x px) "append" pa) [a] [] p) none pos.line X.env=pure false:=by rfl):JF X Y (.Expr (.Call (.Attribute (.Name x px) "append" pa) [a] [] p) pos) (Q6 i fa):= .mk λρ=>by
 have e1:(((((backTo p (starEach [a] X.env)).all λx=> !x.fst) && (backToKw p (keywordEach [] X.env)).all λx=>x.fst.isSome) && decide (([a].length+([]:List Keyword).length+if ([]:List Keyword).isEmpty=true then 0 else 1) < 30))=true):=by rw[hs];rfl
 refine PS.imp (wl (yw dI fL fM Jl hv (zj (ha ρ) zD hs) hb e1 hz hs rfl) hw) λD σ H ⟨B,I,q⟩=> ?_;unfold Q6 at q;split at q
 ·rename_i ts e;obtain⟨l,xs,e1,b0,h0,hh,rr,d⟩:=I.ow i ts e;refine⟨.ref l,e1,.inl ⟨rfl,_,SqL.of hh⟩, ?_⟩;refine jj I q λt v H1 _ s1 r1 I1 q1=> ?_;split at q1
  ·rename_i hb;refine⟨l,xs,v,rfl,rfl,s1 _ _ hh,by rw[rr.length];exact uJ hb, ?_⟩
   exact q1 _ _ _ (zm.refl _) (I1.chg i e e1 ((rr.mono (zB.ge I.sB s1)).append (.cons r1 .nil)))
  ·exact q1.elim
 ·exact q.elim
theorem z1k {i:Nat}{x:Str}{px pa:Pos}(hv:PE X (.Name x px) (W3 i))(ha:Snd X Y a fa)(hb:attributeBase (.Name x px) "extend" X.env (eval (.Name x px) X.env)=eval (.Name x px) X.env:=by rfl)(hs:St1 X a:=by exact st1 rfl)
  (hz:(pa.endLine == p.line)=true:=by rfl) (hw:swapsWith (.Call (.Attribute (.Name x px) "extend" pa) [a] [] p) none pos.line X.env=pure false:=by rfl):JF X Y (.Expr (.Call (.Attribute (.Name x px) "extend" pa) [a] [] p) pos) (Q7 i fa):= .mk λρ=>by
 have e1:(((((backTo p (starEach [a] X.env)).all λx=> !x.fst) && (backToKw p (keywordEach [] X.env)).all λx=>x.fst.isSome) && decide (([a].length+([]:List Keyword).length+if ([]:List Keyword).isEmpty=true then 0 else 1) < 30))=true):=by rw[hs];rfl
 refine PS.imp (wl (yw dI PySem.F.slot_list_extend PySem.F.type_list_extend yx hv (zj (ha ρ) zD hs) hb e1 hz hs rfl) hw) λD σ H ⟨B,I,q⟩=> ?_;unfold Q7 at q;split at q
 ·rename_i ts e;obtain⟨l,xs,e1,b0,h0,hh,rr,d⟩:=I.ow i ts e;refine⟨.ref l,e1,.inl ⟨rfl,_,SqL.of hh⟩, ?_⟩;refine jj I q λt v H1 _ s1 r1 I1 q1=> ?_;cases r1 with
  | @lst b zs us hb r=>
   have q1:PoS Y _ (if ts.length+us.length<=bnd then .nx _ else .bad) D:=q1
   split at q1
   ·rename_i hl;refine⟨l,b,xs,zs,rfl,rfl,s1 _ _ hh,I1.sB _ _ hb,by rw[rr.length,r.length];exact Zf hl, ?_⟩
    exact q1 _ _ _ (zm.refl _) (I1.chg i e e1 ((rr.mono (zB.ge I.sB s1)).append r))
   ·exact q1.elim
  | _=>exact q1.elim
 ·exact q.elim
end
def spP (cl:Nat->Value)(n:Nat)(g:List T->R T):Sp:=λvs H Q E=>∃B ts,ts.length=n/\zm B H/\zr B vs ts/\Po ⟨B,H,E,cl,[]⟩ rC B H (g ts) Q
theorem spP.len {cl:Nat->Value}{n:Nat}{g:List T->R T}(vs:List V)(H:Hp)(Q:VK)(E:XK)(h:spP cl n g vs H Q E):vs.length=n:=by
 obtain⟨B,ts,hl,_,r,_⟩:=h;rw[r.length,hl]
def zb (n:Nat)(g:List T->R T)(ga:En->R (List T)):En->R T:=λρ=>(ga ρ).bind λts=>if ts.length=n then g ts else .bad
section
variable {X:Cx}{Y:Fx}{a b c d:Expr}{fa fb fc fd:En->R T}{pos p:Pos}
theorem Kh {CX:CXT}{k n:Nat}{f:Addr}{fd:FuncData}{ps:List Str}{g:List T->R T}{x:Str}{es:List Expr}{ga:En->R (List T)}(F:W7 X.prog X.w X.K X.mg X.base CX k f fd ps (spP Y.cl n g))(hr:jR k X.A)(gl:Gl X x)(mg:X.mg x=some (.ref f))
  (kp:cJ X.K (.ref f)=true) (bd:L2.Binds X.K fd ps []) (hx:JT CX X Y.E) (ha:uE X Y (a :: es) ga) (hd:(x == ("__debug__":Str))=false:=by decide)
  (hs:starEach (a :: es) X.env=(false,eval a X.env) :: starEach es X.env:=by exact zE rfl) (hz:((backTo pos (starEach es X.env)).any λx=>x.fst)=false:=by exact Z0 rfl):Snd X Y (.Call (.Name x p) (a :: es) [] pos) (zb n g ga):= .mk λρ=>
 PE.imp (Ji F hr gl mg kp bd .nil hx (ha ρ) hd hs hz) λσ H Q ⟨B,I,q⟩=>step I q λts vs H1 _ s1 r1 I1 q1=>by
  split at q1
  ·rename_i hn;rw[bJ];refine⟨_,ts,hn,I1.sB,r1, ?_⟩;revert q1;cases g ts with
   | bad=>exact λq1=>q1
   | ex c=>exact λq1 d H' s sB=>q1 d H' (I1.sH.trans s) sB
   | ok t=>exact λq1=>q1
  ·exact q1.elim
end
noncomputable def zh:RS->R T
 | .rt t=> .ok t
 | .rf ts=> .ok (.lst ts)
 | .nx _=> .ok .non
 | .ex c=> .ex c
 | _=> .bad
def en0 (n:Nat)(ts:List T):En:=ts.map Sl.vl++ai (n - ts.length) Sl.un
theorem zr.vl {H:Hp}:∀{vs:List V} {ts:List T} {i:Nat} {t:T} {n m:Nat},zr H vs ts->(ts.map Sl.vl++ai n Sl.un)[i]? =some (Sl.vl t)->∃v:V,(vs.map some++ai m none)[i]? =some (some v)/\Rep H v t
 | _,_,i,t,n,m,.nil,h=>by
  simp only[bR,cq]at h;rw[aR]at h;split at h
  ·cases h
  ·cases h
 | _,_,0,t,n,m,.cons r _,h=>by
  simp at h;subst h;exact⟨_,rfl,r⟩
 | _,_,i+1,t,n,m,.cons _ q,h=>by
  obtain⟨v,h1,h2⟩:=zr.vl q (by simpa using h)
  exact⟨v,by simpa using h1,h2⟩
theorem V1 {n:Nat}:∀{ts:List T} {i:Nat} {us:List T},(ts.map Sl.vl++ai n Sl.un)[i]? =some (Sl.ow us)->False
 | [],i,us,h=>by
  simp only[bR,cq]at h;rw[aR]at h;split at h
  ·cases h
  ·cases h
 | t :: ts,0,us,h=>by simp at h
 | t :: ts,i+1,us,h=>V1 (by simpa using h)
theorem V2 {n:Nat}:∀{ts:List T} {i:Nat} {c:Nat},(ts.map Sl.vl++ai n Sl.un)[i]? =some (Sl.xc c)->False
 | [],i,us,h=>by
  simp only[bR,cq]at h;rw[aR]at h;split at h
  ·cases h
  ·cases h
 | t :: ts,0,us,h=>by simp at h
 | t :: ts,i+1,us,h=>V2 (by simpa using h)
theorem yM {n:Nat}{x:Sl}(h1:∀t,x ≠ .vl t)(h2:x ≠ .un):∀{ts:List T} {i:Nat},(ts.map Sl.vl++ai n Sl.un)[i]? =some x->False
 | [],i,h=>by
  simp only[bR,cq]at h;rw[aR]at h;split at h
  ·exact h2 (aI h).symm
  ·cases h
 | t :: ts,0,h=>h1 t (aI (by simpa using h)).symm
 | t :: ts,i+1,h=>yM h1 h2 (by simpa using h)
theorem SI.start {Y:Fx}{N:List Str}{vs:List V}{ts:List T}(s:zm Y.B0 Y.H0)(r:zr Y.B0 vs ts):SI Y Y.B0 (en0 N.length ts) (L2.start N vs) Y.H0 where
 s0:=s
 sH:=zm.refl _
 sB:=s
 old:=λ_ _ _=>rfl
 len:=by unfold en0 L2.start;simp[r.length]
 vl:=λi t h=>r.vl h
 ow:=λi ts h=>(V1 h).elim
 xc:=λi c h=>(V2 h).elim
 st:=StI.no λi s hs h=>yM (λt z=>by rw[z]at hs;cases hs) (λz=>by rw[z]at hs;cases hs) h
section
variable {P:Program}{w:World}{K:ag}{mg:Str->Option Value}{base:Heap}
theorem Ki {cl:Nat->Value}{x qual:Str}{st:Stmt}{f:Addr}{fd:FuncData}{N ps:List Str}{k n:Nat}{fb:En->RS}{g:List T->R T}(F:Fun K x qual st f fd)(S:Jj N ps (zg st))(hn:n=ps.length)
  (hb:∀(cdv:Value) (A:Around) (outer:List Env) (s:Shared) (H:Hp) (E:XK) (Y:Fx),Y.cl=cl->jR k (A.deeper (envOfC qual (zg st) s.heap.objs.size f cdv))->
   WX (JU CX0 P w K mg base N qual (zg st) f cdv A outer s H E).nox Y (Z6 st) fb)
  (hg:∀ts,ts.length=n->g ts=zh (fb (en0 N.length ts))):W7 P w K mg base CX0 (k+1) f fd ps (spP cl n g):=by
 subst hn;refine F.ok S spP.len λcdv A outer s H vs Q E hr ⟨B,ts,hl,sB,r,q⟩=> ?_;refine⟨_,hb cdv A _ s H E ⟨B,H,E,cl,[]⟩ rfl hr _,B,SI.start sB r, ?_⟩;rw[hg ts hl]at q;revert q;cases fb _ with
 | rt t=>exact λq v H' s r=>q v H' s r
 | rf t=>exact λq a xs H' B' s0 n e r _ l=>q _ H' s0 (.lst (by rw[zR n];exact e) (r.mono l))
 | nx ρ=>exact λq σ' H' B' _ I=>q _ H' I.sH .non
 | ex c=>exact λq=>q
 | bk ρ=>exact λq=>q.elim
 | ct ρ=>exact λq=>q.elim
 | bad=>exact λq=>q
end
abbrev rI:Hp->Hp->It->List T->Prop:=λB1 _ J ts=>∀B2 H2,zm B1 B2->zm B2 H2->(∀i,i < ts.length->J.go i H2)/\(∀(i:Nat) t x H3,ts[i]? =some t->J.yld i H2 x H3->zm H2 H3/\Rep (zB B2 H2 H3) x t)/\(∀i,ts.length<=i->J.stop i H2)
structure WY (X:Cx) (Y:Fx) (tg iter:Expr) (f:En->R (List T)):Prop where
 mk ::
 go:∀ρ,PI X tg iter (tS Y rI f ρ)
instance {X:Cx}{Y:Fx}{tg iter:Expr}{f:En->R (List T)}:CoeFun (WY X Y tg iter f) λ_=>∀ρ,PI X tg iter (tS Y rI f ρ):=⟨WY.go⟩
section
variable {X:Cx}{Y:Fx}{a b c d tg:Expr}{fa fb fc fd:En->R T}{pos p:Pos}
theorem PI.imp {e:Expr}{t t' :TI}(h:PI X tg e t)(i:∀σ H Q,t' σ H Q->t σ H Q):PI X tg e t' :=λpins s σ H Q I q=>h _ s σ H Q I (i σ H Q q)
theorem Kj {l:Expr}{tl:TE}(hl:PE X l tl):PI X tg l (λσ H R=>tl σ H λx H1=>∃a,x= .ref a/\(((∃xs,SqL X.K H1 a xs)/\R (Itl X.K a) H1)\/((∃xs,SqT X.K H1 a xs)/\R (Itt X.K a) H1))):=by
 intro pins s σ H R I h;refine thn (hl _ s σ H _ I h) λv s1 ⟨x,H1,I1,r1,q1⟩=> ?_;obtain⟨a,e,q⟩:=q1;subst e;obtain rfl:v=Value.ref a:=r1;have ok:∀b∈[s1.heap.objs.size],wY X _ H1 b:=λb hb=>by
  have e:=by simpa using hb
  subst e;exact I1.fpOk (ak _) (I1.hok.fresh (ak _))
 rcases q with ⟨⟨xs,hq⟩,q⟩ | ⟨⟨xs,hq⟩,q⟩
 ·obtain⟨its,rv,p,hz⟩:=I1.list hq;exact cA p.isList ⟨s1.heap.objs.size,[s1.heap.objs.size],_,_,H1,rfl,I1.kept λb o e=>aa _ e,W5 a _,⟨_,af _ rfl,rfl,rfl⟩,ok,q⟩
 ·obtain⟨its,rv,p,hz⟩:=I1.tuple hq;exact cf (show s1.heap.IsTuple a _ from p) ⟨s1.heap.objs.size,[s1.heap.objs.size],_,_,H1,rfl,I1.kept λb o e=>aa _ e,JR a _,⟨_,af _ rfl,rfl,rfl⟩,ok,q⟩
theorem Kk {K:ag}{B1 H1:Hp}{a:Addr}{xs:List V}{ts:List T}(h:B1 a=some (.tup xs))(r:zr B1 xs ts):rI B1 H1 (Itt K a) ts:=λB2 H2 s1 s2=>by
 have h2:=s2 _ _ (s1 _ _ h);refine⟨λi hi=> ?_,λi t x H3 e y=> ?_,λi hi=>⟨xs,SqT.of h2,by rw[r.length];exact hi⟩⟩
 ·obtain⟨v,e,_⟩:=r.get (aj hi);exact⟨xs,v,SqT.of h2,e⟩
 ·obtain⟨rfl,y⟩:=y;obtain⟨v,e1,r1⟩:=r.get e;have:=y xs (SqT.of h2);rw[e1]at this;cases this;refine⟨zm.refl _, ?_⟩;rw[zB.self B2 _ s2];exact r1.mono s1
theorem Kl {K:ag}{B1 H1:Hp}{a:Addr}{xs:List V}{ts:List T}(h:B1 a=some (.lst xs))(r:zr B1 xs ts):rI B1 H1 (Itl K a) ts:=λB2 H2 s1 s2=>by
 have h2:=s2 _ _ (s1 _ _ h);refine⟨λi hi=> ?_,λi t x H3 e y=> ?_,λi hi=>⟨xs,SqL.of h2,by rw[r.length];exact hi⟩⟩
 ·obtain⟨v,e,_⟩:=r.get (aj hi);exact⟨xs,v,SqL.of h2,e⟩
 ·obtain⟨rfl,y⟩:=y;obtain⟨v,e1,r1⟩:=r.get e;have:=y xs (SqL.of h2);rw[e1]at this;cases this;refine⟨zm.refl _, ?_⟩;rw[zB.self B2 _ s2];exact r1.mono s1
noncomputable def rng (lo:Int)(n:Nat):List T:=(aY n).map λ(i:Nat)=>T.int (lo+(i:Int))
theorem V3 {B1 H1:Hp}{lo:Int}{n:Nat}:rI B1 H1 (Itr lo n) (rng lo n):=λB2 H2 s1 s2=>by
 have hl:(rng lo n).length=n:=by unfold rng;simp
 refine⟨λi hi=>by rw[hl]at hi;exact hi,λi t x H3 e y=> ?_,λi hi=>by rw[hl]at hi;exact hi⟩
 obtain⟨rfl,rfl⟩:=y;refine⟨zm.refl _, ?_⟩;unfold rng at e;rw[ax]at e
 by_cases hi:i < n
 ·rw[dw hi]at e;cases e;exact .int _
 ·rw[aV (by simp;omega)]at e;cases e
def Zx (fa:En->R T):En->R (List T):=λρ=>(fa ρ).bind λt=>match t with
 | .int j=>if -1000000 < j/\j < 1000000 then .ok (rng 0 j.toNat) else .bad
 | _=> .bad
def jV (fa fb:En->R T):En->R (List T):=λρ=>(fa ρ).bind λt=>(fb ρ).bind λt' =>match t,t' with
 | .int i,.int j=>if -1000000 < i/\i < 1000000/\ -1000000 < j/\j < 1000000 then .ok (rng i (j - i).toNat) else .bad
 | _,_=> .bad
theorem Km (gl:Gl X "range")(mg:X.mg "range"=none)(ha:Snd X Y a fa)(hs:St1 X a:=by exact st1 rfl):WY X Y tg (.Call (.Name "range" p) [a] [] pos) (Zx fa):= .mk λρ=>PI.imp (yi gl mg (zj (ha ρ) zD hs) hs) λσ H R ⟨B,I,q⟩=>step I q λt v H1 _ s1 r1 I1 q1=>by
 cases r1 with
 | int j=>
  have q1:Po Y rI _ H1 (if -1000000 < j/\j < 1000000 then .ok _ else .bad) R:=q1
  split at q1
  ·exact⟨j,rfl,by omega,by omega,Zw I1 q1 V3⟩
  ·exact q1.elim
 | _=>exact q1.elim
theorem Kn (gl:Gl X "range")(mg:X.mg "range"=none)(ha:Snd X Y a fa)(hb:Snd X Y b fb)(hs:starEach [a,b] X.env=[(false,eval a X.env),(false,eval b X.env)]:=by exact st2 rfl rfl)(hs2:St1 X b:=by exact st1 rfl):WY X Y tg (.Call (.Name "range" p) [a,b] [] pos) (jV fa fb):= .mk λρ=>
 PI.imp (yj gl mg (zj (ha ρ) (zj (hb ρ) zD hs2) (by rw[hs,hs2])) hs hs2) λσ H R ⟨B,I,q⟩=>step I q λt v H1 _ s1 r1 I1 q1=>step I1 q1 λt' v' H2 _ s2 r2 I2 q2=>by
  cases r1 with
  | int i=>
   cases r2 with
   | int j=>
    have q2:Po Y rI _ H2 (if -1000000 < i/\i < 1000000/\ -1000000 < j/\j < 1000000 then .ok _ else .bad) R:=q2
    split at q2
    ·exact⟨i,j,rfl,⟨by omega,by omega,by omega,by omega⟩,Zw I2 q2 V3⟩
    ·exact q2.elim
   | _=>exact q2.elim
  | _=>cases r2 <;> exact q2.elim
def Ko (X:Cx)(Y:Fx)(tg:Expr)(g:T->En->R En):Prop:=∃t:TG,PG X tg t/\∀B ρ σ H v x Q,SI Y B ρ σ H->Rep B v x->(match g x ρ with | .ok ρ' =>∀σ',SI Y B ρ' σ' H->Q σ' H | _=>False)->t v σ H Q
def zC (i:Nat):T->En->R En:=λt ρ=> .ok (ρ.set i (.vl t))
theorem V4 {i:Nat}{x:Str}(hN:X.N.Nodup)(hi:X.N[i]? =some x)(hx:L2.Loc X.env.scope x)(hf:X.fn x=true\/X.env.scope.names.lookup x=some .local:=by first | exact .inl rfl | exact .inr rfl | assumption):Ko X Y (.Name x pos) (zC i):=
 ⟨wm i,j7 hN hi hx hf,λB ρ σ H v x Q I r q=>q _ (I.setV i r)⟩
def zK (i j:Nat):T->En->R En:=λt ρ=>match t with
 | .tup [x,y]=> .ok ((ρ.set i (.vl x)).set j (.vl y))
 | _=> .bad
theorem V5 {i j:Nat}{x y:Str}{p' p2:Pos}{k:Nat}(hc:X.calm=true)(hN:X.N.Nodup)(hi:X.N[i]? =some x)(hj:X.N[j]? =some y)(hx:L2.Loc X.env.scope x)(hy:L2.Loc X.env.scope y)
  (hf:X.fn x=true\/X.env.scope.names.lookup x=some .local:=by first | exact .inl rfl | exact .inr rfl | assumption) (hf' :X.fn y=true\/X.env.scope.names.lookup y=some .local:=by first | exact .inl rfl | exact .inr rfl | assumption):
  Ko X Y (.Tuple [.Name x pos,.Name y p'] k p2) (zK i j):=by
 refine⟨GM X.K 2 _,vS hc (jY (j7 hN hi hx hf) (jY (j7 hN hj hy hf') yh)),λB ρ σ H v t Q I r q=> ?_⟩;cases r with
 | @tup l xs ts h r=>
  cases r with
  | nil=>exact q.elim
  | cons r1 rr=>
   cases rr with
   | nil=>exact q.elim
   | cons r2 rr=>
    cases rr with
    | cons _ _=>exact q.elim
    | nil=>
     exact⟨l,_,rfl,SqT.of (I.sB _ _ h),rfl,_,_,rfl,_,_,rfl,rfl,q _ ((I.setV i r1).setV j r2)⟩
 | _=>exact q.elim
def Zj (g:T->En->R En)(fb:En->RS):List T->En->RS
 | [],ρ=> .nx ρ
 | t :: ts,ρ=>match g t ρ with
  | .ok ρ1=>match fb ρ1 with
   | .nx ρ2=>Zj g fb ts ρ2
   | .ct ρ2=>Zj g fb ts ρ2
   | .bk ρ2=> .nx ρ2
   | r=>r
  | .ex c=> .bad
  | .bad=> .bad
def j3 (fi:En->R (List T))(g:T->En->R En)(fb:En->RS):En->RS:=λρ=>(fi ρ).s λts=>Zj g fb ts ρ
theorem z1l {iter:Expr}{sts:List Stmt}{fi:En->R (List T)}{g:T->En->R En}{fb:En->RS}(hp:PassesOwn (model X.prog X.w) X.A X.env X.xe)(hc:X.calm=true)(hi:WY X Y tg iter fi)(hg:Ko X Y tg g)(hb:WX X Y sts fb)
  (hs:∀x,foldedSetIterable iter X.env x=pure x:=by intro _;rfl):JF X Y (.For tg iter sts [] pos) (j3 fi g fb):= .mk λρ=>by
 obtain⟨tG,hG,hG'⟩:=hg;refine PS.imp (vT (tb:=λD σ H=>∃ρ',tSS Y fb ρ' D σ H) hp hc (hi ρ) hG (λpins s σ H D I ⟨ρ',q⟩=>hb ρ' _ s σ H D I q) hs) λD σ H ⟨B,I,q⟩=> ?_;refine jj I q λts J H1 _ s1 r1 I1 q1=> ?_;refine⟨λi m σ' H' =>m=ts.length - i/\i<=ts.length/\∃ρ' B',SI Y B' ρ' σ' H' /\zm _ B' /\PoS Y B' (Zj g fb (ts.drop i) ρ') D,⟨ts.length,by simp,aZ _,ρ,_,I1,zm.refl _,q1⟩, ?_⟩
 rintro i m σ' H' ⟨rfl,hi,ρ',B',I',sB',q'⟩
 obtain⟨hgo,hyld,hstop⟩:=r1 B' H' sB' I'.sB
 by_cases hlt:i < ts.length
 ·refine .inr ⟨hgo i hlt,λσ2 H2=>∃ρ2 B2,SI Y B2 ρ2 σ2 H2/\zm _ B2/\PoS Y B2 _ D,λσ2 H2 ⟨ρ2,B2,I2,s2,q2⟩=>⟨ts.length - (i+1),by omega,rfl,hlt,ρ2,B2,I2,s2,q2⟩,λx H2 y=> ?_⟩
  obtain⟨s2,r2⟩:=hyld i _ x H2 (aj hlt) y;rw[dq hlt]at q';unfold Zj at q';refine hG' _ ρ' σ' H2 x _ _ (I'.grow s2) r2 ?_;cases eg:g _ ρ' with
  | bad=>rw[eg]at q';exact q'
  | ex c=>rw[eg]at q';exact q'
  | ok ρ1=>
   rw[eg]at q';intro σ1 J1;refine⟨ρ1,_,J1, ?_⟩;have q2:=PoS.up (zB.ge I'.sB s2) q';dsimp only at q2;have s3:=sB'.trans (zB.ge I'.sB s2);revert q2;cases fb ρ1 with
   | nx ρ2=>exact λq2 σ3 H3 B3 s4 I3=>⟨ρ2,B3,I3,s3.trans s4,PoS.up s4 q2⟩
   | ct ρ2=>exact λq2 σ3 H3 B3 s4 I3=>⟨ρ2,B3,I3,s3.trans s4,PoS.up s4 q2⟩
   | bk ρ2=>exact λq2=>q2
   | rt t=>exact λq2=>q2
   | rf t=>exact λq2=>q2
   | ex c=>exact λq2=>q2
   | bad=>exact λq2=>q2
 ·have e:i=ts.length:=by omega
  subst e;rw[fV]at q';exact .inl ⟨hstop _ (ak _),q' σ' H' B' (zm.refl _) I'⟩
def Zk (g:En->R Bool)(fb:En->RS):Nat->En->RS
 | 0,_=> .bad
 | n+1,ρ=>(g ρ).s λk=>if k=true then match fb ρ with
   | .nx ρ2=>Zk g fb n ρ2
   | .ct ρ2=>Zk g fb n ρ2
   | .bk ρ2=> .nx ρ2
   | r=>r
  else .nx ρ
theorem yN {n:Nat}{sts:List Stmt}{ga:En->R Bool}{fb:En->RS}(hp:PassesOwn (model X.prog X.w) X.A X.env X.xe)(hc:u6 X Y c ga)(hb:WX X Y sts fb):JF X Y (.While c sts [] pos) (Zk ga fb n):= .mk λρ=>by
 refine PS.imp (Qg (tc:=λσ H Q=>∃ρ',tS Y rE ga ρ' σ H Q) (tb:=λD σ H=>∃ρ',tSS Y fb ρ' D σ H) hp (λpins s σ H D I ⟨ρ',q⟩=>hc ρ' _ s σ H D I q) (λpins s σ H D I ⟨ρ',q⟩=>hb ρ' _ s σ H D I q)) λD σ H ⟨B,I,q⟩=> ?_;refine⟨λm σ' H' =>∃ρ' B',SI Y B' ρ' σ' H' /\PoS Y B' (Zk ga fb m ρ') D,⟨n,ρ,B,I,q⟩, ?_⟩
 rintro m σ' H' ⟨ρ',B',I',q'⟩
 cases m with
 | zero=>exact q'.elim
 | succ m=>
  unfold Zk at q';refine⟨ρ',jj I' q' λt v H1 _ s1 r1 I1 q1=> ?_⟩;have r1' :=r1;subst r1';cases v with
  | false=>exact q1 _ _ _ (zm.refl _) I1
  | true=>
   refine⟨λσ2 H2=>∃ρ2 B2,SI Y B2 ρ2 σ2 H2/\PoS Y B2 _ D,λσ2 H2 h=>⟨m,eD m,h⟩,ρ',_,I1, ?_⟩;revert q1;cases fb ρ' with
   | nx ρ2=>exact λq2 σ3 H3 B3 s4 I3=>⟨ρ2,B3,I3,PoS.up s4 q2⟩
   | ct ρ2=>exact λq2 σ3 H3 B3 s4 I3=>⟨ρ2,B3,I3,PoS.up s4 q2⟩
   | bk ρ2=>exact λq2=>q2
   | rt t=>exact λq2=>q2
   | rf t=>exact λq2=>q2
   | ex c=>exact λq2=>q2
   | bad=>exact λq2=>q2
end
theorem Jn {env:Env}:∀(ns:List (Str×NameKind)) (acc:List (Str×Addr)),(∀x∈ns,x.2=NameKind.free->∃c,env.cells.lookup x.1=some c)->(∀x c,acc.lookup x=some c->env.cells.lookup x=some c)->
  ∃cl,(forIn ns acc (λ(x:Str×NameKind) (r:List (Str×Addr))=>if (x.2 == NameKind.free)=true then (do let c ← cellOf env x.1;pure (ForInStep.yield ((x.1,c) :: r))) else pure (ForInStep.yield r)):Sem _)=pure cl/\
   (∀x c,cl.lookup x=some c->env.cells.lookup x=some c)/\(∀x c,acc.lookup x=some c->∃c',cl.lookup x=some c')/\(∀x∈ns,x.2=NameKind.free->∃c,cl.lookup x.1=some c)
 | [],acc,_,h=>⟨acc,rfl,h,λx c e=>⟨c,e⟩,λx hx=>by simp at hx⟩
 | (n,k) :: ns,acc,hf,h=>by
  by_cases hk:k=NameKind.free
  ·obtain⟨c,hc⟩:=hf _ ab hk;have h' :∀x d,((n,c) :: acc).lookup x=some d->env.cells.lookup x=some d:=λx d e=>by
    by_cases hx:x=n
    ·subst hx;have e' :=by simpa[aO] using e
     cases e';exact hc
    ·have e' :=by
      rw[aO,(beq_eq_false_iff_ne.mpr hx)]at e;exact e
     exact h x d e'
   obtain⟨cl,e,h1,h2,h3⟩:=Jn ns _ (λx hx=>hf x (a9 _ hx)) h';refine⟨cl, ?_,h1,λx d ed=> ?_,λx hx hxf=> ?_⟩
   ·rw[lw];subst hk;have q:cellOf env n=pure c:=by unfold cellOf;rw[hc]
    simp only[beq_self_eq_true,if_true,q];exact e
   ·by_cases hx:x=n
    ·subst hx;exact h2 x c (by simp[aO])
    ·exact h2 x d (by rw[aO,(beq_eq_false_iff_ne.mpr hx)];exact ed)
   ·rcases ao.mp hx with rfl | hx
    ·exact h2 n c (by simp[aO])
    ·exact h3 x hx hxf
  ·obtain⟨cl,e,h1,h2,h3⟩:=Jn ns acc (λx hx=>hf x (a9 _ hx)) h;refine⟨cl, ?_,h1,h2,λx hx hxf=> ?_⟩
   ·rw[lw];have q:(k == NameKind.free)=false:=by simpa using hk
    simp only[q,aL,if_false];exact e
   ·rcases ao.mp hx with rfl | hx
    ·exact absurd hxf hk
    ·exact h3 x hx hxf
theorem xA {scope:Scope}{env:Env}(hf:∀x∈scope.names,x.2=NameKind.free->∃c,env.cells.lookup x.1=some c):
  ∃cl,closureFor scope env=pure cl/\(∀x c,cl.lookup x=some c->env.cells.lookup x=some c)/\(∀x∈scope.names,x.2=NameKind.free->∃c,cl.lookup x.1=some c):=by
 obtain⟨cl,e,h1,_,h3⟩:=Jn _ [] hf (λx c e=>by simp at e)
 refine⟨cl, ?_,h1,h3⟩;unfold closureFor;exact(by simpa using e)
def cxC (X:Cx)(scope:Scope)(N' :List Str)(cl:List (Str×Addr))(C:Addr)(s3:Shared)(H3:Hp)(fp:List Addr)(pins:List (Addr×Obj)):Cx:=
 { X with N:=N',s₀:=s3,H₀:=H3,env:=compEnvC scope cl C X.env,outer:=X.stack,stack:=X.stack,ex:=fp,fn:=λ_=>false,pn:=X.pn++pins,xe:=λ_ _=>False }
structure CSc (X:Cx) (scope:Scope):Prop where
 kind:scope.kind= .function
 nocell:∀x∈scope.names,x.2 ≠ .cell
 loc:∀x∈scope.names,x.2= .local->scope.names.lookup x.1=some .local
 fre:∀x∈scope.names,x.2= .free->X.env.kindOf x.1=some .cell\/X.env.kindOf x.1=some .free
theorem jk {scope:Scope}{env:Env}{x:Str}{k:NameKind}(h:(relabel scope env).names.lookup x=some k)(hk:k= .cell\/k= .free)(hn:∀x∈scope.names,x.2 ≠ NameKind.cell):∃y∈scope.names,y.1=x/\y.2= .free:=by
 have go:∀ns:List (Str×NameKind),(∀x∈ns,x.2 ≠ NameKind.cell)->(ns.map λ(n,k)=>if (k == NameKind.free && env.scope.kind == .function && env.kindOf n == some .cell) then (n,NameKind.cell) else (n,k)).lookup x=some k->∃y∈ns,y.1=x/\y.2= .free:=by
  intro ns
  induction ns with
  | nil=>intro _ h;simp at h
  | cons y ns ih=>
   intro hn h;obtain⟨n,k'⟩:=y
   by_cases hx:x=n
   ·subst hx;refine⟨(x,k'),ab,rfl, ?_⟩;rw[aq]at h
    by_cases hc:(k' == NameKind.free && env.scope.kind == .function && env.kindOf x == some .cell)=true
    ·rw[ah,ah]at hc;exact eq_of_beq hc.1.1
    ·simp only[if_neg hc,aO,beq_self_eq_true]at h;cases h;rcases hk with rfl | rfl
     ·exact absurd rfl (hn _ ab)
     ·rfl
   ·obtain⟨z,hz,h1,h2⟩:=ih (λz hz=>hn z (a9 _ hz)) (by
     rw[aq]at h
     by_cases hc:(k' == NameKind.free && env.scope.kind == .function && env.kindOf n == some .cell)=true
     ·simp only[if_pos hc,aO,(beq_eq_false_iff_ne.mpr hx)]at h;exact h
     ·simp only[if_neg hc,aO,(beq_eq_false_iff_ne.mpr hx)]at h;exact h)
    exact⟨z,a9 _ hz,h1,h2⟩
 exact go _ hn h
section
variable {X:Cx}{pins:List (Addr×Obj)}{σ:Sg}{H:Hp}{s:Shared}
theorem yO {scope:Scope}{N' :List Str}{cl:List (Str×Addr)}{fp:List Addr}{h' :Heap}{tk:Nat}{σ' :Sg}(I:L2.Inv X pins σ H s)(S:CSc X scope)(hc:X.calm=true)
  (hcl:∀x c,cl.lookup x=some c->X.env.cells.lookup x=some c) (hcf:∀x∈scope.names,x.2=NameKind.free->∃c,cl.lookup x.1=some c)
  (hfp:∀b∈fp,wY X pins H b) (hfo:∀b∈fp,∃o,s.heap.get? b=some o)
  (hns:h'.Ns s.heap.objs.size (λ_=>none)) (hk:∀b o,s.heap.get? b=some o->h'.get? b=some o)
  (hl:σ'.length=N'.length) (hσ:∀(i:Nat) (x:Str) (v:V),N'[i]? =some x->σ'[i]? =some (some v)->∃j:Nat,X.N[j]? =some x/\σ[j]? =some (some v)/\Vis X.env.scope x/\(scope.names.lookup x=some .free)/\(X.env.kindOf x=some .cell\/X.env.kindOf x=some .free)):
  L2.Inv (cxC X scope N' cl s.heap.objs.size s H fp pins) [] σ' H { s with heap:=h',toks:=tk }:=by
 have stk:=I.stkSub;have hlt:=λb hb=>let ⟨o,e⟩:=hfo b hb;am e;have fresh:=I.hok.fresh (ak _);refine⟨⟨I.ok.mod,S.kind,I.ok.glob,I.ok.blt,ak _,λx y c h1 h2=>I.ok.inj x y c (hcl _ _ h1) (hcl _ _ h2),λx hx=> ?_,λx c h _=>(az h).elim,λ_=>I.ok.hd hc,I.ok.frames,.inl rfl,λb hb=> ?_,I.bs,
   ar I.ok.bsz I.sz,λb o e hb=> ?_,λb hb hb' => ?_,I.stack,I.stkFree⟩,rfl,I.bare,Un.kept hk,⟨_,hns,λi x v h1 h2 h3=> ?_⟩,λx c e=> ?_,fresh,λx c e=>I.freeC x c (hcl _ _ e),λp hp=> ?_,I.hok.kept hk,hl⟩
 ·have hx' :=hx;obtain⟨y,hy,rfl,hyf⟩:∃y∈scope.names,y.1=x/\y.2= .free:=by
   rcases hx' with h | h
   ·exact jk h (.inl rfl) S.nocell
   ·exact jk h (.inr rfl) S.nocell
  exact hcf y hy hyf
 ·refine⟨aD (hlt b hb),λx c e=>(hfp b hb).2.2.2.2.1 x c (hcl _ _ e)⟩
 ·rcases(hfp b hb).2.2.2.1 with h | h
  ·exact I.ok.noex b o e h
  ·exact absurd (aK (am e) (ar I.ok.bsz h)) (bi _)
 ·have q:=hfp b hb;rcases ao.mp (stk b hb') with z | z
  ·exact q.2.1 z
  ·exact q.2.2.1 z
 ·obtain⟨j,e1,e2,e3,e4,e5⟩:=hσ i x v h1 h2;obtain⟨m,hn,hloc⟩:=I.loc;obtain⟨u,ru,lk⟩:=hloc j x v e1 e2 e3;refine⟨u,ru,.inr ⟨?_, ?_⟩⟩
  ·rcases h3 with h | h | h
   ·exfalso;have:∀ns:List _,ns.lookup x=some .free->(ns.map λ(n,k)=>if (k == NameKind.free && X.env.scope.kind == .function && X.env.kindOf n == some .cell) then (n,NameKind.cell) else (n,k)).lookup x ≠ some .local:=by
     intro ns
     induction ns with
     | nil=>intro z;simp at z
     | cons y ns ih=>
      obtain⟨n,k⟩:=y;intro z w;rw[aq]at w
      by_cases hx:x=n
      ·subst hx;have hkf:=by simpa[aO] using z
       by_cases hcn:(k == NameKind.free && X.env.scope.kind == .function && X.env.kindOf x == some .cell)=true
       ·simp only[if_pos hcn,aO,beq_self_eq_true]at w;cases w
       ·simp only[if_neg hcn,aO,beq_self_eq_true]at w;rw[hkf]at w;cases w
      ·have z' :=by rw[aO,(beq_eq_false_iff_ne.mpr hx)]at z;exact z
       refine ih z' ?_
       by_cases hcn:(k == NameKind.free && X.env.scope.kind == .function && X.env.kindOf n == some .cell)=true
       ·simp only[if_pos hcn,aO,(beq_eq_false_iff_ne.mpr hx)]at w;exact w
       ·simp only[if_neg hcn,aO,(beq_eq_false_iff_ne.mpr hx)]at w;exact w
    exact this _ e4 h
   ·exact .inl h
   ·exact .inr h
  ·rcases lk with ⟨hk',_⟩ | ⟨_,c,hc',hcell⟩
   ·rcases e5 with z | z <;> (rw[z]at hk';cases hk')
   ·obtain⟨c',hc2⟩:=hcf _ (b_ e4) rfl;have:=hcl x c' hc2;rw[hc']at this;cases this;obtain⟨o,eo,ed⟩:=hcell;exact⟨c,hc2,o,hk _ _ eo,ed⟩
 ·obtain⟨v,o,eo,ed⟩:=I.cell x c (hcl _ _ e);exact⟨v,o,hk _ _ eo,ed⟩
 ·have hp' :=by
   have:=hp;rwa[bJ]at this
  obtain⟨e,n,ne,nf,dc⟩:=I.pin p hp';refine⟨hk _ _ e,n,aD (am e),λhb=> ?_,dc⟩;rcases ao.mp (stk _ hb) with z | z
  ·exact ne z
  ·exact nf z
end
def PIf (X:Cx)(ifs:List Expr)(t:TT):Prop:=
 ∀(pins:List (Addr×Obj)) (s:Shared) (σ:Sg) (H:Hp) (Q:Bool->Hp->Prop),L2.Inv X pins σ H s->t σ H Q->
  wpAny (model X.prog X.w) X.A (forIn ifs true λc r=>if r=true then do let ok ← isTrue c X.env (eval c X.env);pure (ForInStep.yield ok) else pure (ForInStep.yield r)) (TP X pins σ Q) X.xe s
theorem xB {X:Cx}:PIf X [] (λ_ H Q=>Q true H):=λ_ _ σ H _ I h=>wpAny_tests_nil ⟨H,I,h⟩
theorem xC {X:Cx}{c:Expr}{t:TT}(h:PT X c t):PIf X [c] t:=λpins s σ H Q I q=>wpAny_tests_one (h _ s σ H Q I q)
noncomputable abbrev XE (X:Cx)(xe:Value->Shared->Prop):Cx:={ X with xe:=xe }
theorem uK {X:Cx}{pins:List (Addr×Obj)}{σ:Sg}{H:Hp}{s:Shared}{xe:Value->Shared->Prop}(I:L2.Inv X pins σ H s):L2.Inv (XE X xe) pins σ H s:=
 ⟨⟨I.ok.mod,I.ok.kind,I.ok.glob,I.ok.blt,I.ok.above,I.ok.inj,I.ok.has,I.ok.cab,I.ok.hd,I.ok.frames,I.ok.stk,I.ok.exf,I.ok.bs,I.ok.bsz,I.ok.noex,I.ok.exfs,I.ok.funs,I.ok.frf⟩,I.os,I.bare,I.base,I.loc,I.cell,I.free,I.freeC,I.pin,I.hok,I.len⟩
theorem yP {X:Cx}{pins:List (Addr×Obj)}{σ:Sg}{H:Hp}{s:Shared}{xe:Value->Shared->Prop}(I:L2.Inv (XE X xe) pins σ H s):L2.Inv X pins σ H s:=(uK I:L2.Inv _ _ σ H s)
theorem z1m {X:Cx}{e:Expr}{t:TG}{xe:Value->Shared->Prop}(hx:X.xe=λ_ _=>False)(h:PG X e t):PG (XE X xe) e t:=λpins s σ H v u Q I r q=>dE (h _ s σ H v u Q (yP I) r q) (λ_ s' ⟨σ',H',I',q'⟩=>⟨σ',H',uK I',q'⟩) λe s' z=>by rw[hx]at z;exact z.elim
theorem Kp {X:Cx}{e:List Expr}{t:TT}{xe:Value->Shared->Prop}(hx:X.xe=λ_ _=>False)(h:PIf X e t):PIf (XE X xe) e t:=λpins s σ H Q I q=>dE (h _ s σ H Q (yP I) q) (λ_ s' ⟨H',I',q'⟩=>⟨H',uK I',q'⟩) λe s' z=>by rw[hx]at z;exact z.elim
theorem uL {α:Type}{M:Model}{A:Around}{m:Sem α}{Q:α->Shared->Prop}{E E' :Value->Shared->Prop}{s:Shared}(hE:∀e s',E' e s' ->E e s')(h:wpAny M A m Q E' s):wpAny M A m Q E s:=dE h (λ_ _ q=>q) hE
def QA (J:It)(D:Addr)(g:TG)(tt:TT)(te:TE)(fin:Sg->Hp->Prop)(W:Nat->Nat->List V->Sg->Hp->Prop):Prop:=
 ∀i m ys σ H,W i m ys σ H->H D=some (.lst ys)/\((J.stop i H/\fin σ H)\/(J.go i H/\∀x H2,J.yld i H x H2->g x σ H2 λσ3 H3=>tt σ3 H3 λk H4=>
  if k=true then te σ3 H4 λv H5=>H5 D=some (.lst ys)/\ys.length < sizeLine/\∃m',m' < m/\W (i+1) m' (ys++[v]) σ3 (upd H5 D (.lst (ys++[v]))) else ∃m',m' < m/\W (i+1) m' ys σ3 H4))
theorem yQ {X:Cx}{R:Result->Shared->Prop}(hx:∀e s',X.xe e s' ->notedBy (model X.prog X.w) X.A X.env (λe s' =>R (.error e) s') e s')(hc:X.calm=true){tg iter elt:Expr}{ifs:List Expr}{scope:Scope}{pos:Pos}{J:It}{fp:List Addr}{it:Addr}{tn:Nat->Heap->Prop}(TJ:Ur X.prog X.w X.K tg J fp it tn)
  {g:TG} {tt:TT} {te:TE} (hg:PG X tg g) (ht:PIf X ifs tt) (he:PE X elt te) {D:Addr} {fin:Sg->Hp->Prop} (W:Nat->Nat->List V->Sg->Hp->Prop) (turn:QA J D g tt te fin W)
  (hR:∀s σ H,L2.Inv X [] σ H s->fin σ H->R (.ok .next) s) {m0:Nat} {σ0:Sg} {H0:Hp} {s0:Shared} (w0:W 0 m0 [] σ0 H0) (I0:L2.Inv X [] σ0 H0 s0) (t0:tn 0 s0.heap) (f0:∀b∈fp,wY X [] H0 b):
  codeAny (model X.prog X.w) X.A (.compLoop (.ListComp elt [⟨tg,iter,ifs,0⟩] scope pos) 0 (.ref it) (.ref D) X.env) R s0:=by
 have stat:∀{H' :Hp},(∀b∈fp,H' b=none)->∀b∈fp,wY X [] H' b:=λhn b hb=>⟨hn b hb,(f0 b hb).2⟩;refine codeAny_loop rfl (λn s' =>∃i ys σ' H',L2.Inv X [] σ' H' s' /\tn i s'.heap/\(∀b∈fp,H' b=none)/\W i n ys σ' H') (λn s3 h3=> ?_) m0 ⟨0,[],σ0,H0,I0,t0,λb hb=>(f0 b hb).1,w0⟩;obtain⟨i,ys,σ3,H3,I3,st3,fr3,w3⟩:=h3;show wpAny _ X.A ((compTurn _ 0 _ _ _).onRaise (λx=>do noteFrame x _;theTreesLotGoes x)) _ _ s3
 refine wpAny_noted ?_;obtain⟨hD,h⟩:=turn i n ys σ3 H3 w3;rcases h with ⟨stop,qn⟩ | ⟨go,next⟩
 ·refine a8 (wpAny_standAt (a8 (thn (TJ.done X rfl rfl rfl hc i [] s3 σ3 H3 _ I3 (stat fr3) st3 stop) λr s4 ⟨hr,I4⟩=> ?_)));subst hr;exact ac (hR s4 σ3 H3 I4 qn)
 ·refine a8 (wpAny_standAt (a8 (thn (TJ.item X rfl rfl rfl hc i [] s3 σ3 H3 _ I3 (stat fr3) st3 go) λr s4 ⟨u,hr,h4⟩=> ?_)));subst hr;refine a8 (thn h4 λ_ s5 ⟨x,H5,I5,r5,y5,st5,fr5⟩=> ?_);have I5' :=I5.pinned (stat fr5) (TJ.obj _ _ st5);refine a8 (uL hx (thn (hg _ s5 σ3 H5 x u _ I5' r5 (next x H5 y5)) λ_ s6 ⟨σ6,H6,I6,q6⟩=> ?_));have again:∀{σ7:Sg} {H7:Hp} {s7:Shared} {ys' :List V},L2.Inv X _ σ7 H7 s7->(∃m',m' < n/\W (i+1) m' ys' σ7 H7)->∃m,m < n/\∃i ys σ' H',L2.Inv X [] σ' H' s7/\tn i _/\(∀b∈fp,H' b=none)/\W i m ys σ' H' :=λ{σ7 H7 s7 ys'} I7 ⟨m',hm,w7⟩=>by
   refine⟨m',hm,i+1,ys',σ7,H7,I7.unpinned,TJ.keep _ _ _ st5 λb hb o e=>(I7.pin _ (b6 _ (b6 _ (ZT hb e)))).1,λb hb=> ?_,w7⟩;obtain⟨o,e,d⟩:=TJ.obj _ _ st5 b hb;exact(I7.pin _ (b6 _ (b6 _ (ZT hb e)))).2.1
  refine a8 (uL hx (thn (ht _ s6 σ6 H6 _ I6 q6) λk s7 ⟨H7,I7,q7⟩=> ?_));cases k with
  | false=>exact ac ⟨rfl,again I7 q7⟩
  | true=>
   refine a8 (a8 (uL hx (thn (he _ s7 σ6 H7 _ I7 q7) λv s8 ⟨y,H8,I8,r8,hD8,hlen,q8⟩=> ?_)));refine a8 (uL hx (thn (Jl _ s8 σ6 H8 (.ref D) [y] _ [v] (λ_ H9=>∃m',m' < n/\W _ m' _ σ6 H9) I8 rfl (.cons r8 .nil) ⟨D,ys,y,rfl,rfl,hD8,hlen,q8⟩) λw s9 ⟨_,H9,I9,_,q9⟩=> ?_));exact ac (ac ⟨rfl,again I9 q9⟩)
def y6 (k:Nat)(js:List Nat)(σ:Sg):Sg:=ai k none++js.map λj=>(σ[j]?).getD none
section
variable {X:Cx}
abbrev V6 (X:Cx)(scope:Scope)(N' :List Str)(P:Cx->Prop):Prop:=∀cl C s3 H3 fp pins,P (cxC X scope N' cl C s3 H3 fp pins)
abbrev Kq (X:Cx)(scope:Scope)(N' :List Str)(E:XK)(P:Cx->Prop):Prop:=∀cl C s3 H3 fp pins xe,JT (CX1 X.prog X.w) (XE (cxC X scope N' cl C s3 H3 fp pins) xe) E->P (XE (cxC X scope N' cl C s3 H3 fp pins) xe)
structure z1n (X:Cx) (scope:Scope) (N' :List Str) (k:Nat) (js:List Nat):Prop where
 len:N'.length=k+js.length
 cap:∀(i j:Nat),js[i]? =some j->∃x,N'[k+i]? =some x/\X.N[j]? =some x/\Vis X.env.scope x/\scope.names.lookup x=some .free/\(X.env.kindOf x=some .cell\/X.env.kindOf x=some .free)
theorem jZ {E:XK}(hp:kX X E){tg iter elt:Expr}{ifs:List Expr}{scope:Scope}{pos pos' :Pos}{N' :List Str}{k:Nat}{js:List Nat}{wi:TI}{g:TG}{tt:TT}{te:TE}{use:Option (Value->Sem Unit)}(S:CSc X scope)(CP:z1n X scope N' k js)(hc:X.calm=true)
  (hi:PI X tg iter wi) (hg:V6 X scope N' λXC=>PG XC tg g) (ht:V6 X scope N' λXC=>PIf XC ifs tt) (he:Kq X scope N' E λXC=>PE XC elt te) {pins:List (Addr×Obj)} {σ:Sg} {H:Hp} {s:Shared} {Q:Value->Shared->Prop} {F:Addr->Hp->Prop} (I:L2.Inv X pins σ H s)
  (h:wi σ H λJ H1=>∀D,H1 D=none->∃W,(∃m,W 0 m [] (y6 k js σ) (upd H1 D (.lst [])))/\QA J D g tt te (λ_ H' =>F D H') W)
  (hQ:∀D C H' s',L2.Inv X pins σ H' s' ->F D H' ->H' C=none->(X.s₀.heap.objs.size<=C)->C ≠ X.env.locals->(∀x c,X.env.cells.lookup x=some c->c ≠ C)->(∀p∈X.pn++pins,p.1 ≠ C)->(∃m,s'.heap.Ns C m)->compPost (model X.prog X.w) X.A X.xe use Q (.ref D) C (.ok .next) s')
  (hs:∀x,foldedSetIterable iter X.env x=pure x:=by intro _;rfl):
  wpAny (model X.prog X.w) X.A (comprehension (.ListComp elt [⟨tg,iter,ifs,0⟩] scope pos) scope X.env pos' (newList []) false (eval iter X.env) use) Q X.xe s:=by
 obtain⟨cl,ecl,hcl,hcf⟩:=xA (scope:=scope) (env:=X.env) λx hx hf=>I.ok.has x.1 (S.fre x hx hf);refine wpAny_comprehension_free rfl hs ecl S.kind S.loc ?_;refine thn (hi pins s σ H _ I h) λv s1 h1=>thn h1 λitv s2 h2=> ?_;obtain⟨it,fp,tn,J,H2,e,I2,TJ,st2,f2,q2⟩:=h2;subst e;refine aQ ?_;have hD:=I2.hok.fresh (ak _);have I3:L2.Inv X pins σ (upd H2 s2.heap.objs.size (.lst [])) { s2 with heap:=s2.heap.push { cls:= .type "list",data:= .seq _ } }:=
  I2.laid (t' :=s2.toks) (λb u e=>aa _ e) (ak _) ⟨aZ _,[],_,.nil,af _ rfl⟩
 obtain⟨W,⟨m0,w0⟩,turn⟩:=q2 s2.heap.objs.size hD;have f3:∀b∈fp,wY X pins (upd H2 s2.heap.objs.size (.lst [])) b:=λb hb=>by
  obtain⟨o,eo,_⟩:=TJ.obj _ _ st2 b hb;exact⟨by rw[zf (aD (am eo))];exact(f2 b hb).1,(f2 b hb).2⟩
 have o3:∀b∈fp,∃o,(s2.heap.push { cls:= .type "list",data:= .seq ([]:List Value).toArray }).get? b=some o:=λb hb=>by
  obtain⟨o,eo,_⟩:=TJ.obj _ _ st2 b hb;exact⟨o,aa _ eo⟩
 refine wpAny_newFunctionEnv S.nocell (by intro y hy;simp at hy) (λh4 hns4 hsb4=> ?_) S.kind
 generalize hG:s2.heap.push _=G3 at I3 o3 hns4 hsb4 ⊢;have s3e:∃s3:Shared,s3={ s2 with heap:=G3 }:=⟨_,rfl⟩;obtain⟨s3,es3⟩:=s3e;have hh3:s3.heap=s2.heap.push { cls:= .type "list",data:= .seq ([]:List Value).toArray }:=by rw[es3,hG]
 have hg3:G3=s3.heap:=by rw[es3]
 rw[← es3]at I3;rw[hg3]at hns4 hsb4 o3;have k4:=λb o e=>hsb4.extBut b o (aD (am e)) (aa _ e);have IC:=yO (N' :=N') (cl:=cl) (fp:=fp) (σ' :=y6 k js σ) (tk:=s3.toks+([]:List (Str×Value)).length) I3 S hc hcl hcf f3 o3 hns4 k4 (by unfold y6;simp[CP.len]) (λi x v h1 h2=>by
  unfold y6 at h2
  by_cases hik:i < k
  ·rw[aT (by simpa using hik),aR,if_pos hik]at h2
   cases h2
  ·have hk' :k<=i:=by omega
   rw[aP (by simpa using hk'),aU,ax]at h2
   cases ej:js[i - k]? with
   | none=>rw[ej]at h2;cases h2
   | some j=>
    rw[ej]at h2;obtain⟨y,e1,e2,e3,e4,e5⟩:=CP.cap (i - k) j ej;have:k+(i - k)=i:=by omega
    rw[this,h1]at e1;cases e1;refine⟨j,e2, ?_,e3,e4,e5⟩;have h2' :some ((σ[j]?).getD none)=some (some v):=h2;cases ez:σ[j]? with
    | none=>rw[ez]at h2';cases h2'
    | some z=>rw[ez]at h2';exact congrArg some (aI h2'))
 have TC:Ur _ _ _ tg J fp it tn:=TJ;have t4:tn 0 h4:=TJ.keep _ _ _ st2 λb hb o e=>k4 b o (by rw[hh3];exact aa _ e)
 have fC:∀b∈fp,wY (cxC X scope N' cl s3.heap.objs.size s3 (upd H2 s2.heap.objs.size (.lst [])) fp pins) [] _ b:=λb hb=>by
  obtain⟨q0,q1,q2,q3,q4,q5⟩:=f3 b hb;obtain⟨o,eo⟩:=o3 b hb;refine⟨q0,aD (am eo),λhb' => ?_,.inl hb,λx c e=>q4 x c (hcl _ _ e),λp hp=> ?_⟩
  ·rcases ao.mp (I3.stkSub b hb') with z | z
   ·exact q1 z
   ·exact q2 z
  ·exact q5 p (by
    have:=hp;rwa[bJ]at this)
 have fin:∀(s5:Shared) (σ5:Sg) (H5:Hp),L2.Inv (cxC X scope N' cl s3.heap.objs.size s3 (upd H2 s2.heap.objs.size (.lst [])) fp pins) [] σ5 H5 s5->F s2.heap.objs.size H5->compPost (model X.prog X.w) X.A X.xe use Q _ s3.heap.objs.size (.ok .next) s5:=λs5 σ5 H5 I5 q5=>by
  have J5:=I3.call' (ch:=fp) I5.os I5.base I5.hok I5.bare λb hb=>by
   obtain⟨q0,q1,q2,q3,q4,q5⟩:=f3 b hb;exact⟨q3,q1,q4,q5⟩
  refine hQ _ _ H5 s5 J5 q5 I5.free I3.sz (cy I3.lt) (λx c e z=> ?_) (λp hp z=> ?_) (let ⟨m,hm,_⟩:=I5.loc;⟨m,hm⟩)
  ·obtain⟨v',o,eo,_⟩:=I3.cell x c e;exact absurd (am eo) (by rw[z];exact bi _)
  ·exact absurd (am (I3.pin p hp).1) (by rw[z];exact bi _)
 have pass:JT (CX1 X.prog X.w) (XE (cxC X scope N' cl s3.heap.objs.size s3 (upd H2 s2.heap.objs.size (.lst [])) fp pins) (notedBy (model X.prog X.w) X.A (compEnvC scope cl s3.heap.objs.size X.env) λe s' =>compPost (model X.prog X.w) X.A X.xe use Q (.ref s2.heap.objs.size) s3.heap.objs.size (.error e) s')) E:=by
  intro pins1 σ1 H1 s1 e s' I1 c1;have J1:=I3.call' I1.os I1.base I1.hok I1.bare λb hb=>by
   obtain⟨q0,q1,q2,q3,q4,q5⟩:=f3 b hb;exact⟨q3,q1,q4,q5⟩
  obtain⟨m1,hm1,_⟩:=I1.loc;refine thn (hp pins σ H1 s1 e s' _ m1 _ _ J1 hm1 I1.free I3.sz (λz=> ?_) rfl c1) λ_ s'' q=> ?_
  ·obtain⟨_,o,eo,_⟩:=I3.stack.mem z;exact absurd (am eo) (bi _)
  ·cases use <;> exact q
 have loop:=yQ (X:=XE (cxC X scope N' cl _ s3 _ fp _) (notedBy _ X.A _ λe s' =>compPost _ X.A _ use Q _ _ _ s')) (iter:=iter) (scope:=scope) (pos:=pos) (λ_ _ z=>z) hc TC (z1m rfl (hg _ _ _ _ _ _)) (Kp rfl (ht _ _ _ _ _ _)) (he _ _ _ _ _ _ _ pass) W turn (λs5 σ5 H5 I5=>fin s5 σ5 H5 (yP I5)) w0 (uK IC) t4 fC;rw[es3]at loop;exact codeAny_compStart_list loop (TJ.self _ _ _ _ _ t4 loop)
end
def zt (g:T->En->R En)(ft:En->R Bool)(fe:En->R T):List T->En->R (List T)
 | [],_=> .ok []
 | t :: ts,ρ=>(g t ρ).bind λρ1=>(ft ρ1).bind λk=>if k=true then (fe ρ1).bind λv=>(zt g ft fe ts ρ1).bind λvs=> .ok (v :: vs) else zt g ft fe ts ρ1
noncomputable def ub:Option Sl->Sl
 | some (.vl t)=> .vl t
 | some (.ob k _)=> .oc k []
 | some (.oc k fs)=> .oc k fs
 | _=> .un
def Jo (k:Nat)(js:List Nat)(ρ:En):En:=ai k .un++js.map λj=>ub ρ[j]?
noncomputable def quiet {α:Type}:R α->R α
 | .ok a=> .ok a
 | _=> .bad
def zu (g:T->En->R En)(ft:En->R Bool)(fe:En->R T)(k:Nat)(js:List Nat)(ρ:En)(ts:List T):R (List T):=if ts.length<=bnd then quiet (zt g ft fe ts (Jo k js ρ)) else .bad
def zL (fi:En->R (List T))(g:T->En->R En)(ft:En->R Bool)(fe:En->R T)(k:Nat)(js:List Nat):En->R T:=λρ=>(fi ρ).bind λts=>(zu g ft fe k js ρ ts).bind λvs=> .ok (.lst vs)
def GOk (tG:TG)(g:T->En->R En):Prop:=∀Y B ρ σ H v x Q,SI Y B ρ σ H->Rep B v x->(match g x ρ with | .ok ρ' =>∀σ',SI Y B ρ' σ' H->Q σ' H | _=>False)->tG v σ H Q
theorem QB (i:Nat):GOk (wm i) (zC i):=λY B ρ σ H v x Q I r q=>q _ (I.setV i r)
theorem QC (K:ag)(i j:Nat):GOk (GM K 2 (yg (wm i) (yg (wm j) z0z))) (zK i j):=λY B ρ σ H v t Q I r q=>by
 cases r with
 | @tup l xs ts h r=>
  cases r with
  | nil=>exact q.elim
  | cons r1 rr=>
   cases rr with
   | nil=>exact q.elim
   | cons r2 rr=>
    cases rr with
    | cons _ _=>exact q.elim
    | nil=>exact⟨l,_,rfl,SqT.of (I.sB _ _ h),rfl,_,_,rfl,_,_,rfl,rfl,q _ ((I.setV i r1).setV j r2)⟩
 | _=>exact q.elim
theorem SI.blockS {Y:Fx}{B:Hp}{ρ:En}{σ:Sg}{H H' :Hp}(I:SI Y B ρ σ H)(k:Nat)(js:List Nat)(E:XK)(s:zm H H'):SI ⟨B,H,E,Y.cl,[]⟩ B (Jo k js ρ) (y6 k js σ) H' where
 s0:=I.sB
 sH:=s
 sB:=I.sB.trans s
 old:=λ_ _ _=>rfl
 len:=by unfold Jo y6;simp
 vl:=λi t h=>by
  unfold Jo at h;unfold y6
  by_cases hik:i < k
  ·rw[aT (by simpa using hik),aR,if_pos hik]at h;cases h
  ·have hk' :k<=i:=by omega
   rw[aP (by simpa using hk'),aU,ax]at h ⊢
   cases ej:js[i - k]? with
   | none=>rw[ej]at h;cases h
   | some j=>
    rw[ej]at h;have h' :ub ρ[j]? = .vl t:=aI h;unfold ub at h';split at h'
    ·rename_i u e;cases h';obtain⟨v,e1,r⟩:=I.vl j _ e;exact⟨v,by show some ((σ[j]?).getD none)=_;rw[e1];rfl,r⟩
    all_goals cases h'
 ow:=λi ts h=>by
  exfalso;unfold Jo at h
  by_cases hik:i < k
  ·rw[aT (by simpa using hik),aR,if_pos hik]at h;cases h
  ·have hk' :k<=i:=by omega
   rw[aP (by simpa using hk'),aU,ax]at h
   cases ej:js[i - k]? with
   | none=>rw[ej]at h;cases h
   | some j=>
    rw[ej]at h;have h' :ub ρ[j]? = .ow ts:=aI h;unfold ub at h';split at h' <;> cases h'
 xc:=λi c h=>by
  exfalso;unfold Jo at h
  by_cases hik:i < k
  ·rw[aT (by simpa using hik),aR,if_pos hik]at h;cases h
  ·have hk' :k<=i:=by omega
   rw[aP (by simpa using hk'),aU,ax]at h
   cases ej:js[i - k]? with
   | none=>rw[ej]at h;cases h
   | some j=>
    rw[ej]at h;have h' :ub ρ[j]? = .xc c:=aI h;unfold ub at h';split at h' <;> cases h'
 st:=by
  have get:∀(i:Nat) (x:Sl),x.isO=true->(Jo k js ρ)[i]? =some x->∃j,js[i - k]? =some j/\k<=i/\ub ρ[j]? =x:=λi x hx h=>by
   unfold Jo at h
   by_cases hik:i < k
   ·rw[aT (by simpa using hik),aR,if_pos hik]at h
    cases h;cases hx
   ·have hk' :k<=i:=by omega
    rw[aP (by simpa using hk'),aU,ax]at h
    cases ej:js[i - k]? with
    | none=>rw[ej]at h;cases h
    | some j=>
     rw[ej]at h;exact⟨j,rfl,hk',aI h⟩
  refine⟨[],λ_=>none,fS _,λi os h=> ?_,λi _ os _ h=> ?_,λi k' n h=> ?_,λi k' fs h=> ?_,λi os h=> ?_⟩
  ·obtain⟨j,_,_,e⟩:=get i _ rfl h;unfold ub at e;split at e <;> cases e
  ·obtain⟨j,_,_,e⟩:=get i _ rfl h;unfold ub at e;split at e <;> cases e
  ·obtain⟨j,_,_,e⟩:=get i _ rfl h;unfold ub at e;split at e <;> cases e
  ·obtain⟨j,ej,hk',e⟩:=get i _ rfl h;have sg:(y6 k js σ)[i]? =some ((σ[j]?).getD none):=by
    unfold y6;rw[aP (by simpa using hk'),aU,ax,ej];rfl
   obtain⟨as,O,x⟩:=I.st;unfold ub at e;split at e
   ·cases e
   ·rename_i k2 n2 e2;cases e;obtain⟨a,C,dx,vs,_,e3,e4,e5,_,_,e6⟩:=x.ob j _ _ e2;exact⟨a,C,dx,vs,by rw[sg,e3];rfl,e4,e5,e6,λm f d z=>by cases z⟩
   ·rename_i k2 fs2 e2;cases e;obtain⟨a,C,dx,vs,e3,e4,e5,e6,e7⟩:=x.oc j _ _ e2;exact⟨a,C,dx,vs,by rw[sg,e3];rfl,e4,I.sH _ _ e5,e6,e7.mono (zm.refl _) I.sH⟩
   ·cases e
  ·obtain⟨j,_,_,e⟩:=get i _ rfl h;unfold ub at e;split at e <;> cases e
theorem SI.block {Y:Fx}{B:Hp}{ρ:En}{σ:Sg}{H H3:Hp}{D:Addr}(I:SI Y B ρ σ H)(k:Nat)(js:List Nat)(E:XK)(hD:H D=none)(o:HO):SI ⟨B,H,E,Y.cl,[]⟩ B (Jo k js ρ) (y6 k js σ) (upd H D o):=I.blockS k js E (zm.new hD _)
theorem SI.acc {Y:Fx}{B:Hp}{ρ:En}{σ:Sg}{H:Hp}{D:Addr}(I:SI Y B ρ σ H)(hb:B D=none)(h0:Y.H0 D=none)(ho:∀(i:Nat) (ts:List T),ρ[i]? =some (Sl.ow ts)->σ[i]? ≠ some (some (V.ref D)))(hso:∀(i:Nat) (x:Sl),ρ[i]? =some x->Sl.isS x=true->False)(o:HO):SI Y B ρ σ (upd H D o) where
 s0:=I.s0
 sH:=λb u h=>by
  rw[zf (λz=>by subst z;rw[h0]at h;cases h)];exact I.sH b u h
 sB:=λb u h=>by
  rw[zf (λz=>by subst z;rw[hb]at h;cases h)];exact I.sB b u h
 old:=I.old
 len:=I.len
 vl:=I.vl
 ow:=λi ts h=>by
  obtain⟨a,xs,e,b0,h0',hh,r,d⟩:=I.ow i ts h;refine⟨a,xs,e,b0,h0', ?_,r,d⟩;rw[zf (λz=>ho i ts h (by rw[e,z]))];exact hh
 xc:=I.xc
 st:=let ⟨as,O,x⟩:=I.st;⟨as,O,x.pre,λi os h=>hso i _ h rfl |>.elim,λi j os os' h=>hso i _ h rfl |>.elim,λi k n h=>hso i _ h rfl |>.elim,x.oc,λi os h=>hso i _ h rfl |>.elim⟩
def XY (ρ:En):Prop:=∀(i:Nat) (x:Sl),ρ[i]? =some x->(∀ts,x ≠ Sl.ow ts)/\(x.isS=true->False)
theorem QD (k:Nat)(js:List Nat)(ρ:En):XY (Jo k js ρ):=λi x h=>by
 unfold Jo at h
 by_cases hik:i < k
 ·rw[aT (by simpa using hik),aR,if_pos hik]at h
  cases h;exact⟨λ_=>Sl.noConfusion,az⟩
 ·have hk' :=by omega
  rw[aP (by simpa using hk'),aU,ax]at h
  cases ej:js[i - k]? with
  | none=>rw[ej]at h;cases h
  | some j=>
   rw[ej]at h;have h' :ub _=x:=aI h;unfold ub at h';split at h' <;> (subst h';exact⟨λ_=>Sl.noConfusion,az⟩)
theorem wx {ρ:En}{i:Nat}{t:T}(h:XY ρ):XY (ρ.set i (.vl t)):=λj x e=>by
 rcases zp e with ⟨_,z⟩ | ⟨_,z⟩
 ·subst z;exact⟨λ_=>Sl.noConfusion,az⟩
 ·exact h j x z
def GNo (g:T->En->R En):Prop:=(∀t ρ ρ',XY ρ->g t ρ= .ok ρ' ->XY ρ')/\∀t ρ c,g t ρ ≠ .ex c
theorem QE (i:Nat):GNo (zC i):=⟨λt ρ ρ' h e=>by
 cases e;exact wx h,λt ρ c e=>by cases e⟩
theorem QF (i j:Nat):GNo (zK i j):=⟨λt ρ ρ' h e=>(by
 unfold zK at e;split at e
 ·cases e;exact wx (wx h)
 ·cases e),λt ρ c e=>by unfold zK at e;split at e <;> cases e⟩
section
variable {X:Cx}{Y:Fx}{tg iter elt:Expr}{ifs:List Expr}{scope:Scope}{pos pos' :Pos}{N' :List Str}{k:Nat}{js:List Nat}{fi:En->R (List T)}{tG:TG}{g:T->En->R En}{ft:En->R Bool}{fe:En->R T}
structure wz (X:Cx) (Y:Fx) (ifs:List Expr) (f:En->R Bool):Prop where
 mk ::
 go:∀ρ,PIf X ifs (tS Y rE f ρ)
instance {X:Cx}{Y:Fx}{ifs:List Expr}{f:En->R Bool}:CoeFun (wz X Y ifs f) λ_=>∀ρ,PIf X ifs (tS Y rE f ρ):=⟨wz.go⟩
theorem PIf.imp {X:Cx}{e:List Expr}{t t' :TT}(h:PIf X e t)(i:∀σ H Q,t' σ H Q->t σ H Q):PIf X e t' :=λpins s σ H Q I q=>h _ s σ H Q I (i σ H Q q)
def zW:En->R Bool:=λ_=> .ok true
theorem Kr {X:Cx}:wz X Y [] zW:= .mk λρ=>PIf.imp xB λσ H Q ⟨B,I,q⟩=>Zw I q rfl
theorem Ks {X:Cx}{c:Expr}(h:u6 X Y c ft):wz X Y [c] ft:= .mk λρ=>xC (h ρ)
noncomputable def CEnd (r:R (List T))(P:List T->Prop)(Z:Nat->Prop):Prop:=match r with
 | .ok vs=>P vs
 | .ex c=>Z c
 | .bad=>False
theorem UC {B1 H1:Hp}{σ:Sg}{ρ:En}{J:It}{ts:List T}{r:R (List T)}{D:Addr}{E0:XK}(hG:GOk tG g)(hN:GNo g)(I:SI Y B1 ρ σ H1)(rI' :rI B1 H1 J ts)(hl:ts.length<=bnd)(ev:zt g ft fe ts (Jo k js ρ)=r)(hD:H1 D=none){F:Hp->Prop}
  (hF:CEnd r (λvs=>∀H' xs B',zm H1 H' ->H' D=some (.lst xs)->zr B' xs vs->zm B' (zB B1 H1 H')->B' D=none->zm B1 B' ->F H') λc=>∀d H',zm H1 H' ->zm B1 H' ->E0 (Y.cl c) d H'):
  ∃W,(∃m,W 0 m [] (y6 k js σ) (upd H1 D (.lst [])))/\QA J D tG (λσ H Q=>∃Y' ρ',Y'.cl=Y.cl/\tS Y' rE ft ρ' σ H Q) (λσ H Q=>∃Y' ρ',Y'.cl=Y.cl/\Y'.E=E0/\tS Y' rC fe ρ' σ H Q) (λ_ H' =>F H') W:=by
 refine⟨λi m ys σ' H' =>m=ts.length - i/\i<=ts.length/\ys.length<=i/\H' D=some (.lst ys)/\∃ρ' B' us,SI ⟨B1,H1,E0,Y.cl,[]⟩ B' ρ' σ' H' /\XY ρ' /\zm B1 B' /\B' D=none/\zr B' ys us/\((zt g ft fe (ts.drop i) ρ').bind λws=> .ok (us++ws))=r,
  ⟨ts.length,by simp,aZ _,aZ _,zl,_,B1,[],I.block (H3:=H1) k js _ hD _,QD k js ρ,zm.refl _,I.sB.free hD,.nil,by rw[List.drop_zero,ev];cases r <;> rfl⟩, ?_⟩
 rintro i m ys σ' H' ⟨rfl,hi,hyl,hDl,ρ',B',us,I',no',s1',bD,r',ew⟩
 refine⟨hDl, ?_⟩;obtain⟨hgo,hyld,hstop⟩:=rI' B' H' s1' I'.sB;have tD:∀H2,zm H' H2->zB B' H' H2 D=none:=λH2 s=>by rw[zO hDl];exact bD
 by_cases hlt:i < ts.length
 ·refine .inr ⟨hgo i hlt,λx H2 y=> ?_⟩;obtain⟨s2,r2⟩:=hyld i _ x H2 (aj hlt) y;rw[dq hlt]at ew;unfold zt at ew;have I2:=I'.grow s2;refine hG _ _ ρ' σ' H2 x _ _ I2 r2 ?_;cases eg:g ts[i] ρ' with
  | bad=>rw[eg]at ew;subst ew;exact hF
  | ex c=>exact(hN.2 _ _ _ eg).elim
  | ok ρ1=>
   rw[eg]at ew;have no1:=hN.1 _ _ _ no' eg;intro σ1 J1;refine⟨⟨B1,H1,E0,Y.cl,[]⟩,ρ1,rfl,_,J1, ?_⟩;have ew1:((ft ρ1).bind (λk=>if k=true then (fe ρ1).bind λv=>(zt g ft fe (ts.drop (i+1)) ρ1).bind λvs=> .ok (v :: vs) else zt g ft fe (ts.drop _) ρ1)).bind (λws=> .ok _)=r:=ew
   cases ef:ft ρ1 with
   | bad=>rw[ef]at ew1;subst ew1;exact hF
   | ex c=>
    rw[ef]at ew1;subst ew1;exact λd H' a b=>hF d H' a ((s1'.trans (zB.ge I'.sB s2)).trans b)
   | ok kk=>
    rw[ef]at ew1;intro b H3 s3 eb;have eb' :=eb;subst eb';have ew2:=ew1;have J2:=J1.grow s3;have hD3:H3 D=some _:=s3 _ _ (s2 _ _ hDl);have bD3:zB (zB B' H' H2) H2 H3 D=none:=by rw[zO (s2 _ _ hDl)];exact tD H2 s2
    have sB3:=(zB.ge I'.sB s2).trans (zB.ge I2.sB s3);cases b with
    | false=>exact⟨ts.length - (i+1),by omega,rfl,hlt,by omega,hD3,ρ1,_,us,J2,no1,s1'.trans sB3,bD3,r'.mono sB3,ew2⟩
    | true=>
     refine⟨⟨B1,H1,E0,Y.cl,[]⟩,ρ1,rfl,rfl,_,J2, ?_⟩;have ew3:=ew2;cases ee:fe ρ1 with
     | bad=>rw[ee]at ew3;subst ew3;exact hF
     | ex c=>
      rw[ee]at ew3;subst ew3;exact λd H' a b=>hF d H' a ((s1'.trans sB3).trans b)
     | ok v=>
      rw[ee]at ew3;have ew4:=ew3;have ew5:(zt g ft fe (ts.drop (i+1)) ρ1).bind (λws=> .ok ((us++[v])++ws))=r:=by
       rw[← ew4];cases zt g ft fe _ ρ1 with
       | ok ws=>show R.ok _=R.ok _;rw[bF];rfl
       | _=>rfl
      intro w H4 s4 rw4;have hD4:=s4 _ _ hD3;have J3:=J2.grow s4;have bD4:zB (zB (zB B' H' H2) H2 H3) H3 H4 D=none:=by rw[zO hD3];exact bD3
      have sB4:=sB3.trans (zB.ge J2.sB s4);refine⟨hD4,aK (bh hyl hlt) (Zf hl),ts.length - (i+1),by omega,rfl,hlt,by rw[aC,aG];omega,zl,ρ1,_,us++[v], ?_,no1,s1'.trans sB4,bD4,(r'.mono sB4).append (.cons rw4 .nil),ew5⟩
      exact J3.acc bD4 hD (λj ts' e=>((no1 j _ e).1 ts' rfl).elim) (λj x e=>(no1 j x e).2) _
 ·have e:i=ts.length:=by omega
  subst e;refine .inl ⟨hstop _ (ak _), ?_⟩;rw[fV]at ew;have ew' :R.ok _=r:=ew;rw[bJ]at ew';subst ew';refine hF H' ys B' I'.sH hDl r' (λb o h=> ?_) bD s1';cases q:H1 b with
  | none=>rw[zR q];exact I'.sB b o h
  | some u=>
   rw[zO q];have z:B' b=B1 b:=I'.old b u q;rw[← z];exact h
theorem jl {B1 H1:Hp}{σ:Sg}{ρ:En}{J:It}{ts vs:List T}{D:Addr}(hG:GOk tG g)(hN:GNo g)(I:SI Y B1 ρ σ H1)(rI' :rI B1 H1 J ts)(hl:ts.length<=bnd)(ev:zt g ft fe ts (Jo k js ρ)= .ok vs)(hD:H1 D=none){F:Hp->Prop}
  (hF:∀H' xs B',zm H1 H' ->H' D=some (.lst xs)->zr B' xs vs->zm B' (zB B1 H1 H')->B' D=none->zm B1 B' ->F H'):
  ∃W,(∃m,W 0 m [] (y6 k js σ) (upd H1 D (.lst [])))/\QA J D tG (λσ H Q=>∃Y' ρ',Y'.cl=Y.cl/\tS Y' rE ft ρ' σ H Q) (λσ H Q=>∃Y' ρ',Y'.cl=Y.cl/\(Y'.E=λ_ _ _=>False)/\tS Y' rC fe ρ' σ H Q) (λ_ H' =>F H') W:=UC hG hN I rI' hl ev hD hF
structure jJ (X:Cx) (Y:Fx) (tg iter elt:Expr) (ifs:List Expr) (scope:Scope) (N' :List Str) (k:Nat) (js:List Nat) (fi:En->R (List T)) (tG:TG) (g:T->En->R En) (ft:En->R Bool) (fe:En->R T):Prop where
 sc:CSc X scope
 cp:z1n X scope N' k js
 cm:X.calm=true
 it:WY X Y tg iter fi
 gt:V6 X scope N' λXC=>PG XC tg tG
 gk:GOk tG g
 gn:GNo g
 tt:∀Y',Y'.cl=Y.cl->V6 X scope N' λXC=>wz XC Y' ifs ft
 el:∀Y',Y'.cl=Y.cl->Kq X scope N' Y'.E λXC=>Snd XC Y' elt fe
 hs:∀x,foldedSetIterable iter X.env x=pure x
theorem V7 (C:jJ X Y tg iter elt ifs scope N' k js fi tG g ft fe):Snd X Y (.ListComp elt [⟨tg,iter,ifs,0⟩] scope pos) (zL fi g ft fe k js):= .mk λρ=>by
 intro pins s σ H Q I ⟨B,J,q⟩;refine jZ (ZU rfl) (F:=λD H' =>Q (.ref D) H') (te:=λσ H Q=>∃Y' ρ',Y'.cl=Y.cl/\(Y'.E=λ_ _ _=>False)/\tS Y' rC fe ρ' σ H Q) (tt:=λσ H Q=>∃Y' ρ',Y'.cl=Y.cl/\tS Y' rE ft ρ' σ H Q) C.sc C.cp C.cm (C.it ρ) C.gt
  (λcl Cx' s3 H3 fp pins pins' s σ H Q I ⟨Y',ρ',ey,q⟩=>C.tt Y' ey cl Cx' s3 H3 fp _ ρ' _ s σ H Q I q) (λcl Cx' s3 H3 fp pins xe hp pins' s σ H Q I ⟨Y',ρ',ey,eE,q⟩=>C.el Y' ey cl Cx' s3 H3 fp _ xe (eE ▸ hp) ρ' _ s σ H Q I q) I ?_ ?_ C.hs
 ·refine step J q λts it' H1 _ s1 r1 J1 q1=> ?_;intro D hD;unfold zu at q1;split at q1
  ·rename_i hl;cases ev:zt g ft fe ts _ with
   | bad=>rw[ev]at q1;exact q1.elim
   | ex c=>rw[ev]at q1;exact q1.elim
   | ok vs=>
    rw[ev]at q1;refine jl C.gk C.gn J1 r1 hl ev hD λH' xs B' s' e' r' l' b' sb' => ?_;refine(show Po Y rC _ H1 _ Q from q1) _ H' s' ?_;exact .lst (by rw[zR hD];exact e') (r'.mono l')
  ·exact q1.elim
 ·intro D Cc H' s' I' q' hC h0 hL hcell hpin hns;obtain⟨m,hm⟩:=hns;refine⟨m,hm,λh' hsb=>⟨.ref D,H', ?_,rfl,q'⟩⟩;exact I'.turned (λb o hb e=>hsb.extBut b o hb e) hC (b8 hL).symm (.inr h0) hcell hpin
end
section
variable {X:Cx}{Y:Fx}{tg iter elt:Expr}{ifs:List Expr}{scope:Scope}{pos pos' :Pos}{N' :List Str}{k:Nat}{js:List Nat}{fi:En->R (List T)}{tG:TG}{g:T->En->R En}{ft:En->R Bool}{fe:En->R T}
theorem Kt {i:Nat}{x:Str}{pc p' :Pos}(C:jJ X Y tg iter elt ifs scope N' k js fi tG g ft fe)(hN:X.N.Nodup)(hi:X.N[i]? =some x)(hx:L2.Loc X.env.scope x)
  (hsw:swapsWith (.ListComp elt [⟨tg,iter,ifs,0⟩] scope pc) (some (.Name x p')) pos.line X.env=pure true) (hf:X.fn x=true\/X.env.scope.names.lookup x=some .local:=by first | exact .inl rfl | exact .inr rfl | assumption):
  JF X Y (.Assign [.Name x p'] (.ListComp elt [⟨tg,iter,ifs,0⟩] scope pc) pos) (zI i (zL fi g ft fe k js)):= .mk λρ=>by
 intro pins s σ H D I ⟨B,J,q⟩;rw[exec_Assign_Name_used _ _ _ _ hsw];refine a8 (wpAny_standAt (a8 ?_));refine a8 (thn (jZ (ZU rfl) (F:=λD' H' =>D.nx (σ.set i (some (.ref D'))) H') (te:=λσ H Q=>∃Y' ρ',Y'.cl=Y.cl/\(Y'.E=λ_ _ _=>False)/\tS Y' rC fe ρ' σ H Q) (tt:=λσ H Q=>∃Y' ρ',Y'.cl=Y.cl/\tS Y' rE ft ρ' σ H Q) C.sc C.cp C.cm (C.it ρ) C.gt
  (λcl Cx' s3 H3 fp pins pins' s σ H Q I ⟨Y',ρ',ey,q⟩=>C.tt Y' ey cl Cx' s3 H3 fp _ ρ' _ s σ H Q I q) (λcl Cx' s3 H3 fp pins xe hp pins' s σ H Q I ⟨Y',ρ',ey,eE,q⟩=>C.el Y' ey cl Cx' s3 H3 fp _ xe (eE ▸ hp) ρ' _ s σ H Q I q) I ?_ ?_ C.hs) λ_ s' hq=>ac (ac hq))
 ·have q' :PoS Y B (((fi ρ).s λts=>(zu g ft fe k js ρ ts).s λvs=> .nx (ρ.set i (.vl (.lst vs))))) D:=by
   unfold zI zL at q;revert q;cases fi ρ with
   | bad=>exact λq=>q
   | ex c=>exact λq=>q
   | ok ts=>
    intro q;have q2:PoS Y B (((zu g ft fe k js ρ ts).bind λvs=>R.ok _).s λt=>RS.nx _) D:=q;show PoS Y B ((zu g ft fe k js ρ ts).s λvs=>RS.nx _) D;revert q2;cases zu g ft fe k js ρ ts with
    | bad=>exact λq=>q
    | ex c=>exact λq=>q
    | ok vs=>exact λq=>q
  refine jj J q' λts it' H1 _ s1 r1 J1 q1=> ?_;intro D' hD;unfold zu at q1;split at q1
  ·rename_i hl;cases ev:zt g ft fe ts _ with
   | bad=>rw[ev]at q1;exact q1.elim
   | ex c=>rw[ev]at q1;exact q1.elim
   | ok vs=>
    rw[ev]at q1;refine jl C.gk C.gn J1 r1 hl ev hD λH' xs B' s' e' r' l' b' sb' => ?_;have rr:Rep _ _ _:= .lst (by rw[zR hD];exact e') (r'.mono l')
    exact q1 _ _ _ (zB.ge J1.sB s') ((J1.grow s').setV i rr)
  ·exact q1.elim
 ·intro D' Cc H' s' I' q' hC h0 hL hcell hpin hns;obtain⟨m,hm⟩:=hns;refine wpAny_assign_Name (W2 (v:= .ref D') I' hN hi hx rfl (λs'' I'' ⟨a,hsb,ha⟩=> ?_) hf);have hne:Cc ≠ a:=by
   rcases ha with rfl | ha
   ·exact hL
   ·exact(hcell x a ha).symm
  refine⟨m,hm.sameBut hsb hne,λh' hsb' =>⟨_,H', ?_,q'⟩⟩;exact I''.turned (λb o hb e=>hsb'.extBut b o hb e) hC hL (.inr h0) hcell hpin
end
noncomputable def Itc (x:Str):It:=⟨λi _=>i < x.cps.size,λi H v H' =>H' =H/\∃c,x.cps[i]? =some c/\v= .str ⟨#[c]⟩,λi _=>x.cps.size<=i⟩
theorem JY {P:Program}{w:World}{K:ag}{tg:Expr}{x:Str}{t:Tok}{ty:String}(it:Addr)(hty:ty="str_ascii_iterator"\/ty="str_iterator"):Ur P w K tg (Itc x) [it] it (λi h=>h.IsStrIter it ty x t i):=by
 have W:∀A:Around,A.handled=none->Walks P w A it [it] [it] x.cps.size (SignAt x) (λi h=>h.IsStrIter it ty x t i):=λA hA=>by
  rcases hty with rfl | rfl
  ·exact Walks.strAscii hA it x t
  ·exact Walks.strWide hA it x t
 have hn:["enumerate","zip","dict_itemiterator","dict_reverseitemiterator","odict_iterator","itertools.zip_longest","itertools.pairwise"].contains ty=false:=by rcases hty with rfl | rfl <;> decide
 refine⟨by simp,λi h st b hb=> ?_,λi h h' st k=> ?_, ?_, ?_,λA i s Q E st h=> ?_⟩
 ·have e:b=it:=by simpa using hb
  subst e;obtain⟨o,e,c,d⟩:=st;exact⟨o,e,λv z=>by rw[d]at z;cases z⟩
 ·obtain⟨o,e,r⟩:=st;exact⟨o,k it (by simp) o e,r⟩
 ·intro X hP hw hK hc i pins s σ H E I hf st hg;obtain⟨f0,f1,f2,f3,f4,f5⟩:=hf it (by simp)
  refine(W X.A (I.ok.hd hc)).item i s _ _ hg st λv h' tk hv st' kk=> ?_;obtain⟨c,u,hc',rfl⟩:=hv;have I1:L2.Inv X _ σ H { s with heap:=h',toks:=tk }:=I.turned (λb o hb e=>kk b o (by simpa using hb) e) f0 f1 f3 f4 f5
  obtain⟨o,e,cl,d⟩:=id st';exact⟨_,rfl,Us e cl d hn ⟨.str _,H,I1,⟨u,rfl⟩,⟨rfl,c,hc',rfl⟩,st',λb hb=>(hf b hb).1⟩⟩
 ·intro X hP hw hK hc i pins s σ H E I hf st hg;obtain⟨f0,f1,f2,f3,f4,f5⟩:=hf it (by simp)
  have hx:=c8 hg;rcases hty with rfl | rfl
  ·exact wpAny_pyNext_ascii_end (I.ok.hd hc) st hx λh' eb=>⟨rfl,I.turned (λb o hb e=>eb b o hb e) f0 f1 f3 f4 f5⟩
  ·exact wpAny_pyNext_wide_end (I.ok.hd hc) st hx λh' eb=>⟨rfl,I.turned (λb o hb e=>eb b o hb e) f0 f1 f3 f4 f5⟩
 ·rcases hty with rfl | rfl
  ·exact wpAny_pyIter_striter_ascii st h
  ·exact wpAny_pyIter_striter_wide st h
noncomputable def Jp (x:Str):List T:=x.cps.toList.map λc=>T.str ⟨#[c]⟩
theorem QG {B1 H1:Hp}{x:Str}:rI B1 H1 (Itc x) (Jp x):=λB2 H2 s1 s2=>by
 have hl:(Jp x).length=x.cps.size:=by unfold Jp;simp
 refine⟨λi hi=>by rw[hl]at hi;exact hi,λi t v H3 e y=> ?_,λi hi=>by rw[hl]at hi;exact hi⟩
 obtain⟨rfl,c,hc,rfl⟩:=y;refine⟨zm.refl _, ?_⟩;unfold Jp at e;rw[ax]at e;have hc' :x.cps.toList[i]? =some c:=by simpa using hc
 rw[hc']at e;cases e;exact .str _
section
variable {X:Cx}{Y:Fx}{a b c d tg:Expr}{fa fb fc fd:En->R T}{pos p:Pos}
theorem Ku {l:Expr}{tl:TE}(hl:PE X l tl):PI X tg l (λσ H R=>tl σ H λx H1=>(∃a,x= .ref a/\(((∃xs,SqL X.K H1 a xs)/\R (Itl X.K a) H1)\/((∃xs,SqT X.K H1 a xs)/\R (Itt X.K a) H1)))\/(∃z,x= .str z/\R (Itc z) H1)):=by
 intro pins s σ H R I h;refine thn (hl _ s σ H _ I h) λv s1 ⟨x,H1,I1,r1,q1⟩=> ?_;have ok:∀b∈[s1.heap.objs.size],wY X _ H1 b:=λb hb=>by
  have e:=by simpa using hb
  subst e;exact I1.fpOk (ak _) (I1.hok.fresh (ak _))
 rcases q1 with ⟨a,e,q⟩ | ⟨z,e,q⟩
 ·subst e;obtain rfl:v=Value.ref a:=r1;rcases q with ⟨⟨xs,hq⟩,q⟩ | ⟨⟨xs,hq⟩,q⟩
  ·obtain⟨its,rv,p,hz⟩:=I1.list hq;exact cA p.isList ⟨s1.heap.objs.size,[s1.heap.objs.size],_,_,H1,rfl,I1.kept λb o e=>aa _ e,W5 a _,⟨_,af _ rfl,rfl,rfl⟩,ok,q⟩
  ·obtain⟨its,rv,p,hz⟩:=I1.tuple hq;exact cf (show s1.heap.IsTuple a _ from p) ⟨s1.heap.objs.size,[s1.heap.objs.size],_,_,H1,rfl,I1.kept λb o e=>aa _ e,JR a _,⟨_,af _ rfl,rfl,rfl⟩,ok,q⟩
 ·subst e;obtain⟨t,rfl⟩:=r1;cases ha:z.cps.all _
  ·exact wpAny_pyIter_wide ha ⟨s1.heap.objs.size,[s1.heap.objs.size],_,_,H1,rfl,I1.kept λb o e=>aa _ e,JY _ (.inr rfl),⟨_,af _ rfl,rfl,rfl⟩,ok,q⟩
  ·exact wpAny_pyIter_ascii ha ⟨s1.heap.objs.size,[s1.heap.objs.size],_,_,H1,rfl,I1.kept λb o e=>aa _ e,JY _ (.inl rfl),⟨_,af _ rfl,rfl,rfl⟩,ok,q⟩
def Jq:T->R (List T)
 | .lst xs=> .ok xs
 | .tup xs=> .ok xs
 | .str x=> .ok (Jp x)
 | _=> .bad
def ZB (fa:En->R T):En->R (List T):=λρ=>(fa ρ).bind Jq
theorem z1o (ha:Snd X Y a fa):WY X Y tg a (ZB fa):= .mk λρ=>PI.imp (Ku (ha ρ)) λσ H R ⟨B,I,q⟩=>step I q λt v H1 _ s1 r1 I1 q1=>by
 cases r1 with
 | @tup l xs ts h r=>
  exact .inl ⟨l,rfl,.inr ⟨⟨xs,SqT.of (I1.sB _ _ h)⟩,Zw I1 (show Po Y rI _ H1 _ R from q1) (Kk h r)⟩⟩
 | @lst l xs ts h r=>
  exact .inl ⟨l,rfl,.inl ⟨⟨xs,SqL.of (I1.sB _ _ h)⟩,Zw I1 (show Po Y rI _ H1 _ R from q1) (Kl h r)⟩⟩
 | str z=>exact .inr ⟨z,rfl,Zw I1 (show Po Y rI _ H1 _ R from q1) QG⟩
 | _=>exact q1.elim
end
theorem Inv.laidT {X:Cx}{pins:List (Addr×Obj)}{σ:Sg}{H:Hp}{s:Shared}{h' :Heap}{tk:Nat}{ch:List Addr}{a:Addr}{xs:List V}(I:L2.Inv X pins σ H s)(hf:∀b∈ch,wY X pins H b)(k:∀b o,b ∉ ch->s.heap.get? b=some o->h'.get? b=some o)
  (th:∀b o,b∈ch->s.heap.get? b=some o->∃o',h'.get? b=some o') (ha:s.heap.objs.size<=a) (new:zN X.prog X.w (upd H a (.tup xs)) h' a (.tup xs)):L2.Inv X pins σ (upd H a (.tup xs)) { s with heap:=h',toks:=tk }:=by
 have hn:=I.hok.fresh ha;have nch:∀b u,H b=some u->b ∉ ch:=λb u e hb=>by rw[(hf b hb).1]at e;cases e
 refine I.call' rfl ⟨λb o e n _ hc=>k b o hc e,λb o e n _ hc=>⟨o.slots,k b o hc e⟩,λb o e n _=>by rw[zf (aD (aK (am e) ha))];exact n,λb o e hc=>⟨o,k b o hc e⟩,
  λb ys e=>by rw[zf (zv e hn)];exact e,λb o u e=>by rw[zf (zv e hn)];exact e,λb ps q e=>by rw[zf (zv e hn)];exact e⟩ (λb u e=> ?_) I.bare λb hb=> ?_
 ·by_cases hb:b=a
  ·subst hb;rw[zl]at e;cases e;exact new
  ·rw[zf hb]at e;refine(I.hok b u e).stay (λc v hc q=> ?_) (λc q=>by rw[zf (zv q hn)];exact q) (λc ys q=>by rw[zf (zv q hn)];exact q) λc o u q=>by rw[zf (zv q hn)];exact q
   rcases hc with rfl | hc
   ·exact k c v (nch c u e) q
   ·exact k c v (nch c _ hc) q
 ·obtain⟨f0,f1,f2,f3,f4,f5⟩:=hf b hb;exact⟨f3,f1,f4,f5⟩
def Ite (K:ag)(l:Addr):It:=
 ⟨λi H=>∃xs x,SqL K H l xs/\xs[i]? =some x,λi H v H' =>∃p x,H p=none/\v= .ref p/\(∀xs,SqL K H l xs->xs[i]? =some x)/\H' =upd H p (.tup [.int i,x]),λi H=>∃xs,SqL K H l xs/\xs.length<=i⟩
theorem yR {P:Program}{w:World}{K:ag}{elts:List Expr}{kk:Nat}{pt:Pos}(e it l:Addr)(hei:e ≠ it)(hle:l ≠ e)(hli:l ≠ it):
  Ur P w K (.Tuple elts kk pt) (Ite K l) [e,it] e (λi h=>(∃old,IsEnum h e it i old)/\h.IsListIter it l i) where
 mem:=by simp
 obj:=λi h st b hb=>by
  obtain⟨⟨old,he⟩,o,e1,c,d⟩:=st;rcases ao.mp hb with rfl | hb
  ·exact⟨_,he,λv z=>nomatch z⟩
  ·have z:b=it:=by simpa using hb
   subst z;exact⟨o,e1,λv z=>by rw[d]at z;cases z⟩
 keep:=λi h h' st k=>by
  obtain⟨⟨old,he⟩,hit⟩:=st;exact⟨⟨old,k e (by simp) _ he⟩,hit.at λo x=>k it (by simp) o x⟩
 item:=by
  intro X hP hw hK hc i pins s σ H E I hf st hg;subst hP hw hK;obtain⟨xs,x,hq,hx⟩:=hg;obtain⟨its,rv,p,hz⟩:=I.list hq;obtain⟨u,hu,ru⟩:=rv.get hx;obtain⟨⟨old,he⟩,hit⟩:=st;have hi:i < its.toArray.size:=by
   have:=(aw.mp hu).1;simpa using this
  refine(lb (prog:=X.prog) (w:=X.w) (I.ok.hd hc) e it l hei hle hli its.toArray).item i s _ _ hi ⟨⟨old,he⟩,hit,p.isList⟩ λT vals h' tk hP hT hTup hM hk=> ?_;obtain⟨t,y,hy,rfl⟩:=hP;have hyu:y=u:=by
   have:its[i]? =some y:=by simpa using hy
   rw[hu]at this;exact(aI this).symm
  subst hyu;refine⟨.ref T,rfl, ?_⟩;refine(lb (prog:=X.prog) (w:=X.w) (I.ok.hd hc) e it l hei hle hli its.toArray).go elts kk pt i T _ _ _ hM λh2 hst2 hk2=> ?_;have hTn:H T=none:=I.hok.fresh hT;have hTne:∀b∈[e,it],b ≠ T:=λb hb z=>by
   obtain⟨_,_,_,h3,h4⟩:=hM;rcases ao.mp hb with rfl | hb
   ·exact h3 z.symm
   ·have:b=it:=by simpa using hb
    subst this;exact h4 z.symm
  have WZ:IsTup h2 T #[.int i t,y]:=by
   obtain⟨o,eo,r⟩:=hTup;exact⟨o,hk2 T o (λhb=>hTne T hb rfl) eo,r⟩
  refine⟨.ref T,upd H T (.tup [.int i,x]),Inv.laidT (s:=s) (h' :=h2) (ch:=[e,it]) (tk:=tk) I hf (λb o hb e=>hk2 b o hb (hk b o hb e)) (λb o hb _=> ?_) hT ⟨by rw[bC];show 2<=16777216;decide,[.int i t,y],.cons ⟨t,rfl⟩ (.cons ru .nil),WZ,.inl ⟨_,_,rfl⟩⟩,rfl,⟨T,x,hTn,rfl,λys hy=>by rw[I.list_inj hy hq];exact hx,rfl⟩,⟨hst2.1,hst2.2.1⟩,λb hb=> ?_⟩
  ·obtain⟨⟨old2,he2⟩,⟨o2,eo2,_⟩,_⟩:=hst2;rcases ao.mp hb with rfl | hb
   ·exact⟨_,he2⟩
   ·have:b=it:=by simpa using hb
    subst this;exact⟨o2,eo2⟩
  ·rw[zf (hTne b hb)];exact(hf b hb).1
 done:=by
  intro X hP hw hK hc i pins s σ H E I hf st hg;subst hP hw hK;obtain⟨xs,hq,hx⟩:=hg;obtain⟨its,rv,p,hz⟩:=I.list hq;obtain⟨⟨old,he⟩,hit⟩:=st;have hl:=rv.length;refine wpAny_pyNext_enum_end (I.ok.hd hc) he hit p.isList (c8 (by simp;omega)) λh' hk=>⟨rfl, ?_⟩
  obtain⟨f0,f1,f2,f3,f4,f5⟩:=hf it (by simp)
  exact I.turned (t' :=s.toks) (λb o hb e=>hk b o hb e) f0 f1 f3 f4 f5
 self:=λ_ _ _ _ _ st h=>let ⟨⟨_,he⟩,_⟩:=st;wpAny_pyIter_enum he h
noncomputable def jm (xs:List T):List T:=(xs.zipIdx).map λp=>T.tup [.int (p.2:Nat),p.1]
theorem Wn {xs:List T}{i:Nat}{t:T}(h:(jm xs)[i]? =some t):∃x,xs[i]? =some x/\t= .tup [.int (i:Nat),x]:=by
 unfold jm at h;rw[ax,List.getElem?_zipIdx]at h;cases e:xs[i]? with
 | none=>rw[e]at h;cases h
 | some x=>rw[e]at h;cases h;exact⟨x,rfl,by simp⟩
theorem jK (xs:List T):(jm xs).length=xs.length:=by unfold jm;simp
theorem xD {K:ag}{B1 H1:Hp}{a:Addr}{xs:List V}{ts:List T}(h:B1 a=some (.lst xs))(r:zr B1 xs ts):rI B1 H1 (Ite K a) (jm ts):=λB2 H2 s1 s2=>by
 have h2:=s2 _ _ (s1 _ _ h);rw[jK];refine⟨λi hi=> ?_,λi t x H3 e y=> ?_,λi hi=>⟨xs,SqL.of h2,by rw[r.length];exact hi⟩⟩
 ·obtain⟨v,e,_⟩:=r.get (aj hi);exact⟨xs,v,SqL.of h2,e⟩
 ·obtain⟨p,v,hp,rfl,y,rfl⟩:=y;obtain⟨t',et,rfl⟩:=Wn e;obtain⟨v',e1,r1⟩:=r.get et;have:=y xs (SqL.of h2);rw[e1]at this;cases this;refine⟨zm.new hp _,.tup (j9 hp _) (.cons (.int _) (.cons ?_ .nil))⟩;exact(r1.mono s1).mono (zB.ge s2 (zm.new hp _))
section
variable {X:Cx}{Y:Fx}{a:Expr}{fa:En->R T}{pos p pt:Pos}{elts:List Expr}{kk:Nat}
theorem xE {ta:TA}(hg:Gl X "enumerate")(hm:X.mg "enumerate"=none)(ha:PA X [a] ta)(hs:St1 X a:=by exact st1 rfl):
  PI X (.Tuple elts kk pt) (.Call (.Name "enumerate" p) [a] [] pos) (λσ H R=>ta σ H λvs H1=>∃l xs,vs=[.ref l]/\H1 l=some (.lst xs)/\R (Ite X.K l) H1):=by
 intro pins s σ H R I h;refine Call_ (Zv I hg hm PyProof.Rows.Boot.«enumerate» (aM (thn (ha pos _ s σ H _ I h) λus s1 ⟨vs,H1,I1,r1,q1⟩=> ?_) hs rfl));obtain⟨l,xs,e,hl,q⟩:=q1;subst e;obtain⟨u,rfl,ru⟩:=Zr r1;obtain rfl:u=Value.ref l:=ru;obtain⟨_,its,n,rv,eo⟩:=(show zN _ X.w H1 _ l _ from I1.hok l _ hl);have hlt:=am eo;refine call_enumerate_1 eo λh' he hit hsz hk=>wpAny_pyIter_enum he ?_;have f:∀b∈[s1.heap.objs.size+1,s1.heap.objs.size],wY X _ H1 b:=λb hb=>by
  rcases ao.mp hb with rfl | hb
  ·exact I1.fpOk (bT _) (I1.hok.fresh (bT _))
  ·have z:=by simpa using hb
   subst z;exact I1.fpOk (ak _) (I1.hok.fresh (ak _))
 exact⟨s1.heap.objs.size+1,[s1.heap.objs.size+1,s1.heap.objs.size],_,_,H1,rfl,I1.kept hk,yR _ _ l (lc _) (aD (cB hlt)) (aD hlt),⟨⟨_,he⟩,hit⟩,f,q⟩
def xF (fa:En->R T):En->R (List T):=λρ=>(fa ρ).bind λt=>match t with
 | .lst xs=> .ok (jm xs)
 | _=> .bad
theorem Kv (hg:Gl X "enumerate")(hm:X.mg "enumerate"=none)(ha:Snd X Y a fa)(hs:St1 X a:=by exact st1 rfl):WY X Y (.Tuple elts kk pt) (.Call (.Name "enumerate" p) [a] [] pos) (xF fa):= .mk λρ=>
 PI.imp (xE hg hm (zj (ha ρ) zD hs) hs) λσ H R ⟨B,I,q⟩=>step I q λt v H1 _ s1 r1 I1 q1=>by
  cases r1 with
  | @lst l xs ts h r=>exact⟨l,xs,rfl,I1.sB _ _ h,Zw I1 (show Po Y rI _ H1 _ R from q1) (xD h r)⟩
  | _=>exact q1.elim
noncomputable def y7:List T->Option (List Str)
 | []=>some []
 | .str x :: r=>match y7 r with | some ys=>some (x :: ys) | none=>none
 | _ :: _=>none
def Kw (sep:Str):T->R T
 | .lst ts=>match y7 ts with
  | some ys=>if (ys.map (·.length)).sum+ys.length*sep.length<=16777216 then .ok (.str (Txt.join sep ys)) else .bad
  | none=> .bad
 | _=> .bad
theorem wA {H:Hp}:∀{xs:List V} {ts:List T} {its:List Value} {ys:List Str},zr H xs ts->Vals xs its->y7 ts=some ys->StrsAre its ys
 | _,_,_,ys,.nil,.nil,h=>by
  have h' :=h;cases h';exact .nil
 | _,_,_,ys,.cons r rs,.cons rv vs,h=>by
  cases r with
  | str x=>
   unfold y7 at h;split at h
   ·rename_i zs e;cases h;obtain⟨tk,rfl⟩:=rv;exact .cons x tk (wA rs vs e)
   ·cases h
  | _=>cases h
theorem xG:MtR X "str.join" (λx xs H Q=>∃z l zs ts ys,x= .str z/\xs=[.ref l]/\H l=some (.lst zs)/\zr H zs ts/\y7 ts=some ys/\(ys.map (·.length)).sum+ys.length*z.length<=16777216/\Q (.str (Txt.join z ys)) H):=by
 intro pins s σ H x xs v us Q I rx rv h;obtain⟨z,l,zs,ts,ys,rfl,rfl,hl,r,e,hb,q⟩:=h;obtain⟨t,rfl⟩:=rx;obtain⟨u,rfl,ru⟩:=Zr rv;obtain rfl:u=Value.ref l:=ru;obtain⟨its,rv,p,_⟩:=zH I (.inl hl) r;exact join_list p (by simpa using wA r rv e) hb λt' k=>⟨.str _,H,I.tok k,⟨t',rfl⟩,q⟩
theorem Kx {z:Str}{kc:Nat}{pz pa:Pos}(ha:jh X Y a fa)(hb:attributeBase (.Constant (.str z) kc pz) "join" X.env (eval (.Constant (.str z) kc pz) X.env)=eval (.Constant (.str z) kc pz) X.env:=by rfl)(hs:St1 X a:=by exact st1 rfl)
  (hz:(pa.endLine == p.line)=true:=by rfl):Snd X Y (.Call (.Attribute (.Constant (.str z) kc pz) "join" pa) [a] [] p) (ap1 (Kw z) fa):= .mk λρ=>by
 have e1:(((((backTo p (starEach [a] X.env)).all λx=> !x.fst) && (backToKw p (keywordEach [] X.env)).all λx=>x.fst.isSome) && decide (([a].length+([]:List Keyword).length+if ([]:List Keyword).isEmpty=true then 0 else 1) < 30))=true):=by rw[hs];rfl
 refine PE.imp (yw PySem.F.plainAttrs_str PySem.F.slot_str_join PySem.F.type_str_join xG vR (zj (ha ρ) zD hs) hb e1 hz hs rfl) λσ H Q ⟨B,I,q⟩=> ?_;refine⟨rfl,step I q λt v H1 _ s1 r1 I1 q1=> ?_⟩;cases r1 with
 | @lst l xs ts h r=>
  have q1:Po Y rC _ H1 (match y7 ts with | some ys=>if (ys.map _).sum+ys.length*z.length<=16777216 then .ok _ else .bad | none=> .bad) Q:=q1
  split at q1
  ·rename_i ys e;split at q1
   ·rename_i hl;exact⟨z,l,xs,ts,ys,rfl,rfl,h,r,e,hl,po0 I1.sB q1 rfl (.str _)⟩
   ·exact q1.elim
  ·exact q1.elim
 | _=>exact q1.elim
end
noncomputable def dd:List Str->List Str->List Str
 | acc,[]=>acc
 | acc,x :: r=>dd (if x∈acc then acc else acc++[x]) r
section
variable {prog:Program}{w:World}{A:Around}{R:Result->Shared->Prop}{I:Addr}{fp wr:List Addr}{n:Nat}{P:Nat->Value->Prop}{St:Nat->Heap->Prop}
theorem ZW {h h' :Heap}{S:Addr}{f g:Str->Bool}{m k:Nat}(x:h.SetOf (strKind prog w) S f m)(e:∀o,h.get? S=some o->h'.get? S=some o)(ef:f=g)(em:m=k):h'.SetOf (strKind prog w) S g k:=by
 subst ef em;obtain⟨o,es,ep,t,ho,r⟩:=x;exact⟨o,es,ep,t,e o ho,r⟩
theorem QH (W:Walks prog w A.in1 I fp wr n P St)(S:Addr)(hSf:S ∉ fp)(val:Nat->Str)(hval:∀i v,P i v->∃t,v=Value.str (val i) t)(hb:n+1 < scanBound):
  ∀(k i:Nat) (acc:List Str) (s:Shared),n - i=k->i<=n->acc.length<=i->St i s.heap->s.heap.SetOf (strKind prog w) S (λx=>decide (x∈acc)) acc.length->
   (∀h' tk,(∀b o,b ∉ S :: wr->s.heap.get? b=some o->h'.get? b=some o)->h'.SetOf (strKind prog w) S (λx=>decide (x∈dd acc ((lm i k).map val))) (dd acc ((lm i k).map val)).length->
    R (.ok (.ret .none)) { s with heap:=h',toks:=tk })->codeAny (model prog w) A (.builtin "set.update.loop" ⟨[.ref S,.ref I],[]⟩) R s:=by
 intro k
 induction k with
 | zero=>
  intro i acc s hk hi hal hst hS hR;obtain rfl:i=n:=by omega
  refine bz fW ?_;refine a8 (W.done s _ _ hst λh' tk hk' =>ac ?_);exact hR h' tk (λb o hb e=>hk' b o (λz=>hb (a9 _ z)) e) (ZW hS (λo e=>hk' S o (λz=>hSf (W.sub _ z)) e) rfl rfl)
 | succ k ih=>
  intro i acc s hk hi hal hst hS hR;refine bz fW ?_;refine a8 (W.item i s _ _ (by omega) hst λv h1 tk1 hP hst1 hk1=> ?_)
  obtain⟨t,rfl⟩:=hval i v hP;have hS1:=ZW hS (λo e=>hk1 S o (λz=>hSf (W.sub _ z)) e) rfl rfl;refine a8 (m:=holding _ _) (bI ?_);unfold setAdd;have isk:(strKind prog w).is (val i) (.str (val i) t)=true:=strKind_is _ _ _ _;refine bI (a8 ((strKind _ w).pyHash isk ?_));refine wpAny_setAddHashed_of isk rfl hS1 (by omega) λh2 hsb hS2=> ?_
  have e2:(if decide (val i∈acc)=true then acc.length else acc.length+1)=(if val i∈acc then acc else acc++[val i]).length:=by
   by_cases hm:val i∈acc
   ·simp[hm]
   ·simp[hm]
  have e1:(λx=>decide (x∈acc) || decide (x=val i))=(λx=>decide (x∈(if val i∈acc then acc else acc++[val i]))):=by
   funext x
   by_cases hm:val i∈acc
   ·simp only[if_pos hm]
    by_cases hx:x=val i
    ·subst hx;simp[hm]
    ·simp[hx]
   ·simp[hm,Bool.decide_or]
  have hS3:=ZW hS2 (λo e=>e) e1 e2;refine ac ⟨bS F.plain_set_update_loop _,ih _ _ _ (by omega) (by omega) ?_ (W.frame _ h1 _ hst1 λb hb o e=> ?_) hS3 λh3 tk3 hk3 hS4=> ?_⟩
  ·split
   ·omega
   ·rw[aC,aG];omega
  ·exact(hsb.2 b (λz=>hSf (z ▸ hb))).trans e
  ·refine hR h3 tk3 (λb o hb e=>hk3 b o hb ?_) hS4;exact(hsb.2 b (λz=>hb (z ▸ ab))).trans (hk1 b o (λz=>hb (a9 _ z)) e)
end
section
variable {prog:Program}{w:World}{A:Around}{E:Value->Shared->Prop}{s:Shared}
set_option maxRecDepth 100000 in
set_option maxHeartbeats 3200000 in
theorem yS {l:Addr}{its:List Value}{ys:List Str}{Q:Value->Shared->Prop}(hh:A.handled=none)(hl:s.heap.IsList l its.toArray)(hi:StrsAre its ys)(hb:its.length+1 < scanBound)
  (h:∀(h' :Heap) (tk:Nat),h'.SetOf (strKind prog w) s.heap.objs.size (λx=>decide (x∈dd [] ys)) (dd [] ys).length->(∀b o,b < s.heap.objs.size->s.heap.get? b=some o->h'.get? b=some o)->
   Q (.ref s.heap.objs.size) { s with heap:=h',toks:=tk }):wpAny (model prog w) A (call (.type "set") [.ref l]) Q E s:=by
 have getv:∀{its:List Value} {ys:List Str},StrsAre its ys->its.length=ys.length/\∀(i:Nat) (v:Value),its[i]? =some v->∃t,v=Value.str (ys.getD i ⟨#[]⟩) t:=λ{its ys} hi=>by
  induction hi with
  | nil=>exact⟨rfl,λi v e=>by simp at e⟩
  | cons y t _ ih=>
   refine⟨by simp[ih.1],λi v e=> ?_⟩
   cases i with
   | zero=>exact⟨t,by simpa using e.symm⟩
   | succ i=>exact ih.2 i v (by simpa using e)
 obtain⟨hlen,hget⟩:=getv hi;have hys:(lm 0 its.length).map (λi=>ys.getD i ⟨#[]⟩)=ys:=by
  rw[hlen];refine dQ λi=> ?_;rw[ax]
  by_cases hi' :i < ys.length
  ·rw[List.getElem?_range' hi',aj hi'];simp[aj hi']
  ·rw[aV (by simp;omega),aV (by omega)]
   rfl
 obtain⟨c,tl,hmro⟩:=cT.mro;have hmade:=cT.made;have hsub:=cT.sub;have h1:=cT.notType;have h2:=cT.canCreate;have hct:=F.typeCall_set_1 (.ref l);refine wpAny_call (codeAny_of_tree (show wpAny _ _ (callAny (.type "set") _) _ _ _ from ?_));refine ac ⟨Code.quiet_builtin _ (by decide+kernel),bz F.entry_type_call ?_⟩
 rw[Around.under_plain (weight_type_call_type "set" [.ref l] []) rfl]
 repeat any_goals (first | assumption | wp_step)
 refine di (code_set_new_1 (.ref l) (E:=E) (Q₁:=λobj s₁=>∃led:Bool,obj= .ref s.heap.objs.size/\s₁={ s with heap:=s.heap.push { cls:= .type "set",dict:=none,data:= .set #[] 0 (.fresh 0 0 led) } }) λled=>⟨led,rfl,rfl⟩) λr s₁ hr=> ?_;cases r with
 | error e=>exact hr
 | ok fl=>
  cases fl with
  | ret obj=>
   obtain⟨led,rfl,rfl⟩:=hr;generalize hG:s.heap.push { cls:= .type "set",dict:=none,data:= .set #[] 0 (.fresh 0 0 led) }=G;have hS:G.get? s.heap.objs.size=some { cls:= .type "set",dict:=none,data:= .set #[] 0 (.fresh 0 0 led) }:=by rw[← hG];exact af _ rfl
   have hGs:G.objs.size=s.heap.objs.size+1:=by rw[← hG,bU]
   have hGk:∀b o,s.heap.get? b=some o->G.get? b=some o:=λb o e=>by rw[← hG];exact aa _ e
   have hT:eK { s with heap:=G } (.ref s.heap.objs.size) "set":=⟨_,hS,rfl⟩;have hli:=cT.init.lookup;have hbi:=cT.init.bind (.ref s.heap.objs.size)
   repeat any_goals (first | assumption | wp_step)
   refine di (codeAny_call_builtin (R:=wants (λr s₂=>r= .none/\∃h' tk,s₂={ s with heap:=h',toks:=tk }/\h'.SetOf (strKind prog w) s.heap.objs.size (λx=>decide (x∈dd [] ys)) (dd [] ys).length/\
     (∀b o,b < s.heap.objs.size->s.heap.get? b=some o->h'.get? b=some o)) E) cT.init.plain F.entry_set_init (check_set_init_1 hT ?_)) λr₂ s₂ hr₂=> ?_
   ·obtain⟨⟨ocls,odict,odata,oslots⟩,hol,hcl,nl,hdl⟩:=hl;simp only at hcl hdl;subst hcl;subst hdl;have hol' :=hGk _ _ hol;have hsls:=F.sub_list_set;have hslf:=F.sub_list_frozenset;have hne:(Value.type "list" == Value.type "dict")=false:=by decide
    have hl1:G.IsList l its.toArray:=⟨_,hol',rfl,nl,rfl⟩;have hlS:l < s.heap.objs.size:=am hol;unfold Builtin.«set.__init__» noKeywords Builtin.Frozenset.updateFrom;generalize hPI:pyIter=PI
    wp_walk
    subst hPI;refine cA hl1 (a8 (wpAny_runValue ?_));have hSf:s.heap.objs.size ∉ [G.objs.size,l]:=by
     rw[hGs];intro z;rcases ao.mp z with z | z
     ·exact absurd z (aD (eD _))
     ·exact absurd (au.mp z) (cy hlS)
    refine QH (lH (A:=A.in1.in1.in1) (by simp[hh]) G.objs.size l (by rw[hGs];exact aD (cB hlS)) its.toArray) s.heap.objs.size hSf (λi=>ys.getD i ⟨#[]⟩) (λi v e=>hget i v (by simpa using e)) (by simpa using hb) its.length 0 [] _ (by simp) (aZ _) (ak _)
     ⟨⟨_,af _ rfl,rfl,rfl⟩,hl1.push _⟩ ?_ ?_
    ·have hget' :(G.push { cls:= .type "list_iterator",data:= .fields #[.ref l,.int 0 0] }).get? s.heap.objs.size=some { cls:= .type "set",dict:=none,data:= .set #[] 0 (.fresh 0 0 led) }:=aa _ hS;exact ZW ((PyProof.Rows.setObjOf_fresh (knd:=strKind prog w) led).setOf hget' (by unfold scanBound;omega)) (λo e=>e) (by funext x;simp) rfl
    ·intro h' tk' hm hS';rw[hys]at hS';refine ac (show wpAny _ _ (ret Value.none) _ _ _ from ac ⟨rfl,h',tk',rfl,hS',λb o hb e=> ?_⟩);refine hm b o (λz=> ?_) (aa _ (hGk b o e));rcases ao.mp z with z | z
     ·exact absurd z (aD hb)
     ·have z' :b=G.objs.size:=au.mp z;rw[hGs]at z';exact absurd z' (aD (cB hb))
   ·cases r₂ with
    | error e=>exact hr₂
    | ok fl₂=>
     cases fl₂ with
     | ret r=>
      obtain⟨rfl,h',tk,rfl,hS',hk'⟩:=hr₂
      repeat any_goals (first | assumption | wp_step)
      exact h _ _ hS' hk'
     | _=>exact hr₂.elim
  | _=>exact hr.elim
end
section
variable {X:Cx}{Y:Fx}{a b:Expr}{fa fb:En->R T}{pos pos' p p' :Pos}
theorem yT (hh:X.A.handled=none):Za X (.type "set") (λvs H Q=>∃l xs ts ys,vs=[.ref l]/\H l=some (.lst xs)/\zr H xs ts/\y7 ts=some ys/\ts.length+1 < 4096/\
  ∀q,H q=none->Q (.ref q) (upd H q (.ext λh=>h.SetOf (strKind X.prog X.w) q (λx=>decide (x∈dd [] ys)) (dd [] ys).length))):=by
 intro pins s σ H vs us Q I rv h;obtain⟨l,xs,ts,ys,rfl,hl,r,ey,hb,q⟩:=h;obtain⟨u,rfl,ru⟩:=Zr rv;obtain rfl:u=Value.ref l:=ru;obtain⟨its,rv,pl,hln,_⟩:=zH I (.inl hl) r;refine yS hh pl (wA r rv ey) (by unfold scanBound;omega) λh' tk hS hk=> ?_
 refine⟨.ref _,_,I.laid (λb u e=>hk b u (am e) e) (ak _) ?_,rfl,q _ (I.hok.fresh (ak _))⟩;obtain⟨o,es,ep,t,ho,rr⟩:=id hS;exact⟨hS,⟨o,ho⟩,λh1 h2 ⟨o1,es1,ep1,t1,ho1,rr1⟩ e=>⟨o1,es1,ep1,t1,e _ ho1,rr1⟩⟩
theorem yU:Za X (.builtin "len") (λvs H Q=>∃q φ f n,vs=[.ref q]/\H q=some (.ext φ)/\(∀h:Heap,φ h->h.SetOf (strKind X.prog X.w) q f n)/\Q (.int n) H):=by
 intro pins s σ H vs us Q I rv h;obtain⟨l,φ,f,n,rfl,hl,hφ,q⟩:=h;obtain⟨u,rfl,ru⟩:=Zr rv;obtain rfl:u=Value.ref l:=ru;obtain⟨h1,_,_⟩:=(show zN _ X.w H _ l _ from I.hok l _ hl);obtain⟨o,es,ep,t,ho,hex,hd,_,_,hb,hf,hn⟩:=hφ _ h1;refine call_len_set ho hex hd hf ?_ ⟨.int _,H,I.tok _,⟨_,rfl⟩,by rw[hn];exact q⟩
 have:es.size < 4096:=hb;omega
def QI:T->R T
 | .lst ts=>match y7 ts with
  | some ys=>if ts.length+1 < 4096 then .ok (.int (dd [] ys).length) else .bad
  | none=> .bad
 | _=> .bad
theorem Ky (hh:X.A.handled=none)(gl:Gl X "len")(mg:X.mg "len"=none)(gl' :Gl X "set")(mg' :X.mg "set"=none)(ha:jh X Y a fa)(hs:St1 X a:=by exact st1 rfl)(hs' :St1 X (.Call (.Name "set" p') [a] [] pos'):=by exact st1 rfl):
  Snd X Y (.Call (.Name "len" p) [.Call (.Name "set" p') [a] [] pos'] [] pos) (ap1 QI fa):= .mk λρ=>
 PE.imp (ZC yU gl mg PySem.boot_len (zj (ZI (yT hh) gl' mg' PyProof.Rows.Boot.«set» (zj (ha ρ) zD hs) (by decide) (by decide) hs rfl) zD hs') (by decide) (by decide) hs' rfl) λσ H Q ⟨B,I,q⟩=>
  step I q λt v H1 _ s1 r1 I1 q1=>by
   cases r1 with
   | @lst l xs ts h r=>
    have q1:Po Y rC _ H1 (match y7 ts with | some ys=>if ts.length+1 < 4096 then .ok _ else .bad | none=> .bad) Q:=q1
    split at q1
    ·rename_i ys e;split at q1
     ·rename_i hl;refine⟨l,xs,ts,ys,rfl,h,r,e,hl,λz hz=>⟨z,_,_,_,rfl,zl,λh hh=>hh, ?_⟩⟩;exact q1 _ _ (zm.new hz _) (.int _)
     ·exact q1.elim
    ·exact q1.elim
   | _=>exact q1.elim
def z1p (i j:Nat)(ga:En->R (List T)):En->RS:=λρ=>(ga ρ).s λts=>match ts with
 | [x,y]=> .nx ((ρ.set i (.vl x)).set j (.vl y))
 | _=> .bad
theorem z1q {i j:Nat}{x y:Str}{ga:En->R (List T)}{px py pt pt2:Pos}{kt k2:Nat}(hc:X.calm=true)(hN:X.N.Nodup)(hi:X.N[i]? =some x)(hj:X.N[j]? =some y)(hij:i ≠ j)(hx:X.env.scope.names.lookup x=some .local)(hy:X.env.scope.names.lookup y=some .local)
  (ha:uE X Y [a,b] ga) (hs:swappedStores [.Tuple [.Name x px,.Name y py] kt pt] (.Tuple [a,b] k2 pt2) X.env=pure (some [x,y])) (hw:swapsWithSole [.Tuple [.Name x px,.Name y py] kt pt] (.Tuple [a,b] k2 pt2) pos.line X.env=pure false:=by rfl):
  JF X Y (.Assign [.Tuple [.Name x px,.Name y py] kt pt] (.Tuple [a,b] k2 pt2) pos) (z1p i j ga):= .mk λρ=>
 PS.imp (kA hc hN hi hj hij hx hy (ha ρ) hs hw) λD σ H ⟨B,I,q⟩=>jj I q λts vs H1 _ s1 r1 I1 q1=>by
  cases r1 with
  | nil=>exact q1.elim
  | cons r rr=>
   cases rr with
   | nil=>exact q1.elim
   | cons r' rr=>
    cases rr with
    | cons _ _=>exact q1.elim
    | nil=>exact⟨_,_,rfl,q1 _ _ _ (zm.refl _) ((I1.setV i r).setV j r')⟩
end
theorem yV {X:Cx}{E:XK}:JT CX0 X E:=λ_ _ _ _ _ _ _ h=>h.elim
section
variable {X:Cx}{Y:Fx}{a b:Expr}{fa fb:En->R T}{pos pos' p p' :Pos}
theorem xH {cl:Nat->Value}{k j n:Nat}{f:Addr}{fd:FuncData}{ps:List Str}{g:List T->R T}{x:Str}{es:List Expr}{ga:En->R (List T)}(hy:Y.cl=cl)(F:W7 X.prog X.w X.K X.mg X.base CX0 j f fd ps (spP cl n g))(hr:jR k X.A)(hj:j<=k)(gl:Gl X x)
  (mg:X.mg x=some (.ref f)) (kp:cJ X.K (.ref f)=true) (bd:L2.Binds X.K fd ps []) (ha:uE X Y (a :: es) ga) (hd:(x == ("__debug__":Str))=false:=by decide)
  (hs:starEach (a :: es) X.env=(false,eval a X.env) :: starEach es X.env:=by exact zE rfl) (hz:((backTo pos (starEach es X.env)).any λx=>x.fst)=false:=by exact Z0 rfl):Snd X Y (.Call (.Name x p) (a :: es) [] pos) (zb n g ga):=by
 subst hy;exact Kh F (hr.mono hj) gl mg kp bd yV ha hd hs hz
theorem wB {x:Str}{i:Int}{u:Value}(gl:Gl X x)(mg:X.mg x=some u)(hu:∃t,u=Value.int i t)(hd:(x == ("__debug__":Str))=false:=by decide):Snd X Y (.Name x pos) (cE (.int i)):= .mk λρ=>
 PE.imp (VN (v:= .int i) gl mg hu hd) λσ H Q ⟨B,I,q⟩=>Zw I q (.int i)
end
noncomputable def GQ (scope sc0:Scope):Bool:=(scope.kind == .function) && scope.names.all (λx=>x.2 != .cell) && scope.names.all (λx=>x.2 != .local || scope.names.lookup x.1 == some .local) &&
 scope.names.all (λx=>x.2 != .free || sc0.names.lookup x.1 == some .cell || sc0.names.lookup x.1 == some .free)
theorem Kz {X:Cx}{scope:Scope}(sc0:Scope)(h0:X.env.scope=sc0)(h:GQ scope sc0=true):CSc X scope:=by
 unfold GQ at h;simp only[ah,aH]at h;obtain⟨⟨⟨h1,h2⟩,h3⟩,h4⟩:=h;refine⟨eq_of_beq h1,λx hx=>by simpa using h2 x hx,λx hx hl=> ?_,λx hx hf=> ?_⟩
 ·have:=h3 x hx;rw[hl]at this;simpa using this
 ·have:=h4 x hx;rw[hf]at this;show X.env.scope.names.lookup x.1=_\/X.env.scope.names.lookup x.1=_;rw[h0];simpa using this
noncomputable def GR (N N' :List Str)(scope sc0:Scope)(k:Nat)(js:List Nat):Bool:=(N'.length == k+js.length) && (aY js.length).all λi=>match js[i]? with
 | none=>true
 | some j=>match N'[k+i]?,N[j]? with
  | some x,some y=>(x == y) && (sc0.names.lookup x == some .cell || sc0.names.lookup x == some .free) && (scope.names.lookup x == some .free)
  | _,_=>false
theorem xI {X:Cx}{scope:Scope}{N' :List Str}{k:Nat}{js:List Nat}(N:List Str)(sc0:Scope)(hN:X.N=N)(h0:X.env.scope=sc0)(h:GR N N' scope sc0 k js=true):z1n X scope N' k js:=by
 unfold GR at h;simp only[ah,aH]at h;obtain⟨h1,h2⟩:=h;refine⟨eq_of_beq h1,λi j e=> ?_⟩;have hi:=(aw.mp e).1;have q:=h2 i (bH.mpr hi);rw[e]at q;dsimp only at q;split at q
 ·rename_i x y e1 e2;simp only[ah,dC,beq_iff_eq]at q;obtain⟨⟨rfl,q2⟩,q3⟩:=q;refine⟨x,e1,by rw[hN];exact e2, ?_,q3, ?_⟩
  ·rw[h0];exact .inr q2
  ·show X.env.scope.names.lookup x=_\/X.env.scope.names.lookup x=_;rw[h0];exact q2
 ·cases q
theorem V8 {X:Cx}{Y:Fx}{tg iter elt:Expr}{ifs:List Expr}{scope:Scope}{k:Nat}{js:List Nat}{fi:En->R (List T)}{tG:TG}{g:T->En->R En}{ft:En->R Bool}{fe:En->R T}(N' :List Str)(N:List Str)(sc0:Scope)(hN:X.N=N)(h0:X.env.scope=sc0)
  (h:(GQ scope sc0 && GR N N' scope sc0 k js)=true) (cm:X.calm=true) (it:WY X Y tg iter fi) (gt:V6 X scope N' λXC=>PG XC tg tG) (gk:GOk tG g) (gn:GNo g) (tt:∀Y',Y'.cl=Y.cl->V6 X scope N' λXC=>wz XC Y' ifs ft)
  (el:∀Y',Y'.cl=Y.cl->Kq X scope N' Y'.E λXC=>Snd XC Y' elt fe) (hs:∀x,foldedSetIterable iter X.env x=pure x:=by intro _;rfl):jJ X Y tg iter elt ifs scope N' k js fi tG g ft fe:=by
 rw[ah]at h;exact⟨Kz sc0 h0 h.1,xI N sc0 hN h0 h.2,cm,it,gt,gk,gn,tt,el,hs⟩
end PV
namespace PV
open PySem PySem.Spec PyProof.Rows L2 PySem.W
end PV
namespace PySem.W
open PySem PySem.Calls PyProof.Rows PySem.Spec Builtin Builtin.ObjectAttr Builtin.Getset_descriptor
end PySem.W
namespace PySem.W
open PySem PySem.Calls PyProof.Rows PySem.Spec Builtin Builtin.ObjectAttr Builtin.Getset_descriptor
end PySem.W
namespace PySem.W
open PySem PySem.Calls PyProof.Rows PySem.Spec Builtin Builtin.ObjectAttr Builtin.Getset_descriptor
end PySem.W
namespace PV
open PySem PySem.Spec PyProof.Rows L2 PySem.W
end PV
namespace PySem.ZG
open PySem PySem.Spec PySem.Builtin.SmallTypes
structure uc (i:Addr) (fp:List Addr) (v:Nat->Option Value) (St:Nat->Heap->Prop):Prop where
 mem:i∈fp
 item:∀{prog:Program} {w:World} {A:Around} {E:Value->Shared->Prop} {s:Shared} {Q:Value->Shared->Prop} {k:Nat} {x:Value},St k s.heap->v k=some x->(∀h',St (k+1) h' ->b5 i s.heap h' ->Q x { s with heap:=h' })->wpAny (model prog w) A (nextOf (.ref i)) Q E s
 stop:∀{prog:Program} {w:World} {A:Around} {E:Value->Shared->Prop} {s:Shared} {Q:Value->Shared->Prop} {k:Nat},A.handled=none->St k s.heap->v k=none->(∀h' e,fG i s.heap h' ->(∃o,h'.get? e=some o/\o.cls= .type "StopIteration")->E (.ref e) { s with heap:=h' })->wpAny (model prog w) A (nextOf (.ref i)) Q E s
 keep:∀{k:Nat} {h h' :Heap},St k h->(∀b∈fp,∀o,h.get? b=some o->h'.get? b=some o)->St k h'
 there:∀{k:Nat} {h:Heap},St k h->∀b∈fp,∃o,h.get? b=some o
theorem uc.but {i:Addr}{fp:List Addr}{v:Nat->Option Value}{St:Nat->Heap->Prop}(N:uc i fp v St){k:Nat}{h h' :Heap}{b:Addr}(x:St k h)(e:fG b h h')(n:b ∉ fp):St k h' :=
 N.keep x λc hc o q=>e c o (λz=>n (z ▸ hc)) q
theorem xJ {i l:Addr}(hil:l ≠ i)(xs:Array Value):uc i [i,l] (λk=>xs[k]?) (λk h=>h.IsListIter i l k/\h.IsList l xs) where
 mem:= .head _
 item:=λst hx h=>wpAny_nextOf_list_item st.1 st.2 hx λh' a b=>h h' ⟨a,st.2.extBut b.extBut hil⟩ b
 stop:=λhh st hx h=>wpAny_nextOf_list_end hh st.1 st.2 hx h
 keep:=λst k=>⟨st.1.at λo e=>k i (.head _) o e,st.2.at λo e=>k l (.tail _ (.head _)) o e⟩
 there:=λst b hb=>by
  obtain⟨⟨o,e,_⟩,o2,e2,_⟩:=st;rcases ao.mp hb with z | hb
  ·exact⟨o,z ▸ e⟩
  ·exact⟨o2,(au.mp hb) ▸ e2⟩
end PySem.ZG
namespace PySem.ZG
open PySem PySem.Spec PySem.Builtin.SmallTypes
section
variable {prog:Program}{w:World}{A:Around}{E:Value->Shared->Prop}{s:Shared}{it l:Addr}{k:Nat}{xs:Array Value}{Q:Value->Shared->Prop}
theorem uM (hit:s.heap.IsTupleIter it l k)(h:wpAny (model prog w) A.in1 (Builtin.«tuple_iterator.__next__» ⟨[.ref it],[]⟩) (λfin s' =>∃v,fin= .done (.ret v)/\Q v s') E s):wpAny (model prog w) A (nextOf (.ref it)) Q E s:=by
 exact a8 (b7 hit.typeIs dR (aN dR hit.typeIs PySem.F.entry_tuple_iterator_next
  (dE h (λfin s' ⟨v,e,q⟩=>⟨v,e,ac q⟩) λ_ _ z=>z) (PySem.F.args_tuple_iterator_next_1 _)))
theorem tup_item (hit:s.heap.IsTupleIter it l k)(ht:s.heap.IsTuple l xs){x:Value}(hx:xs[k]? =some x)(h:∀h',h'.IsTupleIter it l (k+1)->b5 it s.heap h' ->Q x { s with heap:=h' }):wpAny (model prog w) A (nextOf (.ref it)) Q E s:=by
 refine uM hit ?_;obtain⟨o,ho,hc,hd⟩:=id hit;obtain⟨ol,hol,_,nl,hdl⟩:=ht;refine a8 (m:=field _ 0) (aS ho hd rfl ?_);refine a8 (aS ho hd rfl (a8 (bV hol hdl ?_)));simp only[bE,hx];have g:=d0 (Obj.mapFields (·.setIfInBounds 1 (rawInt (k+1)))) ho (Obj.isFreed_of_fields (iu hd _));refine a8 (wpAny_setField ho hd (by simp) (ac ⟨x,rfl,h _ ⟨_,g,(Obj.cls_mapFields ..).trans hc, ?_⟩ (c6 ..)⟩))
 rw[iu hd];simp[rawInt]
theorem tup_stop (hh:A.handled=none)(hit:s.heap.IsTupleIter it l k)(ht:s.heap.IsTuple l xs)(hx:xs[k]? =none)
  (h:∀h' e,fG it s.heap h' ->(∃o,h'.get? e=some o/\o.cls= .type "StopIteration")->E (.ref e) { s with heap:=h' }):wpAny (model prog w) A (nextOf (.ref it)) Q E s:=by
 refine uM hit ?_;obtain⟨o,ho,hc,hd⟩:=id hit;obtain⟨ol,hol,_,nl,hdl⟩:=ht;refine a8 (m:=field _ 0) (aS ho hd rfl ?_);refine a8 (aS ho hd rfl (a8 (bV hol hdl ?_)));simp only[bE,hx];refine a8 (ce (a8 (wpAny_setField ho hd (by simp) (a8 ?_))))
 refine a8 (aQ (a8 (br (by first | rfl | (simp only[firstArgMember])) (aQ ?_ (by size_fits)))) (by size_fits))
 refine a8 (wpAny_handled ?_);rw[hh];exact a8 (ac (wpAny_throw (h _ _ (((c6 ..).extBut.push _).push _) ⟨_,af _ rfl,rfl⟩)))
end
theorem nx_tup {i l:Addr}(hil:l ≠ i)(xs:Array Value):uc i [i,l] (λk=>xs[k]?) (λk h=>h.IsTupleIter i l k/\h.IsTuple l xs) where
 mem:= .head _
 item:=λst hx h=>tup_item st.1 st.2 hx λh' a b=>h h' ⟨a,st.2.extBut b.extBut hil⟩ b
 stop:=λhh st hx h=>tup_stop hh st.1 st.2 hx h
 keep:=λst k=>by
  obtain⟨⟨o,e,r⟩,o2,e2,r2⟩:=st;exact⟨⟨o,k i (.head _) o e,r⟩,o2,k l (.tail _ (.head _)) o2 e2,r2⟩
 there:=λst b hb=>by
  obtain⟨⟨o,e,_⟩,o2,e2,_⟩:=st;rcases ao.mp hb with z | hb
  ·exact⟨o,z ▸ e⟩
  ·exact⟨o2,(au.mp hb) ▸ e2⟩
end PySem.ZG
namespace PySem.ZG
open PySem PySem.Spec PySem.Builtin.SmallTypes
structure Ap (z TI TO i1 i2:Addr) (fp1 fp2:List Addr):Prop where
 Iz:TI ≠ z
 Oz:TO ≠ z
 IO:TI ≠ TO
 I1:TI ≠ i1
 I2:TI ≠ i2
 z1:z ∉ fp1
 z2:z ∉ fp2
 O1:TO ∉ fp1
 O2:TO ∉ fp2
 a:i1 ∉ fp2
 b:i2 ∉ fp1
section
variable {prog:Program}{w:World}{A:Around}{E:Value->Shared->Prop}{s:Shared}{z TI TO i1 i2:Addr}{fp1 fp2:List Addr}{v1 v2:Nat->Option Value}{S1 S2:Nat->Heap->Prop}{k:Nat}{x y a b:Value}
theorem Ap.ne1 (D:Ap z TI TO i1 i2 fp1 fp2)(N1:uc i1 fp1 v1 S1):i1 ≠ z/\i1 ≠ TO:=⟨λe=>D.z1 (e ▸ N1.mem),λe=>D.O1 (e ▸ N1.mem)⟩
theorem Ap.ne2 (D:Ap z TI TO i1 i2 fp1 fp2)(N2:uc i2 fp2 v2 S2):i2 ≠ z/\i2 ≠ TO:=⟨λe=>D.z2 (e ▸ N2.mem),λe=>D.O2 (e ▸ N2.mem)⟩
theorem xK {Q:Value->Shared->Prop}(N1:uc i1 fp1 v1 S1)(N2:uc i2 fp2 v2 S2)(D:Ap z TI TO i1 i2 fp1 fp2)(hz:IsZip s.heap z TI TO .none)(hTI:IsPair s.heap TI (.ref i1) (.ref i2))(hTO:IsPair s.heap TO a b)(p1:S1 k s.heap)(p2:S2 k s.heap)(hx:v1 k=some x)(hy:v2 k=some y)
  (hQ:∀h',IsZip h' z TI TO (rawInt s.heap.objs.size)->IsPair h' TO x y->S1 (k+1) h' ->S2 (k+1) h' ->IsPair h' s.heap.objs.size x y->
   (∀c o,c ≠ z->c ≠ TO->c ≠ i1->c ≠ i2->s.heap.get? c=some o->h'.get? c=some o)->Q (.ref s.heap.objs.size) { s with heap:=h' }):
  wpAny (model prog w) A (Builtin.«zip.__next__» ⟨[.ref z],[]⟩) (λfin s' =>∃v,fin= .done (.ret v)/\Q v s') E s:=by
 refine a8 (m:=field (.ref z) 2) (aS hz rfl (x:= .bool false) rfl (a8 (aS hz rfl (x:= .ref TI) rfl (a8 (bV hTI rfl ?_)))));refine a8 ?_;refine a8 (aS hz rfl (x:= .none) rfl (ac ?_));refine a8 (ce (a8 (aS hz rfl (x:= .ref TO) rfl (a8 (aW hz (by simp) λg1 z1 e1=> ?_)))))
 replace z1:=z1
 refine a8 ?_;refine a8 (a8 (wpAny_onRaise (a8 (N1.item (N1.but p1 e1.extBut D.z1) hx λg2 q1 e2=>ac ?_))));have t2:IsPair g2 TO a b:=e2.extBut _ _ (D.ne1 N1).2.symm (e1.extBut _ _ D.Oz hTO);refine a8 (bV t2 rfl (a8 (wpAny_updateSeq_pair t2 λg3 t3 e3=> ?_)));refine a8 (wpAny_letGo (ac ?_));refine a8 (a8 (wpAny_onRaise (a8 (N2.item (N2.but (N2.but (N2.but p2 e1.extBut D.z2) e2.extBut D.a) e3.extBut D.O2) hy λg4 q2 e4=>ac ?_))));have t4:IsPair g4 TO x b:=e4.extBut _ _ (D.ne2 N2).2.symm t3;refine a8 (bV t4 rfl (a8 (wpAny_updateSeq_pair t4 λg5 t5 e5=> ?_)))
 replace t5:IsPair g5 TO x y:=t5
 refine a8 (wpAny_letGo (ac (ac ?_)));refine a8 (bV t5 rfl (a8 (wpAny_newTuple ?_)));have sz:g5.objs.size=s.heap.objs.size:=by rw[e5.1,e4.1,e3.1,e2.1,e1.1]
 have z5:=e5.extBut _ _ D.Oz.symm (e4.extBut _ _ (D.ne2 N2).1.symm (e3.extBut _ _ D.Oz.symm (e2.extBut _ _ (D.ne1 N1).1.symm z1)));have k5:∀c o,c ≠ z->c ≠ TO->c ≠ i1->c ≠ i2->s.heap.get? c=some o->g5.get? c=some o:=λc o c1 c2 c3 c4 e=>
  e5.extBut _ _ c2 (e4.extBut _ _ c4 (e3.extBut _ _ c2 (e2.extBut _ _ c3 (e1.extBut _ _ c1 e))))
 have r1:S1 (k+1) g5:=N1.but (N1.but (N1.but q1 e3.extBut D.O1) e4.extBut D.b) e5.extBut D.O1;have r2:S2 (k+1) g5:=N2.but q2 e5.extBut D.O2;refine a8 ?_;have z6:IsZip (g5.push { cls:= .type "tuple",data:= .seq #[x,y] }) z TI TO _:=aa _ z5;refine a8 (aW z6 (by simp) λg7 z7 e7=> ?_)
 refine aW z7 (by simp) λg8 z8 e8=> ?_
 have up:∀c o,c ≠ z->g5.get? c=some o->g8.get? c=some o:=λc o c1 e=>e8.extBut _ _ c1 (e7.extBut _ _ c1 (aa _ e));have hn:g5.objs.size ≠ z:=cy (am z5);have t8:=e8.extBut _ _ hn (e7.extBut _ _ hn (af _ rfl));rw[sz]at z8 t8;refine ac ⟨_,rfl, ?_⟩;rw[sz];exact hQ g8 z8 (up _ _ D.Oz t5) (N1.keep r1 λc hc o e=>up c o (λq=>D.z1 (q ▸ hc)) e) (N2.keep r2 λc hc o e=>up c o (λq=>D.z2 (q ▸ hc)) e) t8 λc o c1 c2 c3 c4 e=>up c o c1 (k5 c o c1 c2 c3 c4 e)
theorem xL {Q:Fin->Shared->Prop}(hh:A.handled=none)(N1:uc i1 fp1 v1 S1)(N2:uc i2 fp2 v2 S2)(D:Ap z TI TO i1 i2 fp1 fp2)(hz:IsZip s.heap z TI TO .none)(hTI:IsPair s.heap TI (.ref i1) (.ref i2))(hTO:IsPair s.heap TO a b)(p1:S1 k s.heap)(p2:S2 k s.heap)(hend:v1 k=none\/v2 k=none)
  (hE:∀h' e,(∀c o,c ≠ z->c ≠ TO->c ≠ i1->c ≠ i2->s.heap.get? c=some o->h'.get? c=some o)->(∃o,h'.get? e=some o/\o.cls= .type "StopIteration")->E (.ref e) { s with heap:=h' }):
  wpAny (model prog w) A (Builtin.«zip.__next__» ⟨[.ref z],[]⟩) Q E s:=by
 refine a8 (m:=field (.ref z) 2) (aS hz rfl (x:= .bool false) rfl (a8 (aS hz rfl (x:= .ref TI) rfl (a8 (bV hTI rfl ?_)))));refine a8 ?_;refine a8 (aS hz rfl (x:= .none) rfl (ac ?_));simp only[if_true];refine a8 (ce (a8 (aS hz rfl (x:= .ref TO) rfl (a8 (aW hz (by simp) λg1 z1 e1=> ?_)))))
 replace z1:=z1
 refine a8 ?_;have off:∀{g:Heap} {e:Addr} {oe:Obj},IsZip g z TI TO .ellipsis->g.get? e=some oe->oe.cls= .type "StopIteration"->e ≠ z:=λhg he hc q=>by
  subst q;rw[hg]at he;cases he;simp at hc
 cases hx:v1 k with
 | none=>
  refine a8 (a8 (wpAny_onRaise (a8 (N1.stop hh (N1.but p1 e1.extBut D.z1) hx λg2 e e2 he=> ?_))));obtain⟨oe,ho,hc⟩:=he;have z2:=e2 _ _ (D.ne1 N1).1.symm z1;exact aW z2 (by simp) λg3 _ e3=>hE g3 e (λc o c1 _ c3 _ q=>e3.extBut _ _ c1 (e2 _ _ c3 (e1.extBut _ _ c1 q))) ⟨oe,e3.extBut _ _ (off z2 ho hc) ho,hc⟩
 | some x=>
  have hy:v2 k=none:=by
   rcases hend with q | q
   ·rw[hx]at q;cases q
   ·exact q
  refine a8 (a8 (wpAny_onRaise (a8 (N1.item (N1.but p1 e1.extBut D.z1) hx λg2 q1 e2=>ac ?_))));have t2:=e2.extBut _ _ (D.ne1 N1).2.symm (e1.extBut _ _ D.Oz hTO);refine a8 (bV t2 rfl (a8 (wpAny_updateSeq_pair t2 λg3 t3 e3=>a8 (wpAny_letGo (ac ?_)))));refine a8 (a8 (wpAny_onRaise (a8 (N2.stop hh (N2.but (N2.but (N2.but p2 e1.extBut D.z2) e2.extBut D.a) e3.extBut D.O2) hy λg4 e e4 he=> ?_))));obtain⟨oe,ho,hc⟩:=he;have z4:=e4 _ _ (D.ne2 N2).1.symm (e3.extBut _ _ D.Oz.symm (e2.extBut _ _ (D.ne1 N1).1.symm z1));exact aW z4 (by simp) λg5 _ e5=>hE g5 e (λc o c1 c2 c3 c4 q=>e5.extBut _ _ c1 (e4 _ _ c4 (e3.extBut _ _ c2 (e2.extBut _ _ c3 (e1.extBut _ _ c1 q))))) ⟨oe,e5.extBut _ _ (off z4 ho hc) ho,hc⟩
theorem xM {Q:Option Value->Shared->Prop}(N1:uc i1 fp1 v1 S1)(N2:uc i2 fp2 v2 S2)(D:Ap z TI TO i1 i2 fp1 fp2)(hz:IsZip s.heap z TI TO .none)(hTI:IsPair s.heap TI (.ref i1) (.ref i2))(hTO:IsPair s.heap TO a b)(p1:S1 k s.heap)(p2:S2 k s.heap)(hx:v1 k=some x)(hy:v2 k=some y)
  (hQ:∀h',IsZip h' z TI TO (rawInt s.heap.objs.size)->IsPair h' TO x y->S1 (k+1) h' ->S2 (k+1) h' ->IsPair h' s.heap.objs.size x y->
   (∀c o,c ≠ z->c ≠ TO->c ≠ i1->c ≠ i2->s.heap.get? c=some o->h'.get? c=some o)->Q (some (.ref s.heap.objs.size)) { s with heap:=h' }):wpAny (model prog w) A (pyNext (.ref z)) Q E s:=by
 have ty:s.TypeIs (.ref z) _:=⟨_,hz,rfl⟩;exact a8 (cD (b7 ty db (aN db ty h7
  (xK N1 N2 D hz hTI hTO p1 p2 hx hy λh' a1 a2 a3 a4 a5 a6=>ac (hQ h' a1 a2 a3 a4 a5 a6)) (fX _))))
theorem xN {Q:Option Value->Shared->Prop}(hh:A.handled=none)(N1:uc i1 fp1 v1 S1)(N2:uc i2 fp2 v2 S2)(D:Ap z TI TO i1 i2 fp1 fp2)(hz:IsZip s.heap z TI TO .none)(hTI:IsPair s.heap TI (.ref i1) (.ref i2))(hTO:IsPair s.heap TO a b)(p1:S1 k s.heap)(p2:S2 k s.heap)(hend:v1 k=none\/v2 k=none)
  (hQ:∀h',(∀c o,c ≠ z->c ≠ TO->c ≠ i1->c ≠ i2->s.heap.get? c=some o->h'.get? c=some o)->Q none { s with heap:=h' }):wpAny (model prog w) A (pyNext (.ref z)) Q E s:=by
 have ty:s.TypeIs (.ref z) _:=⟨_,hz,rfl⟩;refine a8 (cD (b7 ty db (aN db ty h7
  (xL hh N1 N2 D hz hTI hTO p1 p2 hend λh' e kp he=> ?_) (fX _))))
 obtain⟨o,ho,hc⟩:=he;exact a8 (cb ⟨o,ho,hc⟩ isSubtype_stop (ac (hQ _ kp)))
end
end PySem.ZG
namespace PySem.ZG
open PySem PySem.Spec PySem.Builtin.SmallTypes
structure xO (l:Addr) (o:Obj) (P:Heap->Prop):Prop where
 go:∀{prog:Program} {w:World} {A:Around} {E:Value->Shared->Prop} {s:Shared} {Q:Value->Shared->Prop},P s.heap->Q (.ref s.heap.objs.size) { s with heap:=s.heap.push o }->wpAny (model prog w) A (pyIter (.ref l)) Q E s
 push:∀{h:Heap} (o' :Obj),P h->P (h.push o')
 fresh:o.isFreed=false
noncomputable abbrev oL (l:Addr):Obj:={ cls:= .type "list_iterator",data:= .fields #[.ref l,.int 0 0] }
noncomputable abbrev oT (l:Addr):Obj:={ cls:= .type "tuple_iterator",data:= .fields #[.ref l,.int 0 0] }
theorem xP (l:Addr)(xs:Array Value):xO l (oL l) (λh=>h.IsList l xs):=⟨λp q=>cA p q,λo p=>Heap.IsList.push p o,rfl⟩
theorem KA (l:Addr)(xs:Array Value):xO l (oT l) (λh=>h.IsTuple l xs):=⟨λp q=>cf p q,λo p=>iN.push p o,rfl⟩
noncomputable abbrev zh2 (h:Heap)(o1 o2:Obj):Heap:=(h.push o1).push o2
abbrev zh3 (h:Heap)(o1 o2:Obj):Heap:=(zh2 h o1 o2).push { cls:= .type "tuple",data:= .seq #[.ref h.objs.size,.ref (h.push o1).objs.size] }
abbrev zh4 (h:Heap)(o1 o2:Obj):Heap:=(zh3 h o1 o2).push { cls:= .type "tuple",data:= .seq #[.none,.none] }
abbrev zh5 (h:Heap)(o1 o2:Obj):Heap:=(zh4 h o1 o2).push { cls:= .type "zip",data:= .fields #[.none,.bool false,.bool false,.ref (zh2 h o1 o2).objs.size,.ref (zh3 h o1 o2).objs.size] }
theorem KC {l1 l2:Addr}{o1 o2:Obj}{P1 P2:Heap->Prop}(J1:xO l1 o1 P1)(J2:xO l2 o2 P2):
  Meets (Builtin.«zip.__new__» ⟨[.type "zip",.ref l1,.ref l2],[]⟩) (λ_ R s=>P1 s.heap/\P2 s.heap/\R (.ok (.ret (.ref (zh4 s.heap o1 o2).objs.size))) { s with heap:=zh5 s.heap o1 o2 }):=
 .of_wp λprog w A R s h=>by
  obtain⟨hp,g,d,tk,os⟩:=s;obtain⟨q1,q2,h⟩:=h;have hsub:=sub_zip;have c1:P1 (lq ⟨hp,g,d,tk,os⟩):=q1;have c2:P2 (lq ⟨hp.push o1,g,d,tk,os⟩):=J2.push o1 q2
  wp_walk using J1.go c1,J2.go c2
  exact⟨_,rfl,h⟩
end PySem.ZG
namespace PySem.ZG
open PySem PySem.Spec PySem.Builtin.SmallTypes
theorem xQ {prog:Program}{w:World}{A:Around}{E:Value->Shared->Prop}{s:Shared}{l1 l2:Addr}{o1 o2:Obj}{P1 P2:Heap->Prop}{Q:Value->Shared->Prop}(J1:xO l1 o1 P1)(J2:xO l2 o2 P2)(q1:P1 s.heap)(q2:P2 s.heap)
  (h:∀h' n,n=s.heap.objs.size->IsZip h' (n+4) (n+2) (n+3) .none->IsPair h' (n+2) (.ref n) (.ref (n+1))->IsPair h' (n+3) .none .none->h'.get? n=some o1->h'.get? (n+1)=some o2->
   (∀c o,s.heap.get? c=some o->h'.get? c=some o)->Q (.ref (n+4)) { s with heap:=h' }):wpAny (model prog w) A (call (.type "zip") [.ref l1,.ref l2]) Q E s:=by
 refine callType_new PySem.F.called_zip (by decide) (PySem.F.typeCall_zip_2 _ _) (PySem.F.newCall_zip_2 _ _) (λobj=>PySem.F.args_object_init_3 obj _ _) PySem.F.entry_zip_new (KC J1 J2) ⟨q1,q2, ?_⟩
 have n1:(s.heap.push o1).objs.size=s.heap.objs.size+1:=bU ..;have n2:(zh2 s.heap o1 o2).objs.size=s.heap.objs.size+2:=by rw[bU,n1]
 have n3:(zh3 s.heap o1 o2).objs.size=s.heap.objs.size+3:=by rw[bU,n2]
 have n4:(zh4 s.heap o1 o2).objs.size=s.heap.objs.size+4:=by rw[bU,n3]
 have up:∀{h:Heap} {c:Addr} {o:Obj} (o' :Obj),h.get? c=some o->(h.push o').get? c=some o:=λo' e=>aa o' e;have e5:(zh5 s.heap o1 o2).get? _=some _:=af _ rfl;have e4:(zh5 s.heap o1 o2).get? _=some _:=up _ (af _ rfl);have e3:(zh5 s.heap o1 o2).get? _=some _:=up _ (up _ (af _ rfl));have e2:(zh5 s.heap o1 o2).get? _=some _:=up _ (up _ (up _ (af _ J2.fresh)));have e1:(zh5 s.heap o1 o2).get? _=some _:=up _ (up _ (up _ (up _ (af _ J1.fresh))));rw[n2,n3,n4]at e5;rw[n1,n2]at e3;rw[n3]at e4;rw[n1]at e2;rw[n4];exact⟨⟨_,e5,rfl⟩,h _ _ rfl e5 e3 e4 e1 e2 λc o q=>up _ (up _ (up _ (up _ (up _ q))))⟩
end PySem.ZG
namespace PV
open PySem PySem.Spec PyProof.Rows L2 PySem.ZG
inductive SK where
 | l | t
noncomputable def SK.it:SK->Heap->Addr->Addr->Nat->Prop
 | .l=>λh i l k=>h.IsListIter i l k
 | .t=>λh i l k=>h.IsTupleIter i l k
noncomputable def SK.has:SK->Heap->Addr->Array Value->Prop
 | .l=>λh l xs=>h.IsList l xs
 | .t=>λh l xs=>h.IsTuple l xs
def SK.sq (K:ag):SK->Hp->Addr->List V->Prop
 | .l=>λH a xs=>SqL K H a xs
 | .t=>λH a xs=>SqT K H a xs
noncomputable def SK.tr:SK->List V->HO
 | .l=> .lst
 | .t=> .tup
def SK.ob:SK->Addr->Obj
 | .l=>oL
 | .t=>oT
theorem SK.nx (k:SK){i l:Addr}(h:l ≠ i)(xs:Array Value):uc i [i,l] (λn=>xs[n]?) (λn hp=>k.it hp i l n/\k.has hp l xs):=by
 cases k with
 | l=>exact xJ h xs
 | t=>exact nx_tup h xs
theorem SK.of (k:SK)(l:Addr)(xs:Array Value):xO l (k.ob l) (λh=>k.has h l xs):=by
 cases k with
 | l=>exact xP l xs
 | t=>exact KA l xs
theorem SK.start (k:SK){h:Heap}{i l:Addr}(e:h.get? i=some (k.ob l)):k.it h i l 0:=by
 cases k with
 | l=>exact⟨_,e,rfl,rfl⟩
 | t=>exact⟨_,e,rfl,rfl⟩
theorem SK.obj {k:SK}{h:Heap}{i l:Addr}{n:Nat}(x:k.it h i l n):∃o,h.get? i=some o/\∀v,o.data ≠ .cell v:=by
 cases k with
 | l=>obtain⟨o,e,_,d⟩:=x;exact⟨o,e,λv z=>by rw[d]at z;cases z⟩
 | t=>obtain⟨o,e,_,d⟩:=x;exact⟨o,e,λv z=>by rw[d]at z;cases z⟩
theorem SK.at_ {k:SK}{h h' :Heap}{i l:Addr}{n:Nat}(x:k.it h i l n)(q:∀o,h.get? i=some o->h'.get? i=some o):k.it h' i l n:=by
 cases k with
 | l=>obtain⟨o,e,r⟩:=x;exact⟨o,q o e,r⟩
 | t=>obtain⟨o,e,r⟩:=x;exact⟨o,q o e,r⟩
theorem SK.sqOf {K:ag}(k:SK){H:Hp}{a:Addr}{xs:List V}(e:H a=some (k.tr xs)):k.sq K H a xs:=by
 cases k with
 | l=>exact SqL.of e
 | t=>exact SqT.of e
theorem Inv.seq {X:Cx}{pins:List (Addr×Obj)}{σ:Sg}{H:Hp}{s:Shared}(I:L2.Inv X pins σ H s)(k:SK){a:Addr}{xs:List V}(h:k.sq X.K H a xs):∃its:List Value,Vals xs its/\k.has s.heap a its.toArray/\∃o,s.heap.get? a=some o:=by
 cases k with
 | l=>
  obtain⟨its,r,p,_⟩:=I.list h;obtain⟨o,_,e,_⟩:=id p;exact⟨its,r,p.isList,o,e⟩
 | t=>
  obtain⟨its,r,p,_⟩:=I.tuple h;obtain⟨o,e,_⟩:=id p;exact⟨its,r,p,o,e⟩
def Itz (K:ag)(k1 k2:SK)(l1 l2:Addr):It:=
 ⟨λi H=>∃xs ys x y,k1.sq K H l1 xs/\k2.sq K H l2 ys/\xs[i]? =some x/\ys[i]? =some y,λi H v H' =>∃p x y,H p=none/\v= .ref p/\(∀xs,k1.sq K H l1 xs->xs[i]? =some x)/\(∀ys,k2.sq K H l2 ys->ys[i]? =some y)/\H' =upd H p (.tup [x,y]),
  λi H=>∃xs ys,k1.sq K H l1 xs/\k2.sq K H l2 ys/\(xs.length<=i\/ys.length<=i)⟩
theorem Inv.seq_inj {X:Cx}{pins:List (Addr×Obj)}{σ:Sg}{H:Hp}{s:Shared}(I:L2.Inv X pins σ H s)(k:SK){a:Addr}{xs ys:List V}(h:k.sq X.K H a xs)(h' :k.sq X.K H a ys):xs=ys:=by
 cases k with
 | l=>exact I.list_inj h h'
 | t=>exact I.tuple_inj h h'
theorem nN {a b:Nat}(h:a ≠ b): @Ne Addr a b:=h
theorem nM {a b c:Nat}(h:a ≠ b)(h' :a ≠ c):¬ @Membership.mem Addr (List Addr) _ [b,c] a:=λq=>by
 rcases ao.mp q with z | z
 ·exact h z
 ·exact h' (au.mp z)
theorem QJ {P:Program}{w:World}{K:ag}{elts:List Expr}{kk:Nat}{pt:Pos}(k1 k2:SK){n l1 l2:Nat}(h1:l1 < n)(h2:l2 < n):
  Ur P w K (.Tuple elts kk pt) (Itz K k1 k2 l1 l2) [n+4,n+2,n+3,n,n+1] (n+4)
   (λi h=>IsZip h (n+4) (n+2) (n+3) .none/\IsPair h (n+2) (.ref n) (.ref (n+1))/\(∃a b,IsPair h (n+3) a b)/\k1.it h n l1 i/\k2.it h (n+1) l2 i):=by
 have D:Ap (n+4) (n+2) (n+3) n (n+1) [n,l1] [n+1,l2]:=by
  refine⟨nN (by omega),nN (by omega),nN (by omega),nN (by omega),nN (by omega),nM (by omega) (by omega),nM (by omega) (by omega),nM (by omega) (by omega),nM (by omega) (by omega),nM (by omega) (by omega),nM (by omega) (by omega)⟩
 refine⟨by simp,λi h st b hb=> ?_,λi h h' st k=> ?_, ?_, ?_, ?_⟩
 ·obtain⟨hz,hI,⟨a,c,hO⟩,p1,p2⟩:=st;simp only[ao,be,or_false]at hb;rcases hb with rfl | rfl | rfl | rfl | rfl
  ·exact⟨_,hz,λv z=>nomatch z⟩
  ·exact⟨_,hI,λv z=>nomatch z⟩
  ·exact⟨_,hO,λv z=>nomatch z⟩
  ·exact SK.obj p1
  ·exact SK.obj p2
 ·obtain⟨hz,hI,⟨a,c,hO⟩,p1,p2⟩:=st;exact⟨k _ (by simp) _ hz,k _ (by simp) _ hI,⟨a,c,k _ (by simp) _ hO⟩,SK.at_ p1 λo e=>k n (by simp) o e,SK.at_ p2 λo e=>k (n+1) (by simp) o e⟩
 ·intro X hP hw hK hc i pins s σ H E I hf st hg;subst hP hw hK;obtain⟨xs,ys,x,y,s1,s2,hx,hy⟩:=hg;obtain⟨hz,hI,⟨a,c,hO⟩,p1,p2⟩:=st;obtain⟨its1,r1,b1,_⟩:=Inv.seq I k1 s1;obtain⟨its2,r2,b2,_⟩:=Inv.seq I k2 s2;obtain⟨u,hu,ru⟩:=r1.get hx;obtain⟨v,hv,rv⟩:=r2.get hy;refine xM (k1.nx (aD h1) its1.toArray) (k2.nx (i:=n+1) (nN (by omega)) its2.toArray) D hz hI hO ⟨p1,b1⟩ ⟨p2,b2⟩ (x:=u) (y:=v) (by simpa using hu) (by simpa using hv) λg a1 a2 a3 a4 a5 kp=>⟨_,rfl, ?_⟩
  refine wpAny_letOwnedTupleGo_zip a1 λg2 z2 e2=> ?_;have hlt:n+4 < s.heap.objs.size:=am hz;have ne:∀b:Nat,b<=n+4->s.heap.objs.size ≠ b:=λb hb=>by
   omega
  have kp2:∀b o,b ∉ [n+4,n+2,n+3,n,n+1]->s.heap.get? b=some o->g2.get? b=some o:=λb o hb e=>by
   simp only[ao,be,or_false,not_or]at hb;exact e2.extBut _ _ hb.1 (kp b o hb.1 hb.2.2.1 hb.2.2.2.1 hb.2.2.2.2 e)
  have g2P:=e2.extBut _ _ (ne _ (ak _)) a5;have g2I:=e2.extBut _ _ D.Iz (kp _ _ D.Iz D.IO D.I1 D.I2 hI);have g2O:=e2.extBut _ _ D.Oz a2;have q1:=SK.at_ a3.1 λo e=>e2.extBut _ _ (nN (by omega)) e
  have q2:=SK.at_ a4.1 λo e=>e2.extBut _ _ (nN (by omega)) e
  have hfr:=I.hok.fresh (ak _);refine⟨.ref s.heap.objs.size,upd H s.heap.objs.size (.tup [x,y]),Inv.laidT (s:=s) (h' :=g2) (tk:=s.toks) I hf kp2 (λb o hb _=> ?_) (ak _)
   ⟨by rw[bC];show 2<=16777216;decide,[u,v],.cons ru (.cons rv .nil),⟨_,g2P,rfl,_,rfl⟩,.inr ⟨_,g2P,rfl⟩⟩,rfl,⟨_,x,y,hfr,rfl,λzs hq=>by rw[← Inv.seq_inj I k1 s1 hq];exact hx,λzs hq=>by rw[← Inv.seq_inj I k2 s2 hq];exact hy,rfl⟩,⟨z2,g2I,⟨u,v,g2O⟩,q1,q2⟩,λb hb=> ?_⟩
  ·simp only[ao,be,or_false]at hb;rcases hb with rfl | rfl | rfl | rfl | rfl
   ·exact⟨_,z2⟩
   ·exact⟨_,g2I⟩
   ·exact⟨_,g2O⟩
   ·obtain⟨o',e',_⟩:=SK.obj q1;exact⟨o',e'⟩
   ·obtain⟨o',e',_⟩:=SK.obj q2;exact⟨o',e'⟩
  ·have hb2:(b:Nat)<=n+4:=by
    have hb:=by simpa using hb
    rcases hb with rfl | rfl | rfl | rfl | rfl
    ·exact ak _
    ·exact e_ (by decide) n
    ·exact e_ (by decide) n
    ·exact aF _ _
    ·exact e_ (by decide) n
   rw[zf λz=>ne b hb2 z.symm];exact(hf b hb).1
 ·intro X hP hw hK hc i pins s σ H E I hf st hg;subst hP hw hK;obtain⟨xs,ys,s1,s2,hend⟩:=hg;obtain⟨hz,hI,⟨a,c,hO⟩,p1,p2⟩:=st;obtain⟨its1,r1,b1,_⟩:=Inv.seq I k1 s1;obtain⟨its2,r2,b2,_⟩:=Inv.seq I k2 s2;have l1' :=r1.length;have l2' :=r2.length;refine xN (I.ok.hd hc) (k1.nx (aD h1) its1.toArray) (k2.nx (nN (by omega)) _) D hz hI hO ⟨p1,b1⟩ ⟨p2,b2⟩ ?_ λg kp=>⟨rfl, ?_⟩
  ·rcases hend with q | q
   ·exact .inl (c8 (by rw[aB,← l1'];exact q))
   ·exact .inr (c8 (by rw[aB,← l2'];exact q))
  ·have kp2:∀b o,b ∉ [n+4,n+3,n,n+1]->s.heap.get? b=some o->g.get? b=some o:=λb o hb e=>by
    simp only[ao,be,or_false,not_or]at hb;exact kp b o hb.1 hb.2.1 hb.2.2.1 hb.2.2.2 e
   have nch:∀b u,H b=some u->b ∉ [n+4,n+3,n,n+1]:=λb u e hb=>by
    have hb' :b∈[n+4,n+2,n+3,n,n+1]:=by
     simp only[ao,be,or_false]at hb ⊢;rcases hb with q | q | q | q
     ·exact .inl q
     ·exact .inr (.inr (.inl q))
     ·exact .inr (.inr (.inr (.inl q)))
     ·exact .inr (.inr (.inr (.inr q)))
    rw[(hf b hb').1]at e;cases e
   refine I.call' rfl ⟨λb o e _ _ hc=>kp2 b o hc e,λb o e _ _ hc=>⟨o.slots,kp2 b o hc e⟩,λb o e q _=>q,λb o e hc=>⟨o,kp2 b o hc e⟩,λb ys e=>e,λb o u e=>e,λ_ _ _ e=>e⟩ (λb u e=> ?_) I.bare λb hb=> ?_
   ·refine(I.hok b u e).stay (λc v hc q=>kp2 c v ?_ q) (λ_ q=>q) λ_ _ q=>q;rcases hc with rfl | hc
    ·exact nch c u e
    ·exact nch c _ hc
   ·have hb' :b∈[n+4,n+2,n+3,n,n+1]:=by
     simp only[ao,be,or_false]at hb ⊢;rcases hb with q | q | q | q
     ·exact .inl q
     ·exact .inr (.inr (.inl q))
     ·exact .inr (.inr (.inr (.inl q)))
     ·exact .inr (.inr (.inr (.inr q)))
    obtain⟨f0,f1,f2,f3,f4,f5⟩:=hf b hb';exact⟨f3,f1,f4,f5⟩
 ·intro A i s Q E st h;exact wpAny_pyIter_zip st.1 h
noncomputable def y8 (xs ys:List T):List T:=(xs.zip ys).map λp=>T.tup [p.1,p.2]
theorem QK {xs ys:List T}{i:Nat}{t:T}(h:(y8 xs ys)[i]? =some t):∃x y,xs[i]? =some x/\ys[i]? =some y/\t= .tup [x,y]:=by
 unfold y8 at h;rw[ax]at h;cases e:(xs.zip ys)[i]? with
 | none=>rw[e]at h;cases h
 | some p=>
  rw[e]at h;cases h;have:=ci.mp e;exact⟨p.1,p.2,this.1,this.2,rfl⟩
theorem ud (xs ys:List T):(y8 xs ys).length=min xs.length ys.length:=by unfold y8;simp
theorem KD {K:ag}{B1 H1:Hp}{k1 k2:SK}{a b:Addr}{xs ys:List V}{ts us:List T}(ha:B1 a=some (k1.tr xs))(hb:B1 b=some (k2.tr ys))(ra:zr B1 xs ts)(rb:zr B1 ys us):rI B1 H1 (Itz K k1 k2 a b) (y8 ts us):=λB2 H2 s1 s2=>by
 have a2:=k1.sqOf (K:=K) (s2 _ _ (s1 _ _ ha));have b2:=k2.sqOf (K:=K) (s2 _ _ (s1 _ _ hb));rw[ud];refine⟨λi hi=> ?_,λi t x H3 e y=> ?_,λi hi=>⟨xs,ys,a2,b2, ?_⟩⟩
 ·obtain⟨v,e1,_⟩:=ra.get (aj (show i < ts.length by omega))
  obtain⟨u,e2,_⟩:=rb.get (aj (show i < us.length by omega))
  exact⟨xs,ys,v,u,a2,b2,e1,e2⟩
 ·obtain⟨p,v,u,hp,rfl,y1,y2,rfl⟩:=y;obtain⟨t1,t2,et,eu,rfl⟩:=QK e;obtain⟨v',e1,r1⟩:=ra.get et;obtain⟨u',e2,r2⟩:=rb.get eu;have q1:=y1 xs a2;have q2:=y2 ys b2;rw[e1]at q1;cases q1;rw[e2]at q2;cases q2;have up:=zB.ge s2 (zm.new hp (.tup [v,u]));exact⟨zm.new hp _,.tup (j9 hp _) (.cons ((r1.mono s1).mono up) (.cons ((r2.mono s1).mono up) .nil))⟩
 ·rw[ra.length,rb.length];omega
section
variable {X:Cx}{Y:Fx}{a b:Expr}{fa fb:En->R T}{pos p pt:Pos}{elts:List Expr}{kk:Nat}
theorem KF {ta:TA}(hg:Gl X "zip")(hm:X.mg "zip"=none)(ha:PA X [a,b] ta)(hs:starEach [a,b] X.env=[(false,eval a X.env),(false,eval b X.env)])(hs2:starEach [b] X.env=[(false,eval b X.env)]):
  PI X (.Tuple elts kk pt) (.Call (.Name "zip" p) [a,b] [] pos) (λσ H R=>ta σ H λvs H1=>∃k1 k2 l1 l2 xs ys,vs=[.ref l1,.ref l2]/\H1 l1=some (SK.tr k1 xs)/\H1 l2=some (SK.tr k2 ys)/\R (Itz X.K k1 k2 l1 l2) H1):=by
 intro pins s σ H R I h;refine Call_ (Zv I hg hm PyProof.Rows.Boot.«zip» (aM (thn (ha pos _ s σ H _ I h) λus s1 ⟨vs,H1,I1,r1,q1⟩=> ?_) (by rw[hs,hs2]) (by rw[hs2];rfl)))
 obtain⟨k1,k2,l1,l2,xs,ys,e,h1,h2,q⟩:=q1;subst e;obtain⟨u,v,rfl,ru,rv⟩:=Uw r1;obtain rfl:u=Value.ref l1:=ru;obtain rfl:v=Value.ref l2:=rv;obtain⟨its1,_,b1,o1,e1⟩:=Inv.seq I1 k1 (k1.sqOf h1);obtain⟨its2,_,b2,o2,e2⟩:=Inv.seq I1 k2 (k2.sqOf h2);refine xQ (k1.of l1 _) (k2.of l2 _) b1 b2 λg n hn z1 z2 z3 z4 z5 kp=>wpAny_pyIter_zip z1 ?_;subst hn;have f:∀b∈[s1.heap.objs.size+4,s1.heap.objs.size+2,s1.heap.objs.size+3,s1.heap.objs.size,s1.heap.objs.size+1],wY X _ H1 b:=λb hb=>by
  have hb' :s1.heap.objs.size<=b:=by
   simp only[ao,be,or_false]at hb;rcases hb with rfl | rfl | rfl | rfl | rfl
   ·exact aF _ _
   ·exact aF _ _
   ·exact aF _ _
   ·exact ak _
   ·exact aF _ _
  exact I1.fpOk hb' (I1.hok.fresh hb')
 exact⟨s1.heap.objs.size+4,_,_,_,H1,rfl,I1.kept kp,QJ k1 k2 (am e1) (am e2),⟨z1,z2,⟨_,_,z3⟩,SK.start k1 z4,SK.start k2 z5⟩,f,q⟩
noncomputable def jz:T->R (List T)
 | .lst xs=> .ok xs
 | .tup xs=> .ok xs
 | _=> .bad
def Q8 (fa fb:En->R T):En->R (List T):=λρ=>(fa ρ).bind λt=>(fb ρ).bind λu=>(jz t).bind λxs=>(jz u).bind λys=> .ok (y8 xs ys)
theorem yW {B:Hp}{v:V}{t:T}{xs:List T}(r:Rep B v t)(e:jz t= .ok xs):∃(k:SK) (a:Addr) (vs:List V),v= .ref a/\B a=some (k.tr vs)/\zr B vs xs:=by
 cases r with
 | lst h r=>cases e;exact⟨.l,_,_,rfl,h,r⟩
 | tup h r=>cases e;exact⟨.t,_,_,rfl,h,r⟩
 | _=>cases e
theorem uN (t:T)(c:Nat):jz t ≠ .ex c:=by cases t <;> exact λz=>nomatch z
theorem z1r (hg:Gl X "zip")(hm:X.mg "zip"=none)(ha:Snd X Y a fa)(hb:Snd X Y b fb)(hs:starEach [a,b] X.env=[(false,eval a X.env),(false,eval b X.env)]:=by exact st2 rfl rfl)(hs2:starEach [b] X.env=[(false,eval b X.env)]:=by exact st1 rfl):
  WY X Y (.Tuple elts kk pt) (.Call (.Name "zip" p) [a,b] [] pos) (Q8 fa fb):= .mk λρ=>
 PI.imp (KF hg hm (zj (ha ρ) (zj (hb ρ) zD hs2) (by rw[hs,hs2])) hs hs2) λσ H R ⟨B,I,q⟩=>step I q λt v H1 _ s1 r1 I1 q1=>step I1 q1 λu v' H2 _ s2 r2 I2 q2=>by
  cases e1:jz t with
  | bad=>rw[e1]at q2;exact q2.elim
  | ex c=>exact absurd e1 (uN _ _)
  | ok xs=>
   rw[e1]at q2;cases e2:jz u with
   | bad=>rw[e2]at q2;exact q2.elim
   | ex c=>exact absurd e2 (uN _ _)
   | ok ys=>
    rw[e2]at q2;obtain⟨k1,a1,vs1,rfl,h1,w1⟩:=yW (r1.mono (zB.ge I1.sB s2)) e1;obtain⟨k2,a2,vs2,rfl,h2,w2⟩:=yW r2 e2;exact⟨k1,k2,a1,a2,vs1,vs2,rfl,I2.sB _ _ h1,I2.sB _ _ h2,Zw I2 (show Po Y rI _ H2 _ R from q2) (KD h1 h2 w1 w2)⟩
end
end PV
namespace PV
open PySem PySem.Spec PyProof.Rows L2
section
variable {X:Cx}{Y:Fx}{a b:Expr}{fa fb:En->R T}{pos p p' pos' :Pos}
def yX:T->R T
 | .bl b=> .ok (.int (b2 b))
 | .int i=> .ok (.int i)
 | _=> .bad
theorem z1s (v:V)(t:T)(B H:Hp)(Q:VK)(r:Rep B v t)(sB:zm B H)(q:Po Y rC B H (yX t) Q):
  (∃i,[v]=[V.int i]/\Q (.int i) H)\/∃k,[v]=[V.bl k]/\Q (.int (if k then 1 else 0)) H:=by
 cases r with
 | int i=>exact .inl ⟨i,rfl,po0 sB q rfl (.int i)⟩
 | bl k=>exact .inr ⟨k,rfl,po0 sB q rfl (by cases k <;> exact .int _)⟩
 | _=>exact q.elim
theorem KG (gl:Gl X "int")(mg:X.mg "int"=none)(ha:Snd X Y a fa)(hs:St1 X a:=by exact st1 rfl):Snd X Y (.Call (.Name "int" p) [a] [] pos) (ap1 yX fa):=
 vZ yn z1s gl mg (PyProof.Rows.Boot.«int») ha hs
theorem yY:Za X (.type "range") (λxs H Q=>∃i j,xs=[.int i,.int j]/\∀r,H r=none->Q (.ref r) (upd H r (.rng i j))):=by
 intro pins s σ H xs us Q I r h;obtain⟨i,j,rfl,q⟩:=h;obtain⟨u,v,rfl,ru,rv⟩:=Uw r;obtain⟨t,rfl⟩:=ru;obtain⟨t',rfl⟩:=rv;exact call_range_2 ⟨.ref _,_,I.laid (λb o e=>aa _ e) (ak _) (show zN _ X.w _ _ _ (.rng i j) from ⟨_,_,_,af _ rfl⟩),rfl,q _ (I.hok.fresh (ak _))⟩
noncomputable def Q9 (lo:Int)(n:Nat):List V:=(aY n).map λ(i:Nat)=>V.int (lo+(i:Int))
theorem wC (hh:X.A.handled=none):Za X (.type "list") (λxs H Q=>∃r lo hi,xs=[.ref r]/\H r=some (.rng lo hi)/\(-1000000 < lo/\lo < 1000000/\ -1000000 < hi/\hi < 1000000)/\∀l,H l=none->Q (.ref l) (upd H l (.lst (Q9 lo (hi - lo).toNat)))):=by
 intro pins s σ H xs us Q I rv h;obtain⟨r,lo,hi,rfl,e,⟨c1,c2,c3,c4⟩,q⟩:=h;obtain⟨u,rfl,ru⟩:=Zr rv;obtain rfl:u=Value.ref r:=ru;obtain⟨t,v,v',eo⟩:=(show zN _ X.w H _ r _ from I.hok r _ e);have hn:fQ lo hi 1=((hi - lo).toNat):=by rw[rangeSize_one];split <;> omega
 refine call_list_range hh eo (small_one (by omega) (by omega) (by omega) (by omega)) hn (by omega) λh' tk acc c kp eo' hacc=> ?_
 have hv:Vals (Q9 lo (hi - lo).toNat) acc.toList:=by
  have key:∀(n:Nat) (lo:Int) (vs:List _),vs.length=n->(∀(j:Nat) (v:Value),vs[j]? =some v->∃t,v=Value.int (lo+(j)) t)->Vals (Q9 lo n) vs:=by
   intro n
   induction n with
   | zero=>
    intro lo vs hl _;rw[List.eq_nil_of_length_eq_zero hl];exact .nil
   | succ n ih=>
    intro lo vs hl hv;cases vs with
    | nil=>cases hl
    | cons v vs=>
     have e:Q9 lo (n+1)=V.int (lo+0) :: Q9 (lo+1) n:=by
      unfold Q9;rw[cS,aq,aJ];refine congrArg _ (bc λj _=> ?_);show V.int _=V.int _;congr 1;omega
     rw[e];refine .cons (hv 0 v rfl) (ih _ vs (by simpa using hl) λj x hx=> ?_)
     obtain⟨t,z⟩:=hv (j+1) x (by simpa using hx)
     exact⟨t,by rw[z];congr 1;omega⟩
  refine key _ lo _ (by simpa using hacc.1) λj v hj=> ?_
  obtain⟨t,z⟩:=hacc.2 j v (by simpa using hj)
  exact⟨t,by rw[z];congr 1;omega⟩
 have hz:(Q9 lo (hi - lo).toNat).length<=sizeLine:=by
  rw[bC];unfold Q9;rw[ae,bL];omega
 exact⟨.ref _,_,I.laid kp (ak _) (show zN _ X.w _ h' _ (.lst _) from ⟨hz,acc.toList,c,hv,by simpa using eo'⟩),rfl,q _ (I.hok.fresh (ak _))⟩
def GS (fi:En->R (List T)):En->R T:=λρ=>(fi ρ).bind λts=> .ok (.lst ts)
theorem yZ {B:Hp}(lo:Int)(n:Nat):zr B (Q9 lo n) (rng lo n):=by
 unfold Q9 rng
 induction aY n with
 | nil=>exact .nil
 | cons i is ih=>exact .cons (.int _) ih
theorem xR (hh:X.A.handled=none)(gl:Gl X "list")(mg:X.mg "list"=none)(gl' :Gl X "range")(mg' :X.mg "range"=none)(ha:Snd X Y a fa)(hb:Snd X Y b fb)
  (hs:starEach [a,b] X.env=[(false,eval a X.env),(false,eval b X.env)]:=by exact st2 rfl rfl) (hs2:St1 X b:=by exact st1 rfl):Snd X Y (.Call (.Name "list" p) [.Call (.Name "range" p') [a,b] [] pos'] [] pos) (GS (jV fa fb)):= .mk λρ=>
 PE.imp (ZI (wC hh) gl mg PyProof.Rows.Boot.«list» (zj (ZI yY gl' mg' boot_range (zj (ha ρ) (zj (hb ρ) zD hs2) (by rw[hs,hs2])) (by decide) (by decide) (by rw[hs,hs2]) (by rw[hs2];rfl)) zD (st1 rfl)) (by decide) (by decide) (st1 rfl) rfl) λσ H Q ⟨B,I,q⟩=>by
  have q:Po Y rC B H ((fa ρ).bind λt=>(fb ρ).bind λt' =>(match t,t' with | .int i,.int j=>if -1000000 < i/\i < 1000000/\ -1000000 < j/\j < 1000000 then R.ok (rng i (j - i).toNat) else .bad | _,_=> .bad).bind λts=> .ok (.lst ts)) Q:=by
   revert q;unfold GS jV;cases fa ρ with
   | ok t=>cases fb ρ <;> exact λq=>q
   | ex c=>exact λq=>q
   | bad=>exact λq=>q
  refine step I q λt v H1 _ s1 r1 I1 q1=>step I1 q1 λt' v' H2 _ s2 r2 I2 q2=> ?_;cases r1 with
  | int i=>
   cases r2 with
   | int j=>
    by_cases c: -1000000 < i/\i < 1000000/\ -1000000 < j/\j < 1000000
    ·dsimp only at q2;rw[if_pos c]at q2;refine⟨i,j,rfl,λr hr=>⟨r,i,j,rfl,zl,c,λl hl=> ?_⟩⟩;have hlr:l ≠ r:=λz=>by rw[z,zl]at hl;cases hl
     have hl2:=by rw[zf hlr]at hl;exact hl
     refine q2 _ _ (zm.new hr _ |>.trans (zm.new hl _)) (.lst ?_ (yZ _ _))
     rw[zR hl2,zl]
    ·dsimp only at q2;rw[if_neg c]at q2;exact q2.elim
   | _=>exact q2.elim
  | _=>cases r2 <;> exact q2.elim
def mvS (i j:Nat):En->RS:=λρ=>match ρ[j]? with
 | some (.ow ts)=> .nx ((ρ.set j (.vl (.lst ts))).set i (.vl (.lst ts)))
 | _=> .bad
theorem SI.give {Y:Fx}{B:Hp}{ρ:En}{σ:Sg}{H:Hp}(I:SI Y B ρ σ H){j:Nat}{ts:List T}(hj:ρ[j]? =some (.ow ts)):∃(a:Addr) (B' :Hp),σ[j]? =some (some (V.ref a))/\zm B B' /\Rep B' (.ref a) (.lst ts)/\SI Y B' (ρ.set j (.vl (.lst ts))) σ H:=by
 obtain⟨a,xs,e,b0,h0,hh,rr,d⟩:=I.ow j ts hj;have s1:zm B (upd B a (.lst xs)):=zm.new b0 _;have rp:Rep _ _ _:= .lst zl (rr.mono s1);refine⟨a,_,e,s1,rp,⟨I.s0,I.sH,λb o q=> ?_,λb o q=> ?_,by rw[bx];exact I.len,λk t q=> ?_,λk us q=> ?_,λk c q=> ?_, ?_⟩⟩
 ·by_cases hb:b=a
  ·subst hb;rw[zl]at q;cases q;exact hh
  ·rw[zf hb]at q;exact I.sB b o q
 ·rw[zf λz=>by rw[z,h0]at q;cases q];exact I.old b o q
 ·rcases zp q with ⟨rfl,z⟩ | ⟨_,z⟩
  ·cases z;exact⟨_,e,rp⟩
  ·obtain⟨v,e1,r⟩:=I.vl k t z;exact⟨v,e1,r.mono s1⟩
 ·rcases zp q with ⟨rfl,z⟩ | ⟨hk,z⟩
  ·cases z
  ·obtain⟨a',xs',e',b0',h0',hh',rr',d'⟩:=I.ow k us z;have hne:a' ≠ a:=λw=>by subst w;exact d k us hk z e'
   refine⟨a',xs',e',by rw[zf hne];exact b0',h0',hh',rr'.mono s1,λm ws hm hw=> ?_⟩
   rcases zp hw with ⟨rfl,w⟩ | ⟨_,w⟩
   ·cases w
   ·exact d' m ws hm w
 ·rcases zp q with ⟨rfl,z⟩ | ⟨_,z⟩
  ·cases z
  ·obtain⟨a',e',r⟩:=I.xc k c z;exact⟨a',e',s1 _ _ r⟩
 ·obtain⟨as,O,x⟩:=I.st;refine⟨as,O,x.on (λk y hy h=> ?_) s1 rfl rfl (zm.refl _) λb o hb b0' h0' cs=> ?_⟩
  ·rcases zp h with ⟨_,z⟩ | ⟨_,z⟩
   ·subst z;cases hy
   ·exact⟨z,rfl⟩
  ·have hne:b ≠ a:=λz=>by
    subst z;rcases cs with ⟨C,dx,vs,ez⟩ | ok
    ·rw[hh]at hb;cases hb;cases ez
    ·exact ok j ts hj e
   refine⟨hb,by rw[zf hne];exact b0',h0',λok k us h=> ?_⟩
   rcases zp h with ⟨_,z⟩ | ⟨_,z⟩
   ·cases z
   ·exact ok k us z
theorem s_mv {i j:Nat}{x y:Str}{yp:Pos}(hv:PE X (.Name y yp) (W3 j))(hN:X.N.Nodup)(hi:X.N[i]? =some x)(hx:L2.Loc X.env.scope x)(hs:swapsWith (.Name y yp) (some (.Name x p')) pos.line X.env=pure false:=by rfl)
  (hf:X.fn x=true\/X.env.scope.names.lookup x=some .local:=by first | exact .inl rfl | exact .inr rfl | assumption):JF X Y (.Assign [.Name x p'] (.Name y yp) pos) (mvS i j):= .mk λρ=>
 PS.imp (JQ hN hi hx hv hs hf) λD σ H ⟨B,I,q⟩=>by
  unfold mvS at q;split at q
  ·rename_i ts e;obtain⟨a,B',e1,s1,r,J⟩:=I.give e;exact⟨_,e1,q _ _ B' s1 (J.setV i r)⟩
  ·exact q.elim
end
noncomputable def ZK:List T->Option (List Int)
 | []=>some []
 | .int i :: r=>match ZK r with | some l=>some (i :: l) | none=>none
 | _ :: _=>none
def xS:T->R T
 | .lst ts=>match ZK ts with | some l=> .ok (.int l.sum) | none=> .bad
 | _=> .bad
def GT (fi:En->R (List T))(g:T->En->R En)(ft:En->R Bool)(fe:En->R T)(k:Nat)(js:List Nat):En->RS:=λρ=>(fi (frz ρ)).s λts=>(zu g ft fe k js (frz ρ) ts).s λvs=> .rf vs
def XZ:En->RS:=λ_=> .bad
theorem z1t {X:Cx}{Y:Fx}{st:Stmt}:JF X Y st XZ:= .mk λρ=>λpins s σ H D I ⟨B,J,q⟩=>q.elim
theorem Y0:∀{H:Hp} {xs:List V} {ts:List T} {its:List Value} {is:List Int},zr H xs ts->Vals xs its->ZK ts=some is->∃ps:List (Int×Tok),its=ps.map (λp=>Value.int p.1 p.2)/\ps.map (·.1)=is
 | _,_,_,_,is,.nil,.nil,h=>by
  have h' :=h;cases h';exact⟨[],rfl,rfl⟩
 | H,_,_,_,is,.cons r rs,.cons rv vs,h=>by
  cases r with
  | int i=>
   unfold ZK at h;split at h
   ·rename_i l e;cases h;obtain⟨ps,h1,h2⟩:=Y0 rs vs e;obtain⟨tk,rfl⟩:=rv;exact⟨(i,tk) :: ps,by rw[h1];rfl,by rw[aq,h2]⟩
   ·cases h
  | _=>cases h
section
variable {X:Cx}{Y:Fx}{a b:Expr}{fa fb:En->R T}{pos p p' pos' :Pos}
theorem Y1 (hh:X.A.handled=none):Za X (.builtin "sum") (λvs H Q=>∃l xs ts is,vs=[.ref l]/\H l=some (.lst xs)/\zr H xs ts/\ZK ts=some is/\Q (.int is.sum) H):=by
 intro pins s σ H vs us Q I rv h;obtain⟨l,xs,ts,is,rfl,hl,r,hk,q⟩:=h;obtain⟨u,rfl,ru⟩:=Zr rv;obtain rfl:u=Value.ref l:=ru;obtain⟨its,rv,p,_⟩:=zH I (.inl hl) r;obtain⟨ps,h1,h2⟩:=Y0 r rv hk;have e:its.toArray=intItems ps.toArray:=by rw[h1];simp[intItems]
 rw[e]at p;refine sum_intListG hh p λh' tk t' kp=> ?_;have e2:preSum (numAt ps.toArray) ps.toArray.size=is.sum:=by
  rw[preSum_eq,h9 (by simp),← h2]
 rw[e2];exact⟨.int _,H,I.kept kp,⟨t',rfl⟩,q⟩
theorem z1u (hh:X.A.handled=none)(gl:Gl X "sum")(mg:X.mg "sum"=none)(ha:jh X Y a fa)(hs:St1 X a:=by exact st1 rfl):Snd X Y (.Call (.Name "sum" p) [a] [] pos) (ap1 xS fa):=
 Wk (Y1 hh) (λv t B H Q r sB q=>by
  cases r with
  | @lst l xs ts h r=>
   have q:Po Y rC B H (match ZK ts with | some k=> .ok _ | none=> .bad) Q:=q
   split at q
   ·rename_i k e;exact⟨l,xs,ts,k,rfl,h,r,e,po0 sB q rfl (.int _)⟩
   ·exact q.elim
  | _=>exact q.elim) gl mg boot_sum ha hs
end
section
variable {X:Cx}{Y:Fx}{tg iter elt:Expr}{ifs:List Expr}{scope:Scope}{pos pos' :Pos}{N' :List Str}{k:Nat}{js:List Nat}{fi:En->R (List T)}{tG:TG}{g:T->En->R En}{ft:En->R Bool}{fe:En->R T}
theorem KH (C:jJ X Y tg iter elt ifs scope N' k js fi tG g ft fe):JF X Y (.Return (some (.ListComp elt [⟨tg,iter,ifs,0⟩] scope pos)) pos') (GT fi g ft fe k js):= .mk λρ=>by
 have pe:PE X (.ListComp elt [⟨tg,iter,ifs,0⟩] scope pos) (λσ H Q=>∃B,SI Y B (frz ρ) σ H/\PoS Y B ((fi (frz ρ)).s λts=>(zu g ft fe k js (frz ρ) ts).s λvs=> .rf vs) { nx:=λ_ _=>False,rt:=Q }):=by
  intro pins s σ H Q I ⟨B,J,q⟩;refine jZ (ZU rfl) (F:=λD H' =>Q (.ref D) H') (te:=λσ H Q=>∃Y' ρ',Y'.cl=Y.cl/\(Y'.E=λ_ _ _=>False)/\tS Y' rC fe ρ' σ H Q) (tt:=λσ H Q=>∃Y' ρ',Y'.cl=Y.cl/\tS Y' rE ft ρ' σ H Q) C.sc C.cp C.cm (C.it (frz ρ)) C.gt
   (λcl Cx' s3 H3 fp pins pins' s σ H Q I ⟨Y',ρ',ey,q⟩=>C.tt Y' ey cl Cx' s3 H3 fp _ ρ' _ s σ H Q I q) (λcl Cx' s3 H3 fp pins xe hp pins' s σ H Q I ⟨Y',ρ',ey,eE,q⟩=>C.el Y' ey cl Cx' s3 H3 fp _ xe (eE ▸ hp) ρ' _ s σ H Q I q) I ?_ ?_ C.hs
  ·refine jj J q λts it' H1 _ s1 r1 J1 q1=> ?_;intro D hD;unfold zu at q1;split at q1
   ·rename_i hl;cases ev:zt g ft fe ts _ with
    | bad=>rw[ev]at q1;exact q1.elim
    | ex c=>rw[ev]at q1;exact q1.elim
    | ok vs=>
     rw[ev]at q1;refine jl C.gk C.gn J1 r1 hl ev hD λH' xs B' s' e' r' l' b' sb' => ?_;exact(show PoS Y _ _ _ from q1) D xs H' B' (J1.sH.trans s') (J1.sH.free hD) e' r' b' (l'.trans (uH J1.sH J1.old s' J1.sB))
   ·exact q1.elim
  ·intro D Cc H' s' I' q' hC h0 hL hcell hpin hns;obtain⟨m,hm⟩:=hns;refine⟨m,hm,λh' hsb=>⟨.ref D,H', ?_,rfl,q'⟩⟩;exact I'.turned (λb o hb e=>hsb.extBut b o hb e) hC (b8 hL).symm (.inr h0) hcell hpin
 refine PS.imp (W4 pe) λD σ H ⟨B,I,q⟩=>⟨_,I.frz, ?_⟩;have q:=PoS.up I.up q;unfold GT at q;revert q;cases fi _ with
 | bad=>exact λq=>q
 | ex c=>exact λq=>q
 | ok ts=>
  show PoS Y _ ((zu g ft fe k js _ ts).s λvs=> .rf vs) D->PoS Y _ ((zu g ft fe k js _ ts).s λvs=> .rf vs) _;cases zu g ft fe k js _ ts with
  | bad=>exact λq=>q
  | ex c=>exact λq=>q
  | ok vs=>exact λq=>q
end
end PV
namespace PySem.RV
open PySem PySem.Spec PyProof.Rows PySem.Builtin.SmallTypes
theorem wD:Manifest.owners.lookup (String.ofList "desrever".toList.reverse)=some Manifest.sig_reversed:=by kernel_rfl
theorem ZL:Slot "reversed" "__next__" "reversed.__next__":=
 .of (owner:="reversed") (n:="__next__") (by kernel_rfl) (by decide+kernel) (by decide+kernel) (by decide+kernel)
  (by first | exact .inl (by decide+kernel) | exact .inr (by decide+kernel)) (by kernel_rfl)
theorem JZ:entryFor table "reversed.__next__"=some Builtin.«reversed.__next__»:=entryFor_of_tree (by kernel_rfl)
theorem Wo (a:Value):argsOk "reversed.__next__" ⟨[a],[]⟩:=by
 unfold argsOk;rw[signature?_of (n:="__txen__".toList) (by kernel_rfl) wD];kernel_rfl
theorem Wp:Slot "reversed" "__iter__" "reversed.__iter__":=
 .of (owner:="reversed") (n:="__iter__") (by kernel_rfl) (by decide+kernel) (by decide+kernel) (by decide+kernel)
  (by first | exact .inl (by decide+kernel) | exact .inr (by decide+kernel)) (by kernel_rfl)
theorem Y2 (a:Value):argsOk "reversed.__iter__" ⟨[a],[]⟩:=by
 unfold argsOk;rw[signature?_of (n:="__reti__".toList) (by kernel_rfl) wD];kernel_rfl
theorem UD:entryFor table "reversed.__iter__"=some Builtin.«dict_keyiterator.__iter__»:=
 entryFor_alias (id' :="dict_keyiterator.__iter__") (by kernel_rfl) (by first | rfl | decide+kernel | (unfold String.splitOn;simp+decide [String.splitOnAux])) (by decide+kernel) (by kernel_rfl)
theorem KI:typeLookup (.type "tuple") "__reversed__"=pure none:=by rw[cV,builtinLookup_eq_fast];kernel_rfl
theorem KJ:isSubtype (.type "tuple") (.type "dict")=pure false:=by rw[isSubtype_type];kernel_rfl
noncomputable abbrev IsRv (h:Heap)(it:Addr)(v:Value)(i:Int):Prop:=h.get? it=some { cls:= .type "reversed",data:= .fields #[v,rawInt i] }
section
variable {prog:Program}{w:World}{A:Around}{E:Value->Shared->Prop}{s:Shared}{it l:Addr}{xs:Array Value}
theorem JL {v:Value}{i:Int}(x:IsRv s.heap it v i):s.TypeIs (.ref it) "reversed":=⟨_,x,rfl⟩
theorem next_item {i:Nat}{x:Value}{Q:Option Value->Shared->Prop}(hit:IsRv s.heap it (.ref l) (i:Int))(ht:IsTup s.heap l xs)(hf:(xs.size:Int) < 2 ^ 63)(hx:xs[i]? =some x)
  (hQ:∀h' tk,IsRv h' it (.ref l) ((i:Int) - 1)->b5 it s.heap h' ->Q (some x) { s with heap:=h',toks:=tk }):wpAny (model prog w) A (pyNext (.ref it)) Q E s:=by
 refine a8 (cD (b7 (JL hit) ZL (aN ZL (JL hit) JZ ?_ (Wo _))));refine a8 (br rfl ?_);refine a8 (aS hit rfl rfl ?_);refine a8 (aS hit rfl rfl ?_);have hi:=(Array.getElem?_eq_some_iff.mp hx).1;have hT:=ht.typeIs;refine a8 (bu hT slot_tuple_getitem.lookup ?_);refine a8 (wpAny_mkInt ?_);refine a8 (cD (getItem_tuple ht (by omega) (by omega) (seqIndex_of (by omega) (by omega)) (by simpa using hx) ?_))
 refine a8 (aS hit rfl rfl ?_);refine a8 (aW hit (by simp) λg1 z1 e1=> ?_)
 exact ac ⟨x,rfl,ac (hQ g1 _ z1 e1)⟩
theorem next_end {Q:Option Value->Shared->Prop}(hh:A.handled=none)(hit:IsRv s.heap it (.ref l) (-1))
  (hQ:∀h',fG it s.heap h' ->Q none { s with heap:=h' }):wpAny (model prog w) A (pyNext (.ref it)) Q E s:=by
 refine a8 (cD (b7 (JL hit) ZL (aN ZL (JL hit) JZ ?_ (Wo _))));refine a8 (br rfl ?_);refine a8 (aS hit rfl rfl ?_);refine a8 (aS hit rfl rfl ?_);refine a8 (ce ?_);refine a8 (show wpAny _ _ _ _ _ _ from ?_);refine a8 (aW hit (by simp) λg1 z1 e1=> ?_)
 refine aW z1 (by simp) λg2 z2 e2=> ?_
 refine a8 (show wpAny _ _ (newExc _ [] >>= λe=>raiseNew e) _ _ _ from ?_);refine a8 ?_;refine a8 (aQ (a8 (br (by first | rfl | (simp only[firstArgMember])) (aQ ?_ (by size_fits)))) (by size_fits))
 refine a8 (wpAny_handled ?_);rw[hh];refine a8 (ac (wpAny_throw ?_));refine a8 (cb ⟨_,af _ rfl,rfl⟩ isSubtype_stop ?_);exact ac (hQ _ (((e1.extBut.trans e2.extBut).push _).push _))
theorem iter_rv {v:Value}{i:Int}{Q:Value->Shared->Prop}(hit:IsRv s.heap it v i)(h:Q (.ref it) s):wpAny (model prog w) A (pyIter (.ref it)) Q E s:=by
 refine wpAny_pyIter_slot (JL hit) Wp (aN Wp (JL hit) UD ?_ (Y2 _));exact ac ⟨_,rfl,"reversed",_,JL hit,ZL.lookup,h⟩
theorem V9:mroOf (.type "reversed")=pure [.type "reversed",.type "object"]:=by rw[mroOf_type];kernel_rfl
theorem KK:typeLookup (.type "reversed") "__new__"=pure (some (.builtin "reversed.__new__")):=by kernel_rfl
theorem xT:Bind.madeBy (.type "reversed")=pure (some "reversed.__new__"):=madeBy_type V9 KK (by decide+kernel)
theorem Va:isSubtype (.type "reversed") (.type "reversed")=pure true:=by rw[isSubtype_type];kernel_rfl
theorem KL (a:Value):newClass "reversed" ⟨[.type "reversed",a],[]⟩=pure (.type "reversed",[a]):=by
 unfold newClass;simp only[isType,Va,pure_bind,dz,aL,if_false]
theorem Y3:entryFor table "reversed.__new__"=some Builtin.«reversed.__new__»:=entryFor_of_tree (by kernel_rfl)
theorem QL {Q:Fin->Shared->Prop}(ht:IsTup s.heap l xs)(hf:(xs.size:Int) < 2 ^ 63)
  (h:∀tk,Q (.done (.ret (.ref s.heap.objs.size))) { s with heap:=s.heap.push { cls:= .type "reversed",data:= .fields #[.ref l,rawInt ((xs.size:Int) - 1)] },toks:=tk }):
  wpAny (model prog w) A (Builtin.«reversed.__new__» ⟨[.type "reversed",.ref l],[]⟩) Q E s:=by
 have hT:=ht.typeIs;refine a8 (br (KL _) ?_);refine a8 (br (by first | rfl | kernel_rfl) ?_)
 refine a8 (br (by first | rfl | kernel_rfl) ?_)
 refine a8 (bu hT KI ?_);refine a8 ?_;refine a8 (cb hT KJ ?_);refine a8 (bu hT slot_tuple_getitem.lookup ?_);refine ac ?_;refine a8 (len_tuple ht hf ?_);refine a8 (br rfl ?_);refine a8 (show wpAny _ _ (newObj _ (.fields #[.ref l,rawInt _])) _ _ _ from ?_);exact aQ (ac (h _)) (by size_fits)
theorem Y4:Slot "reversed" "__init__" "object.__init__":=
 .of (owner:="object") (n:="__init__") (by kernel_rfl) (by decide+kernel) (by decide+kernel) (by decide+kernel)
  (by first | exact .inl (by decide+kernel) | exact .inr (by decide+kernel)) (by kernel_rfl)
theorem Y5:TypeCalled "reversed" "reversed.__new__" "object.__init__":=
 ⟨by decide+kernel,by decide+kernel,⟨_,_,V9⟩,xT,by decide+kernel,by kernel_rfl,Y4⟩
theorem QM (a:Value):checkTypeCall "reversed" ⟨[a],[]⟩=pure ():=by kernel_rfl
theorem QN (a:Value):checkBuiltinCall "reversed.__new__" ⟨[.type "reversed",a],[]⟩=pure ():=by kernel_rfl
theorem call_rvT {Q:Value->Shared->Prop}(ht:IsTup s.heap l xs)(hf:(xs.size:Int) < 2 ^ 63)
  (h:∀tk,Q (.ref s.heap.objs.size) { s with heap:=s.heap.push { cls:= .type "reversed",data:= .fields #[.ref l,rawInt ((xs.size:Int) - 1)] },toks:=tk }):wpAny (model prog w) A (call (.type "reversed") [.ref l]) Q E s:=by
 refine callType_new (S:=λ_ R s=>(∃xs,IsTup s.heap l xs/\(xs.size:Int) < 2 ^ 63/\∀tk,R (.ok (.ret (.ref s.heap.objs.size))) { s with heap:=s.heap.push { cls:= .type "reversed",data:= .fields #[.ref l,rawInt ((xs.size) - 1)] },toks:=tk })) Y5 (by decide) (QM _) (QN _) (λobj=>PySem.F.args_object_init_2 obj _) Y3 (.of_wp λprog w A R s h=> ?_) ⟨xs,ht,hf,λtk=> ?_⟩
 ·obtain⟨xs,h1,h2,h3⟩:=h;exact QL h1 h2 λtk=>⟨_,rfl,h3 tk⟩
 ·exact⟨⟨_,af _ rfl,rfl⟩,h tk⟩
end
end PySem.RV
namespace PySem.RV
open PySem PySem.Spec PyProof.Rows
theorem QO:typeLookup (.type "list_reverseiterator") "__len__"=pure none:=by rw[cV,builtinLookup_eq_fast];kernel_rfl
theorem xU:typeLookup (.type "list_reverseiterator") "__length_hint__"=pure (some (.builtin "list_reverseiterator.__length_hint__")):=by rw[cV];kernel_rfl
section
variable {prog:Program}{w:World}{A:Around}{E:Value->Shared->Prop}{s:Shared}{I:Addr}{fp wr:List Addr}{G:Array GenState->Array GenState->Prop}{n:Nat}{P:Nat->Value->Prop}{St:Nat->Shared->Prop}
theorem UE {Q:List Value->Shared->Prop}(W:WalksS prog w A.in1 I fp wr G n P St)(hT:∀i s,St i s->s.TypeIs (.ref I) "list_reverseiterator")(hst:St 0 s)(hfp:∀b∈fp,b < s.heap.objs.size)(hI:I∈fp)
  (hQ:∀s' acc,Moved wr G s s' ->ItemsOf P acc n->Q acc.toList s') (hn:n<=sizeLine):wpAny (model prog w) A (collect (.ref I)) Q E s:=by
 have nf:=λz=>bi _ (hfp _ z);have nI:s.heap.objs.size ≠ I:=λz=>nf (z ▸ hI);unfold collect;refine a8 (wpAny_runValue (bz h_ ?_));refine a8 (aQ (ac ⟨bS iO _,bz iP ?_⟩));have g0:=W.frame 0 s (s.heap.push { cls:= .type "list",data:= .seq ([]:List _).toArray }) _ hst (ak _) λb _ o e=>aa _ e;have g1:(s.heap.push { cls:= .type "list",data:= .seq ([]:List _).toArray }).get? _=some _:=af _ rfl;have g2:cF (.ref s.heap.objs.size) (.ref I)=false:=by simp[cF,nI]
 refine(show wpAny _ _ (f7 _ _ _) _ _ _ from ?_);refine a8 (cz (hT 0 _ g0) ?_);rw[if_neg (by rw[g2];decide)]
 refine a8 (W.self 0 _ _ _ g0 (a8 (bI ?_)));refine a8 (bu (hT 0 _ g0) QO ?_);refine a8 (bu (hT 0 _ g0) xU ?_);generalize hid:("list_reverseiterator.__length_hint__")=id0;subst hid;refine a8 (cb (b:=true) (hT 0 _ g0) (by kernel_rfl) ?_)
 refine ac ?_;refine ac ⟨bS f6 _,codeAny_extend_loopS W hn _ nf _ n 0 _ _ _ rfl (aZ _) g0 g1 (ItemsOf.nil P) λs' acc' c' hm hS' hacc=> ?_⟩;exact a8 (wpAny_load hS' (ac (hQ s' _ (Moved.drop_new hm (ak _)) hacc)))
theorem KM {Q₁:Value->Shared->Prop}(W:WalksS prog w A.in1.in1 I fp wr G n P St)(hT:∀i s,St i s->s.TypeIs (.ref I) "list_reverseiterator")(hst:St 0 s)(hfp:∀b∈fp,b < s.heap.objs.size)(hI:I∈fp)
  (h:∀s' acc,Moved wr G s s' ->ItemsOf P acc n->Q₁ (.ref s'.heap.objs.size) { s' with heap:=s'.heap.push { cls:= .type "tuple",data:= .seq acc } }) (hsz:n<=sizeLine):
  codeAny (model prog w) A (.call (.builtin "tuple.__new__") ⟨[.type "tuple",.ref I],[]⟩) (wants Q₁ E) s:=by
 refine codeAny_of_tree ?_;refine(show wpAny _ A.in1 (do checkBuiltinCall "tuple.__new__" ⟨[.type "tuple",.ref I],[]⟩;again (.builtin "tuple.__new__" ⟨[.type "tuple",.ref I],[]⟩)) _ _ s from ?_)
 refine a8 (br (iQ _) (ac ⟨bS dS _,bz iR ?_⟩));rw[ia dS _];have hsub:=sub_tuple_self;have hinit:=init_tuple_lookup;have hmh:=madeHere_tuple;have ty:=hT 0 s hst
 wp_walk using cz ty,UE (hn:=hsz) W hT hst hfp hI
 intro s' acc hm hacc;have e:acc.toList.toArray=acc:=by simp
 refine(show wpAny _ _ (cG acc.toList.toArray >>= λv=>ret v) _ _ _ from ?_);unfold cG;refine a8 (aQ (ac ?_) (by rw[e];show acc.size<=sizeLine;rw[hacc.1];exact hsz))
 rw[e];exact h s' acc hm hacc
theorem tuple_lr {Q:Value->Shared->Prop}(W:WalksS prog w A.in1.in1.in1 I fp wr G n P St)(hT:∀i s,St i s->s.TypeIs (.ref I) "list_reverseiterator")(hst:St 0 s)(hfp:∀b∈fp,b < s.heap.objs.size)(hI:I∈fp)
  (hQ:∀s' acc,Moved wr G s s' ->ItemsOf P acc n->Q (.ref s'.heap.objs.size) { s' with heap:=s'.heap.push { cls:= .type "tuple",data:= .seq acc } }) (hsz:n<=sizeLine):
  wpAny (model prog w) A (call (.type "tuple") [.ref I]) Q E s:=
 callType_codes (Q₁:=λobj s₁=>s₁.TypeIs obj _/\Q obj _) dg (iw _) ii
  (KM (hsz:=hsz) W hT hst hfp hI λs' acc hm hacc=>⟨⟨_,af _ rfl,rfl⟩,hQ s' acc hm hacc⟩) λobj s₁ h₁=>
   ⟨h₁.1,eO obj _,object_init_meets dg.init.lookup dg.made (by decide) _ w _ _ _ ⟨h₁.1,rfl,h₁.2⟩⟩
end
end PySem.RV
namespace PV
open PySem PySem.Spec PyProof.Rows L2
def z1v (K:ag)(a:Addr)(n:Nat):It:=
 ⟨λi H=>∃xs x,SqT K H a xs/\xs.length=n/\xs.reverse[i]? =some x,λi H x H' =>H' =H/\∀xs,SqT K H a xs->xs.reverse[i]? =some x,λi H=>∃xs,SqT K H a xs/\xs.length=n/\n<=i⟩
def z1w (K:ag)(a:Addr)(n:Nat):It:=
 ⟨λi H=>∃xs x,SqL K H a xs/\xs.length=n/\xs.reverse[i]? =some x,λi H x H' =>H' =H/\∀xs,SqL K H a xs->xs.reverse[i]? =some x,λi H=>∃xs,SqL K H a xs/\xs.length=n/\n<=i⟩
theorem Vb {α:Type}{xs:List α}{i:Nat}{x:α}(h:xs.reverse[i]? =some x):i < xs.length/\xs[xs.length - 1 - i]? =some x:=by
 have hi:=(aw.mp h).1;rw[bo]at hi;rw[de hi]at h;exact⟨hi,h⟩
theorem QP {P:Program}{w:World}{K:ag}{tg:Expr}(a it:Addr)(n:Nat):Ur P w K tg (z1v K a n) [it] it (λi h=>i<=n/\RV.IsRv h it (.ref a) ((n:Int) - 1 - (i:Int))) where
 mem:=by simp
 obj:=λi h st b hb=>by
  have e:b=it:=by simpa using hb
  subst e;exact⟨_,st.2,λv z=>nomatch z⟩
 keep:=λi h h' st k=>⟨st.1,k it (by simp) _ st.2⟩
 item:=by
  intro X hP hw hK hc i pins s σ H E I hf st hg;subst hP hw hK;obtain⟨xs,x,hq,hn,hx⟩:=hg;obtain⟨its,rv,p,hz⟩:=I.tuple hq;obtain⟨hi,hx'⟩:=Vb hx;obtain⟨u,hu,ru⟩:=rv.get hx';obtain⟨f0,f1,f2,f3,f4,f5⟩:=hf it (by simp)
  have hl:=rv.length;have e:(n:Int) - 1 - (i:Int)=((xs.length - 1 - i:Nat):Int):=by omega
  have hit:=st.2;rw[e]at hit;have hb:(its.toArray.size:Int) < 2 ^ 63:=by
   rw[bC]at hz;simp;omega
  refine RV.next_item hit p hb (x:=u) (by simpa using hu) λh' tk st' sb=> ?_
  have I1:Inv X pins σ H { s with heap:=h',toks:=tk }:=I.turned (t' :=tk) (λb o hb e=>(sb.2 b hb).trans e) f0 f1 f3 f4 f5;have e2:((xs.length - 1 - i:Nat):Int) - 1=(n:Int) - 1 - ((i+1:Nat):Int):=by omega
  rw[e2]at st';exact⟨u,rfl,Us (s:={ s with heap:=h',toks:=tk }) st' rfl rfl (by decide) ⟨x,H,I1,ru,⟨rfl,λys hy=>by rw[I.tuple_inj hy hq];exact hx⟩,⟨by omega,st'⟩,λb hb=>(hf b hb).1⟩⟩
 done:=by
  intro X hP hw hK hc i pins s σ H E I hf st hg;subst hP hw hK;obtain⟨xs,hq,hn,hx⟩:=hg;obtain⟨f0,f1,f2,f3,f4,f5⟩:=hf it (by simp)
  have hit:=st.2;have h1:=st.1;rw[show (n:Int) - 1 - (i:Int)= -1 by omega]at hit
  exact RV.next_end (I.ok.hd hc) hit λh' eb=>⟨rfl,I.turned (t' :=s.toks) (λb o hb e=>eb b o hb e) f0 f1 f3 f4 f5⟩
 self:=λ_ _ _ _ _ st h=>RV.iter_rv st.2 h
theorem QR {P:Program}{w:World}{K:ag}{tg:Expr}(a it:Addr)(n:Nat):Ur P w K tg (z1w K a n) [it] it (λi h=>i<=n/\h.IsRevIter it a ((n:Int) - 1 - (i:Int))) where
 mem:=by simp
 obj:=λi h st b hb=>by
  have e:b=it:=by simpa using hb
  subst e;obtain⟨o,e,c,d⟩:=st.2;exact⟨o,e,λv z=>by rw[d]at z;cases z⟩
 keep:=λi h h' st k=>⟨st.1,st.2.at λo e=>k it (by simp) o e⟩
 item:=by
  intro X hP hw hK hc i pins s σ H E I hf st hg;subst hP hw hK;obtain⟨xs,x,hq,hn,hx⟩:=hg;obtain⟨its,rv,p,hz⟩:=I.list hq;obtain⟨hi,hx'⟩:=Vb hx;obtain⟨u,hu,ru⟩:=rv.get hx';obtain⟨f0,f1,f2,f3,f4,f5⟩:=hf it (by simp)
  have e:(n:Int) - 1 - (i:Int)=((xs.length - 1 - i:Nat):Int):=by omega
  have hit:=st.2;rw[e]at hit;refine wpAny_pyNext_rev_item hit p.isList (x:=u) (by simpa using hu) λh' st' sb=> ?_
  have I1:Inv X pins σ H { s with heap:=h' }:=I.turned (t' :=s.toks) (λb o hb e=>(sb.2 b hb).trans e) f0 f1 f3 f4 f5;have e2:((xs.length - 1 - i:Nat):Int) - 1=(n:Int) - 1 - ((i+1:Nat):Int):=by omega
  rw[e2]at st';obtain⟨o,e,c,d⟩:=id st';exact⟨u,rfl,Us (s:={ s with heap:=h' }) e c d (by decide) ⟨x,H,I1,ru,⟨rfl,λys hy=>by rw[I.list_inj hy hq];exact hx⟩,⟨by omega,st'⟩,λb hb=>(hf b hb).1⟩⟩
 done:=by
  intro X hP hw hK hc i pins s σ H E I hf st hg;subst hP hw hK;obtain⟨xs,hq,hn,hx⟩:=hg;obtain⟨f0,f1,f2,f3,f4,f5⟩:=hf it (by simp)
  have hit:=st.2;have h1:=st.1;rw[show (n:Int) - 1 - (i:Int)= -1 by omega]at hit
  exact wpAny_pyNext_rev_end (I.ok.hd hc) hit λh' eb=>⟨rfl,I.turned (t' :=s.toks) (λb o hb e=>eb b o hb e) f0 f1 f3 f4 f5⟩
 self:=λ_ _ _ _ _ st h=>wpAny_pyIter_revIter st.2 h
theorem zr.rev {H:Hp}:∀{vs:List V} {ts:List T},zr H vs ts->zr H vs.reverse ts.reverse
 | _,_,.nil=> .nil
 | _,_,.cons r t=>by rw[ba,ba];exact(zr.rev t).append (.cons r .nil)
theorem KN {K:ag}{B1 H1:Hp}{a:Addr}{xs:List V}{ts:List T}(h:B1 a=some (.tup xs))(r:zr B1 xs ts):rI B1 H1 (z1v K a xs.length) ts.reverse:=λB2 H2 s1 s2=>by
 have h2:=s2 _ _ (s1 _ _ h);have hr:=r.rev;refine⟨λi hi=> ?_,λi t x H3 e y=> ?_,λi hi=>⟨xs,SqT.of h2,rfl,by rw[bo]at hi;rw[r.length];exact hi⟩⟩
 ·obtain⟨v,e,_⟩:=hr.get (aj hi);exact⟨xs,v,SqT.of h2,rfl,e⟩
 ·obtain⟨rfl,y⟩:=y;obtain⟨v,e1,r1⟩:=hr.get e;have:=y xs (SqT.of h2);rw[e1]at this;cases this;refine⟨zm.refl _, ?_⟩;rw[zB.self B2 _ s2];exact r1.mono s1
theorem KO {K:ag}{B1 H1:Hp}{a:Addr}{xs:List V}{ts:List T}(h:B1 a=some (.lst xs))(r:zr B1 xs ts):rI B1 H1 (z1w K a xs.length) ts.reverse:=λB2 H2 s1 s2=>by
 have h2:=s2 _ _ (s1 _ _ h);have hr:=r.rev;refine⟨λi hi=> ?_,λi t x H3 e y=> ?_,λi hi=>⟨xs,SqL.of h2,rfl,by rw[bo]at hi;rw[r.length];exact hi⟩⟩
 ·obtain⟨v,e,_⟩:=hr.get (aj hi);exact⟨xs,v,SqL.of h2,rfl,e⟩
 ·obtain⟨rfl,y⟩:=y;obtain⟨v,e1,r1⟩:=hr.get e;have:=y xs (SqL.of h2);rw[e1]at this;cases this;refine⟨zm.refl _, ?_⟩;rw[zB.self B2 _ s2];exact r1.mono s1
def Vc (fa:En->R T):En->R (List T):=λρ=>(fa ρ).bind λt=>(jz t).bind λxs=> .ok xs.reverse
def QS:T->R T
 | .lst xs=>if xs.length<=bnd then .ok (.tup xs.reverse) else .bad
 | _=> .bad
section
variable {X:Cx}{Y:Fx}{a b tg:Expr}{fa fb:En->R T}{pos p p' pos' :Pos}
theorem KP {ta:TA}(hg:Gl X "reversed")(hm:X.mg "reversed"=none)(ha:PA X [a] ta)(hs:St1 X a:=by exact st1 rfl):
  PI X tg (.Call (.Name "reversed" p) [a] [] pos) (λσ H R=>ta σ H λvs H1=>∃l xs,vs=[.ref l]/\((H1 l=some (.lst xs)/\R (z1w X.K l xs.length) H1)\/(H1 l=some (.tup xs)/\R (z1v X.K l xs.length) H1))):=by
 intro pins s σ H R I h;refine Call_ (Zv I hg hm boot_reversed (aM (thn (ha pos _ s σ H _ I h) λus s1 ⟨vs,H1,I1,r1,q1⟩=> ?_) hs rfl));obtain⟨l,xs,e,q⟩:=q1;subst e;obtain⟨u,rfl,ru⟩:=Zr r1;obtain rfl:u=Value.ref l:=ru;have ok:∀b∈[s1.heap.objs.size],wY X _ H1 b:=λb hb=>by
  have e:=by simpa using hb
  subst e;exact I1.fpOk (ak _) (I1.hok.fresh (ak _))
 rcases q with ⟨hl,q⟩ | ⟨hl,q⟩
 ·obtain⟨its,rv,p,hz⟩:=I1.list (SqL.of hl);have e:((its.toArray.size):Int) - 1=(xs.length) - 1 - ((0):Int):=by have:=rv.length;simp;omega
  refine call_reversed_list p.isList ?_;rw[e];have st:(s1.heap.push (revObj l ((xs.length) - 1 - ((0):Int)))).IsRevIter _ l _:=⟨_,af _ rfl,rfl,rfl⟩;refine wpAny_pyIter_revIter st ?_;exact⟨s1.heap.objs.size,[s1.heap.objs.size],_,_,H1,rfl,I1.kept (λb o e=>aa _ e),QR l _ _,⟨aZ _,st⟩,ok,q⟩
 ·obtain⟨its,rv,p,hz⟩:=I1.tuple (SqT.of hl);have hlen:=rv.length;have e:((its.toArray.size):Int) - 1=(xs.length) - 1 - ((0):Int):=by simp;omega
  refine RV.call_rvT p (by rw[bC]at hz;omega) λtk=> ?_
  rw[e];refine RV.iter_rv (af _ rfl) ?_;exact⟨s1.heap.objs.size,[s1.heap.objs.size],_,_,H1,rfl,I1.kept (λb o e=>aa _ e),QP l _ _,⟨aZ _,af _ rfl⟩,ok,q⟩
theorem z1x (hg:Gl X "reversed")(hm:X.mg "reversed"=none)(ha:Snd X Y a fa)(hs:St1 X a:=by exact st1 rfl):WY X Y tg (.Call (.Name "reversed" p) [a] [] pos) (Vc fa):= .mk λρ=>
 PI.imp (KP hg hm (zj (ha ρ) zD hs) hs) λσ H R ⟨B,I,q⟩=>step I q λt v H1 _ s1 r1 I1 q1=>by
  cases r1 with
  | @tup l xs ts h r=>exact⟨l,xs,rfl,.inr ⟨I1.sB _ _ h,Zw I1 (show Po Y rI _ H1 _ R from q1) (KN h r)⟩⟩
  | @lst l xs ts h r=>exact⟨l,xs,rfl,.inl ⟨I1.sB _ _ h,Zw I1 (show Po Y rI _ H1 _ R from q1) (KO h r)⟩⟩
  | _=>exact q1.elim
theorem uO:∀{xs ys:List V} {us ws:List Value},Vals xs us->Vals ys ws->Vals (xs++ys) (us++ws)
 | _,_,_,_,.nil,q=>q
 | _,_,_,_,.cons r t,q=> .cons r (uO t q)
theorem wE:∀{xs:List V} {us:List Value},Vals xs us->Vals xs.reverse us.reverse
 | _,_,.nil=> .nil
 | _,_,.cons r t=>by rw[ba,ba];exact uO (wE t) (.cons r .nil)
theorem Y6 {its:List Value}{acc:Array Value}(h:ItemsOf (λi v=>its.toArray[its.toArray.size - 1 - i]? =some v) acc its.toArray.size):acc.toList=its.reverse:=by
 have h1:=by
  have:=h.1;simpa using this
 have h2:=h.2;refine dQ λi=> ?_
 by_cases hi:i < its.length
 ·have hlt:i < acc.toList.length:=by simp;omega
  have e:=aj hlt;have:=h2 i _ (by rw[← i5];exact e)
  rw[de hi,e,← this];simp
 ·rw[aV (by simp;omega),aV (by simp;omega)]
theorem KQ (hh:X.A.handled=none)(gl:Gl X "tuple")(mg:X.mg "tuple"=none)(gl' :Gl X "reversed")(mg' :X.mg "reversed"=none)(ha:Snd X Y a fa)(hs:St1 X a:=by exact st1 rfl)(hs' :St1 X (.Call (.Name "reversed" p') [a] [] pos'):=by exact st1 rfl):
  Snd X Y (.Call (.Name "tuple" p) [.Call (.Name "reversed" p') [a] [] pos'] [] pos) (ap1 QS fa):= .mk λρ=>by
 intro pins s σ H Q I ⟨B,J,q⟩;have hq:tS Y rC fa ρ σ H (λv H1=>∃l xs,v= .ref l/\H1 l=some (.lst xs)/\xs.length<=sizeLine/\∀t,H1 t=none->Q (.ref t) (upd H1 t (.tup xs.reverse))):=by
  refine step J q λt v H1 _ s1 r1 I1 q1=> ?_;cases r1 with
  | @lst l xs ts h r=>
   have q1:Po Y rC _ H1 (if ts.length<=bnd then .ok (.tup ts.reverse) else .bad) Q:=q1
   split at q1
   ·rename_i hb;exact⟨l,xs,rfl,I1.sB _ _ h,by rw[r.length];exact Zf hb,λt ht=>XW I1.sB q1 rfl r.rev ht⟩
   ·exact q1.elim
  | _=>exact q1.elim
 refine bP (Zv I gl mg PyProof.Rows.Boot.«tuple» (aM (rest:=[]) ?_ hs' rfl));rw[hs'];refine fg (bP (Zv I gl' mg' boot_reversed (aM (e:=a) (rest:=[]) ?_ hs rfl)));refine thn ((zj (ha ρ) zD hs) pos' pins s σ H (λvs H1=>∃l xs,vs=[.ref l]/\H1 l=some (.lst xs)/\xs.length<=sizeLine/\∀t,H1 t=none->Q (.ref t) (upd H1 t (.tup xs.reverse))) I ?_) λus s1 ⟨vs,H1,I1,r1,l,xs,e,hl,hz,q1⟩=> ?_
 ·obtain⟨B',J',q'⟩:=hq;refine⟨B',J', ?_⟩;revert q';cases fa ρ with
  | bad=>exact λq' =>q'
  | ex c=>exact λq' =>q'
  | ok t=>
   intro q' v H1 s1 r1;obtain⟨l,xs,rfl,h⟩:=q' v H1 s1 r1;exact⟨l,xs,rfl,h⟩
 subst e;obtain⟨u,rfl,ru⟩:=Zr r1;obtain rfl:u=Value.ref l:=ru;obtain⟨its,rv,pl,_⟩:=I1.list (SqL.of hl);have hlt:=I1.hok.lt hl;refine call_reversed_list pl.isList (fE ?_);have e0:((its.toArray.size):Int) - 1 - ((0:Nat))=((its.toArray.size):Int) - 1:=by omega
 refine RV.tuple_lr (Walks.listRev (A:=X.A.in1.in1.in1) hh _ l (aD hlt) _).toS (λi s st=>st.2.1.typeIs) ⟨aZ _,⟨_,af _ rfl,rfl,by rw[e0];rfl⟩,pl.isList.push _⟩ (λb hb=> ?_) (by simp) (λs' acc hm hacc=> ?_) (by rw[aB,← rv.length];exact hz)
 ·have hb:=by simpa using hb
  rcases hb with rfl | rfl
  ·rw[bU];exact eD _
  ·rw[bU];exact cB hlt
 obtain⟨h',g',d',tk',os'⟩:=s';have e1:g' =s1.gens:=hm.gens;have e2:d' =s1.drawn:=hm.drawn;have e3:=hm.os;subst e1 e2 e3;have kp:∀b o,s1.heap.get? b=some o->h'.get? b=some o:=λb o e=>hm.heap b o (λz=>by
  have z:b=s1.heap.objs.size:=by simpa using z
  have:=am e;rw[z]at this;exact bi _ this) (aa _ e)
 have I2:=I1.kept (t' :=tk') kp;have ea:acc=its.reverse.toArray:=by rw[← Y6 hacc]
 rw[ea];refine⟨.ref h'.objs.size,upd H1 _ (.tup xs.reverse),I2.laid (λb u e=>aa _ e) (ak _) ⟨by rw[bo];exact hz,its.reverse,wE rv,⟨_,af _ rfl,rfl,_,rfl⟩,.inr ⟨_,af _ rfl,rfl⟩⟩,rfl,q1 _ (I2.hok.fresh (ak _))⟩
end
noncomputable def JM:List T->Option Bool
 | []=>some false
 | .bl k :: r=>match JM r with | some j=>some (k || j) | none=>none
 | _ :: _=>none
def z1y:T->R T
 | .lst ts=>match JM ts with | some k=> .ok (.bl k) | none=> .bad
 | _=> .bad
theorem Y7:∀{H:Hp} {xs:List V} {ts:List T} {its:List Value} {k:Bool},zr H xs ts->Vals xs its->JM ts=some k->∃tr:Nat->Bool,(∀i v,its[i]? =some v->v=Value.bool (tr i))/\(aY its.length).any tr=k
 | _,_,_,_,k,.nil,.nil,h=>by
  have h' :=h;cases h';exact⟨λ_=>true,λi v e=>by simp at e,rfl⟩
 | H,_,_,_,k,.cons r rs,.cons (b:=u) rv vs,h=>by
  cases r with
  | bl b=>
   unfold JM at h;split at h
   ·rename_i j e;cases h;obtain⟨tr,h1,h2⟩:=Y7 rs vs e;obtain rfl:u=Value.bool b:=rv;refine⟨λi=>match i with | 0=>b | i+1=>tr i,λi v e=> ?_, ?_⟩
    ·cases i with
     | zero=>simp at e;exact e.symm
     | succ i=>exact h1 i v (by simpa using e)
    ·rw[ay,cS,eJ,List.any_map,← h2];rfl
   ·cases h
  | _=>cases h
section
variable {X:Cx}{Y:Fx}{a b:Expr}{fa fb:En->R T}{pos p p' pos' pt:Pos}{elts:List Expr}{kk:Nat}
theorem Y8 (hh:X.A.handled=none):Za X (.builtin "any") (λvs H Q=>∃l xs ts k,vs=[.ref l]/\H l=some (.lst xs)/\zr H xs ts/\JM ts=some k/\Q (.bl k) H):=by
 intro pins s σ H vs us Q I rv h;obtain⟨l,xs,ts,k,rfl,hl,r,hk,q⟩:=h;obtain⟨u,rfl,ru⟩:=Zr rv;obtain rfl:u=Value.ref l:=ru;obtain⟨its,rv,p,_⟩:=zH I (.inl hl) r;obtain⟨tr,h1,h2⟩:=Y7 r rv hk;refine call_any_walk (cA p ?_);have hlt:=I.hok.lt hl;have old:∀b o,s.heap.get? b=some o->(s.heap.push { cls:= .type "list_iterator",data:= .fields #[.ref l,.int 0 0] }).get? b=some o:=λb o e=>aa _ e;refine⟨s.heap.objs.size,_,_,_,_,_,tr,rfl,lH (A:=X.A.in1) hh _ l (aD hlt) its.toArray, ?_, ?_,λh' tk hk' => ?_⟩
 ·refine⟨?_,p.at λo e=>old _ o e⟩;exact⟨_,af _ rfl,rfl,rfl⟩
 ·intro i v s' Q' E' hi hq;rw[h1 i v (by simpa using hi)]
  exact b9 hq
 ·rw[aB,h2];refine⟨.bl k,H,I.kept (λb o e=>hk' b o ?_ (old b o e)),rfl,q⟩;simp;exact aD (am e)
theorem z1z (hh:X.A.handled=none)(gl:Gl X "any")(mg:X.mg "any"=none)(ha:jh X Y a fa)(hs:St1 X a:=by exact st1 rfl):Snd X Y (.Call (.Name "any" p) [a] [] pos) (ap1 z1y fa):=
 Wk (Y8 hh) (λv t B H Q r sB q=>by
  cases r with
  | @lst l xs ts h r=>
   have q:Po Y rC B H (match JM ts with | some k=> .ok _ | none=> .bad) Q:=q
   split at q
   ·rename_i k e;exact⟨l,xs,ts,k,rfl,h,r,e,po0 sB q rfl (.bl k)⟩
   ·exact q.elim
  | _=>exact q.elim) gl mg PyProof.Rows.Boot.«any» ha hs
end
end PV
namespace PySem.RV
open PySem PySem.Spec PyProof.Rows PySem.Builtin.SmallTypes
theorem draws_tup {prog:Program}{w:World}{A:Around}(hh:A.handled=none)(it l:Addr)(hne:l ≠ it)(items:Array Value):Draws prog w A it [it,l] items.size (λi v=>items[i]? =some v) (λi h=>h.IsTupleIter it l i/\h.IsTuple l items) where
 live:=λi h st=>(ZG.nx_tup hne items).there st it (.head _)
 frame:=λi h h' st hk=>(ZG.nx_tup hne items).keep st hk
 item:=λi s Q E hi st hQ=>ZG.tup_item st.1 st.2 (x:=items[i]) (by simp[hi]) λh' a b=>hQ _ h' s.toks (by simp[hi]) ⟨a,st.2.extBut b.extBut hne⟩ b
 done:=λs Q E st hE=>ZG.tup_stop hh st.1 st.2 (by simp) hE
noncomputable abbrev eOb (i:Addr):Obj:={ cls:= .type "enumerate",data:= .fields #[.none,.bool false,.ref i,rawInt 0,.none,.none] }
theorem Y9 (l:Addr)(items:Array Value)(n:Nat)(dct:Option Addr)(sl:Array (Option Value)):
  Meets (Builtin.«enumerate.__new__» ⟨[.type "enumerate",.ref l],[]⟩) (λ_ R s=>s.heap.get? l=some { cls:= .type "tuple",dict:=dct,data:= .seq items n,slots:=sl }/\
   R (.ok (.ret (.ref (s.heap.push (ZG.oT l)).objs.size))) { s with heap:=(s.heap.push (ZG.oT l)).push (eOb s.heap.objs.size) }):=
 .of_wp λprog w A R s h=>by
  obtain⟨hp,g,d,tk,os⟩:=s;obtain⟨hl,h⟩:=h;have hsub:=sub_enumerate;have hL:iN (lq ⟨hp,g,d,tk,os⟩) l items:=⟨_,hl,rfl,n,rfl⟩
  wp_walk using cL hl
  refine wpAny_stack_any λst=>ac ?_;split
  ·rename_i c _ _ _ _ _;cases (c == Value.type "enumerate") <;> (wp_walk using cL hl,cf hL;exact⟨_,rfl,h⟩)
  ·wp_walk using cL hl,cf hL
   exact⟨_,rfl,h⟩
theorem enum_callT {prog:Program}{w:World}{A:Around}{E:Value->Shared->Prop}{s:Shared}{l:Addr}{items:Array Value}{Q:Value->Shared->Prop}(hL:s.heap.IsTuple l items)
  (h:∀h',IsEnum h' (s.heap.objs.size+1) s.heap.objs.size 0 .none->h'.IsTupleIter s.heap.objs.size l 0->(∀b o,s.heap.get? b=some o->h'.get? b=some o)->Q (.ref (s.heap.objs.size+1)) { s with heap:=h' }):
  wpAny (model prog w) A (call (.type "enumerate") [.ref l]) Q E s:=by
 obtain⟨⟨c,dct,dt,sl⟩,hl,hc,n,hd⟩:=hL;obtain rfl:c= .type _:=hc;obtain rfl:dt= .seq _ n:=hd;refine callType_new F.called_enumerate (by decide) (F.typeCall_enumerate_1 _) (F.newCall_enumerate_1 _) (λobj=>eO obj _) F.entry_enumerate_new (Y9 l _ n dct sl) ⟨hl, ?_⟩
 have hz:(s.heap.push (ZG.oT l)).objs.size=s.heap.objs.size+1:=bU ..;have e1:((s.heap.push (ZG.oT l)).push (eOb s.heap.objs.size)).get? _=some _:=af _ rfl;rw[hz]at e1;rw[hz];exact⟨⟨_,e1,rfl⟩,h _ e1 ⟨_,aa _ (af _ rfl),rfl,rfl⟩ λb o x=>aa _ (aa _ x)⟩
end PySem.RV
namespace PV
open PySem PySem.Spec PyProof.Rows L2
def z1A (K:ag)(l:Addr)(n:Nat):It:=
 ⟨λi H=>∃xs x,SqT K H l xs/\xs.length=n/\xs[i]? =some x,λi H v H' =>∃p x,H p=none/\v= .ref p/\(∀xs,SqT K H l xs->xs[i]? =some x)/\H' =upd H p (.tup [.int i,x]),λi H=>∃xs,SqT K H l xs/\xs.length=n/\n<=i⟩
theorem UF {P:Program}{w:World}{K:ag}{elts:List Expr}{kk:Nat}{pt:Pos}(e it l:Addr)(n:Nat)(hei:e ≠ it)(hle:l ≠ e)(hli:l ≠ it):
  Ur P w K (.Tuple elts kk pt) (z1A K l n) [e,it] e (λi h=>i<=n/\(∃old,IsEnum h e it i old)/\h.IsTupleIter it l i) where
 mem:=by simp
 obj:=λi h st b hb=>by
  obtain⟨_,⟨old,he⟩,o,e1,c,d⟩:=st;rcases ao.mp hb with rfl | hb
  ·exact⟨_,he,λv z=>nomatch z⟩
  ·have z:b=it:=by simpa using hb
   subst z;exact⟨o,e1,λv z=>by rw[d]at z;cases z⟩
 keep:=λi h h' st k=>by
  obtain⟨hn,⟨old,he⟩,o,e1,r⟩:=st;exact⟨hn,⟨old,k e (by simp) _ he⟩,o,k it (by simp) o e1,r⟩
 item:=by
  intro X hP hw hK hc i pins s σ H E I hf st hg;subst hP hw hK;obtain⟨xs,x,hq,hxn,hx⟩:=hg;obtain⟨its,rv,p,hz⟩:=I.tuple hq;obtain⟨u,hu,ru⟩:=rv.get hx;obtain⟨hin,⟨old,he⟩,hit⟩:=st;have hi:i < its.toArray.size:=by
   have:=(aw.mp hu).1;simpa using this
  have D:=RV.draws_tup (prog:=X.prog) (w:=X.w) (A:=X.A.in1) (I.ok.hd hc) it l hli its.toArray;have hef:e ∉ [it,l]:=λz=>by
   rcases ao.mp z with z | z
   ·exact hei z
   ·exact hle (au.mp z).symm
  have WE:=WalksT.enumerateD D e hei hef (.head _);refine WE.item i s _ _ hi ⟨⟨old,he⟩,hit,p⟩ λT vals h' tk hP hT hTup hM hk=> ?_;obtain⟨t,y,hy,rfl⟩:=hP;have hyu:y=u:=by
   have:its[i]? =some y:=by simpa using hy
   rw[hu]at this;exact(aI this).symm
  subst hyu;refine⟨.ref T,rfl, ?_⟩;refine WE.go elts kk pt i T _ _ _ hM λh2 hst2 hk2=> ?_;have hTn:H T=none:=I.hok.fresh hT;have hTne:∀b∈[e,it],b ≠ T:=λb hb z=>by
   obtain⟨_,_,h3,h4⟩:=hM;rcases ao.mp hb with rfl | hb
   ·exact h3 z.symm
   ·have:b=it:=by simpa using hb
    subst this;exact h4 z.symm
  have WZ:IsTup h2 T #[.int i t,y]:=by
   obtain⟨o,eo,r⟩:=hTup;exact⟨o,hk2 T o (λhb=>hTne T hb rfl) eo,r⟩
  refine⟨.ref T,upd H T (.tup [.int i,x]),Inv.laidT (s:=s) (h' :=h2) (ch:=[e,it]) (tk:=tk) I hf (λb o hb e=>hk2 b o hb (hk b o hb e)) (λb o hb _=> ?_) hT ⟨by rw[bC];show 2<=16777216;decide,[.int i t,y],.cons ⟨t,rfl⟩ (.cons ru .nil),WZ,.inl ⟨_,_,rfl⟩⟩,rfl,⟨T,x,hTn,rfl,λys hy=>by rw[I.tuple_inj hy hq];exact hx,rfl⟩,⟨by have:=(aw.mp hx).1;omega,hst2.1,hst2.2.1⟩,λb hb=> ?_⟩
  ·obtain⟨⟨old2,he2⟩,⟨o2,eo2,_⟩,_⟩:=hst2;rcases ao.mp hb with rfl | hb
   ·exact⟨_,he2⟩
   ·have:b=it:=by simpa using hb
    subst this;exact⟨o2,eo2⟩
  ·rw[zf (hTne b hb)];exact(hf b hb).1
 done:=by
  intro X hP hw hK hc i pins s σ H E I hf st hg;subst hP hw hK;obtain⟨xs,hq,hxn,hx⟩:=hg;obtain⟨its,rv,p,hz⟩:=I.tuple hq;obtain⟨hin,⟨old,he⟩,hit⟩:=st;have hl:=rv.length;have D:=RV.draws_tup (prog:=X.prog) (w:=X.w) (A:=X.A.in1) (I.ok.hd hc) it l hli its.toArray;have hn:its.toArray.size=i:=by simp;omega
  refine wpAny_pyNext_enum_endD D he (by rw[hn];exact⟨hit,p⟩) λh' hk=>⟨rfl, ?_⟩
  obtain⟨f0,f1,f2,f3,f4,f5⟩:=hf it (by simp)
  exact I.turned (t' :=s.toks) (λb o hb e=>hk b o hb e) f0 f1 f3 f4 f5
 self:=λ_ _ _ _ _ st h=>let ⟨_,⟨_,he⟩,_⟩:=st;wpAny_pyIter_enum he h
theorem QT {K:ag}{B1 H1:Hp}{a:Addr}{xs:List V}{ts:List T}(h:B1 a=some (.tup xs))(r:zr B1 xs ts):rI B1 H1 (z1A K a xs.length) (jm ts):=λB2 H2 s1 s2=>by
 have h2:=s2 _ _ (s1 _ _ h);rw[jK];refine⟨λi hi=> ?_,λi t x H3 e y=> ?_,λi hi=>⟨xs,SqT.of h2,rfl,by rw[r.length];exact hi⟩⟩
 ·obtain⟨v,e,_⟩:=r.get (aj hi);exact⟨xs,v,SqT.of h2,rfl,e⟩
 ·obtain⟨p,v,hp,rfl,y,rfl⟩:=y;obtain⟨t',et,rfl⟩:=Wn e;obtain⟨v',e1,r1⟩:=r.get et;have:=y xs (SqT.of h2);rw[e1]at this;cases this;refine⟨zm.new hp _,.tup (j9 hp _) (.cons (.int _) (.cons ?_ .nil))⟩;exact(r1.mono s1).mono (zB.ge s2 (zm.new hp _))
def uP (fa:En->R T):En->R (List T):=λρ=>(fa ρ).bind λt=>match t with
 | .tup xs=> .ok (jm xs)
 | _=> .bad
section
variable {X:Cx}{Y:Fx}{a:Expr}{fa:En->R T}{pos p pt:Pos}{elts:List Expr}{kk:Nat}
theorem QU {ta:TA}(hg:Gl X "enumerate")(hm:X.mg "enumerate"=none)(ha:PA X [a] ta)(hs:St1 X a:=by exact st1 rfl):
  PI X (.Tuple elts kk pt) (.Call (.Name "enumerate" p) [a] [] pos) (λσ H R=>ta σ H λvs H1=>∃l xs,vs=[.ref l]/\H1 l=some (.tup xs)/\R (z1A X.K l xs.length) H1):=by
 intro pins s σ H R I h;refine Call_ (Zv I hg hm PyProof.Rows.Boot.«enumerate» (aM (thn (ha pos _ s σ H _ I h) λus s1 ⟨vs,H1,I1,r1,q1⟩=> ?_) hs rfl));obtain⟨l,xs,e,hl,q⟩:=q1;subst e;obtain⟨u,rfl,ru⟩:=Zr r1;obtain rfl:u=Value.ref l:=ru;obtain⟨its,rv,pl,hz⟩:=I1.tuple (SqT.of hl);have hlt:=I1.hok.lt hl;refine RV.enum_callT (show s1.heap.IsTuple l _ from pl) λh' he hit hk=>wpAny_pyIter_enum he ?_;have f:∀b∈[s1.heap.objs.size+1,s1.heap.objs.size],wY X _ H1 b:=λb hb=>by
  rcases ao.mp hb with rfl | hb
  ·exact I1.fpOk (bT _) (I1.hok.fresh (bT _))
  ·have z:=by simpa using hb
   subst z;exact I1.fpOk (ak _) (I1.hok.fresh (ak _))
 exact⟨s1.heap.objs.size+1,[s1.heap.objs.size+1,s1.heap.objs.size],_,_,H1,rfl,I1.kept hk,UF _ _ l _ (lc _) (aD (cB hlt)) (aD hlt),⟨aZ _,⟨_,he⟩,hit⟩,f,q⟩
theorem xV (hg:Gl X "enumerate")(hm:X.mg "enumerate"=none)(ha:Snd X Y a fa)(hs:St1 X a:=by exact st1 rfl):WY X Y (.Tuple elts kk pt) (.Call (.Name "enumerate" p) [a] [] pos) (uP fa):= .mk λρ=>
 PI.imp (QU hg hm (zj (ha ρ) zD hs) hs) λσ H R ⟨B,I,q⟩=>step I q λt v H1 _ s1 r1 I1 q1=>by
  cases r1 with
  | @tup l xs ts h r=>exact⟨l,xs,rfl,I1.sB _ _ h,Zw I1 (show Po Y rI _ H1 _ R from q1) (QT h r)⟩
  | _=>exact q1.elim
end
end PV
namespace PySem.RW37
open PySem PySem.Spec PyProof.Rows L2
end PySem.RW37
namespace PV
open PySem PySem.Spec PyProof.Rows L2 PySem.RW37
section
variable {X:Cx}{Y:Fx}{pos:Pos}{a b c:Expr}
theorem UG {pins:List (Addr×Obj)}{σ:L2.St}{H:Hp}{s:Shared}{A:Around}{E:Value->Shared->Prop}{Q:Value->Shared->Prop}{b:Bool}{v:V}{u:Value}{t:T}{tp:Addr}{xs:List V}{its:List Value}(I:Inv X pins σ H s)(rx:RelV v u)(r:Rep H v t)(hp:H tp=some (.tup xs))(hv:Vals xs its)
  (hu:∀its',Vals xs its' ->its' =its) (e:dU X.K (.type (tyN t)) its=some b) (h:∀tk,Q (.bool b) { s with toks:=tk }):
  wpAny (model X.prog X.w) A (call (.builtin "isinstance") [u,.ref tp]) Q E s:=by
 obtain⟨_,its',hv',⟨o,ho,hc,n,hd⟩,_⟩:=(show zN _ X.w H _ tp _ from I.hok tp _ hp);obtain rfl:=hu _ hv';obtain⟨c,dd,da,sl⟩:=o;subst hc hd;cases r with
 | non=>cases (rx);exact cu iF I.kIn True.intro ho e (λz=>nomatch z) h
 | bl y=>cases (rx);exact cu iG I.kIn True.intro ho e (λz=>nomatch z) h
 | int i=>obtain⟨t,q⟩:=(rx);cases q;exact cu l5 I.kIn True.intro ho e (λz=>nomatch z) h
 | str y=>obtain⟨t,q⟩:=(rx);cases q;exact cu l6 I.kIn True.intro ho e (λz=>nomatch z) h
 | @tup a xs _ ea=>
  cases (rx);obtain⟨_,_,_,p,_⟩:=(show zN _ X.w H _ a _ from I.hok a _ ea);obtain⟨o,h1,h2,_⟩:=p;exact cu iq I.kIn ⟨o,h1,h2⟩ ho e (λz=>nomatch z) h
 | @lst a xs _ ea=>
  cases (rx);obtain⟨_,_,n,_,h1⟩:=(show zN _ X.w H _ a _ from I.hok a _ ea);exact cu dL I.kIn ⟨_,h1,rfl⟩ ho e (λz=>nomatch z) h
 | @fz a ob xs _ ea=>
  cases (rx);obtain⟨_,_,_,n,_,h1⟩:=(show zN _ X.w H _ a _ from I.hok a _ ea);exact cu dL I.kIn ⟨_,h1,rfl⟩ ho e (λz=>nomatch z) h
theorem QV {n m:String}:∀its',Vals [.ty n,.ty m] its' ->its' =[.type n,.type m]:=λits' h=>by
 cases h with
 | cons p q=>
  cases q with
  | cons p' q' =>
   cases q';rw[p,p']
theorem Ya:Za X (.builtin "isinstance") (λxs H Q=>∃v tp n m t b,xs=[v,.ref tp]/\H tp=some (.tup [.ty n,.ty m])/\Rep H v t/\dU X.K (.type (tyN t)) [.type n,.type m]=some b/\Q (.bl b) H):=by
 intro pins s σ H xs us Q I rv h;obtain⟨v,tp,n,m,t,b,rfl,hp,r,hk,q⟩:=h;obtain⟨u,w,rfl,ru,rw'⟩:=Uw rv;obtain rfl:w=Value.ref tp:=rw';exact UG I ru r hp (.cons rfl (.cons rfl .nil)) QV hk λtk=>⟨.bl _,H,I.tok tk,rfl,q⟩
def KR (n m:String)(t:T):R T:= .ok (.bl (isT n t || isT m t))
theorem xW {K:ag}{t:T}{n m:String}(h1:bq K (.type (tyN t)) (.type n)=some (isT n t))(h2:bq K (.type (tyN t)) (.type m)=some (isT m t)):
  dU K (.type (tyN t)) [.type n,.type m]=some (isT n t || isT m t):=by
 unfold dU;rw[h1];cases isT n t with
 | true=>rfl
 | false=>
  unfold dU;rw[h2];cases isT m t <;> rfl
theorem KS {fa:En->R T}{p p1 p2 pt:Pos}{n m:String}{kt:Nat}(hk:∀t,bq X.K (.type (tyN t)) (.type n)=some (isT n t))(hk' :∀t,bq X.K (.type (tyN t)) (.type m)=some (isT m t))
  (gl:Gl X "isinstance") (mg:X.mg "isinstance"=none) (gl1:Gl X (aE n)) (mg1:X.mg (aE n)=none) (bt1:bootBuiltins (aE n)=some (.type n)) (gl2:Gl X (aE m)) (mg2:X.mg (aE m)=none) (bt2:bootBuiltins (aE m)=some (.type m)) (ha:Snd X Y a fa)
  (hs:starEach [a,.Tuple [.Name (aE n) p1,.Name (aE m) p2] kt pt] X.env=[(false,eval a X.env),(false,eval (.Tuple [.Name (aE n) p1,.Name (aE m) p2] kt pt) X.env)]:=by exact st2 rfl rfl)
  (hs2:starEach [.Tuple [.Name (aE n) p1,.Name (aE m) p2] kt pt] X.env=[(false,eval (.Tuple [.Name (aE n) p1,.Name (aE m) p2] kt pt) X.env)]:=by exact st1 rfl)
  (hs3:starEach [.Name (aE n) p1,.Name (aE m) p2] X.env=[(false,eval (.Name (aE n) p1) X.env),(false,eval (.Name (aE m) p2) X.env)]:=by exact st2 rfl rfl)
  (hs4:starEach [.Name (aE m) p2] X.env=[(false,eval (.Name (aE m) p2) X.env)]:=by exact st1 rfl)
  (hn1:aE n ≠ "__name__":=by decide) (hd1:(aE n == ("__debug__":Str))=false:=by decide) (hn2:aE m ≠ "__name__":=by decide) (hd2:(aE m == ("__debug__":Str))=false:=by decide)
  (hz:((backTo pos (starEach [.Tuple [.Name (aE n) p1,.Name (aE m) p2] kt pt] X.env)).any λx=>x.fst)=false:=by exact Z0 rfl):
  Snd X Y (.Call (.Name "isinstance" p) [a,.Tuple [.Name (aE n) p1,.Name (aE m) p2] kt pt] [] pos) (ap1 (KR n m) fa):= .mk λρ=>
 PE.imp (ZC Ya gl mg PyProof.Rows.Boot.«isinstance» (zj (ha ρ) (zj (vV (zj (u4 (v:= .ty n) gl1 mg1 bt1 rfl hn1 hd1) (zj (u4 (v:= .ty m) gl2 mg2 bt2 rfl hn2 hd2) zD hs4) (by rw[hs3,hs4]))) zD hs2) (by rw[hs,hs2])) (by decide) (by decide) (by rw[hs,hs2]) hz) λσ H Q ⟨B,I,q⟩=>
  step I q λt v H1 _ s1 r1 I1 q1=>⟨Zf (by show 2<=bnd;decide),λp hp=>⟨v,p,n,m,t,_,rfl,zl,(r1.mono I1.sB).mono (zm.new hp _),xW (hk t) (hk' t),q1 _ _ (zm.new hp _) (.bl _)⟩⟩
def asgS (fa:En->R T)(g:T->En->R En):En->RS:=λρ=>(fa ρ).s λt=>match g t ρ with
 | .ok ρ' => .nx ρ'
 | _=> .bad
theorem KU {tg:Expr}{fa:En->R T}{g:T->En->R En}(ha:Snd X Y a fa)(hg:Ko X Y tg g)(hs:swapsWithSole [tg] a pos.line X.env=pure false:=by rfl)(hw:swappedStores [tg] a X.env=pure none:=by rfl)
  (h1:(assignEach [tg] X.env).map (·.2)=[assign tg X.env]:=by rfl):JF X Y (.Assign [tg] a pos) (asgS fa g):= .mk λρ=>by
 obtain⟨tt,hp,hr⟩:=hg;refine PS.imp (kz (ha ρ) hp hs hw h1) λD σ H ⟨B,I,q⟩=>jj I q λt v H1 _ s1 r1 I1 q1=>hr _ _ _ _ _ _ _ I1 r1 ?_;cases h:g t ρ with
 | ok ρ' =>
  rw[h]at q1;exact λσ' I' =>q1 _ _ _ (zm.refl _) I'
 | ex c=>rw[h]at q1;exact q1.elim
 | bad=>rw[h]at q1;exact q1.elim
end
end PV
namespace PV
open PySem PySem.Spec PyProof.Rows L2
noncomputable def max2T (t t' :T):R T:=match t,t' with
 | .int i,.int j=> .ok (.int (if j > i then j else i))
 | _,_=> .bad
noncomputable def GU:T->R T
 | .int i=> .ok (.int (if i < 0 then -i else i))
 | _=> .bad
section
variable {X:Cx}{Y:Fx}{a b:Expr}{fa fb:En->R T}{pos p p' pos' pt:Pos}{elts:List Expr}{kk:Nat}
theorem z1B (gl:Gl X "abs")(mg:X.mg "abs"=none)(ha:jh X Y a fa)(hs:St1 X a:=by exact st1 rfl):Snd X Y (.Call (.Name "abs" p) [a] [] pos) (ap1 GU fa):=
 Wk Qk (λv t B H Q r sB q=>by
  cases r with
  | int i=>exact⟨i,rfl,po0 sB q rfl (.int _)⟩
  | _=>exact q.elim) gl mg PyProof.Rows.Boot.«abs» ha hs
end
noncomputable def jA:List T->Option (List (Str×Int))
 | []=>some []
 | .tup [.str x,.int i] :: r=>match jA r with | some l=>some ((x,i) :: l) | none=>none
 | _ :: _=>none
def Yb (t k:T):R T:=match t,k with
 | .tup ts,.str x=>match jA ts with
  | some l=>if (l.map (·.1)).Nodup then (match l.lookup x with | some i=> .ok (.int i) | none=> .bad) else .bad
  | none=> .bad
 | _,_=> .bad
def Wq:T->R T
 | .tup ts=>match jA ts with
  | some l=>if (l.map (·.1)).Nodup then .ok (.int (l.map (·.2)).sum) else .bad
  | none=> .bad
 | _=> .bad
def QW (j:Nat)(fa:En->R T)(g:List T->R T):En->RS:=λρ=>((fa ρ).bind λt=>(vE j ρ).bind λk=>(Yb t k).bind λx=>(Wq t).bind λy=>g [x,y]).s λt=> .rt t
noncomputable def k3:T->T->R T
 | .int i,.int j=>if 0 < j/\j.natAbs.log2 < 9000 then .ok (.int (i / j)) else .bad
 | _,_=> .bad
section
variable {X:Cx}{Y:Fx}{a b:Expr}{fa fb:En->R T}{pos:Pos}
theorem KW:OpR X (binaryOp .FloorDiv) (L2.rI (λ_ j=>0 < j/\j.natAbs.log2 < 9000) λi j=> .int (i / j)):=opI λi j _ _ _ _ _ hc q=>by
 exact floordiv_int (by omega) (by rw[ff i (by omega)];exact q) (.inl (PyProof.noPylong_of_log2 hc.2))
theorem xX:OpR X (binaryOp .FloorDiv) (rG Y k3):=by
 intro pins s σ H x y v u Q I rx ry h;obtain⟨B,t,t',sB,r,r',q⟩:=h;cases r with
 | int i=>
  cases r' with
  | int j=>
   by_cases hj:0 < j/\j.natAbs.log2 < 9000
   ·exact KW _ s σ H _ _ v u Q I rx ry ⟨i,j,rfl,rfl,hj,po0 sB q (if_pos hj) (.int _)⟩
   ·rw[show k3 (.int i) (.int j)= .bad from if_neg hj]at q;exact q.elim
  | _=>exact q.elim
 | _=>cases r' <;> exact q.elim
theorem z1C (ha:Snd X Y a fa)(hb:Snd X Y b fb):Snd X Y (.BinOp a .FloorDiv b pos) (zd k3 fa fb):=u7 xX ha hb
end
noncomputable def big:Nat:=2 ^ 8000
def mlT:T->T->R T
 | .int i,.int j=>if i.natAbs < big/\j.natAbs < big then .ok (.int (i*j)) else .bad
 | _,_=> .bad
theorem uQ {i:Int}(h:i.natAbs < big):ij i<=2 ^ 20:=by
 unfold ij;split
 ·exact aZ _
 ·rename_i h0;have h0:i.natAbs ≠ 0:=λz=>h0 (by rw[Int.natAbs_eq_zero.mp z];rfl)
  have h1:=(Nat.log2_lt h0).mpr h;omega
section
variable {X:Cx}{Y:Fx}{a b:Expr}{fa fb:En->R T}{pos:Pos}
theorem z1D:OpR X (binaryOp .Mult) (L2.rI (λi j=>i.natAbs < big/\j.natAbs < big) λi j=> .int (i*j)):=opI λi j _ _ _ _ _ hc q=>mul_int q (IntMulOk.of_bits (uQ hc.1) (uQ hc.2))
theorem KY:OpR X (binaryOp .Mult) (rG Y mlT):=by
 intro pins s σ H x y v u Q I rx ry h;obtain⟨B,t,t',sB,r,r',q⟩:=h;cases r with
 | int i=>
  cases r' with
  | int j=>
   by_cases hj:i.natAbs < big/\j.natAbs < big
   ·exact z1D _ s σ H _ _ v u Q I rx ry ⟨i,j,rfl,rfl,hj,po0 sB q (if_pos hj) (.int _)⟩
   ·rw[show mlT (.int i) (.int j)= .bad from if_neg hj]at q;exact q.elim
  | _=>exact q.elim
 | _=>cases r' <;> exact q.elim
theorem s_ml (ha:Snd X Y a fa)(hb:Snd X Y b fb):Snd X Y (.BinOp a .Mult b pos) (zd mlT fa fb):=u7 KY ha hb
end
theorem xY:typeLookup (.type "tuple") "keys"=pure none:=by rw[cV,builtinLookup_eq_fast];kernel_rfl
theorem xZ:typeLookup (.type "tuple") "__getattr__"=pure none:=by rw[cV,builtinLookup_eq_fast];kernel_rfl
section
variable {prog:Program}{w:World}{A:Around}{E:Value->Shared->Prop}{s:Shared}
theorem QX {l:Addr}{its:Array Value}{n:Nat}{sl:Array (Option Value)}{u:Tok}{Q:PySem.Fin->Shared->Prop}(hh:A.handled=none)(hl:s.heap.get? l=some { cls:= .type "tuple",dict:=none,data:= .seq its n,slots:=sl })
  (h:∀h' tk e,Heap.NewAttrErr s.heap h' e (.ref l) "keys"->E (.ref e) { s with heap:=h',toks:=tk }):
  wpAny (model prog w) A (Builtin.«object.__getattribute__» ⟨[.ref l,.str "keys" u],[]⟩) Q E s:=by
 obtain⟨hp,g,d,tk,os⟩:=s;have hT:(⟨hp,g,d,tk,os⟩:Shared).TypeIs (.ref l) "tuple":=⟨_,hl,rfl⟩;have f1:=xY;unfold Builtin.«object.__getattribute__»
 repeat (any_goals (first | assumption | wp_step))
 exact wpAny_raiseAttrError hh h (attrMsg_fits (by decide+kernel) (by decide+kernel))
end
section
variable {prog:Program}{w:World}{A:Around}{E:Value->Shared->Prop}{s:Shared}
theorem X0 {l:Addr}{its:Array Value}{n:Nat}{sl:Array (Option Value)}{u:Tok}{R:Result->Shared->Prop}(hh:A.handled=none)(hl:s.heap.get? l=some { cls:= .type "tuple",dict:=none,data:= .seq its n,slots:=sl })
  (h:∀h' tk e,Heap.NewAttrErr s.heap h' e (.ref l) "keys"->R (.error (.ref e)) { s with heap:=h',toks:=tk }):
  codeAny (model prog w) A (.call (.builtin "tuple.__getattribute__") ⟨[.ref l,.str "keys" u],[]⟩) R s:=
 codeAny_call_builtin cj.plain F.entry_tuple_ga (cj.check _ _ _ _ _ _ _ _ (show s.TypeIs _ _ from ⟨_,hl,rfl⟩) (F.args_tuple_getattribute_2 _ _) (QX hh hl h))
theorem X1 {l:Addr}{its:Array Value}{n:Nat}{sl:Array (Option Value)}{Q:Option Value->Shared->Prop}(hh:A.handled=none)(hl:s.heap.get? l=some { cls:= .type "tuple",dict:=none,data:= .seq its n,slots:=sl })
  (h:∀h' tk,(∀b o,s.heap.get? b=some o->h'.get? b=some o)->Q none { s with heap:=h',toks:=tk }):
  wpAny (model prog w) A (getAttr? (.ref l) "keys") Q E s:=by
 obtain⟨hp,g,d,tk,os⟩:=s;have hT:∀t,(⟨hp,g,d,t,os⟩:Shared).TypeIs (.ref l) "tuple":=λ_=>⟨_,hl,rfl⟩;have f1:=sub_AttributeError;have f2:=cj.lookup;have f3:=cj.bind (.ref l);have f5:=xZ;unfold getAttr? getAttrBy? getAttrBy
 repeat (any_goals (first | assumption | exact hT _ | wp_step))
 refine X0 (s:=⟨hp,g,d,tk+1,os⟩) hh hl λh' tk' e hx=> ?_;obtain⟨t',u',he⟩:=hx.there;have hE:(⟨h',g,d,tk',os⟩:Shared).TypeIs (.ref e) "AttributeError":=⟨_,he,rfl⟩;show wpAny _ _ (getattributeRaised _ _ _ _ _ _ _) _ _ _;unfold getattributeRaised
 repeat (any_goals (first | assumption | wp_step))
 exact h _ _ hx.keeps
end
noncomputable def Z7 (h:Heap)(its:List Value)(ps:List (Str×Int)):Prop:=Paired (λv (p:Str×Int)=>∃a t u n ob,v=Value.ref a/\h.get? a=some ob/\ob.cls= .type "tuple"/\ob.data= .seq #[.str p.1 t,.int p.2 u] n) its ps
theorem Z7.keep {h h' :Heap}{its:List Value}{ps:List (Str×Int)}(x:Z7 h its ps)(k:∀b o,h.get? b=some o->h'.get? b=some o):Z7 h' its ps:=
 Paired.mapP x λv p ⟨a,t,u,n,ob,e1,e2,e3⟩=>⟨a,t,u,n,ob,e1,k _ _ e2,e3⟩
theorem Z7.off {h h' :Heap}{D I:Addr}(k:∀b o,b ≠ D->b ≠ I->h.get? b=some o->h'.get? b=some o):∀{its:List Value} {ps:List (Str×Int)},Z7 h its ps->(∀v a,v∈its->v=Value.ref a->a ≠ D/\a ≠ I)->Z7 h' its ps
 | _,_,.nil,_=> .nil
 | _,_,.cons r q,ha=>by
  obtain⟨a,t,u,n,ob,e1,e2,e3⟩:=r;obtain⟨n1,n2⟩:=ha _ a ab e1;exact .cons ⟨a,t,u,n,ob,e1,k _ _ n1 n2 e2,e3⟩ (Z7.off k q λv b hv=>ha v b (a9 _ hv))
def KVs (kvs:List (Key×Value))(ps:List (Str×Int)):Prop:=Paired (λ(q:Key×Value) (p:Str×Int)=>q.1=Sum.inr p.1/\∃t,q.2=Value.int p.2 t) kvs ps
theorem KVs.snoc:∀{kvs:List (Key×Value)} {ps:List (Str×Int)} {x:Str} {i:Int} {t:Tok},KVs kvs ps->KVs (kvs++[(Sum.inr x,.int i t)]) (ps++[(x,i)])
 | _,_,x,i,t,.nil=> .cons ⟨rfl,t,rfl⟩ .nil
 | _,_,x,i,t,.cons r q=> .cons r (KVs.snoc q)
theorem KVs.keys:∀{kvs:List (Key×Value)} {ps:List (Str×Int)},KVs kvs ps->kvs.map (·.1)=ps.map λp=>(Sum.inr p.1:Key)
 | _,_,.nil=>rfl
 | _,_,.cons r q=>by rw[aq,aq,r.1,KVs.keys q]
theorem KVs.len {kvs:List (Key×Value)}{ps:List (Str×Int)}(h:KVs kvs ps):kvs.length=ps.length:=by
 have:=congrArg ll h.keys;simpa using this
theorem UH {kvs:List (Key×Value)}{k:Key}{v:Value}(h:k ∉ kvs.map (·.1)):stored kvs k v=kvs++[(k,v)]:=by
 unfold stored;rw[if_neg];intro z;rw[eG]at z;obtain⟨q,hq,e⟩:=z;exact h (av.mpr ⟨q,hq,of_decide_eq_true e⟩)
section
variable {prog:Program}{w:World}{A:Around}{R:Result->Shared->Prop}{I:Addr}{fp wr:List Addr}{n:Nat}{P:Nat->Value->Prop}{St:Nat->Heap->Prop}
theorem uR:entryFor table "dict.update.loop"=some Builtin.«dict.update.loop»:=entryFor_of_tree (by kernel_rfl)
theorem uS:plainId "dict.update.loop"=true:=by decide+kernel
theorem jB {α β:Type}{F:α->β->Prop}:∀{xs:List α} {ys:List β} {i:Nat} {y:β},Paired F xs ys->ys[i]? =some y->∃x,xs[i]? =some x/\F x y
 | _,_,_,_,.nil,h=>by simp at h
 | _,_,0,y,.cons r _,h=>by simp at h;subst h;exact⟨_,rfl,r⟩
 | _,_,i+1,y,.cons _ q,h=>by
  obtain⟨x,e,r⟩:=jB q (by simpa using h)
  exact⟨x,by simpa using e,r⟩
theorem w4 {α β:Type}{F:α->β->Prop}:∀{xs:List α} {ys:List β},Paired F xs ys->xs.length=ys.length
 | _,_,.nil=>rfl
 | _,_,.cons _ q=>by simp[w4 q]
theorem Yc {l:Addr}{its:List Value}{ps:List (Str×Int)}(hh:A.handled=none)(I D:Addr)(hlI:l ≠ I)(hD:D ≠ I)(hDl:D ≠ l)(nd:(ps.map (·.1)).Nodup)(hps:ps.length<=sizeLine)(kw:Value):
  ∀(m i:Nat) (s:Shared) (kvs:List (Key×Value)) (tk0:Tok),ps.length - i=m->i<=ps.length->s.heap.IsTupleIter I l i->s.heap.IsTuple l its.toArray->Z7 s.heap its ps->(∀v a,v∈its->v=Value.ref a->a ≠ D/\a ≠ I)->
   s.heap.DictOf (zX prog w) D kvs->KVs kvs (ps.take i)->
   (∀h' tk kvs',(∀b o,b ≠ D->b ≠ I->s.heap.get? b=some o->h'.get? b=some o)->h'.DictOf (zX prog w) D kvs' ->KVs kvs' ps->R (.ok (.ret kw)) { s with heap:=h',toks:=tk })->
   codeAny (model prog w) A (.builtin "dict.update.loop" ⟨[.ref D,.ref I,.int (i:Int) tk0,kw],[]⟩) R s:=by
 intro m
 induction m with
 | zero=>
  intro i s kvs tk0 hm hi hit ht hp ha hd hk hR;obtain rfl:i=ps.length:=by omega
  refine bz uR ?_;unfold Builtin.«dict.update.loop»;dsimp only;have hl:=w4 hp;refine a8 (wpAny_pyNext_tuple_end hh hit ht (by simp[hl]) λh' he=> ?_)
  rw[List.take_length]at hk;refine a8 (br (a:=()) rfl (ac ?_));exact hR h' s.toks kvs (λb o _ hb e=>he b o hb e) (hd.extBut he hD) hk
 | succ m ih=>
  intro i s kvs tk0 hm hi hit ht hp ha hd hk hR;refine bz uR ?_;unfold Builtin.«dict.update.loop»;dsimp only;have hi' :i < ps.length:=by omega
  have ei:=aj hi';obtain⟨v,ev,a,t,u,n,ob,rfl,ga,ca,da⟩:=jB hp ei;refine a8 (wpAny_pyNext_tuple_item hit ht (x:= .ref a) (by simpa using ev) λh1 hit1 sb=> ?_)
  obtain⟨naD,naI⟩:=ha _ a (bK ev) rfl;have ga1:=(sb.2 a naI).trans ga;have hd1:=hd.sameBut sb hD;have hTa:eK { s with heap:=h1 } (.ref a) "tuple":=⟨_,ga1,ca⟩;refine a8 (bI (a8 (wpAny_tryCatch ?_)));refine a8 (cz hTa ?_);refine a8 (bV ga1 da (ac ?_));have hnew:(Sum.inr ps[i].1) ∉ kvs.map (·.1):=by
   rw[hk.keys];intro z;obtain⟨p,hp',e⟩:=av.mp z;have e:p.1=ps[i].1:=by injection e
   obtain⟨j,hj,ej⟩:=eP.mp hp';rw[cK]at hj;rw[iS]at ej;have hji:j < i:=by omega
   have:=(bN.mp nd) j i (by rw[ae];omega) (by rw[ae];exact hi') hji
   rw[lf,lf]at this;exact this (by rw[ej,e])
  have hz:kvs.length<=sizeLine:=by rw[hk.len,cK];exact ar (Nat.min_le_right _ _) hps
  refine bI (wpAny_dictSet_pairs (j6 _ _ _ _) hd1 λh2 hd2 sb2=> ?_);rw[UH hnew]at hd2;refine ac ⟨bS uS _, ?_⟩;have hk2:KVs (kvs++[(Sum.inr ps[i].1,.int ps[i].2 u)]) (ps.take (i+1)):=by
   rw[List.take_succ,ei];exact hk.snoc
  have k12:∀b o,b ≠ D->b ≠ I->s.heap.get? b=some o->h2.get? b=some o:=λb o n1 n2 e=>(sb2.2 b n1).trans ((sb.2 b n2).trans e);have:=ih _ { s with heap:=h2,toks:=s.toks+1 } _ 0 (by omega) (by omega) (hit1.extBut sb2.extBut (b8 hD)) (iN.at ht λo e=>k12 l o (b8 hDl) hlI e) ?_ ha hd2 hk2 (λh' tk kvs' k' d' q' =>hR h' tk _ (λb o n1 n2 e=>k' b o n1 n2 (k12 b o n1 n2 e)) d' q')
  ·exact this
  ·exact hp.off k12 ha
end
theorem Z7.mem {h:Heap}:∀{its:List Value} {ps:List (Str×Int)},Z7 h its ps->∀{v:Value} {a:Addr},v∈its->v=Value.ref a->∃o,h.get? a=some o
 | _,_,.nil,_,_,hv,_=>by simp at hv
 | _,_,.cons r q,v,a,hv,e=>by
  rcases ao.mp hv with z | hv
  ·obtain⟨b,t,u,n,ob,e1,e2,_⟩:=r;subst z;rw[e]at e1;cases e1;exact⟨_,e2⟩
  ·exact Z7.mem q hv e
section
variable {prog:Program}{w:World}{A:Around}{E:Value->Shared->Prop}{s:Shared}
theorem Yd {l:Addr}{its:List Value}{ps:List (Str×Int)}{n:Nat}{sl:Array (Option Value)}{Q:Value->Shared->Prop}(hh:A.handled=none)(hl:s.heap.get? l=some { cls:= .type "tuple",dict:=none,data:= .seq its.toArray n,slots:=sl })
  (hp:Z7 s.heap its ps) (nd:(ps.map (·.1)).Nodup) (hps:ps.length<=sizeLine)
  (h:∀h' tk kvs,(∀b o,s.heap.get? b=some o->h'.get? b=some o)->h'.DictOf (zX prog w) s.heap.objs.size kvs->KVs kvs ps->Q (.ref s.heap.objs.size) { s with heap:=h',toks:=tk }):
  wpAny (model prog w) A (call (.type "dict") [.ref l]) Q E s:=by
 refine callType_codes (Q₁:=λobj s₁=>obj= .ref _/\s₁={ s with heap:=s.heap.push _ }) F.kt_called_dict (F.kt_typeCall_dict_1 _) F.entry_dict_init (kt_code_dict_new _ ⟨rfl,rfl⟩) ?_
 rintro obj s₁ ⟨rfl,rfl⟩
 generalize hG:s.heap.push _=G;have hnew:G.DictOf (zX prog w) s.heap.objs.size []:=by rw[← hG];exact Heap.DictOf.new _
 have gk:∀b o,s.heap.get? b=some o->G.get? b=some o:=λb o e=>by rw[← hG];exact aa _ e
 have gl:=gk _ _ hl;have hlt:=am hl;have hT:eK { s with heap:=G } (.ref l) _:=⟨_,gl,rfl⟩;refine⟨hnew.typeIs,F.args_dict_init_2 _ _, ?_⟩;refine a8 ?_;refine a8 (wpAny_notOrdered_dict hnew.typeIs ?_);refine ac ?_;refine a8 (cz hT ?_);refine a8 (X1 hh gl λh1 tk1 k1=> ?_);refine a8 (ce ?_);have gl1:=k1 _ _ gl;have hL1:h1.IsTuple l _:=⟨_,gl1,rfl,n,rfl⟩;refine a8 (cf hL1 ?_);generalize hG2:h1.push _=G2;have D0:s.heap.objs.size < h1.objs.size:=by
  obtain⟨o,_,_,e,_⟩:=id hnew;exact am (k1 _ _ e)
 have k2:∀b o,h1.get? b=some o->G2.get? b=some o:=λb o e=>by rw[← hG2];exact aa _ e
 have gi:G2.get? h1.objs.size=some { cls:= .type "tuple_iterator",data:= .fields #[.ref l,.int 0 0] }:=by rw[← hG2];exact af _ rfl
 have hd2:G2.DictOf (zX prog w) s.heap.objs.size []:=by
  obtain⟨o,es,ep,e,r⟩:=hnew;exact⟨o,es,ep,k2 _ _ (k1 _ _ e),r⟩
 refine ac ⟨bS uS _, ?_⟩;refine Yc (A:=A.in1) hh _ _ (aD (f8 hlt D0)) (aD D0) (cy hlt) nd hps _ _ 0 _ [] 0 rfl (aZ _) ⟨_,gi,rfl,rfl⟩ ⟨_,k2 _ _ gl1,rfl,n,rfl⟩ (hp.keep λb o e=>k2 b o (k1 b o (gk b o e))) (λv a hv e=> ?_) hd2 .nil λh' tk kvs kk dd qq=> ?_
 ·obtain⟨o,eo⟩:=hp.mem hv e;have:=am eo;exact⟨aD this,aD (f8 this D0)⟩
 ·refine⟨rfl,h h' tk kvs (λb o e=>kk b o (aD (am e)) (aD (f8 (am e) D0)) (k2 b o (k1 b o (gk b o e)))) dd qq⟩
end
abbrev kvV (ps:List (Str×Int)):List (Key×V):=ps.map λp=>(Sum.inr p.1,V.int p.2)
theorem KZ:∀{kvs:List (Key×Value)} {ps:List (Str×Int)},KVs kvs ps->KV (kvV ps) kvs
 | _,_,.nil=> .nil
 | _,_,.cons r q=>by
  obtain⟨e,t,e2⟩:=r;exact .cons ⟨e.symm,⟨t,e2⟩⟩ (KZ q)
theorem Ye:∀{ps:List (Str×Int)} {kvs:List (Key×Value)},KV (kvV ps) kvs->KVs kvs ps
 | [],_,.nil=> .nil
 | p :: ps,_,.cons r q=>by
  obtain⟨e,t,e2⟩:=r;exact .cons ⟨e.symm,t,e2⟩ (Ye q)
theorem Vd:∀{kvs:List (Key×Value)} {ps:List (Str×Int)} {x:Str} {i:Int},KVs kvs ps->ps.lookup x=some i->∃t,valueAt kvs (Sum.inr x)=some (.int i t)
 | _,_,x,i,.nil,h=>by simp at h
 | _,_,x,i,.cons (b:=p) r rs,h=>by
  obtain⟨e,t,e2⟩:=r;rw[aO]at h
  by_cases hx:x=p.1
  ·have:(x == p.1)=true:=by simp[hx]
   rw[this]at h;cases h;unfold valueAt;rw[cW,show decide _=true from decide_eq_true (by rw[e,hx])]
   simp[e2]
  ·have:=beq_eq_false_iff_ne.mpr hx;rw[this]at h;obtain⟨t',h'⟩:=Vd rs h;refine⟨t', ?_⟩;unfold valueAt at h' ⊢;rw[cW,show decide _=false from decide_eq_false (by rw[e];intro z;injection z with z;exact hx z.symm)]
   exact h'
theorem Yf {t:T}{ts:List T}{ps:List (Str×Int)}(h:jA (t :: ts)=some ps):∃x i l,t= .tup [.str x,.int i]/\jA ts=some l/\ps=(x,i) :: l:=by
 unfold jA at h;split at h
 ·rename_i e;cases e
 ·rename_i x i r e;injection e with e1 e2;subst e1 e2;split at h
  ·rename_i l el;cases h;exact⟨x,i,l,rfl,el,rfl⟩
  ·cases h
 ·cases h
theorem Yg:∀{ts:List T} {ps:List (Str×Int)},jA ts=some ps->ps.length=ts.length
 | [],_,h=>by cases h;rfl
 | t :: ts,ps,h=>by
  obtain⟨x,i,l,rfl,el,rfl⟩:=Yf h;simp[Yg el]
theorem z1E {H:Hp}{ys:List V}{x:Str}{i:Int}(h:zr H ys [.str x,.int i]):ys=[.str x,.int i]:=by
 cases h with
 | cons r1 h=>
  cases r1;cases h with
  | cons r2 h=>
   cases r2;cases h;rfl
theorem X2 {x:Str}{i:Int}{its:List Value}(h:Vals [V.str x,V.int i] its):∃t u,its=[.str x t,.int i u]:=by
 obtain⟨u1,u2,rfl,⟨t1,rfl⟩,⟨t2,rfl⟩⟩:=Uw h;exact⟨t1,t2,rfl⟩
theorem QY {X:Cx}{pins:List (Addr×Obj)}{σ:L2.St}{H:Hp}{s:Shared}(I:Inv X pins σ H s){v:V}{u:Value}{x:Str}{i:Int}(r:Rep H v (.tup [.str x,.int i]))(rv:RelV v u):
  ∃a t u' n ob,u=Value.ref a/\s.heap.get? a=some ob/\ob.cls= .type "tuple"/\ob.data= .seq #[.str x t,.int i u'] n:=by
 cases r with
 | @tup a ys _ ha ry=>
  obtain rfl:u=Value.ref a:=rv;have hy:=z1E ry;subst hy;obtain⟨_,its',rv',⟨ob,e1,e2,n,e3⟩,_⟩:=(show zN _ X.w H _ a _ from I.hok a _ ha);obtain⟨t1,t2,rfl⟩:=X2 rv';exact⟨a,t1,t2,n,ob,rfl,e1,e2,e3⟩
theorem uT {X:Cx}{pins:List (Addr×Obj)}{σ:L2.St}{H:Hp}{s:Shared}(I:Inv X pins σ H s):∀{xs:List V} {ts:List T} {its:List Value} {ps:List (Str×Int)},zr H xs ts->Vals xs its->jA ts=some ps->Z7 s.heap its ps/\∀(i:Int) t,its[0]? ≠ some (Value.int i t)
 | _,_,_,ps,.nil,.nil,h=>by cases h;exact⟨.nil,λ_ _ z=>by simp at z⟩
 | _,_,_,ps,.cons r rs,.cons rv vs,h=>by
  obtain⟨x,i,l,rfl,el,rfl⟩:=Yf h;obtain⟨p1,_⟩:=uT I rs vs el;obtain⟨a,t1,t2,n,ob,rfl,e⟩:=QY I r rv;exact⟨.cons ⟨a,t1,t2,n,ob,rfl,e⟩ p1,λ_ _ z=>by simp at z⟩
section
variable {X:Cx}{Y:Fx}{a b:Expr}{fa fb:En->R T}{pos pos' p p' :Pos}
theorem g6 {pins:List (Addr×Obj)}{σ:L2.St}{H:Hp}{s:Shared}(I:Inv X pins σ H s):sysModules < s.heap.objs.size:=f8 (by decide) (I.mod.glob.keeps I.bk).lt
theorem UI (hh:X.A.handled=none):Za X (.type "dict") (λvs H Q=>∃l xs ts ps,vs=[.ref l]/\H l=some (.tup xs)/\zr H xs ts/\jA ts=some ps/\(ps.map (·.1)).Nodup/\
  ∀q,H q=none->Q (.ref q) (upd H q (.dK (kvV ps)))):=by
 intro pins s σ H vs us Q I rv h;obtain⟨l,xs,ts,ps,rfl,hl,r,ey,nd,q⟩:=h;obtain⟨u,rfl,ru⟩:=Zr rv;obtain rfl:u=Value.ref l:=ru;obtain⟨hz,its,rv,⟨⟨c,dd,da,sl⟩,ho,hc,n,hd⟩,hno⟩:=(show zN _ X.w H _ l _ from I.hok l _ hl);subst hc hd;obtain⟨pa,ni⟩:=uT I r rv ey;have hb:ps.length<=sizeLine:=by rw[Yg ey,← r.length];exact hz
 have hdn:dd=none:=by
  rcases hno with ⟨i,t,e⟩ | ⟨o,e1,e2⟩
  ·exact absurd (by simpa using e) (ni i t)
  ·rw[ho]at e1;cases e1;exact e2
 subst hdn;refine Yd hh ho pa nd hb λh' tk kvs k dd qq=> ?_;refine⟨.ref _,_,I.laid k (ak _) ?_,rfl,q _ (I.hok.fresh (ak _))⟩;exact⟨by rw[ae];exact hb,beq_eq_false_iff_ne.mpr (b8 (aD (g6 I))),kvs,KZ qq,dd⟩
theorem g9:IxR X (λx y H Q=>∃a ps k i,x= .ref a/\y= .str k/\H a=some (.dK (kvV ps))/\ps.lookup k=some i/\Q (.int i) H):=by
 intro value slice pins s σ H x y v u Q I rx ry h hs;obtain⟨p,ps,k,i,rfl,rfl,hp,he,q⟩:=h;cases rx;obtain⟨t,rfl⟩:=ry;obtain⟨hz,hS,vs,r,m⟩:=(show zN _ X.w H _ p _ from I.hok p _ hp);obtain⟨t',e⟩:=Vd (Ye r) he;exact tail_any m.typeIs slot_dict_getitem.lookup (wpAny_getItem_of (j6 _ _ _ _) m.mapOf e ⟨.int i,H,I.tok _,⟨_,rfl⟩,q⟩) hs
theorem Yh:MtR X "dict.values" (λx xs H Q=>∃a ps,x= .ref a/\xs=[]/\H a=some (.dK (kvV ps))/\∀r,H r=none->Q (.ref r) (upd H r (.ext λh=>h.IsValuesView r a))):=by
 intro pins s σ H x xs v0 us Q I rx rv h;obtain⟨a,ps,rfl,rfl,ha,q⟩:=h;obtain rfl:v0=Value.ref a:=rx;cases rv;obtain⟨hz,hS,vs,r,m⟩:=(show zN _ X.w H _ a _ from I.hok a _ ha);refine call_meetsIn fN m.typeIs PySem.F.entry_dict_values (PySem.F.args_dict_values_1 _) (meets_dict_values _ a hS) ⟨⟨vs,m⟩, ?_⟩;have hle:s.heap.objs.size<=s.heap.objs.size:=ak _;refine⟨.ref _,_,I.laid (λb o e=>aa _ e) hle ?_,rfl,q _ (I.hok.fresh hle)⟩;exact⟨⟨_,af _ rfl,rfl,rfl⟩,⟨_,af _ rfl⟩,λh1 h2 ⟨o,e1,e2⟩ e=>⟨o,e _ e1,e2⟩⟩
theorem Yi (val:Nat->Int):∀n:Nat,preSum val n=((aY n).map val).sum
 | 0=>rfl
 | n+1=>by
  rw[hZ,cx,ly,← Yi val n];simp[preSum]
theorem Yj (hh:X.A.handled=none):Za X (.builtin "sum") (λvs H Q=>∃r φ a ps,vs=[.ref r]/\H r=some (.ext φ)/\(∀h:Heap,φ h->h.IsValuesView r a)/\H a=some (.dK (kvV ps))/\Q (.int (ps.map (·.2)).sum) H):=by
 intro pins s σ H vs us Q I rv h;obtain⟨r,φ,a,ps,rfl,hr,hφ,ha,q⟩:=h;obtain⟨u,rfl,ru⟩:=Zr rv;obtain rfl:u=Value.ref r:=ru;obtain⟨h1,_,_⟩:=(show zN _ X.w H _ r _ from I.hok r _ hr);obtain⟨hz,hS,vs,rr,m⟩:=(show zN _ X.w H _ a _ from I.hok a _ ha);obtain⟨ep,hat⟩:=m.dictAt;have hk:=Ye rr;have K:=PySem.W.kdl_values (prog:=X.prog) (knd:=zX _ X.w) (r:=r) (d:=a) (kvs:=vs) (ep:=ep);refine call_sum_walkAnyS ?_;obtain⟨oI,St,hit,W,st⟩:=K.iter X.A.in1 s hh ⟨hφ _ h1,hat⟩;refine hit _ _ ⟨s.heap.objs.size,_,_,_,_,_,_,λi=>((ps[i]?).map (·.2)).getD 0,rfl,W.toS,st,λb hb=> ?_,λi v hv=> ?_,λs' t' hm=> ?_⟩
 ·rw[size_push'];rcases ao.mp hb with e | hb
  ·rw[e];exact eD _
  ·rw[au.mp hb];exact cB (I.hok.lt ha)
 ·obtain⟨k,hv⟩:=hv;have hi:i < ps.length:=by rw[← hk.len];exact(aw.mp hv).1
  obtain⟨q',e1,e2,t,e3⟩:=jB hk (aj hi);rw[hv]at e1;cases e1;exact⟨t,by dsimp only;rw[aj hi];exact e3⟩
 ·have kp:=λb o e=>
   hm.heap b o (λz=>absurd (am e) (by rw[au.mp z];exact bi _)) (aa _ e)
  rw[Moved.eq_with hm];have es:preSum (λi=>((ps[i]?).map (·.2)).getD 0) vs.length=(ps.map (·.2)).sum:=by
   rw[Yi,hk.len];congr 1
   refine dQ λi=> ?_;rw[ax,ax]
   by_cases hi:i < ps.length
   ·simp[hi]
   ·rw[aV (by simp;omega),aV (by omega)];rfl
  rw[es];exact⟨.int _,H,I.kept kp,⟨_,rfl⟩,q⟩
end
theorem X3 {t k v:T}(h:Yb t k= .ok v):∃ts ps x i,t= .tup ts/\k= .str x/\jA ts=some ps/\(ps.map (·.1)).Nodup/\ps.lookup x=some i/\v= .int i:=by
 unfold Yb at h;split at h
 ·rename_i ts x;split at h
  ·rename_i l e;split at h
   ·rename_i nd;split at h
    ·rename_i i ei;cases h;exact⟨ts,l,x,i,rfl,rfl,e,nd,ei,rfl⟩
    ·cases h
   ·cases h
  ·cases h
 ·cases h
theorem Yk (t k:T):(∃v,Yb t k= .ok v)\/Yb t k= .bad:=by
 unfold Yb;split
 ·split
  ·split
   ·split
    ·exact .inl ⟨_,rfl⟩
    ·exact .inr rfl
   ·exact .inr rfl
  ·exact .inr rfl
 ·exact .inr rfl
section
variable {X:Cx}{Y:Fx}{a:Expr}{fa:En->R T}{pos pos' p p' :Pos}
theorem QZ {t:T}{ts:List T}{ps:List (Str×Int)}(ht:t= .tup ts)(e:jA ts=some ps)(nd:(ps.map (·.1)).Nodup):Wq t= .ok (.int (ps.map (·.2)).sum):=by
 subst ht;unfold Wq;dsimp only;rw[e];dsimp only;rw[if_pos nd]
theorem X4 {i j k jf:Nat}{x y f:Str}{fo:Addr}{fd:FuncData}{ps:List Str}{g:List T->R T}{cl:Nat->Value}{p1 p2 p3 p4 p5 p6 p7 p8 p9 pa pb pc pd:Pos}(hij:i ≠ j)(hy:Y.cl=cl)(F:W7 X.prog X.w X.K X.mg X.base CX0 jf fo fd ps (spP cl 2 g))(hr:jR k X.A)(hjf:jf<=k)(gf:Gl X f)
  (mf:X.mg f=some (.ref fo)) (kp:cJ X.K (.ref fo)=true) (bd:L2.Binds X.K fd ps []) (hN:X.N.Nodup) (hi:X.N[i]? =some x) (hx:L2.Loc X.env.scope x) (gl:Gl X "dict") (mg:X.mg "dict"=none) (gs:Gl X "sum") (ms:X.mg "sum"=none)
  (pi:PE X (.Name x p3) (W3 i)) (pj:PE X (.Name y p4) (W3 j)) (ha:Snd X Y a fa) (pi' :PE X (.Name x p5) (W3 i):=by exact JP (by rfl) (by rfl)) (hs:St1 X a:=by exact st1 rfl)
  (hsw:swapsWith (.Call (.Name "dict" p2) [a] [] pa) (some (.Name x p1)) pb.line X.env=pure false:=by rfl) (hf:X.fn x=true\/X.env.scope.names.lookup x=some .local:=by first | exact .inl rfl | exact .inr rfl | assumption) (hd:(f == ("__debug__":Str))=false:=by decide)
  (hb:attributeBase (.Name x p5) "values" X.env (eval (.Name x p5) X.env)=eval (.Name x p5) X.env:=by rfl) (hli:(p6.endLine == p7.line)=true:=by rfl):
  WX X Y [.Assign [.Name x p1] (.Call (.Name "dict" p2) [a] [] pa) pb,.Return (some (.Call (.Name f p8) [.Subscript (.Name x p3) (.Name y p4) p9,.Call (.Name "sum" pc) [.Call (.Attribute (.Name x p5) "values" p6) [] [] p7] [] pd] [] pos)) pos'] (QW j fa g):= .mk λρ=>by
 subst hy;have hh:=hr.hd;have st2' :starEach [.Subscript (.Name x p3) (.Name y p4) p9,.Call (.Name "sum" pc) [.Call (.Attribute (.Name x p5) "values" p6) [] [] p7] [] pd] X.env=(false,eval _ X.env) :: starEach _ X.env:=zE rfl;have W:=(jd (JQ hN hi hx (ZI (UI hh) gl mg PyProof.Rows.Boot.«dict» (zj (ha ρ) zD hs) (by decide) (by decide) hs rfl) hsw hf)
  (Jh (W4 (pos:=pos') (Ji (E:=Y.E) (p:=p8) (pos:=pos) F (hr.mono hjf) gf mf kp bd .nil yV
   (zj (kN g9 pi pj (λ_ _=>rfl)) (zj (ZC (Yj hh) gs ms PyProof.Rows.Boot.«sum» (zj (kR fY fN PySem.F.type_dict_values Yh pi' hb hli) zD (st1 rfl)) (by decide) (by decide) (st1 rfl) rfl) zD (st1 rfl)) st2') hd st2' (Z0 rfl)))))
 intro pins s σ H D Iv ⟨B,I,q⟩;have hlen:i < σ.length:=by rw[Iv.len];exact(aw.mp hi).1
 refine W pins s σ H D Iv ?_;have q' :PoS Y B ((fa ρ).s λt=>(((vE j ρ).bind λk=>(Yb t k).bind λx=>(Wq t).bind λy=>g [x,y]).s λt=> .rt t)) D:=by
  have e:QW j fa g ρ=((fa ρ).s λt=>(((vE j ρ).bind λk=>(Yb t k).bind λx=>(Wq t).bind λy=>g [x,y]).s λt=> .rt t)):=by
   unfold QW;cases fa ρ <;> rfl
  rw[← e];exact q
 refine jj I q' λt v H1 _ s1 r1 I1 q1=> ?_;unfold vE at q1;split at q1
 ·rename_i kk e;obtain⟨u,eu,ru⟩:=I1.vl j kk e;have q1:PoS Y _ (((Yb t kk).bind λx=>(Wq t).bind λy=>g [x,y]).s λt=> .rt t) D:=q1;rcases Yk t kk with ⟨v',e'⟩ | e'
  ·obtain⟨ts,qs,z,m,rfl,rfl,e1,nd,ei,rfl⟩:=X3 e';rw[e']at q1;rw[QZ rfl e1 nd]at q1;have q1:PoS Y _ ((g _).s λt=> .rt t) D:=q1;cases r1 with
   | @tup l xs _ h r=>
    cases ru;refine⟨l,xs,ts,qs,rfl,I1.sB _ _ h,r.mono I1.sB,e1,nd,λw hw=> ?_⟩;have gi:(σ.set i (some (V.ref w)))[i]? =some (some (V.ref w)):=by rw[a_ hlen]
    have gj:(σ.set i (some (V.ref w)))[j]? =some (some (V.str z)):=by rw[aA hij];exact eu
    refine⟨_,gi,_,gj,w,qs,z,m,rfl,rfl,zl,ei, ?_⟩;refine⟨_,gi,.inr (.inr (.inl ⟨rfl,.inl ⟨_,zl⟩⟩)),w,qs,rfl,rfl,zl,λy hy=> ?_⟩;have hyw:y ≠ w:=λe=>by rw[e,zl]at hy;cases hy
    have hy1:=by rw[zf hyw]at hy;exact hy
    refine⟨y,_,w,qs,rfl,zl,λh z=>z,by rw[zf (b8 hyw)];exact zl, ?_⟩
    have s13:zm H1 (upd (upd H1 w (.dK (kvV qs))) y (.ext λh=>h.IsValuesView y w)):=λb o hb=>by
     have n1:b ≠ w:=λe=>by rw[e,hw]at hb;cases hb
     have n2:b ≠ y:=λe=>by rw[e,hy1]at hb;cases hb
     rw[zf n2,zf n1];exact hb
    have I3:=I1.grow s13;refine⟨_,[.int m,.int _],rfl,I3.sB,.cons (.int _) (.cons (.int _) .nil), ?_⟩;revert q1;cases g _ with
    | bad=>exact λq1=>q1
    | ex c=>exact λq1 d H' s sB=>q1 d H' (I3.sH.trans s) ((zB.ge I1.sB s13).trans sB)
    | ok t=>exact λq1 b H' s r=>q1 b H' (I3.sH.trans s) (r.mono (uH I3.sH I3.old s I3.sB))
  ·rw[e']at q1;exact q1.elim
 ·exact q1.elim
end
end PV
namespace PySem.RV
open PySem PySem.Spec PyProof.Rows PySem.Builtin.SmallTypes
theorem Wr:Slot "reversed" "__length_hint__" "reversed.__length_hint__":=
 .of (owner:="reversed") (n:="__length_hint__") (by kernel_rfl) (by decide+kernel) (by decide+kernel) (by decide+kernel)
  (by first | exact .inl (by decide+kernel) | exact .inr (by decide+kernel)) (by kernel_rfl)
theorem UJ:entryFor table "reversed.__length_hint__"=some Builtin.«reversed.__length_hint__»:=entryFor_of_tree (by kernel_rfl)
theorem Yl (a:Value):argsOk "reversed.__length_hint__" ⟨[a],[]⟩:=by
 unfold argsOk;rw[signature?_of (n:="__tnih_htgnel__".toList) (by kernel_rfl) wD];kernel_rfl
theorem v6:typeLookup (.type "reversed") "__len__"=pure none:=by rw[cV,builtinLookup_eq_fast];kernel_rfl
theorem X5:builtinKind "reversed.__length_hint__"=some .method:=by decide+kernel
theorem Ym (self:Value):bindSpecial (.builtin "reversed.__length_hint__") self=pure (.builtin "reversed.__length_hint__",[self]):=by
 have hop:withoutEnding? "reversed.__length_hint__" "#opaque"=none:=by decide+kernel
 have hdat:withoutEnding? "reversed.__length_hint__" "#data"=none:=by decide+kernel
 simp only[bindSpecial,typeOf,builtinType,hop,hdat,X5];rfl
theorem tup_at {h h' :Heap}{l:Addr}{xs:Array Value}(t:IsTup h l xs)(k:∀o,h.get? l=some o->h'.get? l=some o):IsTup h' l xs:=let ⟨o,e,r⟩:=t;⟨o,k o e,r⟩
section
variable {prog:Program}{w:World}{A:Around}{E:Value->Shared->Prop}{s:Shared}{I l:Addr}{xs:Array Value}
theorem X6 {Q:Bool->Shared->Prop}(hit:IsRv s.heap I (.ref l) ((xs.size:Int) - 1))(ht:IsTup s.heap l xs)(hz:xs.size<=sizeLine)
  (h:∀b tk,s.toks<=tk->Q b { s with toks:=tk }):wpAny (model prog w) A (Builtin.List.listLengthHint (.ref I)) Q E s:=by
 have hf:(xs.size:Int) < 2 ^ 63:=by rw[bC]at hz;omega
 have hT:=JL hit;refine a8 (bu hT v6 ?_);refine a8 (bu hT Wr.lookup ?_);generalize hid:("reversed.__length_hint__")=id0
 wp_delta
 subst hid;refine a8 (cb (b:=true) hT Va ?_);refine a8 (ce ?_);refine a8 (br (Ym _) ?_);dsimp only;refine a8 (cD (aN Wr hT UJ ?_ (Yl _)));refine a8 (br (a:=Value.ref I) rfl ?_);refine a8 (aS hit rfl (x:= .ref l) rfl ?_);refine a8 (len_tuple ht hf ?_);refine a8 (br rfl ?_);refine a8 (aS hit rfl (x:=rawInt _) rfl ?_);refine(show wpAny _ _ (if (xs.size:Int) < (xs.size:Int) - 1+1 then _ else retInt ((xs.size) - 1+1)) _ _ _ from ?_)
 rw[if_neg (by omega)]
 refine a8 (wpAny_mkInt ?_);refine ac ⟨_,rfl, ?_⟩;refine a8 (br rfl ?_);dsimp only;have e:(xs.size:Int) - 1+1=(xs.size):=by omega
 rw[e];have c1:fx (xs.size)=true:=by unfold fx;simp;omega
 have c2:bQ ((xs.size:Int)).toNat=false:=by unfold bQ;simp;omega
 rw[if_neg (by rw[c1];decide),if_neg (by omega),if_neg (by rw[c2];decide)]
 exact ac (h _ _ (ar (bT _) (ar (bT _) (bT _))))
theorem v7 (hh:A.handled=none)(hne:l ≠ I)(hz:xs.size<=sizeLine):Walks prog w A I [I,l] [I] xs.size (λi v=>xs[xs.size - 1 - i]? =some v) (λi h=>i<=xs.size/\IsRv h I (.ref l) ((xs.size:Int) - 1 - (i:Int))/\IsTup h l xs) where
 sub:=λb hb=>by simp at hb;simp[hb]
 frame:=λ_ _ _ x hk=>⟨x.1,hk I (by simp) _ x.2.1,tup_at x.2.2 λo e=>hk l (by simp) o e⟩
 item:=λi s Q E hi x hQ=>by
  have e:(xs.size:Int) - 1 - (i:Int)=((xs.size - 1 - i:Nat):Int):=by omega
  have hit:=x.2.1;rw[e]at hit;have hx:xs[xs.size - 1 - i]? =some (xs[xs.size - 1 - i]'(by omega)):=du (by omega)
  refine next_item hit x.2.2 (by rw[bC]at hz;omega) hx λh' tk hit' hs' => ?_
  have e2:((xs.size - 1 - i:Nat):Int) - 1=(xs.size:Int) - 1 - ((i+1:Nat):Int):=by omega
  rw[e2]at hit';exact hQ _ h' tk hx ⟨hi,hit',tup_at x.2.2 λo eo=>(hs'.2 l hne).trans eo⟩ λb o hb eo=>hs'.extBut b o (λh=>hb (by simp[h])) eo
 done:=λs Q E x hQ=>by
  have e:(xs.size:Int) - 1 - (xs.size:Int)= -1:=by omega
  have hit:=x.2.1;rw[e]at hit;exact next_end hh hit λh' he' =>hQ h' s.toks λb o hb eo=>he' b o (λh=>hb (by simp[h])) eo
 self:=λ_ _ _ _ x hQ=>iter_rv x.2.1 hQ
theorem UK {R:List Value->Shared->Prop}(hh:A.handled=none)(hit:IsRv s.heap I (.ref l) ((xs.size:Int) - 1))(ht:IsTup s.heap l xs)(hz:xs.size<=sizeLine)(hne:l ≠ I)
  (h:∀s' acc,Moved [I] (λa b=>b=a) s s' ->ItemsOf (λi v=>xs[xs.size - 1 - i]? =some v) acc xs.size->R acc.toList s'):wpAny (model prog w) A (collect (.ref I)) R E s:=by
 have W:=v7 (prog:=prog) (w:=w) (A:=A.in1) (I:=I) (l:=l) (xs:=xs) hh hne hz;have nI:=cy (am hit);have nl:=cy (let ⟨_,e,_⟩:=ht;am e);have nf:s.heap.objs.size ∉ [I,l]:=by simp[nI,nl]
 unfold collect;refine a8 (wpAny_runValue (bz h_ ?_));refine a8 (aQ (ac ⟨bS iO _,bz iP ?_⟩));generalize hG:s.heap.push _=G;have gk:∀b o,s.heap.get? b=some o->G.get? b=some o:=λb o e=>by rw[← hG];exact aa _ e
 have gL:G.get? s.heap.objs.size=some { cls:= .type "list",data:= .seq #[] }:=by rw[← hG];exact af _ rfl
 have gI:=gk _ _ hit;have gT:IsTup G l xs:=tup_at ht λo e=>gk _ _ e;have st:0<=xs.size/\IsRv G I (.ref l) ((xs.size:Int) - 1 - ((0:Nat):Int))/\IsTup G l xs:=⟨aZ _,by rw[show (xs.size:Int) - 1 - ((0:Nat):Int)=(xs.size:Int) - 1 by omega];exact gI,gT⟩
 have g2:cF (.ref s.heap.objs.size) (.ref I)=false:=by simp[cF,nI]
 refine(show wpAny _ A.in1 (f7 _ (.ref I) _) _ _ _ from ?_);refine a8 (cz (JL gI) ?_);rw[if_neg (by rw[g2];decide)]
 refine a8 (iter_rv gI (a8 (bI (X6 gI gT hz λb tk htk=> ?_))));have mv:∀s',Moved _ (λa b=>b=a) { s with heap:=G,toks:=tk } s' ->Moved [I] (λa b=>b=a) s s' :=λs' m=>⟨λb o hb e=>m.heap b o (λz=>by
  rcases ao.mp z with z | z
  ·exact absurd (am e) (by rw[z];exact bi _)
  ·exact hb z) (gk b o e),m.gens,m.drawn,m.os,ar htk m.toks⟩
 have fin:∀(h2:Heap) (c:Nat),(∀b o,b ≠ s.heap.objs.size->G.get? b=some o->h2.get? b=some o)->h2.get? s.heap.objs.size=some { cls:= .type "list",dict:=none,data:= .seq #[] c,slots:= #[] }->
   codeAny (model prog w) A (.builtin "list.extend.loop" ⟨[.ref s.heap.objs.size,.ref I,.ref s.heap.objs.size],[]⟩) (λq s' =>∃acc c',q= .ok (.ret (.ref s.heap.objs.size))/\Moved [I] (λa b=>b=a) s s' /\ItemsOf (λi v=>xs[xs.size - 1 - i]? =some v) acc xs.size/\s'.heap.get? s.heap.objs.size=some { cls:= .type "list",dict:=none,data:= .seq acc c',slots:= #[] }) { s with heap:=h2,toks:=tk }:=by
  intro h2 c k2 g3;refine codeAny_extend_loopS W.toS hz _ nf _ xs.size 0 _ #[] c rfl (aZ _) (W.frame 0 _ h2 st λb hb o e=>k2 b o (λz=>nf (z ▸ hb)) e) g3 (ItemsOf.nil _) λs' acc c' m gS ha=> ?_;exact⟨acc,c',rfl,mv s' ⟨λb o hb e=>m.heap b o hb (k2 b o (λz=>hb (by rw[z];exact ab)) e),m.gens,m.drawn,m.os,m.toks⟩,ha,gS⟩
 have done:∀(q:Result) (s' :Shared),(∃acc c',q= .ok (.ret (.ref s.heap.objs.size))/\Moved [I] (λa b=>b=a) s s' /\ItemsOf (λi v=>xs[xs.size - 1 - i]? =some v) acc xs.size/\s'.heap.get? s.heap.objs.size=some { cls:= .type "list",dict:=none,data:= .seq acc c',slots:= #[] })->q= .ok (.ret (.ref s.heap.objs.size))/\wpAny (model prog w) A (do
   let o ← load s.heap.objs.size
   match o.data with
   | .seq xs _=>pure xs.toList
   | _=>unsupported "internal:collect") R E s' :=by
  rintro q s' ⟨acc,c',rfl,m,ha,g⟩
  exact⟨rfl,a8 (wpAny_load g (ac (h s' acc m ha)))⟩
 cases b with
 | true=>
  refine a8 (ce (a8 ?_));have gL2:=d0 (cC (·.push Value.none)) gL rfl;refine a8 (wpAny_updateSeq gL rfl (wpAny_updateSeq gL2 rfl ?_));have gL3:=d0 (cC (·.pop)) gL2 rfl;refine ac ⟨bS f6 _,di (fin _ _ (λb o hb e=>(dO _ _ (b8 hb)).trans ((dO _ _ (b8 hb)).trans e)) gL3) λq s' x=> ?_⟩;obtain⟨rfl,y⟩:=done q s' x;exact y
 | false=>
  refine ac ⟨bS f6 _,di (fin _ _ (λb o _ e=>e) gL) λq s' x=> ?_⟩;obtain⟨rfl,y⟩:=done q s' x;exact y
theorem X7 {Q₁:Value->Shared->Prop}(hh:A.handled=none)(hit:IsRv s.heap I (.ref l) ((xs.size:Int) - 1))(ht:IsTup s.heap l xs)(hz:xs.size<=sizeLine)(hne:l ≠ I)
  (h:∀s' acc,Moved [I] (λa b=>b=a) s s' ->ItemsOf (λi v=>xs[xs.size - 1 - i]? =some v) acc xs.size->Q₁ (.ref s'.heap.objs.size) { s' with heap:=s'.heap.push { cls:= .type "tuple",data:= .seq acc } }):
  codeAny (model prog w) A (.call (.builtin "tuple.__new__") ⟨[.type "tuple",.ref I],[]⟩) (wants Q₁ E) s:=by
 refine codeAny_of_tree ?_;refine(show wpAny _ A.in1 (do checkBuiltinCall "tuple.__new__" ⟨[.type "tuple",.ref I],[]⟩;again (.builtin "tuple.__new__" ⟨[.type "tuple",.ref I],[]⟩)) _ _ s from ?_)
 refine a8 (br (iQ _) (ac ⟨bS dS _,bz iR ?_⟩));rw[ia dS _];have hsub:=sub_tuple_self;have hinit:=init_tuple_lookup;have hmh:=madeHere_tuple;have ty:=JL hit
 wp_walk using cz ty,UK (A:=A.in1) hh hit ht hz hne
 intro s' acc hm hacc;have e:acc.toList.toArray=acc:=by simp
 refine(show wpAny _ _ (cG acc.toList.toArray >>= λv=>ret v) _ _ _ from ?_);unfold cG;refine a8 (aQ (ac ?_) (by rw[e];show acc.size<=sizeLine;rw[hacc.1];exact hz))
 rw[e];exact h s' acc hm hacc
theorem tuple_rv {Q:Value->Shared->Prop}(hh:A.handled=none)(hit:IsRv s.heap I (.ref l) ((xs.size:Int) - 1))(ht:IsTup s.heap l xs)(hz:xs.size<=sizeLine)(hne:l ≠ I)
  (hQ:∀s' acc,Moved [I] (λa b=>b=a) s s' ->ItemsOf (λi v=>xs[xs.size - 1 - i]? =some v) acc xs.size->Q (.ref s'.heap.objs.size) { s' with heap:=s'.heap.push { cls:= .type "tuple",data:= .seq acc } }):
  wpAny (model prog w) A (call (.type "tuple") [.ref I]) Q E s:=
 callType_codes (Q₁:=λobj s₁=>s₁.TypeIs obj _/\Q obj _) dg (iw _) ii
  (X7 hh hit ht hz hne λs' acc hm hacc=>⟨⟨_,af _ rfl,rfl⟩,hQ s' acc hm hacc⟩) λobj s₁ h₁=>
   ⟨h₁.1,eO obj _,object_init_meets dg.init.lookup dg.made (by decide) _ w _ _ _ ⟨h₁.1,rfl,h₁.2⟩⟩
end
end PySem.RV
namespace PV
open PySem PySem.Spec PyProof.Rows L2
def X8:T->R T
 | .tup xs=>if xs.length<=bnd then .ok (.tup xs.reverse) else .bad
 | _=> .bad
section
variable {X:Cx}{Y:Fx}{a:Expr}{fa:En->R T}{pos p p' pos' :Pos}
theorem X9 (hh:X.A.handled=none)(gl:Gl X "tuple")(mg:X.mg "tuple"=none)(gl' :Gl X "reversed")(mg' :X.mg "reversed"=none)(ha:Snd X Y a fa)(hs:St1 X a:=by exact st1 rfl)(hs' :St1 X (.Call (.Name "reversed" p') [a] [] pos'):=by exact st1 rfl):
  Snd X Y (.Call (.Name "tuple" p) [.Call (.Name "reversed" p') [a] [] pos'] [] pos) (ap1 X8 fa):= .mk λρ=>by
 intro pins s σ H Q I ⟨B,J,q⟩;have hq:tS Y rC fa ρ σ H (λv H1=>∃l xs,v= .ref l/\H1 l=some (.tup xs)/\xs.length<=sizeLine/\∀t,H1 t=none->Q (.ref t) (upd H1 t (.tup xs.reverse))):=by
  refine step J q λt v H1 _ s1 r1 I1 q1=> ?_;cases r1 with
  | @tup l xs ts h r=>
   have q1:Po Y rC _ H1 (if ts.length<=bnd then .ok _ else .bad) Q:=q1
   split at q1
   ·rename_i hb;exact⟨l,xs,rfl,I1.sB _ _ h,by rw[r.length];exact Zf hb,λt ht=>XW I1.sB q1 rfl r.rev ht⟩
   ·exact q1.elim
  | _=>exact q1.elim
 refine bP (Zv I gl mg PyProof.Rows.Boot.«tuple» (aM ?_ hs' rfl));refine fg (bP (Zv I gl' mg' boot_reversed (aM ?_ hs rfl)));refine thn ((zj (ha ρ) zD hs) _ _ s σ H (λvs H1=>∃l xs,vs=[.ref l]/\H1 l=some (.tup xs)/\xs.length<=sizeLine/\∀t,H1 t=none->Q (.ref t) (upd H1 t (.tup xs.reverse))) I ?_) λus s1 ⟨vs,H1,I1,r1,l,xs,e,hl,hz,q1⟩=> ?_
 ·obtain⟨B',J',q'⟩:=hq;refine⟨B',J', ?_⟩;revert q';cases fa ρ with
  | bad=>exact λq' =>q'
  | ex c=>exact λq' =>q'
  | ok t=>
   intro q' v H1 s1 r1;obtain⟨l,xs,rfl,h⟩:=q' v H1 s1 r1;exact⟨l,xs,rfl,h⟩
 subst e;obtain⟨u,rfl,ru⟩:=Zr r1;obtain rfl:u=Value.ref l:=ru;obtain⟨its,rv,pl,hz'⟩:=I1.tuple (SqT.of hl);have hlt:=I1.hok.lt hl;have hsz:its.toArray.size<=sizeLine:=by rw[aB,← rv.length];exact hz
 refine RV.call_rvT pl (by rw[bC]at hsz;omega) λtk=>(fE ?_)
 refine RV.tuple_rv hh (af _ rfl) (RV.tup_at pl λo e=>aa _ e) hsz (aD hlt) λs' acc hm hacc=> ?_;obtain⟨h',g',d',tk',os'⟩:=s';have e1:=hm.gens;have e2:=hm.drawn;have e3:=hm.os;subst e1 e2 e3;have kp:=λb o e=>hm.heap b o (λz=>by
  have z:=by simpa using z
  have:=am e;rw[z]at this;exact bi _ this) (aa _ e)
 have I2:Inv X _ σ H1 { s1 with heap:=h',toks:=tk' }:=I1.kept kp;have ea:acc=its.reverse.toArray:=by rw[← Y6 hacc]
 rw[ea];refine⟨.ref _,upd H1 _ (.tup _),I2.laid (λb u e=>aa _ e) (ak _) ⟨by rw[bo];exact hz,its.reverse,wE rv,⟨_,af _ rfl,rfl,_,rfl⟩,.inr ⟨_,af _ rfl,rfl⟩⟩,rfl,q1 _ (I2.hok.fresh (ak _))⟩
end
end PV
namespace PV
open PySem PySem.W PyProof.Rows
section
variable {α β:Type}
noncomputable def Gd (lt:Nat->Nat->Bool)(n:Nat):KasT α->(α->Prop)->Prop
 | .ret a,P=>P a
 | .ask i j k,P=>(i < n/\j < n/\i ≠ j)/\Gd lt n (k (lt i j)) P
theorem Gd.mono {lt:Nat->Nat->Bool}{n:Nat}{P P' :α->Prop}(h:∀a,P a->P' a):∀(t:KasT α),Gd lt n t P->Gd lt n t P'
 | .ret a,g=>h a g
 | .ask i j k,⟨h1,g⟩=>⟨h1,Gd.mono h _ g⟩
theorem Gd.bind {lt:Nat->Nat->Bool}{n:Nat}{P:β->Prop}{f:α->KasT β}:∀(t:KasT α),Gd lt n t (λa=>Gd lt n (f a) P)->Gd lt n (t.bind f) P
 | .ret a,g=>g
 | .ask i j k,⟨h1,g⟩=>⟨h1,Gd.bind _ g⟩
theorem Gd.wp {lt:Nat->Nat->Bool}{n:Nat}{cmp:Nat->Nat->(Bool->Shared->Prop)->Shared->Prop}{J:Shared->Prop}(ha:∀i j C s,i < n->j < n->i ≠ j->J s->(∀s',J s' ->C (lt i j) s')->cmp i j C s){P:α->Prop}{Q:α->Shared->Prop}(hq:∀a s,P a->J s->Q a s):∀(t:KasT α) (s:Shared),Gd lt n t P->J s->t.kasWp cmp Q s
 | .ret a,s,g,j=>hq a s g j
 | .ask i j k,s,⟨⟨h1,h2,h3⟩,g⟩,js=>ha i j _ s h1 h2 h3 js λs' js' =>Gd.wp ha hq _ s' g js'
end
section
variable {O:KeyOrd}{n:Nat}{key:Nat->O.α}
noncomputable abbrev kp (key:Nat->O.α)(p:Array Nat)(i:Nat):O.α:=key (p.getD i 0)
structure Pm (n:Nat) (p:Array Nat):Prop where
 sz:p.size=n
 pm:p.toList.Perm (aY n)
theorem Pm.lt {p:Array Nat}(h:Pm n p){i:Nat}(hi:i < n):p.getD i 0 < n:=by
 have hs:i < p.size:=by rw[h.sz];exact hi
 have e:p.getD i 0=p[i]:=by simp[ix,hs]
 rw[e];exact bH.mp (h.pm.mem_iff.mp (Array.getElem_mem_toList hs))
theorem Pm.inj {p:Array Nat}(h:Pm n p){i j:Nat}(hi:i < n)(hj:j < n)(e:p.getD i 0=p.getD j 0):i=j:=by
 have hs:i < p.size:=by rw[h.sz];exact hi
 have hs' :j < p.size:=by rw[h.sz];exact hj
 have e1:p.getD i 0=p[i]:=by simp[ix,hs]
 have e2:p.getD j 0=p[j]:=by simp[ix,hs']
 rw[e1,e2]at e;have nd:=h.pm.nodup_iff.mpr fZ;have:=(cI (h₀:=by simpa using hs) (h₁:=by simpa using hs') nd).mp (by simpa using e)
 exact this
def So (key:Nat->O.α)(p:Array Nat)(m:Nat):Prop:=∀i j,i < j->j < m->O.klt (kp key p i) (kp key p j)
theorem wF {p q:Array Nat}{i j:Nat}(h:p[i]? =q[j]?):p.getD i 0=q.getD j 0:=by
 have e:∀(a:Array Nat) (k:Nat),a.getD k 0=(a[k]?).getD 0:=λa k=>by simp
 rw[e,e,h]
variable (hk:∀i j,i < n->j < n->key i=key j->i=j)
include hk
theorem Xa {p:Array Nat}(h:Pm n p){i j:Nat}(hi:i < n)(hj:j < n)(hij:i ≠ j)(hf:O.blt (kp key p i) (kp key p j)=false):O.klt (kp key p j) (kp key p i):=by
 cases q:O.blt _ _ with
 | true=>exact q
 | false=>exact absurd (h.inj hi hj (hk _ _ (h.lt hi) (h.lt hj) (O.total _ _ hf q))) hij
omit hk in
theorem So.snoc {p:Array Nat}{m:Nat}(h:So key p m)(h1:1<=m)(hl:O.klt (kp key p (m - 1)) (kp key p m)):So key p (m+1):=λi j hij hj=>by
 by_cases hjm:j=m
 ·subst hjm
  by_cases him:i=j - 1
  ·rw[him];exact hl
  ·exact cH (h i _ (by omega) (by omega)) (dW hl)
 ·exact h i j hij (by omega)
theorem Yn {p:Array Nat}(hp:Pm n p):∀(f m:Nat),1<=m->m+f=n->So key p m->Gd (λi j=>O.blt (key i) (key j)) n (kas_asc p f m) λr=>m<=r/\r<=n/\So key p r/\(r < n->O.klt (kp key p r) (kp key p (r - 1)))
 | 0,m,_,hm,h=>⟨ak _,by omega,h,λz=>by omega⟩
 | f+1,m,h1,hm,h=>by
  refine⟨⟨hp.lt (by omega),hp.lt (by omega),λz=>absurd (hp.inj (by omega) (by omega) z) (by omega)⟩, ?_⟩
  show Gd _ n (if O.blt _ _=true then .ret m else kas_asc p f _) _
  cases q:O.blt _ _ with
  | true=>exact⟨ak _,by omega,h,λ_=>q⟩
  | false=>
   exact Gd.mono (λr ⟨a,b,c⟩=>⟨by omega,b,c⟩) _ (Yn hp f _ (by omega) (by omega) (h.snoc h1 (Xa hk hp (by omega) (by omega) (by omega) q)))
def De (key:Nat->O.α)(p:Array Nat)(m:Nat):Prop:=∀i j,i < j->j < m->O.klt (kp key p j) (kp key p i)
theorem Yo {p:Array Nat}(hp:Pm n p):∀(f m:Nat),2<=m->m+f=n->De key p m->Gd (λi j=>O.blt (key i) (key j)) n (kas_desc f p m 0) λr=>r.1=p/\r.2.2=0/\m<=r.2.1/\r.2.1<=n/\De key p r.2.1
 | 0,m,_,hm,h=>⟨rfl,rfl,ak _,by show m<=n;omega,h⟩
 | f+1,m,h1,hm,h=>by
  refine⟨⟨hp.lt (by omega),hp.lt (by omega),λz=>absurd (hp.inj (by omega) (by omega) z) (by omega)⟩, ?_⟩
  show Gd _ n (if O.blt _ _=true then (if 0 > 0 then kas_desc f _ _ 0 else kas_desc f p _ 0) else .ask _ _ λd=>if d=true then .ret _ else kas_desc f p _ _) _
  cases q:O.blt _ _ with
  | true=>
   refine Gd.mono (λr ⟨a,b,c,d⟩=>⟨a,b,by omega,d⟩) _ (Yo hp f _ (by omega) (by omega) λi j hij hj=> ?_)
   by_cases hjm:j=m
   ·subst hjm
    by_cases him:i=j - 1
    ·rw[him];exact q
    ·exact cH (show O.klt _ _ from q) (dW (h i _ (by omega) (by omega)))
   ·exact h i j hij (by omega)
  | false=>
   refine⟨⟨hp.lt (by omega),hp.lt (by omega),λz=>absurd (hp.inj (by omega) (by omega) z) (by omega)⟩, ?_⟩
   have q2:O.blt _ _=true:=Xa hk hp (by omega) (by omega) (by omega) q
   show Gd _ n (if O.blt _ _=true then .ret _ else _) _
   rw[if_pos q2];exact⟨rfl,rfl,ak _,by show m<=n;omega,h⟩
omit hk in
theorem Ve {p:Array Nat}(hp:Pm n p)(i j:Nat):Pm n (kas_rev p i j):=⟨(mirror_size _ _ _ _).trans hp.sz,(fy.mp (mirror_perm p i j _)).trans hp.pm⟩
omit hk in
theorem Yp {p:Array Nat}(hp:Pm n p){m k:Nat}(hm:m<=n)(hk' :k < m):(kas_rev p 0 m).getD k 0=p.getD (m - 1 - k) 0:=by
 refine wF ?_;unfold kas_rev;rw[getElem?_mirror_all (by rw[hp.sz];exact hm),if_pos ⟨aZ _,hk'⟩]
 congr 1
 omega
theorem ZX {p:Array Nat}(hp:Pm n p)(h2:2<=n):Gd (λi j=>O.blt (key i) (key j)) n (kas_count n p) λr=>1<=r.1/\r.1<=n/\Pm n r.2/\So key r.2 r.1:=by
 refine Gd.bind _ (Gd.mono (λm ⟨a,b,c,d⟩=> ?_) _ (Yn hk hp _ 1 (ak _) (by omega) λi j hij hj=>by omega))
 by_cases hmn:m=n
 ·rw[if_pos (by simpa using hmn)]
  exact⟨a,b,hp,c⟩
 ·rw[if_neg (by simpa using hmn)]
  by_cases hm1:m > 1
  ·rw[if_pos hm1];refine⟨⟨hp.lt (by omega),hp.lt (by omega),λz=>absurd (hp.inj (by omega) (by omega) z) (by omega)⟩, ?_⟩
   have q:O.blt _ (kp key p (m - 1))=true:=c 0 _ (by omega) (by omega)
   show Gd _ n (if O.blt _ _=true then .ret _ else _) _
   rw[if_pos q];exact⟨a,b,hp,c⟩
  ·have e:m=1:=by omega
   subst e;have d1:=d (by omega)
   refine Gd.bind _ (Gd.mono (λr ⟨r1,r2,r3,r4,r5⟩=> ?_) _ (Yo hk hp _ _ (by omega) (by omega) λi j hij hj=>by
    have:i=0/\j=1:=by omega
    rw[this.1,this.2];exact d1))
   rw[r2,r1];refine Gd.bind _ (Gd.mono (λm' ⟨x1,x2,x3,_⟩=>⟨by omega,x2,Ve hp 0 _,x3⟩) _ (Yn hk (Ve hp 0 _) _ _ (by omega) (by omega) λi j hij hj=> ?_))
   unfold kp;rw[Yp hp r4 (by omega),Yp hp r4 hj]
   exact r5 _ _ (by omega) (by omega)
theorem wG {p:Array Nat}(hp:Pm n p){k:Nat}(hkn:k < n)(hs:So key p k):∀(f l r:Nat),r<=k->l<=r->r - l<=f->(∀i,i < l->O.klt (kp key p i) (kp key p k))->(∀i,r<=i->i < k->O.klt (kp key p k) (kp key p i))->
  Gd (λi j=>O.blt (key i) (key j)) n (kas_place p k f l r) λm=>m<=k/\(∀i,i < m->O.klt (kp key p i) (kp key p k))/\∀i,m<=i->i < k->O.klt (kp key p k) (kp key p i)
 | 0,l,r,h1,h2,h3,h4,h5=>⟨by omega,h4,λi hi hik=>h5 i (by omega) hik⟩
 | f+1,l,r,h1,h2,h3,h4,h5=>by
  unfold kas_place
  by_cases hlr:l ≥ r
  ·rw[if_pos hlr];exact⟨by omega,h4,λi hi hik=>h5 i (by omega) hik⟩
  ·rw[if_neg hlr];refine⟨⟨hp.lt hkn,hp.lt (by omega),λz=>absurd (hp.inj hkn (by omega) z) (by omega)⟩, ?_⟩
   show Gd _ n (if O.blt _ _=true then kas_place p k f l _ else kas_place p k f _ r) _
   cases q:O.blt _ _ with
   | true=>
    refine wG hp hkn hs f l _ (by omega) (by omega) (by omega) h4 λi hi hik=> ?_
    by_cases e:i=(l+r) / 2
    ·rw[e];exact q
    ·exact cH (q) (dW (hs _ _ (by omega) hik))
   | false=>
    refine wG hp hkn hs f _ r h1 (by omega) (by omega) (λi hi=> ?_) h5
    have ql:=Xa hk hp hkn (by omega) (by omega) q
    by_cases e:i=(l+r) / 2
    ·rw[e];exact ql
    ·exact cH (hs _ _ (by omega) (by omega)) (dW ql)
omit hk in
theorem Yq {p:Array Nat}(hp:Pm n p){k l i:Nat}(hkn:k < n)(hl:l<=k):(bubble p k (k - l)).getD i 0=if i=l then p.getD k 0 else if l < i/\i<=k then p.getD (i - 1) 0 else p.getD i 0:=by
 have h:=getElem?_bubble (by rw[hp.sz];exact hkn) (k - l) (by omega) i
 rw[show k - (k - l)=l by omega]at h
 repeat' split at h
 all_goals first | (rw[if_pos (by assumption)];exact wF h) | (rw[if_neg (by assumption),if_pos (by assumption)];exact wF h) | (rw[if_neg (by assumption),if_neg (by assumption)];exact wF h)
theorem Vf:∀(f:Nat) (p:Array Nat) (k:Nat),Pm n p->k+f=n->So key p k->Gd (λi j=>O.blt (key i) (key j)) n (kas_bin f p k) λq=>Pm n q/\So key q n
 | 0,p,k,hp,hkf,h=>⟨hp,by rw[← hkf];exact h⟩
 | f+1,p,k,hp,hkf,h=>by
  unfold kas_bin;refine Gd.bind _ (Gd.mono (λl ⟨a,b,c⟩=> ?_) _ (wG hk hp (by omega) h k 0 k (ak _) (aZ _) (by omega) (λi hi=>by omega) λi hi hik=>by omega))
  refine Vf f _ _ ⟨(bubble_size _ _ _).trans hp.sz,(fy.mp (bubble_perm p k _)).trans hp.pm⟩ (by omega) λi j hij hj=> ?_
  unfold kp;rw[Yq hp (by omega) a,Yq hp (by omega) a]
  by_cases hi:i=l
  ·rw[if_pos hi,if_neg (by omega),if_pos ⟨by omega,by omega⟩]
   exact c _ (by omega) (by omega)
  ·rw[if_neg hi]
   by_cases hj' :j=l
   ·rw[if_pos hj',if_neg (by omega)]
    exact b i (by omega)
   ·rw[if_neg hj']
    by_cases x:l < i/\i<=k
    ·rw[if_pos x,if_pos ⟨by omega,by omega⟩]
     exact h _ _ (by omega) (by omega)
    ·rw[if_neg x]
     by_cases y:l < j/\j<=k
     ·rw[if_pos y];exact h _ _ (by omega) (by omega)
     ·rw[if_neg y];exact h _ _ hij (by omega)
theorem Xb (h2:2<=n):Gd (λi j=>O.blt (key i) (key j)) n (kas_sort n) λq=>Pm n q/\So key q n:=by
 refine Gd.bind _ (Gd.mono (λr ⟨a,b,c,d⟩=> ?_) _ (ZX hk ⟨by simp,by simp⟩ h2))
 by_cases h:r.1 < n
 ·rw[if_pos h,show max r.1 1=r.1 by omega]
  exact Vf hk _ _ _ c (by omega) d
 ·rw[if_neg h];exact⟨c,by rw[show n=r.1 by omega];exact d⟩
end
end PV
namespace PV
open PySem PySem.Spec PyProof.Rows L2
section
open PySem.W PySem.Calls
variable {O:KeyOrd}{n:Nat}{key:Nat->O.α}
end
section
variable {prog:Program}{w:World}{A:Around}{E:Value->Shared->Prop}{s:Shared}
open PySem.W PySem.Calls
end
section
variable {X:Cx}{Y:Fx}{a:Expr}{fa:En->R T}{p pos:Pos}
theorem Wt {H:Hp}{xs:List V}{ts:List T}(r:zr H xs ts):∀(is:List Nat),(∀i∈is,i < ts.length)->zr H (is.map λi=>xs.getD i V.non) (is.map λi=>ts.getD i T.non)
 | [],_=> .nil
 | i :: is,h=>by
  have hi:=h i ab;obtain⟨v,e1,e2⟩:=r.get (aj hi);have e3:xs.getD i V.non=v:=by rw[cg,e1];rfl
  have e4:ts.getD i T.non=ts[i]:=by rw[cg,aj hi];rfl
  rw[aq,aq,e3,e4];exact .cons e2 (Wt r is λj hj=>h j (a9 _ hj))
theorem Wu {xs:List V}{us:List Value}(r:L2.Vals xs us):∀(is:List Nat),(∀i∈is,i < xs.length)->L2.Vals (is.map λi=>xs.getD i V.non) (is.map λi=>us.getD i Value.none)
 | [],_=> .nil
 | i :: is,h=>by
  have hi:=h i ab;obtain⟨u,e1,e2⟩:=r.get (aj hi);have e3:us.getD i Value.none=u:=by rw[cg,e1];rfl
  have e4:xs.getD i V.non=xs[i]:=by rw[cg,aj hi];rfl
  rw[aq,aq,e3,e4];exact .cons e2 (Wu r is λj hj=>h j (a9 _ hj))
end
end PV
namespace PV
open PySem PySem.Spec PyProof.Rows L2
section
variable {prog:Program}{w:World}{A:Around}{E:Value->Shared->Prop}{s:Shared}
open HT in
open HT in
end
end PV
namespace PV
open PySem PySem.Spec PyProof.Rows L2
end PV
namespace L2
open PySem PySem.Spec PyProof.Rows PySem.W
end L2
namespace L2
open PySem PySem.Spec PyProof.Rows PySem.W
end L2
namespace L2
open PySem PySem.Spec PyProof.Rows PySem.W
end L2
namespace PV
open PySem PySem.Spec PyProof.Rows L2 PySem.W
end PV
namespace L2
open PySem PySem.Spec PyProof.Rows PySem.W
end L2
namespace PV
open PySem PySem.Spec PyProof.Rows L2
end PV
namespace PV
open PySem PySem.Spec PyProof.Rows L2 PySem.W
section
variable {X:Cx}{Y:Fx}{a b:Expr}{fa fb:En->R T}{pos p p' :Pos}
theorem SI.forget {B:Hp}{ρ:En}{σ:Sg}{H:Hp}(I:SI Y B ρ σ H)(i:Nat)(v:Option V):SI Y B (ρ.set i .un) (σ.set i v) H where
 s0:=I.s0
 sH:=I.sH
 sB:=I.sB
 old:=I.old
 len:=by rw[bx,bx];exact I.len
 vl:=λj t h=>by
  rcases zp h with ⟨_,z⟩ | ⟨n,z⟩
  ·cases z
  ·obtain⟨v',e,r⟩:=I.vl j t z;exact⟨v',by rw[aA (b8 n)];exact e,r⟩
 ow:=λj ts h=>by
  rcases zp h with ⟨_,z⟩ | ⟨n,z⟩
  ·cases z
  ·obtain⟨a,xs,e,b0,h0,hh,r,d⟩:=I.ow j ts z;refine⟨a,xs,by rw[aA (b8 n)];exact e,b0,h0,hh,r,λj' us n' h' => ?_⟩
   rcases zp h' with ⟨_,z'⟩ | ⟨n2,z'⟩
   ·cases z'
   ·rw[aA (b8 n2)];exact d j' us n' z'
 xc:=λj c h=>by
  rcases zp h with ⟨_,z⟩ | ⟨n,z⟩
  ·cases z
  ·obtain⟨a,e,r⟩:=I.xc j c z;exact⟨a,by rw[aA (b8 n)];exact e,r⟩
 st:=let ⟨as,O,x⟩:=I.st;⟨as,O,x.set i _ _ rfl (λ_=>Sl.noConfusion)⟩
end
end PV
namespace PV
open PySem PySem.Spec PyProof.Rows L2
end PV
namespace PV
open PySem PySem.Spec PyProof.Rows L2 PySem.W
end PV
namespace PV
open PySem PySem.Spec PyProof.Rows L2
structure Fn (K:ag) (mg:Str->Option Value) (x:Str) (st:Stmt) (ps:List Str) (f:Addr) (fd:FuncData):Prop where
 F:Fun K x x st f fd
 b:L2.Binds K fd ps []
 m:mg x=some (.ref f)
noncomputable abbrev FE (K:ag)(mg:Str->Option Value)(x:Str)(st:Stmt)(ps:List Str):Prop:=∃f fd,Fn K mg x st ps f fd
structure Zz where
 P:Program
 w:World
 K:ag
 mg:Str->Option Value
 base:Heap
 cl:Nat->Value
structure QQ (x:Str) (CX:CXT) (k:Nat) (sp:Sp) (Z:Zz):Prop where
 ex:∃st ps f fd,Fn Z.K Z.mg x st ps f fd/\W7 Z.P Z.w Z.K Z.mg Z.base CX k f fd ps sp
abbrev qP (Z:Zz)(x:Str)(n k:Nat)(c:List T->R T):Prop:=QQ x CX0 k (spP Z.cl n c) Z
def oP (m:Nat)(b:En->RS):List T->R T:=λts=>zh (b (en0 m ts))
section
variable {P:Program}{w:World}{K:ag}{mg:Str->Option Value}{base:Heap}{cl:Nat->Value}{x:Str}{CX:CXT}{k c:Nat}{sp:Sp}{G:Prop}{as:List Str}
theorem QQ.go (O:QQ x CX k sp ⟨P,w,K,mg,base,cl⟩)(h:∀st ps f fd,Fn K mg x st ps f fd->W7 P w K mg base CX k f fd ps sp->G):G:=by
 obtain⟨⟨st,ps,f,fd,C,F⟩⟩:=O;exact h st ps f fd C F
end
section
variable {Z:Zz}{x y:Str}{st:Stmt}{ps:List Str}{c k n m j:Nat}{fb:En->RS}{fm:En->R (T×En)}
abbrev Sc (N ps:List Str)(st:Stmt):Prop:=Jj N ps (zg st)
theorem okP (C:FE Z.K Z.mg x st ps)(N:List Str) (hb:∀(f:Addr) (cdv:Value) (A:Around) (outer:List Env) (s:Shared) (H:Hp) (E:XK) (Y:Fx),Y.cl=Z.cl->True->jR k (A.deeper (envOfC x (zg st) s.heap.objs.size f cdv))->N.Nodup->True->
   WX (JU CX0 Z.P Z.w Z.K Z.mg Z.base N x (zg st) f cdv A outer s H E).nox Y (Z6 st) fb)
  (S:Sc N ps st:=by refine⟨rfl,rfl,rfl, ?_,rfl, ?_, ?_⟩ <;> decide+kernel) (hn:n=ps.length:=by rfl) (hm:m=N.length:=by rfl):qP Z x n (k+1) (oP m fb):=by
 obtain⟨f,fd,C⟩:=C;subst hm;exact⟨_,_,f,fd,C,Ki C.F S hn (λcdv A outer s H E Y hy hr=>hb f cdv A outer s H E Y hy trivial hr S.nd trivial) λ_ _=>rfl⟩
variable {as:List Str}
theorem okB (C:FE Z.K Z.mg x st ps)(hn:n=ps.length:=by rfl):qP Z x n k (λ_=> .bad):=by
 obtain⟨f,fd,C⟩:=C;exact⟨_,_,f,fd,C,λvs H Q E h=>by rw[← hn];exact spP.len vs H Q E h,λA outer s H args us vs Q E _ _ _ _ ⟨B,ts,_,_,_,q⟩=>q.elim⟩
end
section
variable {Z:Zz}{x:Str}{st:Stmt}{ps:List Str}{k n m:Nat}{fb:En->RS}{f:Addr}{fd:FuncData}
theorem okLP (C:Fn Z.K Z.mg x st ps f fd)(N:List Str) (hb:∀(cdv:Value) (A:Around) (outer:List Env) (s:Shared) (H:Hp) (E:XK) (Y:Fx),Y.cl=Z.cl->True->jR k (A.deeper (envOfC x (zg st) s.heap.objs.size f cdv))->N.Nodup->True->
   WX (JU CX0 Z.P Z.w Z.K Z.mg Z.base N x (zg st) f cdv A outer s H E).nox Y (Z6 st) fb)
  (S:Sc N ps st:=by refine⟨rfl,rfl,rfl, ?_,rfl, ?_, ?_⟩ <;> decide+kernel) (hn:n=ps.length:=by rfl) (hm:m=N.length:=by rfl):W7 Z.P Z.w Z.K Z.mg Z.base CX0 (k+1) f fd ps (spP Z.cl n (oP m fb)):=by
 subst hm;exact Ki C.F S hn (λcdv A outer s H E Y hy hr=>hb cdv A outer s H E Y hy trivial hr S.nd trivial) λ_ _=>rfl
end
section
variable {X:Cx}{Y:Fx}{cl:Nat->Value}{k j n:Nat}{g:List T->R T}{x:Str}{a:Expr}{es:List Expr}{ga:En->R (List T)}{p pos:Pos}
theorem cZ (hy:Y.cl=cl)(O:QQ x CX0 j (spP cl n g) ⟨X.prog,X.w,X.K,X.mg,X.base,cl⟩)(hr:jR k X.A)(ha:uE X Y (a :: es) ga)(hj:j<=k:=by omega)(gl:Gl X x:=by rfl)(hd:(x == ("__debug__":Str))=false:=by decide)
  (hs:starEach (a :: es) X.env=(false,eval a X.env) :: starEach es X.env:=by exact zE rfl) (hz:((backTo pos (starEach es X.env)).any λx=>x.fst)=false:=by exact Z0 rfl):Snd X Y (.Call (.Name x p) (a :: es) [] pos) (zb n g ga):=
 O.go λ_ _ _ _ C F=>xH hy F hr hj gl C.m C.F.kp C.b ha hd hs hz
end
noncomputable def nms (N:List Str)(js:List Nat):List Str:=js.map λj=>N.getD j ""
noncomputable def ndB:List Str->Bool
 | []=>true
 | x :: r=> !(r.contains x) && ndB r
theorem uU:∀{l:List Str},ndB l=true->l.Nodup
 | [],_=> .nil
 | x :: r,h=>by
  rw[ndB,ah]at h;exact cn.mpr ⟨by simpa using h.1,uU h.2⟩
def GV (N N' :List Str)(sc0 scope:Scope)(k:Nat)(js:List Nat):Bool:=(GQ scope sc0 && GR N N' scope sc0 k js) && ndB N'
section
variable {cl:Nat->Value}{X:Cx}{Y:Fx}{x y:Str}{p p' p2:Pos}{kk:Nat}{iter elt:Expr}{ifs:List Expr}{scope:Scope}{js:List Nat}{fi:En->R (List T)}{ft:En->R Bool}{fe:En->R T}
theorem cr1 (hy:Y.cl=cl)(h:GV X.N (x :: nms X.N js) X.env.scope scope 1 js=true)(hx:((relabel scope X.env).names.lookup x == some .local)=true)(cm:X.calm=true)(it:WY X Y (.Name x p) iter fi)(tt:∀Y',Y'.cl=cl->V6 X scope (x :: nms X.N js) λXC=>wz XC Y' ifs ft)
  (el:∀Y',Y'.cl=cl->Kq X scope (x :: nms X.N js) Y'.E λXC=>Snd XC Y' elt fe) (hs:∀x,foldedSetIterable iter X.env x=pure x:=by intro _;rfl):jJ X Y (.Name x p) iter elt ifs scope (x :: nms X.N js) 1 js fi (wm 0) (zC 0) ft fe:=by
 subst hy;rw[GV,ah]at h;have hx:(relabel scope X.env).names.lookup x=some .local:=eq_of_beq hx;exact V8 _ _ _ rfl rfl h.1 cm it (λ_ _ _ _ _ _=>j7 (uU h.2) rfl (.inl hx) (.inr hx)) (QB 0) (QE 0) tt el hs
theorem cr2 (hy:Y.cl=cl)(h:GV X.N (x :: y :: nms X.N js) X.env.scope scope 2 js=true)(hx:((relabel scope X.env).names.lookup x == some .local && (relabel scope X.env).names.lookup y == some .local)=true)(cm:X.calm=true)(it:WY X Y (.Tuple [.Name x p,.Name y p'] kk p2) iter fi)(tt:∀Y',Y'.cl=cl->V6 X scope (x :: y :: nms X.N js) λXC=>wz XC Y' ifs ft)
  (el:∀Y',Y'.cl=cl->Kq X scope (x :: y :: nms X.N js) Y'.E λXC=>Snd XC Y' elt fe) (hs:∀x,foldedSetIterable iter X.env x=pure x:=by intro _;rfl):jJ X Y (.Tuple [.Name x p,.Name y p'] kk p2) iter elt ifs scope (x :: y :: nms X.N js) 2 js fi (GM X.K 2 (yg (wm 0) (yg (wm 1) z0z))) (zK 0 1) ft fe:=by
 subst hy;rw[GV,ah]at h;rw[ah]at hx;have h1:(relabel scope X.env).names.lookup x=some .local:=eq_of_beq hx.1;have h2:(relabel scope X.env).names.lookup y=some .local:=eq_of_beq hx.2;exact V8 _ _ _ rfl rfl h.1 cm it (λ_ _ _ _ _ _=>vS cm (jY (j7 (uU h.2) rfl (.inl h1) (.inr h1)) (jY (j7 (uU h.2) rfl (.inl h2) (.inr h2)) yh))) (QC _ 0 1) (QF 0 1) tt el hs
end
end PV
namespace L2
open PySem PySem.Spec PyProof.Rows
end L2
namespace PV
open PySem PySem.Spec PyProof.Rows L2 PySem.W
end PV
namespace PV
open PySem PySem.Spec PyProof.Rows L2
end PV
namespace PV
open PySem PySem.Spec PyProof.Rows L2 PySem.W
end PV
namespace PV
open PySem PySem.Spec PyProof.Rows L2
end PV
namespace PV
open PySem PySem.Spec PyProof.Rows L2 PySem.W
section
variable {prog:Program}{w:World}{A:Around}{E:Value->Shared->Prop}{s:Shared}
noncomputable def isB (k:Bool):Value->Bool
 | .bool b=>b == k
 | _=>false
theorem Zb {k:Bool}{v:Value}(h:isB k v=true):v= .bool k:=by
 cases v <;> simp_all [isB]
noncomputable def iB (b:Bool):Int:=if b then 1 else 0
theorem Jg {b:Bool}{Q:Int->Shared->Prop}(h:Q (hashInt (iB b)) { s with toks:=s.toks+1 }):wpAny (model prog w) A (pyHash (.bool b)) Q E s:=by
 have hT:s.TypeIs (.bool b) "bool":=rfl;unfold pyHash;have hv:[Value.bool b].any Value.onHeap=false:=rfl;refine a8 ?_;rw[cRoomFor,if_neg (by rw[hv];exact az)];refine ac ?_
 refine a8 (bu hT bO.lookup ?_);show wpAny _ _ (if (some (Value.builtin "int.__hash__") == some Value.none)=true then _ else _) Q E s
 rw[if_neg (by rw[beq_builtin_none];exact az)]
 refine a8 (bu hT bO.lookup ?_);show wpAny _ _ (callSpecialIfBoundUnlessNone? (.bool b) "__hash__" _ >>= _) Q E s;refine a8 (wpAny_callSpecialIfBoundUnlessNone?_slot hT bO
  (aN bO hT j_
   (show wpAny _ _ (do ret (← mkInt (rawHash (iB b)))) _ _ s from by cases b <;> refine wpAny_ret_mkInt ?_ <;> exact ac h) (iD _)))
theorem Xc {a b:Bool}{Q:Bool->Shared->Prop}(h:Q (decide (a=b)) s):wpAny (model prog w) A (eqBool (.bool a) (.bool b)) Q E s:=by
 exact PySem.SeqAt.EqAt.bool_bool a b _ _ _ _ (by rw[show (a == b)=decide (a=b) from by cases a <;> cases b <;> rfl];exact h)
end
def Zh (prog:Program)(w:World):KeyKind prog w Bool where
 is:=isB
 hash:=λb=>hashInt (iB b)
 inj:=λv a b ha hb=>by have:=(Zb ha).symm.trans (Zb hb);injection this
 byValue:=λk v h=>by rw[Zb h];rfl
 pyHash:=λhv h=>by rw[Zb hv];exact Jg h
 eqBool:=λhu hv h=>by rw[Zb hu,Zb hv];exact Xc h
 «strs»:=λk x t v h=>by simp[isB]at h
section
variable {prog:Program}{w:World}{K:Type}[DecidableEq K]{knd:HeapKind prog w K}{A:Around}{E:Value->Shared->Prop}{s:Shared}
theorem Jr {d a:Addr}{xs:List (K×Addr×Value)}{k:K}{dflt:Value}{Q:Value->Shared->Prop}(hu:knd.room A)(hkey:knd.is s.heap k a)(hm:s.heap.DictOfH knd d xs)
  (hthere:∀p,atKey xs k=some p->Q p.2 { s with toks:=s.toks+knd.draws k })
  (hnew:atKey xs k=none->∀h',h'.DictOfH knd d (xs++[(k,a,dflt)])->b5 d s.heap h' ->Q dflt { s with heap:=h',toks:=s.toks+knd.draws k })
  (hsz:xs.length<=sizeLine):wpAny (model prog w) A (dictSetDefault d (.ref a) dflt) Q E s:=by
 obtain⟨o,es,ep,ho,hc,hd,he,his,hn⟩:=hm;unfold dictSetDefault
 try with_reducible refine bI ?_
 refine a8 (knd.pyHash hu hkey ?_);refine a8 (wpAny_dictFind_heap (s:={ s with toks:=s.toks+knd.draws k }) hu hkey ho hd he his hn ?_ ?_)
 ·intro hno;have hnot:k ∉ xs.map (·.1):=not_mem_keys_of_get hno;refine a8 (ce (a8 (wpAny_updateDictKeys (hz:=by have e:=size_of_entries he;omega) (s:={ s with toks:=s.toks+knd.draws k }) ho hd (ac (hnew (atKey_none_of_get hno) _ ⟨_,_,ep+1,d0 _ ho (Obj.isFreed_of_dict (ib hd _)),
   hc.mapDictKeys _,ib hd _, ?_, ?_, ?_⟩ (c6 ..))))))
  ·simp[he,entryOfKey]
  ·intro x hx;rcases bv.mp hx with hx | hx
   ·exact knd.keeps (his x hx) ho hd (c6 ..)
   ·simp only[au]at hx;subst hx;exact knd.keeps hkey ho hd (c6 ..)
  ·rw[cx,fH];refine⟨hn,by simp, ?_⟩
   intro x hx y hy;simp only[aq,bR,au]at hy;subst hy;exact λe=>hnot (e ▸ hx)
 ·intro j p hj;refine a8 (wpAny_dictEntries (s:={ s with toks:=s.toks+knd.draws k }) ho hd ?_);rw[entry_at he j,hj];exact a8 (ce (ac (hthere p (atKey_of_get hn hj))))
end
end PV
namespace L2
open PySem PySem.Spec PyProof.Rows
theorem z1F {P:Program}{w:World}{k:Key}{u:Value}(r:RelV (kV k) u):(zX P w).is k u=true:=by
 cases k with
 | inl i=>cases (show u= .bool i from r);exact beq_self_eq_true i
 | inr x=>obtain⟨t,e⟩:=r;rw[e];exact j6 P w x t
section
variable {κ:Type}[DecidableEq κ]
noncomputable def y9 (kvs:List (κ×Addr×V))(k:κ):Option V:=(kvs.find? λkv=>decide (kv.1=k)).map (·.2.2)
end
section
variable {κ:Type}[DecidableEq κ]
theorem wH {p:κ×Addr×V}{r:List (κ×Addr×V)}{k:κ}(e:p.1=k):y9 (p :: r) k=some p.2.2:=by simp[y9,cW,e]
end
section
variable {κ:Type}[DecidableEq κ]
theorem wI {p:κ×Addr×V}{r:List (κ×Addr×V)}{k:κ}(e:¬ p.1=k):y9 (p :: r) k=y9 r k:=by simp[y9,cW,e]
end
theorem Wv {P:Program}{w:World}:∀{ks:List Key} {us:List Value},Vals (ks.map kV) us->ItemsAre (zX P w) ks us
 | [],_,r=>by rw[bR]at r;cases r;exact .nil
 | k :: ks,_,r=>by
  rw[aq]at r;cases r with
  | cons h t=>exact .cons (z1F h) (Wv t)
abbrev KT (H:Hp):List (List Key×Addr×V)->List (List Key×Addr×Value)->Prop:=Paired λp q=>p.1=q.1/\H q.2.1=some (.tup (p.1.map kV))/\RelV p.2.2 q.2.2/\p.2.1=q.2.1
theorem KT.val {H:Hp}{kvs:List (List Key×Addr×V)}{xs:List (List Key×Addr×Value)}(r:KT H kvs xs)(k:List Key):GL (y9 kvs k) ((atKey xs k).map (·.2)):=by
 induction r with
 | nil=>exact True.intro
 | @cons p q ps qs h t ih=>
  obtain⟨h1,_,h2,_⟩:=h
  by_cases e:p.1=k
  ·have e' :q.1=k:=h1.symm.trans e;have b:atKey (q :: qs) k=some q.2:=by simp[atKey,cW,e']
   rw[wH e,b];exact h2
  ·have e' :¬ q.1=k:=λz=>e (h1.trans z);have b:atKey (q :: qs) k=atKey qs k:=by simp[atKey,cW,e']
   rw[wI e,b];exact ih
theorem KT.keeps {H H' :Hp}{kvs:List (List Key×Addr×V)}{xs:List (List Key×Addr×Value)}(r:KT H kvs xs)(ht:∀b ys,H b=some (.tup ys)->H' b=some (.tup ys)):KT H' kvs xs:=
 Paired.mapP r λ_ _ z=>⟨z.1,ht _ _ z.2.1,z.2.2⟩
section
variable {P:Program}{w:World}{H:Hp}{h:Heap}{a:Addr}
theorem z1G {u:HO}(ok:HOk P w H h)(e:Rd H a u):zN P w H h a u:=e.ok ok
end
section
variable {P:Program}{w:World}{H:Hp}{h:Heap}{a:Addr}
theorem Vg {ks:List Key}(ok:HOk P w H h)(e:H a=some (.tup (ks.map kV))):(tupleKind (zX P w)).is h ks a:=by
 obtain⟨_,its,r,⟨o,h1,h2,n,h3⟩,_⟩:=(show zN P w H h a (.tup (ks.map kV)) from ok a _ e);exact⟨o,its.toArray,n,h1,h2,h3,by simpa using Wv r⟩
end
section
variable {P:Program}{w:World}{H:Hp}{h:Heap}{a:Addr}
theorem z1H {kvs:List (List Key×Addr×V)}(ok:HOk P w H h)(e:Rd H a (.dT kvs)):kvs.length<=sizeLine/\(a == sysModules)=false/\
  ∃xs,KT H kvs xs/\h.DictOfH (tupleKind (zX P w)) a xs:=by
 obtain⟨z,y,xs,r,o,es,ep,h1,h2,h3,h4,h5⟩:=(show zN P w H h a (.dT kvs) from z1G ok e);refine⟨z,y,xs,r,o,es,ep,h1,h2,h3,h4,λx hx=> ?_,h5⟩;have all:∀{l:List (List Key×Addr×V)} {m:List (List Key×Addr×Value)},KT H l m->∀x∈m,(tupleKind (zX P w)).is h x.1 x.2.1:=by
  intro l m q
  induction q with
  | nil=>intro x hx;exact nomatch hx
  | @cons p q ps qs hq t ih=>
   intro x hx;rcases ao.mp hx with e | hx
   ·subst e;exact Vg ok (by rw[← hq.1];exact hq.2.1)
   ·exact ih x hx
 exact all r x hx
end
section
variable {P:Program}{w:World}{H:Hp}{h:Heap}{a:Addr}
theorem gc {kvs:List (List Key×Addr×V)}(ok:HOk P w H h)(e:H a=some (.dT kvs)):kvs.length<=sizeLine/\(a == sysModules)=false/\
  ∃xs,KT H kvs xs/\h.DictOfH (tupleKind (zX P w)) a xs:=z1H ok (.inl e)
end
section
variable {X:Cx}{pins:List (Addr×Obj)}{σ:St}{H:Hp}{s:Shared}{a:Addr}{y v:V}{u r:Value}{o:Option V}{A:Around}{E:Value->Shared->Prop}
theorem Inv.bigM (I:Inv X pins σ H s):sysModules < s.heap.objs.size:=by
 have h:mainGlobals < s.heap.objs.size:=(I.mod.glob.keeps I.bk).lt;exact f8 (by decide) h
end
section
variable {X:Cx}{pins:List (Addr×Obj)}{σ:St}{H:Hp}{s:Shared}{a:Addr}{y v:V}{u r:Value}{o:Option V}{A:Around}{E:Value->Shared->Prop}
theorem Xd {h' :Heap}{t' :Nat}{ob:HO}(I:Inv X pins σ H s)(mu:Mut (H a))(hs:b5 a s.heap h')(he:∃q,h'.get? a=some q)(new:zN X.prog X.w (upd H a ob) h' a ob):
  Inv X pins σ (upd H a ob) { s with heap:=h',toks:=t' }:=
 I.write (x:=a) (e:=a) mu (.inl rfl) (λb q hb z=>(hs.2 b hb).trans z) he new
end
theorem v8 {P:Program}{w:World}{H:Hp}(h:Heap)(hb:sysModules < h.objs.size):zN P w H (h.push { cls:= .type "dict",data:= .dict #[] }) h.objs.size (.dT []):=
 ⟨aZ _,beq_eq_false_iff_ne.mpr (b8 (aD hb)),[],.nil,_, #[],0,af _ rfl,⟨rfl,rfl,rfl⟩,rfl,rfl,List.nodup_nil⟩
def gh:TE:=λ_ H Q=>∀p,H p=none->Q (.ref p) (upd H p (.dT []))
section
variable {X:Cx}{pos:Pos}
theorem v9:PE X (.Dict [] [] pos) gh:=λpins s σ H Q I h=>
 wpAny_Dict_empty ⟨.ref s.heap.objs.size,_,I.laid (a:=s.heap.objs.size) (o:= .dT []) (t' :=s.toks) (λ_ _ q=>aa _ q) (ak _) (v8 s.heap I.bigM),rfl,h _ (I.hok.fresh (ak _))⟩
end
end L2
namespace PV
open PySem PySem.Spec PyProof.Rows L2 PySem.W
def z1I:V->List V->Hp->VK->Prop:=λx vs H Q=>∃d kvs k b v0,x= .ref d/\vs=[.ref b,v0]/\H d=some (.dT kvs)/\H b=some (.tup (k.map kV))/\kvs.length < sizeLine/\(match y9 kvs k with
 | some v=>Q v H
 | none=>Q v0 (upd H d (.dT (kvs++[(k,b,v0)]))))
theorem Xe {X:Cx}(hu:X.A.units+64 < cLine):MtR X "dict.setdefault" z1I:=by
 intro pins s σ H x vs v us Q I rx rs h;obtain⟨d,kvs,k,b,v0,rfl,rfl,hd,hb,hz,h⟩:=h;cases rx;cases rs with
 | @cons _ u1 _ us1 r1 rs=>
  cases rs with
  | @cons _ u2 _ us2 r2 rs=>
   cases rs;cases r1;obtain⟨z,hs,xs,rel,dd⟩:=gc I.hok hd;refine aN F.slot_dict_setdefault dd.typeIs F.entry_dict_setdefault ?_ (F.args_dict_setdefault_3 _ _ _);unfold Builtin.«dict.setdefault»;refine a8 ?_;unfold Builtin.Dict.keyAndDefault;refine a8 (wpAny_notOrdered_dict dd.typeIs ?_);show wpAny _ _ (pure (d,Value.ref b,some u2)) _ _ s;refine ac ?_;show wpAny _ _ (if (d == sysModules)=true then _ else (dictSetDefault d (.ref b) u2 >>= _)) _ _ s
   rw[if_neg (by rw[hs];exact az)]
   have hxl:xs.length<=sizeLine:=by rw[← eI rel];exact z
   have rv:=rel.val k;refine a8 (Jr (tupleKind_room_in1 (by omega)) (Vg I.hok hb) dd (λp hp=> ?_) (λhn h' dd' hs' => ?_) hxl)
   ·rw[hp]at rv;revert h;cases hv:y9 kvs k with
    | none=>rw[hv]at rv;exact(show False from rv).elim
    | some w=>
     rw[hv]at rv;exact λh=>ac ⟨p.2,rfl,w,H,I.tok _,rv,h⟩
   ·rw[hn]at rv;revert h;cases hv:y9 kvs k with
    | some w=>rw[hv]at rv;exact(show False from rv).elim
    | none=>
     intro h;obtain⟨q,es,ep,hq,h2,h3,h4,_,h5⟩:=dd';refine ac ⟨u2,rfl,v0,_,Xd (ob:= .dT (kvs++[(k,b,v0)])) I (by rw[hd];exact True.intro) hs' ⟨q,hq⟩ ⟨?_,hs,_,KT.keeps (show KT H (kvs++[(k,b,v0)]) (xs++[(k,b,u2)]) from Paired.snoc rel ⟨rfl,hb,r2,rfl⟩) λc ys ec=> ?_,q,es,ep,hq,h2,h3,h4,h5⟩,r2,h⟩
     ·rw[aC,aG];omega
     ·rw[zf (yd ec hd (λz=>nomatch z))];exact ec
noncomputable abbrev WE:=List Bool×List T
def JG (k:List Bool)(w:T):List WE->List WE
 | []=>[(k,[w])]
 | (k',ws) :: r=>if k' =k then (k',ws++[w]) :: r else (k',ws) :: JG k w r
noncomputable def Zp:List T->Option (List Bool)
 | []=>some []
 | .bl b :: ts=>(Zp ts).map λl=>b :: l
 | _=>none
def jW (g:T->R T):List T->List WE->R (List WE)
 | [],es=> .ok es
 | w :: ws,es=>(g w).bind λt=>match t with
  | .tup ts=>(match Zp ts with
   | some k=>jW g ws (JG k w es)
   | none=> .bad)
  | _=> .bad
def gm (ga gw:List T->R T):List T->R (List WE):=λts=>match ts with
 | [kd,ru]=>(ga [kd]).bind λt=>match t with
  | .lst ws=>if ws.length<=bnd then jW (λw=>gw [ru,w]) ws [] else .bad
  | _=> .bad
 | _=> .bad
abbrev kI (k:List Bool):List Key:=k.map Sum.inl
theorem Vh {a b:List Bool}(h:kI a=kI b):a=b:=(iy λx y e=>by injection e).mp h
theorem z1J (k:List Bool):(kI k).map kV=k.map V.bl:=by rw[aJ];rfl
def Kb (H0 B H:Hp)(k:List Bool)(b:Addr):Prop:=H b=some (.tup (k.map V.bl))/\(H0 b=none\/B b=some (.tup (k.map V.bl)))
inductive JH (H0 B H:Hp) (n:Nat):List (List Key×Addr×V)->List WE->List Addr->Prop
 | nil:JH H0 B H n [] [] []
 | cons {k:List Bool} {b l:Addr} {xs:List V} {ws:List T} {kvs:List (List Key×Addr×V)} {es:List WE} {ls:List Addr} (kb:Kb H0 B H k b) (e:H l=some (.lst xs)) (b0:B l=none) (r:zr B xs ws) (hn:ws.length<=n) (no:l ∉ ls) (t:JH H0 B H n kvs es ls):JH H0 B H n ((kI k,b,.ref l) :: kvs) ((k,ws) :: es) (l :: ls)
section
variable {H0 B H H' :Hp}{n n' :Nat}{kvs:List (List Key×Addr×V)}{es:List WE}{ls:List Addr}
theorem Kb.mono {k:List Bool}{b:Addr}(h:Kb H0 B H k b)(ht:∀b xs,H b=some (.tup xs)->H' b=some (.tup xs)):Kb H0 B H' k b:=⟨ht _ _ h.1,h.2⟩
theorem JH.mono (hn:n<=n')(h:JH H0 B H n kvs es ls)(s:∀l∈ls,H' l=H l)(ht:∀b xs,H b=some (.tup xs)->H' b=some (.tup xs)):JH H0 B H' n' kvs es ls:=by
 induction h with
 | nil=>exact .nil
 | cons kb e b r hl no t ih=>exact .cons (kb.mono ht) (by rw[s _ ab];exact e) b r (ar hl hn) no (ih λl hl=>s l (a9 _ hl))
theorem JH.bnone (h:JH H0 B H n kvs es ls){l:Addr}(hl:l∈ls):B l=none:=by
 induction h with
 | nil=>cases hl
 | cons kb e b r hn no t ih=>
  rcases ao.mp hl with rfl | z
  ·exact b
  ·exact ih z
theorem JH.islst (h:JH H0 B H n kvs es ls){l:Addr}(hl:l∈ls):∃xs,H l=some (.lst xs):=by
 induction h with
 | nil=>cases hl
 | cons kb e b r hn no t ih=>
  rcases ao.mp hl with rfl | z
  ·exact⟨_,e⟩
  ·exact ih z
theorem JH.old {k:List Bool}{v u:V}{w:T}(rw' :Rep B u w)(h:JH H0 B H n kvs es ls)(hv:y9 kvs (kI k)=some v):
  ∃l xs,v= .ref l/\l∈ls/\H l=some (.lst xs)/\xs.length<=n/\∀H',H' l=some (.lst (xs++[u]))->(∀m∈ls,m ≠ l->H' m=H m)->(∀b xs,H b=some (.tup xs)->H' b=some (.tup xs))->JH H0 B H' (n+1) kvs (JG k w es) ls:=by
 induction h with
 | nil=>cases hv
 | @cons k' b' l xs ws kvs es ls kb e b r hl no t ih=>
  by_cases hk:k' =k
  ·subst hk;rw[wH rfl]at hv;cases hv;refine⟨l,xs,rfl,ab,e,by rw[r.length];exact hl,λH' h1 h2 ht=> ?_⟩
   rw[JG,if_pos rfl];exact .cons (kb.mono ht) h1 b (r.append (.cons rw' .nil)) (by rw[aC,aG];omega) no (t.mono (bT _) (λm hm=>h2 m (a9 _ hm) λz=>no (z ▸ hm)) ht)
  ·rw[wI λz=>hk (Vh z)]at hv;obtain⟨l2,xs2,a1,a2,a3,a4,a5⟩:=ih hv;refine⟨l2,xs2,a1,a9 _ a2,a3,a4,λH' h1 h2 ht=> ?_⟩;rw[JG,if_neg hk];exact .cons (kb.mono ht) (by rw[h2 l ab λz=>no (z ▸ a2)];exact e) b r (by omega) no (a5 H' h1 (λm hm=>h2 m (a9 _ hm)) ht)
theorem JH.new {k:List Bool}{u:V}{w:T}(rw' :Rep B u w){l0 b0:Addr}(bn:B l0=none)(h:JH H0 B H n kvs es ls)(n0:l0 ∉ ls)(hv:y9 kvs (kI k)=none):
  ∀H',Kb H0 B H' k b0->H' l0=some (.lst [u])->(∀m∈ls,H' m=H m)->(∀b xs,H b=some (.tup xs)->H' b=some (.tup xs))->JH H0 B H' (n+1) (kvs++[(kI k,b0,.ref l0)]) (JG k w es) (ls++[l0]):=by
 induction h with
 | nil=>exact λH' kb h1 _ _=> .cons kb h1 bn (.cons rw' .nil) (by show 1<=n+1;omega) (by simp) .nil
 | @cons k' b' l xs ws kvs es ls kb e b r hl no t ih=>
  intro H' kb0 h1 h2 ht
  by_cases hk:k' =k
  ·subst hk;rw[wH rfl]at hv;cases hv
  ·rw[wI λz=>hk (Vh z)]at hv;rw[JG,if_neg hk];refine .cons (kb.mono ht) (by rw[h2 l ab];exact e) b r (by omega) ?_ (ih (λz=>n0 (a9 _ z)) hv H' kb0 h1 (λm hm=>h2 m (a9 _ hm)) ht)
   intro z;rcases bv.mp z with z | z
   ·exact no z
   ·exact n0 (by rw[← au.mp z];exact ab)
end
theorem ue:∀{B:Hp} {vs:List V} {ts:List T} {k:List Bool},zr B vs ts->Zp ts=some k->vs=k.map V.bl
 | _,_,_,_,.nil,h=>by cases h;rfl
 | _,_,_,_,.cons r rr,h=>by
  cases r with
  | bl b=>
   unfold Zp at h;obtain⟨l,e1,e2⟩:=dX.mp h;subst e2;rw[aq,ue rr e1]
  | _=>cases h
def z1K (B H:Hp)(r:R (List WE))(Q:VK):Prop:=match r with
 | .ok es=>∀d kvs ls H' B' n,zm H H' ->zm B B' ->zm B' (zB B H H')->H d=none->B' d=none->H' d=some (.dT kvs)->JH H B' H' n kvs es ls->d ∉ ls->(∀l∈ls,H l=none)->Q (.ref d) H'
 | _=>False
def GW (g:List T->R (List WE)):Sp:=λvs H Q _=>∃B ts,ts.length=2/\zm B H/\zr B vs ts/\z1K B H (g ts) Q
theorem okWW {Z:Zz}{x:Str}{st:Stmt}{k ka kw:Nat}{kd ru wy wo an wn:Str}{ga gw:List T->R T}{q1 q2 q3 q4 q5 q6 q7 q8 q9 q10 q11 q12 q13 q14 q15 q16 q17 q18 q19 q20 q21 q22:Pos}(F:FE Z.K Z.mg x st [kd,ru])(A0:QQ an CX0 ka (spP Z.cl 1 ga) Z)(W0:QQ wn CX0 kw (spP Z.cl 2 gw) Z)(S:Sc [kd,ru,wy,wo] [kd,ru] st)
  (hst:Z6 st=[.Assign [.Name wy q1] (.Dict [] [] q2) q3,
   .For (.Name wo q4) (.Call (.Name an q5) [.Name kd q6] [] q7) [.Expr (.Call (.Attribute (.Call (.Attribute (.Name wy q8) "setdefault" q9) [.Call (.Name wn q10) [.Name ru q11,.Name wo q12] [] q13,.List [] q14] [] q15) "append" q16) [.Name wo q17] [] q18) q19] [] q20,
   .Return (some (.Name wy q21)) q22])
  (hkd:(zg st).names.lookup kd=some .local) (hru:(zg st).names.lookup ru=some .local) (hwy:(zg st).names.lookup wy=some .local) (hwo:(zg st).names.lookup wo=some .local) (han:(zg st).names.lookup an=some .globalImplicit) (hwn:(zg st).names.lookup wn=some .globalImplicit) (z1:(q9.endLine == q15.line)=true) (z2:(q16.endLine == q18.line)=true) (ha:ka<=k:=by omega) (hw:kw<=k:=by omega)
  (d1:(kd == ("__debug__":Str))=false:=by decide) (d2:(kd == ("__classdict__":Str))=false:=by decide) (d3:(ru == ("__debug__":Str))=false:=by decide) (d4:(ru == ("__classdict__":Str))=false:=by decide) (d5:(wy == ("__debug__":Str))=false:=by decide) (d6:(wy == ("__classdict__":Str))=false:=by decide) (d7:(wo == ("__debug__":Str))=false:=by decide) (d8:(wo == ("__classdict__":Str))=false:=by decide) (d9:(an == ("__debug__":Str))=false:=by decide) (d10:(wn == ("__debug__":Str))=false:=by decide):QQ x CX0 (k+1) (GW (gm ga gw)) Z:=by
 obtain⟨ft,fdt,F⟩:=F;obtain⟨⟨_,pa,fa,fda,CA,FA⟩⟩:=A0;obtain⟨⟨_,pw,fw,fdw,CW,FW⟩⟩:=W0;refine⟨_,_,ft,fdt,F,F.F.ok S (λvs H Q E ⟨B,ts,hl,_,r,_⟩=>by rw[r.length,hl];rfl) λcdv A outer s H vs Q E hr ⟨B,ts,hl,sB,r,q⟩=> ?_⟩
 rw[hst];have gA:Gl (JU CX0 Z.P Z.w Z.K Z.mg Z.base [kd,ru,wy,wo] x (zg st) ft cdv A outer s H E).nox an:=han;have gW:Gl (JU CX0 Z.P Z.w Z.K Z.mg Z.base [kd,ru,wy,wo] x (zg st) ft cdv A outer s H E).nox wn:=hwn;have v0:∀{p},PE (JU CX0 Z.P Z.w Z.K Z.mg Z.base [kd,ru,wy,wo] x (zg st) ft cdv A outer s H E).nox (.Name kd p) (W3 0):=JP rfl (.inl hkd) d1 d2;have v1:∀{p},PE (JU CX0 Z.P Z.w Z.K Z.mg Z.base [kd,ru,wy,wo] x (zg st) ft cdv A outer s H E).nox (.Name ru p) (W3 1):=JP rfl (.inl hru) d3 d4;have v2:∀{p},PE (JU CX0 Z.P Z.w Z.K Z.mg Z.base [kd,ru,wy,wo] x (zg st) ft cdv A outer s H E).nox (.Name wy p) (W3 2):=JP rfl (.inl hwy) d5 d6;have v3:∀{p},PE (JU CX0 Z.P Z.w Z.K Z.mg Z.base [kd,ru,wy,wo] x (zg st) ft cdv A outer s H E).nox (.Name wo p) (W3 3):=JP rfl (.inl hwo) d7 d8;have e1:(((((backTo q18 (starEach [.Name wo q17] (JU CX0 Z.P Z.w Z.K Z.mg Z.base [kd,ru,wy,wo] x (zg st) ft cdv A outer s H E).nox.env)).all λx=> !x.fst) && (backToKw q18 (keywordEach [] (JU CX0 Z.P Z.w Z.K Z.mg Z.base [kd,ru,wy,wo] x (zg st) ft cdv A outer s H E).nox.env)).all λx=>x.fst.isSome) && decide (([Expr.Name wo q17].length+([]:List Keyword).length+if ([]:List Keyword).isEmpty=true then 0 else 1) < 30))=true):=by rw[st1 rfl];rfl
 have s2:starEach [.Call (.Name wn q10) [.Name ru q11,.Name wo q12] [] q13,.List [] q14] (JU CX0 Z.P Z.w Z.K Z.mg Z.base [kd,ru,wy,wo] x (zg st) ft cdv A outer s H E).nox.env=[(false,eval (.Call (.Name wn q10) [.Name ru q11,.Name wo q12] [] q13) _),(false,eval (.List [] q14) _)]:=st2 rfl rfl;have e2:(((((backTo q15 (starEach [.Call (.Name wn q10) [.Name ru q11,.Name wo q12] [] q13,.List [] q14] (JU CX0 Z.P Z.w Z.K Z.mg Z.base [kd,ru,wy,wo] x (zg st) ft cdv A outer s H E).nox.env)).all λx=> !x.fst) && (backToKw q15 (keywordEach [] (JU CX0 Z.P Z.w Z.K Z.mg Z.base [kd,ru,wy,wo] x (zg st) ft cdv A outer s H E).nox.env)).all λx=>x.fst.isSome) && decide (([Expr.Call (.Name wn q10) [.Name ru q11,.Name wo q12] [] q13,.List [] q14].length+([]:List Keyword).length+if ([]:List Keyword).isEmpty=true then 0 else 1) < 30))=true):=by rw[s2];rfl
 have body:=Jh (wl (pos:=q19) (yw (cpos:=q18) (apos:=q16) dI fL fM Jl
   (yw (cpos:=q15) (apos:=q9) fY PySem.F.slot_dict_setdefault PySem.F.type_dict_setdefault (Xe hr.units) (v2 (p:=q8))
    (zj (Ji (pos:=q13) (p:=q10) FW (hr.mono hw) gW CW.m CW.F.kp CW.b .nil (yV (E:=λ_ _ _=>False)) (zj (v1 (p:=q11)) (zj (v3 (p:=q12)) zD (st1 rfl)) (zE rfl)) d10 (zE rfl) (Z0 rfl)) (zj (yr zD) zD (st1 rfl)) (zE rfl)) rfl e2 z1 (zE rfl) (Z0 rfl))
   (zj (v3 (p:=q17)) zD (st1 rfl)) rfl e1 z2 (st1 rfl) rfl) rfl)
 refine⟨_,jd (JQ S.nd (i:=2) rfl (.inl hwy) v9 rfl (.inr hwy))
  (jd (vT eX rfl (Kj (Ji (pos:=q7) (p:=q5) FA (hr.mono ha) gA CA.m CA.F.kp CA.b .nil (yV (E:=λ_ _ _=>False)) (zj (v0 (p:=q6)) zD (st1 rfl)) d9 (zE rfl) (Z0 rfl))) (j7 S.nd (i:=3) rfl (.inl hwo) (.inr hwo)) body)
  (Jh (W4 v2))), ?_⟩
 cases r with
 | nil=>cases hl
 | @cons va tk vs1 ts1 r1 rr=>
  cases rr with
  | nil=>cases hl
  | @cons vb tr vs2 ts2 r2 rr=>
   cases rr with
   | cons _ _=>exact absurd hl (by simp)
   | nil=>
    have q:z1K B H ((ga [tk]).bind λt=>match t with | .lst ws=>(if ws.length<=bnd then jW (λw=>gw [tr,w]) ws [] else .bad) | _=> .bad) Q:=q
    cases ega:ga [tk] with
    | bad=>rw[ega]at q;exact q.elim
    | ex c=>rw[ega]at q;exact q.elim
    | ok t=>
     rw[ega]at q;intro d hd;have sd:=zm.new hd (HO.dT []);refine⟨va,rfl,B,[tk],rfl,sB.trans sd,.cons r1 .nil, ?_⟩;rw[ega];intro v Hc sc rv;cases rv with
     | @lst l xs ws hxl rxs=>
      have q:z1K B H (if ws.length<=bnd then jW (λw=>gw [tr,w]) ws [] else .bad) Q:=q
      split at q
      case isFalse=>exact q.elim
      rename_i hbn;have sBc:zm (zB B (upd H d (HO.dT [])) Hc) Hc:=zB.le (sB.trans sd) sc;have bB:zm B (zB B (upd H d (HO.dT [])) Hc):=zB.ge (sB.trans sd) sc;have bd:zB B (upd H d (HO.dT [])) Hc d=none:=by
       rw[zO zl];exact sB.free hd
      have bG:∀H',zm (zB B (upd H d (HO.dT [])) Hc) H' ->zm (zB B (upd H d (HO.dT [])) Hc) (zB B H H'):=λH' s' b o h=>by
       cases hb:H b with
       | none=>rw[zR hb];exact s' _ _ h
       | some u=>
        rw[zO hb];rw[zO (sd _ _ hb)]at h;exact h
      generalize zB B (upd H d (HO.dT [])) Hc=Bc at hxl rxs sBc bB bd bG;cases eF:jW (λw=>gw [tr,w]) ws [] with
      | bad=>rw[eF]at q;exact q.elim
      | ex c=>rw[eF]at q;exact q.elim
      | ok esF=>
       rw[eF]at q;refine⟨l,rfl,.inl ⟨⟨xs,SqL.of (sBc _ _ hxl)⟩, ?_⟩⟩;refine⟨λi m σ' H' =>m=ws.length - i/\i<=ws.length/\σ'[1]? =some (some vb)/\σ'[2]? =some (some (V.ref d))/\σ'.length=4/\zm Bc H' /\zm H H' /\∃es kvs ls,H' d=some (.dT kvs)/\JH H Bc H' i kvs es ls/\d ∉ ls/\(∀l∈ls,H l=none)/\kvs.length<=i/\jW (λw=>gw [tr,w]) (ws.drop i) es= .ok esF,
        ⟨ws.length,by simp,aZ _,rfl,rfl,rfl,sBc,sd.trans sc,[],[],[],sc _ _ zl,.nil,by simp,by simp,ak _,eF⟩, ?_⟩
       rintro i m σ' H' ⟨rfl,hi,c1,c2,c4,sB',sH',es,kvs,ls,hd',en,dn,hn,hkl,hF⟩
       have hl' :H' l=some (.lst xs):=sB' _ _ hxl
       by_cases hlt:i < ws.length
       ·have hgw:ws[i]? =some ws[i]:=aj hlt;obtain⟨x0,hx0,rx0⟩:=rxs.get hgw;refine .inr ⟨⟨xs,x0,SqL.of hl',hx0⟩,λσ2 H2=>σ2=σ'.set 3 (some x0)/\zm Bc H2/\zm H H2/\∃es kvs ls,H2 d=some (.dT kvs)/\JH H Bc H2 (i+1) kvs es ls/\d ∉ ls/\(∀l∈ls,H l=none)/\kvs.length<=i+1/\jW (λw=>gw [tr,w]) (ws.drop (i+1)) es= .ok esF,
         λσ2 H2 ⟨z1,z2,z3,z4⟩=>⟨ws.length - (i+1),by omega,rfl,hlt,by rw[z1,aA (by decide)];exact c1,by rw[z1,aA (by decide)];exact c2,by rw[z1,bx];exact c4,z2,z3,z4⟩,λy H' hy=> ?_⟩
        obtain⟨rfl,hy⟩:=hy;have hy:=hy _ (SqL.of hl');rw[hx0]at hy;cases hy;rw[dq hlt]at hF;unfold jW at hF;have g1:(σ'.set 3 (some x0))[1]? =some (some vb):=by rw[aA (by decide)];exact c1
        have g2:(σ'.set 3 (some x0))[2]? =some (some (V.ref d)):=by rw[aA (by decide)];exact c2
        have g3:(σ'.set 3 (some x0))[3]? =some (some x0):=a_ (by omega)
        refine⟨.ref d,g2,.inr (.inr (.inl ⟨rfl,.inr ⟨kvs,hd'⟩⟩)),vb,g1,x0,g3,Bc,[tr,ws[i]],rfl,sB',.cons (r2.mono bB) (.cons rx0 .nil), ?_⟩;cases egw:gw [tr,ws[i]] with
        | bad=>rw[egw]at hF;cases hF
        | ex c=>rw[egw]at hF;cases hF
        | ok tw=>
         rw[egw]at hF;intro v2 H2 s2 rv2;cases rv2 with
         | @tup b vs' ts' hb rb=>
          have hF:(match Zp ts' with | some k=>jW (λw=>gw [tr,w]) (ws.drop (i+1)) (JG k ws[i] es) | none=> .bad)= .ok esF:=hF
          cases ek:Zp ts' with
          | none=>rw[ek]at hF;cases hF
          | some kk=>
           rw[ek]at hF;have hvs:=ue rb ek;have hb2:H2 b=some (.tup vs'):=zB.le sB' s2 _ _ hb;refine⟨aZ _,λp hp=> ?_⟩;have kp:∀c o,H2 c=some o->upd H2 p (HO.lst []) c=some o:=λc o hc=>by rw[zf (λz=>by rw[z,hp]at hc;cases hc)];exact hc
           refine⟨d,kvs,kI kk,b,.ref p,rfl,rfl,kp _ _ (s2 _ _ hd'),by rw[z1J,← hvs];exact kp _ _ hb2,uJ (by omega), ?_⟩
           have rx:Rep Bc x0 ws[i]:=rx0;have kb2:H b=none\/Bc b=some (.tup (kk.map V.bl)):=by
            rw[← hvs];cases q:H' b with
            | none=>exact .inl (sH'.free q)
            | some u=>rw[zO q]at hb;exact .inr hb
           cases hv:y9 kvs (kI kk) with
           | some v=>
            obtain⟨l1,xs1,rfl,m1,h1,n1,fin⟩:=en.old rx hv;have h2:=kp _ _ (s2 _ _ h1);have keep:∀c o,H' c=some o->c ≠ l1->upd (upd H2 p (HO.lst [])) l1 (HO.lst (xs1++[x0])) c=some o:=λc o hc hne=>by rw[zf hne];exact kp _ _ (s2 _ _ hc)
            have bl1:Bc l1=none:=en.bnone m1;refine⟨.inl ⟨rfl,xs1,SqL.of h2⟩,x0,g3,l1,xs1,x0,rfl,rfl,h2,uJ (by omega),rfl,(λc o hc=>keep c o (sB' _ _ hc) λz=>by rw[z,bl1]at hc;cases hc),(λc o hc=>keep c o (sH' _ _ hc) λz=>by rw[z,hn l1 m1]at hc;cases hc),_,kvs,ls,keep _ _ hd' λz=>dn (z ▸ m1),fin _ zl (λc hc hne=> ?_) (λc ys hc=>keep c _ hc λz=>by rw[z,h1]at hc;cases hc),dn,hn,by omega,hF⟩
            obtain⟨xc,hxc⟩:=en.islst hc;rw[hxc];exact keep _ _ hxc hne
           | none=>
            have pd:p ≠ d:=λz=>by rw[z,s2 _ _ hd']at hp;cases hp
            have pH' :H' p=none:=s2.free hp;have pl:p ∉ ls:=λz=>by obtain⟨xc,hxc⟩:=en.islst z;rw[pH']at hxc;cases hxc
            have h2:upd (upd H2 p (HO.lst [])) d (HO.dT (kvs++[(kI kk,b,V.ref p)])) p=some (.lst []):=by rw[zf pd,zl]
            have keep:∀c o,H' c=some o->c ≠ d->upd (upd (upd H2 p (HO.lst [])) d (HO.dT (kvs++[(kI kk,b,V.ref p)]))) p (HO.lst ([]++[x0])) c=some o:=λc o hc hne=>by
             rw[zf (λz=>by rw[z,pH']at hc;cases hc),zf hne];exact kp _ _ (s2 _ _ hc)
            refine⟨.inl ⟨rfl,[],SqL.of h2⟩,x0,g3,p,[],x0,rfl,rfl,h2,by show 0 < sizeLine;exact bh (aZ _) (uJ (show 0 < bnd by decide)),rfl,(λc o hc=>keep c o (sB' _ _ hc) λz=>by rw[z,bd]at hc;cases hc),(λc o hc=>keep c o (sH' _ _ hc) λz=>by rw[z,hd]at hc;cases hc),_,_,_,by rw[zf (b8 pd),zl],en.new rx (sB'.free pH') pl hv _ ⟨?_,kb2⟩ zl (λc hc=> ?_) (λc ys hc=>keep c _ hc λz=>by rw[z,hd']at hc;cases hc),λz=> ?_,λc hc=> ?_,by rw[aC,aG];omega,hF⟩
            ·have bt:H2 b=some (.tup (kk.map V.bl)):=by rw[← hvs];exact hb2
             rw[zf (λz=>by rw[z,hp]at bt;cases bt),zf (λz=>by rw[z,s2 _ _ hd']at bt;cases bt)];exact kp _ _ bt
            ·obtain⟨xc,hxc⟩:=en.islst hc;rw[hxc];exact keep _ _ hxc λz=>dn (z ▸ hc)
            ·rcases bv.mp z with z | z
             ·exact dn z
             ·exact pd (au.mp z).symm
            ·rcases bv.mp hc with z | z
             ·exact hn c z
             ·rw[au.mp z];exact sH'.free pH'
         | _=>cases hF
       ·have e:i=ws.length:=by omega
        subst e;rw[fV]at hF;cases hF;exact .inl ⟨⟨xs,SqL.of hl',by rw[rxs.length];exact ak _⟩,.ref d,c2,q d kvs ls H' Bc _ sH' bB (bG H' sB') hd bd hd' en dn hn⟩
     | _=>exact q.elim
section
variable {prog:Program}{w:World}{A:Around}{E:Value->Shared->Prop}{s:Shared}{it d:Addr}{i ep:Nat}{es:Array DictEntry}{od:Obj}{ok ov:Value}{Q:Option Value->Shared->Prop}
theorem vc (hit:IsItemIter s.heap it d i es.size ep ok ov)(ho:s.heap.get? d=some od)(hd:od.data= .dict es ep)(hx:i < es.size)
  (hQ:∀h',IsItemIterOut h' it d (i+1) es.size ep es[i].key es[i].val s.heap.objs.size->h'.get? s.heap.objs.size=some { cls:= .type "tuple",data:= .seq #[es[i].key,es[i].val] }->
   (∀b o,b ≠ it->s.heap.get? b=some o->h'.get? b=some o)->Q (some (.ref s.heap.objs.size)) { s with heap:=h' }):wpAny (model prog w) A (pyNext (.ref it)) Q E s:=by
 obtain⟨hp,g,dr,tk,os⟩:=s;have hT:eK ⟨hp,g,dr,tk,os⟩ (.ref it) "dict_itemiterator":=⟨_,hit,rfl⟩;unfold pyNext;refine a8 (cD (b7 (name:=aE "__next__") hT bg (aN bg hT eH ?_ (d_ _))));refine a8 (ac (a8 (a8 ?_)))
 first | refine a8 (wpAny_typeNameOfWhole_itemiter hT (ac ?_)) | refine a8 (wpAny_typeNameOf_itemiter hT (ac ?_))
 refine a8 (wpAny_fieldsOf hit rfl ?_);have own:cX "dict_itemiterator"=true:=by decide
 simp only[own,if_true];show wpAny _ _ (if (Value.ref d == Value.none)=true then _ else _) _ _ _
 rw[if_neg (show ¬ ((Value.ref d == Value.none)=true) from az)];refine a8 (ac (a8 (wpAny_dictEntries ho hd ?_)));rw[if_neg (by simp)]
 refine a8 (ac (a8 (wpAny_dictEpoch ho hd ?_)));rw[if_neg (by simp)]
 refine ac ?_;simp only[show ¬ ((i:Int) < 0) from by omega,if_false,bE,du hx]
 refine a8 ?_
 first | refine a8 (wpAny_typeNameOfWhole_itemiter hT (ac ?_)) | refine a8 (wpAny_typeNameOf_itemiter hT (ac ?_))
 refine a8 (wpAny_isOneOf_itemiter hT ?_);show wpAny _ _ (setField (.ref it) 3 (rawInt ((i:Int)+1)) >>= _) _ _ ⟨hp,g,dr,tk,os⟩;refine a8 (aW hit (by simp) λh1 x1 s1=> ?_)
 have s1:b5 it hp h1:=s1;have x1:IsItemIter h1 it d (i+1) es.size ep ok ov:=by
  unfold IsItemIter;rw[show ((i+1:Nat):Int)=(i:Int)+1 by omega];simpa[rawInt] using x1
 have hT1:eK ⟨h1,g,dr,tk,os⟩ (.ref it) "dict_itemiterator":=⟨_,x1,rfl⟩;refine a8 (bI (a8 (wpAny_isOneOf_itemiter hT1 (a8 (wpAny_isOneOf_itemiter hT1 ?_)))));show wpAny _ _ (dY (.ref it) 6 es[i].key es[i].val) _ _ ⟨h1,g,dr,tk,os⟩;unfold dY;refine a8 (wpAny_newTuple ?_);obtain⟨h2,eh2⟩:∃h2,h2=h1.push { cls:= .type "tuple",data:= .seq #[es[i].key,es[i].val] }:=⟨_,rfl⟩;have x2:IsItemIter h2 it d (i+1) es.size ep ok ov:=by rw[eh2];exact aa _ x1
 have hil:hp.objs.size ≠ it:=cy (am hit);have t2:h2.get? hp.objs.size=some { cls:= .type "tuple",data:= .seq #[es[i].key,es[i].val] }:=by rw[eh2,← s1.1];exact af _ rfl
 have k2:∀b o,b ≠ it->hp.get? b=some o->h2.get? b=some o:=λb o hb e=>by rw[eh2];exact aa _ (s1.extBut b o hb e)
 show wpAny _ _ (dA (.ref it) >>= _) _ _ ⟨_,g,dr,tk,os⟩;rw[← eh2,s1.1]
 clear eh2
 refine a8 ?_;unfold dA;refine a8 (aS x2 rfl (x:= .none) rfl (ac ?_));simp only[if_true];refine a8 (aS x2 rfl (x:=ok) rfl (a8 (aS x2 rfl (x:=ov) rfl ?_)));refine a8 (aW x2 (by simp) λh3 x3 s3=> ?_)
 have s3:b5 it h2 h3:=s3;have x3:IsItemIter h3 it d (i+1) es.size ep es[i].key ov:=x3;refine a8 (aW x3 (by simp) λh4 x4 s4=> ?_)
 have s4:b5 it h3 h4:=s4;have x4:IsItemIter h4 it d (i+1) es.size ep es[i].key es[i].val:=x4;refine a8 (aW x4 (by simp) λh5 x5 s5=> ?_)
 have s5:b5 it h4 h5:=s5;have x5:IsItemIterOut h5 it d (i+1) es.size ep es[i].key es[i].val hp.objs.size:=x5;refine a8 (aW x5 (by simp) λh6 x6 s6=> ?_)
 have s6:b5 it h5 h6:=s6;have kk:∀b o,b ≠ it->h2.get? b=some o->h6.get? b=some o:=λb o hb e=>s6.extBut b o hb (s5.extBut b o hb (s4.extBut b o hb (s3.extBut b o hb e)));exact a8 (wpAny_letGo (ac (ac ⟨_,rfl,ac (hQ h6 x6 (kk _ _ hil t2) λb o hb e=>kk b o hb (k2 b o hb e))⟩)))
theorem Yr (hh:A.handled=none)(hit:IsItemIter s.heap it d i es.size ep ok ov)(ho:s.heap.get? d=some od)(hd:od.data= .dict es ep)(hx:es.size<=i)(hQ:∀h',fG it s.heap h' ->Q none { s with heap:=h' }):wpAny (model prog w) A (pyNext (.ref it)) Q E s:=by
 have hT:s.TypeIs (.ref it) "dict_itemiterator":=⟨_,hit,rfl⟩;unfold pyNext;refine a8 (cD (b7 (name:=aE "__next__") hT bg (aN bg hT eH ?_ (d_ _))));refine a8 (ac (a8 (a8 ?_)))
 first | refine a8 (wpAny_typeNameOfWhole_itemiter hT (ac ?_)) | refine a8 (wpAny_typeNameOf_itemiter hT (ac ?_))
 refine a8 (wpAny_fieldsOf hit rfl ?_);have own:cX "dict_itemiterator"=true:=by decide
 simp only[own,if_true];show wpAny _ _ (if (Value.ref d == Value.none)=true then _ else _) _ _ _
 rw[if_neg (show ¬ ((Value.ref d == Value.none)=true) from az)];refine a8 (ac (a8 (wpAny_dictEntries ho hd ?_)));rw[if_neg (by simp)]
 refine a8 (ac (a8 (wpAny_dictEpoch ho hd ?_)));rw[if_neg (by simp)]
 refine ac ?_;simp only[show ¬ ((i:Int) < 0) from by omega,if_false,bE,c8 hx]
 refine a8 ?_
 first | refine a8 (wpAny_typeNameOfWhole_itemiter hT (ac ?_)) | refine a8 (wpAny_typeNameOf_itemiter hT (ac ?_))
 show wpAny _ _ (setField (.ref it) 2 .none >>= _) _ _ s;refine a8 (wpAny_setField hit rfl (by simp) ?_)
 show wpAny _ _ (newExc (.type "StopIteration") [] >>= _) _ _ _;refine a8 ?_;simp only[newExc,newTuple];refine a8 (aQ ?_ (by size_fits))
 refine a8 (m:=firstArgMember _ _) (br (a:=Value.none) (by first | rfl | (simp only[firstArgMember];rfl)) ?_)
 refine aQ ?_ (by size_fits)
 simp only[raiseNew];refine a8 (wpAny_handled ?_);rw[show A.in1.handled=none from hh];refine a8 (ac (wpAny_throw ?_));refine a8 (cb (T:="StopIteration") (b:=true) ⟨_,af _ rfl,rfl⟩ isSubtype_stop ?_);exact ac (hQ _ (((c6 ..).extBut.push _).push _))
end
end PV
namespace L2
open PySem PySem.Spec PyProof.Rows PySem.W
section
variable {X:Cx}{pins:List (Addr×Obj)}{σ:St}{H:Hp}{s:Shared}
theorem Inv.freeze (I:Inv X pins σ H s){d:Addr}{o:Obj}{kvs:List (List Key×Addr×V)}(hd:H d=some (.dT kvs))(ho:s.heap.get? d=some o):Inv X pins σ (upd H d (.frz o (.dT kvs))) s:=by
 have tp:∀b xs,H b=some (.tup xs)->upd H d (.frz o (.dT kvs)) b=some (.tup xs):=λb xs e=>by rw[zf (yd e hd (λz=>nomatch z))];exact e
 have fz:∀b o' u,H b=some (.frz o' u)->upd H d (.frz o (.dT kvs)) b=some (.frz o' u):=λb o' u e=>by rw[zf (yd e hd (λz=>nomatch z))];exact e
 have ow:∀a b,H b=some (.own a)->upd H d (.frz o (.dT kvs)) b=some (.own a):=λa b e=>by rw[zf (yd e hd (λz=>nomatch z))];exact e
 have hok:HOk X.prog X.w (upd H d (.frz o (.dT kvs))) s.heap:=λb u e=>by
  by_cases hb:b=d
  ·subst hb;rw[zl]at e;cases e;exact⟨ho,(I.hok _ _ hd).stay (λ_ _ _ q=>q) (λc q=>ow _ c q) tp fz⟩
  ·rw[zf hb]at e;exact(I.hok b u e).stay (λ_ _ _ q=>q) (λc q=>ow _ c q) tp fz
 exact I.step (ch:=[]) (λ_ z=>nomatch z) (λb o _ _ _ e _=>e) (λb o _ _ _ e _=>⟨o.slots,e⟩) (λb o' _ e n=>by rw[zf (λz=>by rw[z,hd]at n;cases n)];exact n) (λb o _ e=>⟨o,e⟩) tp fz (λb ps q e=>by rw[zf (yd e hd (λz=>nomatch z))];exact e) (λm h=>h) hok I.bare
end
end L2
namespace PV
open PySem PySem.Spec PyProof.Rows L2 PySem.W
def Itd (d:Addr)(o:Obj):It:=⟨λi H=>∃kvs,H d=some (.frz o (.dT kvs))/\i < kvs.length,λi H x H' =>∃kvs k v b T,H d=some (.frz o (.dT kvs))/\kvs[i]? =some (k,b,v)/\H b=some (.tup (k.map kV))/\x= .ref T/\H T=none/\H' =upd H T (.tup [.ref b,v]),λi H=>∃kvs,H d=some (.frz o (.dT kvs))/\kvs.length<=i⟩
theorem Ww {H:Hp}:∀{kvs:List (List Key×Addr×V)} {xs:List (List Key×Addr×Value)},KT H kvs xs->∀(i:Nat) (p:List Key×Addr×V),kvs[i]? =some p->∃u,xs[i]? =some (p.1,p.2.1,u)/\H p.2.1=some (.tup (p.1.map kV))/\RelV p.2.2 u
 | _,_,.nil,i,p,h=>by simp at h
 | _,_,.cons (b:=q) hq t,0,p,h=>by
  cases h;obtain⟨e1,e2,e3,e4⟩:=hq;refine⟨q.2.2, ?_,by rw[e4];exact e2,e3⟩
  rw[e1,e4];rfl
 | _,_,.cons hq t,i+1,p,h=>Ww t i p h
theorem gp {P:Program}{w:World}{H:Hp}{h:Heap}{d:Addr}{o:Obj}{kvs:List (List Key×Addr×V)}{es:Array DictEntry}{ep:Nat}(ok:HOk P w H h)(hd:H d=some (.frz o (.dT kvs)))(he:o.data= .dict es ep):
  h.get? d=some o/\es.size=kvs.length/\∀(i:Nat) (hi:i < es.size),∃k v b u,kvs[i]? =some (k,b,v)/\H b=some (.tup (k.map kV))/\RelV v u/\es[i].key= .ref b/\es[i].val=u:=by
 obtain⟨ho,z,y,xs,rel,o',es',ep',h1,h2,h3,h4,h5⟩:=ok d _ hd;rw[ho]at h1;cases h1;rw[he]at h3;cases h3;have hl:es.size=xs.length:=by rw[← bM,h4,ae]
 refine⟨ho,by rw[hl,eI rel],λi hi=> ?_⟩
 have hi' :i < kvs.length:=by rw[eI rel,← hl];exact hi
 obtain⟨u,e1,e2,e3⟩:=Ww rel i kvs[i] (aj hi');refine⟨kvs[i].1,kvs[i].2.2,kvs[i].2.1,u,by rw[aj hi'],e2,e3, ?_⟩
 have e4:es.toList[i]? =some (entryOfKey (tupleKind (zX P w)) (kvs[i].1,kvs[i].2.1,u)):=by rw[h4,ax,e1];rfl
 rw[i5,du hi]at e4;rw[aI e4];exact⟨rfl,rfl⟩
theorem vd:entryFor table "dict_itemiterator.__iter__"=some Builtin.«dict_keyiterator.__iter__»:=entryFor_alias (id' :="dict_keyiterator.__iter__") (by kernel_rfl) rfl (by decide+kernel) (by kernel_rfl)
theorem UL {P:Program}{w:World}{K:Frag}{elts:List Expr}{kk:Nat}{pt:Pos}(it d:Addr)(o:Obj)(es:Array DictEntry)(ep:Nat)(he:o.data= .dict es ep)(hne:d ≠ it):
  Ur P w K (.Tuple elts kk pt) (Itd d o) [it] it (λi h=>∃ok ov,IsItemIter h it d i es.size ep ok ov) where
 mem:=by simp
 obj:=λi h ⟨ok,ov,st⟩ b hb=>by
  rw[au.mp hb];exact⟨_,st,λv z=>nomatch z⟩
 keep:=λi h h' ⟨ok,ov,st⟩ k=>⟨ok,ov,k it (by simp) _ st⟩
 item:=by
  intro X hP hw hK hc i pins s σ H E I hf ⟨ok,ov,st⟩ ⟨kvs,hd,hi⟩;subst hP hw hK;obtain⟨ho,hsz,hat⟩:=gp I.hok hd he;have hi' :i < es.size:=by rw[hsz];exact hi
  obtain⟨k,v,b,u,a1,a2,a3,a4,a5⟩:=hat i hi';have hfr:H s.heap.objs.size=none:=I.hok.fresh (ak _);have hT:s.heap.objs.size ≠ it:=cy (am st);refine vc st ho he hi' λh' x6 t6 k6=>⟨_,rfl,wpAny_letOwnedTupleGo_items x6 λh2 y1 y2=>⟨.ref s.heap.objs.size,upd H s.heap.objs.size (.tup [.ref b,v]), ?_,rfl,⟨kvs,k,v,b,_,hd,a1,a2,rfl,hfr,rfl⟩,⟨_,_,y1⟩,λc hc=> ?_⟩⟩
  ·have t2:=y2.extBut _ _ hT t6;refine Inv.laidT (s:=s) (h' :=h2) (ch:=[it]) (tk:=s.toks) I hf (λc oc hc e=>y2.extBut c oc (λz=>hc (by simp[z])) (k6 c oc (λz=>hc (by simp[z])) e)) (λc oc hc _=> ?_) (ak _) ⟨by rw[bC];show 2<=16777216;decide,[.ref b,u],.cons rfl (.cons a3 .nil),⟨_,t2,rfl,0,by rw[a4,a5]⟩,.inr ⟨_,t2,rfl⟩⟩
   rw[au.mp hc];exact⟨_,y1⟩
  ·rw[au.mp hc,zf hT.symm];exact(hf it (by simp)).1
 done:=by
  intro X hP hw hK hc i pins s σ H E I hf ⟨ok,ov,st⟩ ⟨kvs,hd,hi⟩;subst hP hw hK;obtain⟨ho,hsz,_⟩:=gp I.hok hd he;refine Yr (I.ok.hd hc) st ho he (by rw[hsz];exact hi) λh' hk=>⟨rfl, ?_⟩
  obtain⟨f0,f1,f2,f3,f4,f5⟩:=hf it (by simp)
  exact I.turned (t' :=s.toks) (λb o hb e=>hk b o hb e) f0 f1 f3 f4 f5
 self:=λA i s Q E ⟨ok,ov,st⟩ h=>by
  have hT:s.TypeIs (.ref it) "dict_itemiterator":=⟨_,st,rfl⟩;refine wpAny_pyIter_slot hT eQ (aN eQ hT vd ?_ (F.args_dict_itemiterator_iter_1 _));show wpAny _ _ (ret (.ref it)) _ _ s;exact ac ⟨_,rfl,"dict_itemiterator",_,hT,bg.lookup,h⟩
theorem UM {prog:Program}{w:World}{A:Around}{E:Value->Shared->Prop}{s:Shared}{v d:Addr}{es:Array DictEntry}{od:Obj}{ep:Nat}{Q:Value->Shared->Prop}(hv:s.heap.IsItemsView v d)(ho:s.heap.get? d=some od)(hd:od.data= .dict es ep)
  (hQ:Q (.ref s.heap.objs.size) { s with heap:=s.heap.push { cls:= .type "dict_itemiterator",data:= .fields #[.none,.bool false,.ref d,.int 0 0,.int es.size 0,.int ep 0,.none,.none] } }):wpAny (model prog w) A (pyIter (.ref v)) Q E s:=by
 obtain⟨ov,h1,h2,h3⟩:=id hv;refine wpAny_pyIter_slot hv.typeIs hJ (aN hJ hv.typeIs F.entry_dict_items_iter ?_ (F.args_dict_items_iter_1 _));unfold Builtin.«dict_items.__iter__»;refine a8 (ac (a8 ?_));unfold Builtin.Dict_items.dictOf;refine a8 (aS h1 h3 (x:= .ref d) rfl (ac (a8 ?_)));unfold Builtin.Dict_items.newIterator;refine a8 (wpAny_dictEntries ho hd (a8 (wpAny_dictEpoch ho hd ?_)));have own:cX "dict_itemiterator"=true:=by decide
 simp only[own,if_true];refine aQ (ac ⟨_,rfl,"dict_itemiterator",_,⟨_,af _ rfl,rfl⟩,bg.lookup, ?_⟩)
  (by simp only[sizeOk,dB,aB,aC,ay,bZ,bC];omega)
 simpa[rawInt,dB] using hQ
theorem ve {X:Cx}{i:Nat}{x:Str}{px ap pos pt:Pos}{elts:List Expr}{kk:Nat}(hv:PE X (.Name x px) (W3 i))(hb:attributeBase (.Name x px) "items" X.env (eval (.Name x px) X.env)=eval (.Name x px) X.env:=by rfl)(hl:(ap.endLine == pos.line)=true:=by rfl):
  PI X (.Tuple elts kk pt) (.Call (.Attribute (.Name x px) "items" ap) [] [] pos) (λσ H R=>∃d kvs,σ[i]? =some (some (V.ref d))/\H d=some (.dT kvs)/\∀o,R (Itd d o) (upd H d (.frz o (.dT kvs)))):=by
 intro pins s σ H R I ⟨d,kvs,hσ,hd,hR⟩;refine wpAny_Call_method0_late hb hl (thn (hv _ s σ H (λv H' =>v= .ref d/\H' =H) I ⟨_,hσ,rfl,rfl⟩) λv s1 ⟨x1,H1,I1,r1,e1,e2⟩=> ?_);subst e1 e2;cases r1;obtain⟨z,hs,xs,rel,o,es,ep,h1,h2,h3,h4⟩:=gc I1.hok hd;have hT:s1.TypeIs (.ref d) "dict":=⟨o,h1,h2.1⟩;have I2:=I1.freeze hd h1;refine⟨"dict","dict.items",F.plainAttrs_dict,iT,F.type_dict_items,hT,λa ea=>by cases ea;exact⟨o,h1,h2.2.1⟩,dN rfl (ig ?_)⟩
 refine aN iT hT F.entry_dict_items ?_ (F.args_dict_items_1 _);unfold Builtin.«dict.items»;refine a8 ?_;unfold Builtin.Dict.noArgs;refine a8 (wpAny_notOrdered_dict hT ?_);show wpAny _ _ (pure d) _ _ s1;refine ac ?_;show wpAny _ _ (i6 d >>= _) _ _ s1;unfold i6;rw[if_neg (by rw[hs];exact az)]
 refine a8 (ac (a8 (aQ (ac ⟨_,rfl, ?_⟩))));have k1:∀b ob,s1.heap.get? b=some ob->(s1.heap.push { cls:= .type "dict_items",data:= .fields #[.ref d] }).get? b=some ob:=λb ob e=>aa _ e;have hv1:(s1.heap.push { cls:= .type "dict_items",data:= .fields #[.ref d] }).IsItemsView s1.heap.objs.size d:=⟨_,af _ rfl,rfl,rfl⟩;refine UM (s:={ s1 with heap:=s1.heap.push { cls:= .type "dict_items",data:= .fields #[.ref d] } }) hv1 (k1 _ _ h1) h3 ?_;have hz:(s1.heap.push { cls:= .type "dict_items",data:= .fields #[.ref d] }).objs.size=s1.heap.objs.size+1:=bU ..;have I3:Inv X _ σ (upd H1 d (.frz o (.dT kvs))) { s1 with heap:=(s1.heap.push { cls:= .type "dict_items",data:= .fields #[.ref d] }).push { cls:= .type "dict_itemiterator",data:= .fields #[.none,.bool false,.ref d,.int 0 0,.int es.size 0,.int ep 0,.none,.none] } }:=I2.kept λb ob e=>aa _ (k1 b ob e);have hlt:=am h1;refine⟨_,[_],_,_,_,rfl,I3,UL _ d o es ep h3 (aD (aK hlt (by show s1.heap.objs.size<=(s1.heap.push _).objs.size;rw[hz];exact bT _))),⟨.none,.none,af _ rfl⟩,λb hb=> ?_,hR o⟩
 rw[au.mp hb,hz];exact I2.fpOk (bT _) (I2.hok.fresh (bT _))
end PV
namespace PV
open PySem PySem.Spec PyProof.Rows L2 PySem.W PySem.Calls
section
variable {prog:Program}{w:World}{A:Around}{E:Value->Shared->Prop}{s:Shared}
noncomputable abbrev nB (k:List Bool):List Nat:=k.map Bool.toNat
theorem Vi {a b:List Bool}(h:nB a=nB b):a=b:=(iy λx y e=>by cases x <;> cases y <;> first | rfl | cases e).mp h
theorem z1L {x y:List Bool}{a b:Addr}{P:Fin->Shared->Prop}(hx:IsTupleKey (Zh prog w) s.heap x a)(hy:IsTupleKey (Zh prog w) s.heap y b)(h:P (.done (.ret (.bool (decide (nB x < nB y))))) s):
  wpAny (model prog w) A (Builtin.«tuple.__lt__» ⟨[.ref a,.ref b],[]⟩) P E s:=by
 have hTb:=hy.typeIs;obtain⟨oa,xs,na,hoa,_,hda,hia⟩:=hx;obtain⟨ob,ys,nb,hob,_,hdb,hib⟩:=hy;show wpAny _ _ (isInstance (.ref b) (.type "tuple") >>= _) _ _ s;refine a8 (cb hTb isSubtype_tuple_tuple ?_);simp only[dz,aL,if_false];refine a8 (wpAny_tupleItemsOf hoa hda (a8 (wpAny_tupleItemsOf hob hdb (a8 ?_))));refine wpAny_forIn_list _ (λrest r s' =>r.1=none/\s' =s/\∃x' y' xs' ys',rest=List.zip xs' ys' /\ItemsAre (Zh prog w) x' xs' /\ItemsAre (Zh prog w) y' ys' /\decide (nB x' < nB y')=decide (nB x < nB y)/\xs'.length+ys.size=ys'.length+xs.size) _ ?_ ?_ _ _ ⟨rfl,rfl,x,y,xs.toList,ys.toList,rfl,hia,hib,rfl,by simp;omega⟩
 ·rintro⟨u,v⟩ rest r s' ⟨hr,rfl,x',y',xs',ys',hz,hx',hy',hdec,hlen⟩
  cases hx' with
  | nil=>simp at hz
  | @cons k1 u' x2 xs2 h1 hx2=>
   cases hy' with
   | nil=>simp at hz
   | @cons k2 v' y2 ys2 h2 hy2=>
    simp only[fA,lz,Prod.mk.injEq]at hz;obtain⟨⟨rfl,rfl⟩,rfl⟩:=hz;refine a8 ((Zh prog w).eqBool (a:=k1) (b:=k2) h1 h2 ?_);obtain rfl:=Zb h1;obtain rfl:=Zb h2
    by_cases hk:k1=k2
    ·subst hk;rw[decide_eq_true rfl];simp only[dz,aL,if_false];refine ac ⟨rfl,rfl,x2,y2,xs2,ys2,rfl,hx2,hy2, ?_,by simp at hlen;omega⟩
     rw[← hdec];simp[nB]
    ·rw[decide_eq_false hk];simp only[Bool.not_false,if_true];refine a8 (ce (a8 (PyProof.Rows.lt_bool ?_)));have hf:decide (b2i k1 < b2i k2)=decide (nB x < nB y):=by
      rw[← hdec];cases k1 <;> cases k2 <;> first | exact absurd rfl hk | (rw[decide_eq_decide];show _↔_ :: _ < _ :: _;rw[List.cons_lt_cons_iff];simp[b2i])
     rw[hf];exact a8 (ac (ac (ac h)))
 ·rintro⟨r1,r2⟩ s' ⟨hr,rfl,x',y',xs',ys',hz,hx',hy',hdec,hlen⟩
  simp only at hr;subst hr;refine ac ?_;have hfin:decide (xs.size < ys.size)=decide (nB x < nB y):=by
   rw[← hdec];cases hx' with
   | nil=>
    cases hy' with
    | nil=>simp at hlen;simp[nB];omega
    | cons _ _=>simp at hlen;simp[nB];omega
   | cons _ _=>
    cases hy' with
    | nil=>simp at hlen;simp[nB];omega
    | cons _ _=>simp at hz
  show P (.done (.ret (.bool (decide (xs.size < ys.size))))) s';rw[hfin];exact h
theorem gq {x y:List Bool}{a b:Addr}{Q:Bool->Shared->Prop}(hu:A.units < cLine)(hx:IsTupleKey (Zh prog w) s.heap x a)(hy:IsTupleKey (Zh prog w) s.heap y b)(h:Q (decide (nB x < nB y)) s):wpAny (model prog w) A (oneLt' false (.ref a) (.ref b)) Q E s:=
 kat_one _ _ (wpAny_richCompare_same_room (op:= .Lt) hx.typeIs hy.typeIs i7 (aN i7 hx.typeIs PySem.F.entry_tuple_lt (z1L hx hy ⟨_,rfl,(λe=>nomatch e),h⟩) (PySem.F.args_tuple_lt_2 _ _)) hu)
def Vj (prog:Program)(w:World)(h:Heap)(v:Value)(x:List Bool):Prop:=∃a o b r n,v= .ref a/\h.get? a=some o/\o.cls= .type "tuple"/\o.data= .seq (#[Value.ref b]++r) n/\IsTupleKey (Zh prog w) h x b
theorem Vj.keep {h h' :Heap}{v:Value}{x:List Bool}(k:∀b o,h.get? b=some o->(o.cls= .type "tuple")->h'.get? b=some o):Vj prog w h v x->Vj prog w h' v x
 | ⟨a,o,b,r,n,e1,e2,e3,e4,o2,it,m,f1,f2,f3⟩=>⟨a,o,b,r,n,e1,k _ _ e2 e3,e3,e4,o2,it,m,k _ _ f1 f2,f2,f3⟩
theorem Ys {h:Heap}:∀(vs:List Value) (xs:List (List Bool)),vs.length=xs.length->(∀(i:Nat) (v:Value) (x:List Bool),vs[i]? =some v->xs[i]? =some x->Vj prog w h v x)->∃fs:List Value,KatTups h vs fs/\fs.length=vs.length/\∀f∈fs,∃b o,f=Value.ref b/\h.get? b=some o/\o.cls= .type "tuple"
 | [],_,_,_=>⟨[],trivial,rfl,λf hf=>by cases hf⟩
 | v :: vs,[],hl,_=>by cases hl
 | v :: vs,x :: xs,hl,H=>by
  obtain⟨fs,k,l,q⟩:=Ys vs xs (by simpa using hl) λi v x h1 h2=>H (i+1) v x (by simpa using h1) (by simpa using h2)
  obtain⟨a,o,b,r,n,rfl,e2,e3,e4,o2,it,m,f1,f2,f3⟩:=H 0 v x rfl rfl;refine⟨.ref b :: fs,⟨⟨a,o,_,n,rfl,e2,e3,e4,by rw[Array.getElem?_append_left (by simp)];rfl⟩,k⟩,by simp[l],λf hf=> ?_⟩
  rcases ao.mp hf with rfl | hf
  ·exact⟨b,o2,rfl,f1,f2⟩
  ·exact q f hf
theorem gr {vs:List Value}{xs:List (List Bool)}(hu:A.units < cLine)(hl:vs.length=xs.length)(H:∀(i:Nat) (v:Value) (x:List Bool),vs[i]? =some v->xs[i]? =some x->Vj prog w s.heap v x)(hn:xs.Nodup){i j:Nat}(hi:i < vs.length)(hj:j < vs.length)(hij:i ≠ j){C:Bool->Shared->Prop}(hc:C (decide (nB (xs.getD i []) < nB (xs.getD j []))) s):
  kas_ask prog w A (tuples' false) vs i j C s:=by
 unfold kas_ask;have gv:∀k,k < vs.length->vs[k]? =some (vs.getD k Value.none):=λk h=>by simp[h]
 have gx:∀k,k < vs.length->xs[k]? =some (xs.getD k []):=λk h=>by
  have:k < xs.length:=by omega
  simp[this]
 obtain⟨a,o,b,r,n,e1,e2,e3,e4,e5⟩:=H i _ _ (gv i hi) (gx i hi);obtain⟨a',o',b',r',n',f1,f2,f3,f4,f5⟩:=H j _ _ (gv j hj) (gx j hj);rw[e1,f1];refine kat_lt e2 e4 f2 f4 ?_;have ez:((#[Value.ref b]++r).toList.zip (#[Value.ref b']++r').toList)=(Value.ref b,Value.ref b') :: r.toList.zip r'.toList:=by simp
 rw[ez];refine kat_cons (wpAny_eqBool_tuple hu e5 f5 ?_);have hne:xs.getD i [] ≠ xs.getD j []:=λz=>by
  have hi' :i < xs.length:=by omega
  have hj' :j < xs.length:=by omega
  exact hij ((cI hn).mp (by simpa[hi',hj'] using z))
 rw[decide_eq_false hne];exact kat_no (gq hu e5 f5 hc)
theorem Yt {a:Addr}{vs:List Value}{xs:List (List Bool)}{n:Nat}{P:PySem.Fin->Shared->Prop}(hu:A.units < cLine)(ho:s.heap.get? a=some (seqObj "list" vs.toArray n))(hl:vs.length=xs.length)(H:∀(i:Nat) (v:Value) (x:List Bool),vs[i]? =some v->xs[i]? =some x->Vj prog w s.heap v x)(hn:xs.Nodup)(h64:vs.length < 64)
  (h:∀p:Array Nat,Pm vs.length p->So (O:=strKind.toKeyOrd) (λi=>nB (xs.getD i [])) p vs.length->P (.done (.ret .none)) { s with heap:=sortedHeap s.heap a vs (p.toList.map λi=>vs.getD i Value.none).toArray }):
  wpAny (model prog w) A (Builtin.«list.sort» ⟨[.ref a],[]⟩) P E s:=by
 rw[list_sort_plain];refine a8 (listItems_at ho rfl (a8 (listUpdate_at ho rfl ?_)));obtain⟨e1,ho1⟩:∃e1,(s.heap.update a (cC λ_=> #[])).get? a=some _:=⟨_,get?_update_seq ho λ_=> #[]⟩;refine a8 (seqEpoch_at ho1 rfl (a8 (wpAny_newTuple (a8 (wpAny_newList (bI ?_))))));have ho6:(((s.heap.update a (cC λ_=> #[])).push (seqObj "tuple" vs.toArray 0)).push (seqObj "list" #[] 0)).get? a=some _:=aa _ (aa _ ho1);have keep:∀b o,s.heap.get? b=some o->o.cls= .type "tuple"->(((s.heap.update a (cC λ_=> #[])).push (seqObj "tuple" vs.toArray 0)).push (seqObj "list" #[] 0)).get? b=some o:=λb o e c=>by
  have hb:b ≠ a:=λz=>by subst z;rw[ho]at e;cases e;have c' :=c;injection c' with c2;exact absurd c2 (by decide)
  exact aa _ (aa _ ((il _ _ _ _ hb).trans e))
 dsimp only;have hsz:vs.toArray.size=vs.length:=by simp
 by_cases h2:vs.toArray.size < 2
 ·rw[if_pos h2,if_pos h2];refine a8 (ac ?_);refine a8 (ac ?_);dsimp only;refine a8 (seqEpoch_at ho6 rfl (a8 (listUpdate_at ho6 rfl ?_ (hsz2:=by rw[Array.size_map];show (pairsOf vs).size<=_;rw[pairsOf_size,bC];omega))))
  simp only[bne_self_eq_false,aL,if_false];have hp:=h (aY vs.length).toArray ⟨by simp,by simp⟩ λi j hij hj=>by omega
  have e:((arrOf (SortSt.mk' general' (vs.toArray.zip vs.toArray) #[] 7 none)).map (·.2))=(((aY vs.length).toArray).toList.map λi=>vs.getD i Value.none).toArray:=by
   show (vs.toArray.zip vs.toArray).map (·.2)=_;have:vs.length=0\/vs.length=1:=by omega
   match vs,this with
   | [],_=>simp
   | [v],_=>simp
  rw[e];exact ac hp
 ·rw[if_neg h2,if_neg h2];have h2' :2<=vs.length:=by omega
  obtain⟨fs,kt,fl,fq⟩:=Ys vs xs hl λi v x q1 q2=>(H i v x q1 q2).keep keep;refine a8 (kat_kind (T:= .type "tuple") kt (by omega) (λv hv=> ?_) (by decide) ?_)
  ·obtain⟨b,o,rfl,g1,g2⟩:=fq v hv;have z:Looks (model prog w) _ (typeOf (.ref b)) o.cls:=(Looks.ld g1).andThen .now;rw[g2]at z;exact z
  refine a8 (dE (kat_run rfl (vs:=vs) (Q:=λst' s' =>s' ={ s with heap:=((s.heap.update a (cC λ_=> #[])).push (seqObj "tuple" vs.toArray 0)).push (seqObj "list" #[] 0) }/\failedOf st' =none/\∃p:Array Nat,Pm vs.length p/\So (O:=strKind.toKeyOrd) (λi=>nB (xs.getD i [])) p vs.length/\(arrOf st').map (·.2)=(p.toList.map λi=>vs.getD i Value.none).toArray)
   (G:=λp s' =>s' ={ s with heap:=((s.heap.update a (cC λ_=> #[])).push _).push _ }/\Pm vs.length p/\So (O:=strKind.toKeyOrd) (λi=>nB (xs.getD i [])) p vs.length) h2' h64 (λp st' s' z1 z2 z3 ⟨z4,z5,z6⟩=>⟨z4,z3,p,z5,z6,kat_snds rfl z2⟩) ?_) ?_ λ_ _ z=>z)
  ·refine Gd.wp (J:=λs' =>s' ={ s with heap:=((s.heap.update a (cC λ_=> #[])).push _).push _ }) (n:=vs.length) (λi j C s' hi hj hij js hc=> ?_) (λp s' ⟨q1,q2⟩ js=>⟨js,q1,q2⟩) _ _ (Xb (λi j hi hj e=> ?_) h2') rfl
   ·subst js;exact gr hu hl (λi v x q1 q2=>(H i v x q1 q2).keep keep) hn hi hj hij (hc _ rfl)
   ·have hi' :i < xs.length:=by omega
    have hj' :j < xs.length:=by omega
    exact(cI (i:=i) (j:=j) (h₀:=hi') (h₁:=hj') hn).mp (by simpa[hi',hj'] using Vi e)
  ·rintro⟨⟨⟩,st'⟩ s' ⟨rfl,hf,p,q1,q2,q3⟩
   refine a8 (seqEpoch_at ho6 rfl (a8 (listUpdate_at ho6 rfl ?_ (hsz2:=by rw[q3,aB,ae,bM,q1.sz,bC];omega))))
   rw[hf];simp only[bne_self_eq_false,aL,if_false];rw[q3];exact ac (h p q1 q2)
theorem UN {l:Addr}{vs:List Value}{xs:List (List Bool)}{Q:Value->Shared->Prop}(hu:A.units+2 < cLine)(hls:s.heap.IsList l vs.toArray)(hl:vs.length=xs.length)(H:∀(i:Nat) (v:Value) (x:List Bool),vs[i]? =some v->xs[i]? =some x->Vj prog w s.heap v x)(hn:xs.Nodup)(h64:vs.length < 64)
  (h:∀p:Array Nat,Pm vs.length p->So (O:=strKind.toKeyOrd) (λi=>nB (xs.getD i [])) p vs.length->Q (.ref (s.heap.objs.size+1)) { s with heap:=sortedAll s.heap vs (p.toList.map λi=>vs.getD i Value.none).toArray }):
  wpAny (model prog w) A (call (.builtin "sorted") [.ref l]) Q E s:=by
 refine call_function_entry kind_sorted plain_sorted entry_sorted (args_sorted1 _) ?_;refine a8 (ac (a8 (collect_list hls (a8 (wpAny_newList ?_)))));have z:((s.heap.push (seqObj "list" #[] 0)).update s.heap.objs.size (cC (·++vs.toArray))).objs.size=s.heap.objs.size+1:=by rw[Heap.size_update,size_push']
 have hoL:(((s.heap.push _).update _ _).push (seqObj "list" vs.toArray 0)).get? _=some _:=z ▸ af _ rfl;rw[z];have kp:∀b o,s.heap.get? b=some o->o.cls= .type "tuple"->(((s.heap.push (seqObj "list" #[] 0)).update _ (cC (·++vs.toArray))).push (seqObj "list" vs.toArray 0)).get? b=some o:=λb o e _=>
  aa _ ((il _ _ _ _ (aD (am e))).trans (aa _ e))
 refine a8 (bI (aN slot_list_sort ⟨_,hoL,rfl⟩ entry_list_sort (Yt (by show A.units+1+1 < _;omega) hoL hl (λi v x q1 q2=>(H i v x q1 q2).keep kp) hn h64 λp q1 q2=>⟨_,rfl,ac ⟨_,rfl,h p q1 q2⟩⟩) (args_list_sort _)))
end
end PV
namespace PV
open PySem PySem.Spec PyProof.Rows L2 PySem.W
def kW:T->List Bool
 | .tup (.tup bs :: _)=>(Zp bs).getD []
 | _=>[]
def gu:T->Bool
 | .tup (.tup bs :: _)=>(Zp bs).isSome
 | _=>false
def leW (a b:T):Bool:= !decide (nB (kW b) < nB (kW a))
def Yu (ts:List T):List T:=ts.mergeSort leW
def Wx:T->R T
 | .lst ts=>if ts.all gu=true/\(ts.map kW).Nodup/\ts.length < 64 then .ok (.lst (Yu ts)) else .bad
 | _=> .bad
theorem Js (a b:T):leW a b=true↔nB (kW a)<=nB (kW b):=by
 unfold leW;rw[iU,decide_eq_false_iff_not,List.not_lt]
theorem Jt (ts:List T):(Yu ts).Perm ts:=im _ _
theorem Yv (ts:List T):(Yu ts).Pairwise λa b=>leW a b=true:=List.pairwise_mergeSort (λa b c h1 h2=>by
 rw[Js]at*;exact List.le_trans h1 h2) (λa b=>by
 rw[dC,Js,Js];exact List.le_total _ _) ts
theorem Wy {l ts:List T}(hp:l.Perm ts)(hn:(ts.map kW).Nodup)(hw:l.Pairwise λa b=>leW a b=true):l=Yu ts:=by
 refine List.Perm.eq_of_pairwise (λa b ha hb h1 h2=> ?_) hw (Yv ts) (hp.trans (Jt ts).symm);rw[Js]at h1 h2;have e:=Vi (List.le_antisymm h1 h2);have ha' :=hp.mem_iff.mp ha;have hb' :=(Jt ts).mem_iff.mp hb;obtain⟨i,hi,rfl⟩:=eP.mp ha';obtain⟨j,hj,rfl⟩:=eP.mp hb';have:=(cI (h₀:=by simpa using hi) (h₁:=by simpa using hj) hn).mp (by simpa using e)
 subst this;rfl
theorem z1M {ts:List T}(hn:(ts.map kW).Nodup){q:Array Nat}(h1:Pm ts.length q)(h2:So (O:=strKind.toKeyOrd) (λi=>nB ((ts.map kW).getD i [])) q ts.length):(q.toList.map λi=>ts.getD i T.non)=Yu ts:=by
 refine Wy ?_ hn ?_
 ·have e:(aY ts.length).map (λi=>ts.getD i T.non)=ts:=by
   refine List.ext_getElem (by simp) λi h1 h2=> ?_
   simp at h1 ⊢;simp[h1]
  exact(h1.pm.map _).trans (by rw[e])
 ·rw[bp,bN];intro i j hi hj hij;rw[bM,h1.sz]at hi hj;have h3:=h2 i j hij hj;have li:=h1.lt hi;have lj:=h1.lt hj;have gi:∀k (hk:k < q.toList.length),q.toList[k]=q.getD k 0:=λk hk=>by
   have hk' :=by simpa using hk
   simp[ix,hk']
  have gk:∀k,k < ts.length->(ts.map kW).getD k []=kW (ts.getD k T.non):=λk hk=>by simp[hk]
  rw[gi,gi,Js];have h4:decide (nB (kW (ts.getD (q.getD i 0) T.non)) < nB (kW (ts.getD (q.getD j 0) T.non)))=true:=by
   rw[← gk _ li,← gk _ lj];exact h3
  exact List.le_of_lt (of_decide_eq_true h4)
theorem Wz {P:Program}{w:World}:∀{k:List Bool} {us:List Value},Vals (k.map V.bl) us->ItemsAre (Zh P w) k us
 | [],_,r=>by rw[bR]at r;cases r;exact .nil
 | b :: k,_,r=>by
  rw[aq]at r;cases r with
  | cons h t=>
   obtain rfl:=(show _=Value.bool b from h);exact .cons (beq_self_eq_true b) (Wz t)
section
variable {X:Cx}{Y:Fx}{pins:List (Addr×Obj)}{σ:Sg}{H:Hp}{s:Shared}
theorem z1N (I:L2.Inv X pins σ H s){v:V}{u:Value}{t:T}(r:Rep H v t)(ru:L2.RelV v u)(h:gu t=true):Vj X.prog X.w s.heap u (kW t):=by
 unfold gu at h;split at h
 ·rename_i bs rest;obtain⟨k,ek⟩:=fJ.mp h;have hk:kW (.tup (.tup bs :: rest))=k:=by show (Zp bs).getD []=k;rw[ek];rfl
  rw[hk];cases r with
  | @tup l ys _ e rr=>
   obtain rfl:u=Value.ref l:=ru;obtain⟨_,its,rv,⟨o,e1,e2,n,e3⟩,_⟩:=I.hok l _ e;cases rr with
   | cons r1 rr=>
    cases r1 with
    | @tup l2 ys2 _ f rr2=>
     obtain⟨_,it2,rv2,⟨o2,f1,f2,n2,f3⟩,_⟩:=I.hok l2 _ f;rw[ue rr2 ek]at rv2;cases rv with
     | @cons _ u1 _ us q1 rv=>
      obtain rfl:=(show _=Value.ref l2 from q1);exact⟨l,o,l2,us.toArray,n,rfl,e1,e2,e3.trans (by simp),o2,it2.toArray,n2,f1,f2,f3,by simpa using Wz rv2⟩
 ·cases h
theorem UO (hu:X.A.units+64 < cLine):Za X (.builtin "sorted") (λvs H Q=>∃l xs ts,vs=[.ref l]/\H l=some (.lst xs)/\zr H xs ts/\ts.all gu=true/\(ts.map kW).Nodup/\ts.length < 64/\∀r ys,H r=none->(∀B:Hp,zr B xs ts->zr B ys (Yu ts))->Q (.ref r) (upd H r (.lst ys))):=by
 intro pins s σ H vs us Q I rv h;obtain⟨l,xs,ts,rfl,hl,r,hp,hn,h64,q⟩:=h;obtain⟨u,rfl,ru⟩:=Zr rv;obtain rfl:u=Value.ref l:=ru;obtain⟨its,rv,pl,hlen,hz⟩:=zH I (.inl hl) r;have hxl:=r.length;have hle:s.heap.objs.size<=s.heap.objs.size+1:=bT _;refine UN (by omega) pl (by rw[ae,hlen]) (λi v x q1 q2=> ?_) hn (by rw[← hlen];exact h64) λpm a1 a2=> ?_
 ·rw[ax]at q2;cases e:ts[i]? with
  | none=>rw[e]at q2;cases q2
  | some t=>
   rw[e]at q2;obtain rfl:kW t=x:=aI q2;obtain⟨v',e1,e2⟩:=r.get e;obtain⟨u',e3,e4⟩:=rv.get e1;rw[q1]at e3;cases e3;exact z1N I e2 e4 (aH.mp hp t (bK e))
 ·rw[← hlen]at a1 a2;obtain⟨n,he⟩:=sortedAll_at _ its (pm.toList.map λi=>its.getD i _).toArray;have hin:∀i∈pm.toList,i < ts.length:=λi hi=>bH.mp (a1.pm.mem_iff.mp hi);have rr:∀B,zr B xs ts->zr B (pm.toList.map λi=>xs.getD i _) _:=λB rb=>by
   have:=Wt rb _ hin;rw[z1M hn a1 a2]at this;exact this
  refine⟨.ref _,upd H _ (.lst (pm.toList.map λi=>xs.getD i _)),I.laid (λb u e=>sortedAll_old e) hle ?_,rfl,q _ _ (I.hok.fresh hle) rr⟩;exact⟨by rw[ae,bM,a1.sz];omega,(pm.toList.map λi=>its.getD i _),n,Wu rv _ (λi hi=>by rw[hxl];exact hin i hi),he⟩
end
def z1O:En->R (List T):=λ_=> .bad
def weT (e:WE):T:= .tup [.tup (e.1.map T.bl),.lst e.2]
theorem Xf {H0 B H:Hp}{n:Nat}{kvs:List (List Key×Addr×V)}{es:List WE}{ls:List Addr}(h:JH H0 B H n kvs es ls):∀(i:Nat) k b v,kvs[i]? =some (k,b,v)->∃k0 ws l xs,es[i]? =some (k0,ws)/\k=kI k0/\v= .ref l/\l∈ls/\Kb H0 B H k0 b/\H l=some (.lst xs)/\zr B xs ws:=by
 induction h with
 | nil=>intro i k b v e;simp at e
 | @cons k' b' l xs ws kvs es ls kb e b r hl no t ih=>
  intro i k b v e';cases i with
  | zero=>cases e';exact⟨k',ws,l,xs,rfl,rfl,rfl,ab,kb,e,r⟩
  | succ i=>
   obtain⟨k0,ws0,l0,xs0,a1,a2,a3,a4,a5⟩:=ih i k b v e';exact⟨k0,ws0,l0,xs0,a1,a2,a3,a9 _ a4,a5⟩
theorem vf {H0 B H:Hp}{n:Nat}{kvs:List (List Key×Addr×V)}{es:List WE}{ls:List Addr}(h:JH H0 B H n kvs es ls):kvs.length=es.length:=by
 induction h with
 | nil=>rfl
 | cons kb e b r hl no t ih=>rw[ay,ay,ih]
theorem Yw {H:Hp}:∀k:List Bool,zr H (k.map V.bl) (k.map T.bl)
 | []=> .nil
 | b :: k=> .cons (.bl b) (Yw k)
theorem vg {B H H' B' :Hp}{d:Addr}{o:Obj}{n:Nat}{kvs:List (List Key×Addr×V)}{es:List WE}{ls:List Addr}(bG:zm B' (zB B H H'))(hd0:H d=none)(bd:B' d=none)(hd:H' d=some (.dT kvs))(en:JH H B' H' n kvs es ls)(hn:∀l∈ls,H l=none):
  rI (zB B H (upd H' d (.frz o (.dT kvs)))) (upd H' d (.frz o (.dT kvs))) (Itd d o) (es.map weT):=by
 intro B2 H2 s12 s22;have up:∀b u,b ≠ d->zB B H H' b=some u->zB B H (upd H' d (.frz o (.dT kvs))) b=some u:=λb u hb h=>by
  cases q:H b with
  | none=>rw[zR q]at h ⊢;rw[zf hb];exact h
  | some w=>rw[zO q]at h ⊢;exact h
 have hd2:H2 d=some (.frz o (.dT kvs)):=s22 _ _ (s12 _ _ (by rw[zR hd0,zl]))
 have hl:=vf en;refine⟨λi hi=>⟨kvs,hd2,by rw[hl];simpa using hi⟩,λi t x H3 et ⟨kvs',k,v,b,Tt,e1,e2,e3,e4,e5,e6⟩=> ?_,λi hi=>⟨kvs,hd2,by rw[hl];simpa using hi⟩⟩
 rw[hd2]at e1;cases e1;subst e4 e6;obtain⟨k0,ws,l,xs,a1,a2,a3,a4,a5,a6,a7⟩:=Xf en i k b v e2;subst a2 a3;rw[ax,a1]at et;cases et;have sN:zm H2 (upd H2 Tt (.tup [.ref b,.ref l])):=zm.new e5 _;have ge:zm B2 (zB B2 H2 (upd H2 Tt (.tup [.ref b,.ref l]))):=zB.ge s22 sN;have bd' :b ≠ d:=λz=>by have:=a5.1;rw[z,hd]at this;cases this
 have ld:l ≠ d:=λz=>by rw[z,hd]at a6;cases a6
 have hB1b:zB B H H' b=some (.tup (k0.map V.bl)):=by
  rcases a5.2 with z | z
  ·rw[zR z];exact a5.1
  ·exact bG _ _ z
 have rb:Rep B2 (.ref b) (.tup (k0.map T.bl)):= .tup (s12 _ _ (up _ _ bd' hB1b)) (Yw k0);have rl:Rep B2 (.ref l) (.lst ws):= .lst (s12 _ _ (up _ _ ld (by rw[zR (hn l a4)];exact a6))) ((a7.mono λc u h=>up c u (λz=>by rw[z,bd]at h;cases h) (bG _ _ h)).mono s12)
 refine⟨sN,.tup (by rw[zR e5,zl]) (.cons (rb.mono ge) (.cons (rl.mono ge) .nil))⟩
section
variable {X:Cx}{Y:Fx}{elt:Expr}{ifs:List Expr}{scope:Scope}{N' :List Str}{k:Nat}{js:List Nat}{tG:TG}{g:T->En->R En}{ft:En->R Bool}{fe:En->R T}
theorem gy {tg iter:Expr}:WY X Y tg iter z1O:= .mk λρ pins s σ H R I ⟨B,J,q⟩=>q.elim
theorem vh {i kt:Nat}{x:Str}{px ap cp pt pos:Pos}{elts:List Expr}(C:jJ X Y (.Tuple elts kt pt) (.Call (.Attribute (.Name x px) "items" ap) [] [] cp) elt ifs scope N' k js z1O tG g ft fe)(hv:PE X (.Name x px) (W3 i))(hb:attributeBase (.Name x px) "items" X.env (eval (.Name x px) X.env)=eval (.Name x px) X.env:=by rfl)(hl:(ap.endLine == cp.line)=true:=by rfl):
  PE X (.ListComp elt [⟨.Tuple elts kt pt,.Call (.Attribute (.Name x px) "items" ap) [] [] cp,ifs,0⟩] scope pos) (λσ H Q=>∃d kvs,σ[i]? =some (some (V.ref d))/\H d=some (.dT kvs)/\∀o,∃B1 ρ ts vs,SI Y B1 ρ σ (upd H d (.frz o (.dT kvs)))/\rI B1 (upd H d (.frz o (.dT kvs))) (Itd d o) ts/\ts.length<=bnd/\zt g ft fe ts (Jo k js ρ)= .ok vs/\
   ∀D H' xs B',upd H d (.frz o (.dT kvs)) D=none->zm (upd H d (.frz o (.dT kvs))) H' ->H' D=some (.lst xs)->zr B' xs vs->zm B' (zB B1 (upd H d (.frz o (.dT kvs))) H')->B' D=none->Q (.ref D) H'):=by
 intro pins s σ H Q I ⟨d,kvs,e1,e2,h⟩;refine jZ (ZU rfl) (F:=λD H' =>Q (.ref D) H') (te:=λσ H Q=>∃Y' ρ',Y'.cl=Y.cl/\(Y'.E=λ_ _ _=>False)/\tS Y' rC fe ρ' σ H Q) (tt:=λσ H Q=>∃Y' ρ',Y'.cl=Y.cl/\tS Y' rE ft ρ' σ H Q) C.sc C.cp C.cm (ve hv hb hl) C.gt
  (λcl Cx' s3 H3 fp pins pins' s σ H Q I ⟨Y',ρ',ey,q⟩=>C.tt Y' ey cl Cx' s3 H3 fp _ ρ' _ s σ H Q I q) (λcl Cx' s3 H3 fp pins xe hp pins' s σ H Q I ⟨Y',ρ',ey,eE,q⟩=>C.el Y' ey cl Cx' s3 H3 fp _ xe (eE ▸ hp) ρ' _ s σ H Q I q) I ?_ ?_ C.hs
 ·refine⟨d,kvs,e1,e2,λo D hD=> ?_⟩;obtain⟨B1,ρ,ts,vs,J,r,hl,ev,q⟩:=h o;exact jl C.gk C.gn J r hl ev hD λH' xs B' a1 a2 a3 a4 a5 _=>q D H' xs B' hD a1 a2 a3 a4 a5
 ·intro D Cc H' s' I' q' hC h0 hL hcell hpin hns;obtain⟨m,hm⟩:=hns;refine⟨m,hm,λh' hsb=>⟨.ref D,H', ?_,rfl,q'⟩⟩;exact I'.turned (λb o hb e=>hsb.extBut b o hb e) hC (b8 hL).symm (.inr h0) hcell hpin
def gz (gw:List T->R (List WE))(us:List T):R (List WE):=if us.length=2 then quiet (gw us) else .bad
def tlB (g:T->En->R En)(ft:En->R Bool)(fe:En->R T)(k:Nat)(js:List Nat)(ρ:En)(es:List WE):R (List T):=if es.length<=bnd then quiet (zt g ft fe (es.map weT) (Jo k js ρ)) else .bad
def Vk (i:Nat)(gw:List T->R (List WE))(ga:En->R (List T))(g:T->En->R En)(ft:En->R Bool)(fe:En->R T)(k:Nat)(js:List Nat):En->RS:=λρ=>(ga ρ).s λus=>match gz gw us with
 | .ok es=>(match tlB g ft fe k js (ρ.set i .un) es with
  | .ok vs=>(match Wx (.lst vs) with
   | .ok (.lst ws)=> .rf ws
   | _=> .bad)
  | _=> .bad)
 | _=> .bad
theorem vi {cl:Nat->Value}{kF kr i kt:Nat}{x f:Str}{p1 p2 p3 p4 p5 p6 p7 px ap cp pt pc:Pos}{elts es:List Expr}{a:Expr}{gw:List T->R (List WE)}{ga:En->R (List T)}(O:QQ f CX0 kF (GW gw) ⟨X.prog,X.w,X.K,X.mg,X.base,cl⟩)(hr:jR kr X.A)(hN:X.N.Nodup)(hi:X.N[i]? =some x)(hx:L2.Loc X.env.scope x)
  (ha:uE X Y (a :: es) ga) (C:jJ X Y (.Tuple elts kt pt) (.Call (.Attribute (.Name x px) "items" ap) [] [] cp) elt ifs scope N' k js z1O tG g ft fe) (hv:PE X (.Name x px) (W3 i)) (ms:X.mg "sorted"=none) (gs:Gl X "sorted":=by rfl) (hF:kF<=kr:=by omega) (gf:Gl X f:=by rfl) (hd:(f == ("__debug__":Str))=false:=by decide)
  (hsw:swapsWith (.Call (.Name f p2) (a :: es) [] p3) (some (.Name x p1)) p4.line X.env=pure false:=by rfl) (hf:X.fn x=true\/X.env.scope.names.lookup x=some .local:=by first | exact .inl rfl | exact .inr rfl | assumption)
  (hs:starEach (a :: es) X.env=(false,eval a X.env) :: starEach es X.env:=by exact zE rfl) (hz:((backTo p3 (starEach es X.env)).any λx=>x.fst)=false:=by exact Z0 rfl) (hb:attributeBase (.Name x px) "items" X.env (eval (.Name x px) X.env)=eval (.Name x px) X.env:=by rfl) (hl:(ap.endLine == cp.line)=true:=by rfl):
  WX X Y [.Assign [.Name x p1] (.Call (.Name f p2) (a :: es) [] p3) p4,.Return (some (.Call (.Name "sorted" p5) [.ListComp elt [⟨.Tuple elts kt pt,.Call (.Attribute (.Name x px) "items" ap) [] [] cp,ifs,0⟩] scope pc] [] p6)) p7] (Vk i gw ga g ft fe k js):= .mk λρ=>by
 obtain⟨⟨_,pf,fw,fdw,CW,FW⟩⟩:=O;have W:=(jd (JQ hN hi hx (pos:=p4) (Ji (pos:=p3) (p:=p2) FW (hr.mono hF) gf CW.m CW.F.kp CW.b .nil (yV (E:=λ_ _ _=>False)) (ha ρ) hd hs hz) hsw hf)
  (Jh (W4 (pos:=p7) (ZC (p:=p5) (pos:=p6) (UO hr.units) gs ms PyProof.Rows.Boot.«sorted» (zj (vh (pos:=pc) C hv hb hl) zD (st1 rfl)) (by decide) (by decide) (st1 rfl) rfl))))
 intro pins s σ H D Iv ⟨B,I,q⟩;have hlen:i < σ.length:=by rw[Iv.len];exact(aw.mp hi).1
 refine W pins s σ H D Iv ?_;refine jj I q λus vs H1 _ s1 r1 I1 q1=> ?_;have q1:PoS Y _ (match gz gw us with
  | .ok es=>(match tlB g ft fe k js (ρ.set i .un) es with
   | .ok vs=>(match Wx (.lst vs) with
    | .ok (.lst ws)=> .rf ws
    | _=> .bad)
   | _=> .bad)
  | _=> .bad) D:=q1
 unfold gz at q1;split at q1
 case h_2=>exact q1.elim
 rename_i we e1;split at e1
 case isFalse=>cases e1
 rename_i h2;cases eg:gw us with
 | bad=>rw[eg]at e1;cases e1
 | ex c=>rw[eg]at e1;cases e1
 | ok we' =>
  rw[eg]at e1;cases e1;unfold tlB at q1;split at q1
  case h_2=>exact q1.elim
  rename_i ts e2;split at e2
  case isFalse=>cases e2
  rename_i h3;cases ec:zt g ft fe (we.map weT) (Jo k js (ρ.set i .un)) with
  | bad=>rw[ec]at e2;cases e2
  | ex c=>rw[ec]at e2;cases e2
  | ok ts' =>
   rw[ec]at e2;cases e2;unfold Wx at q1;dsimp only at q1
   by_cases h4:ts.all gu=true/\(ts.map kW).Nodup/\ts.length < 64
   case neg=>rw[if_neg h4]at q1;exact q1.elim
   rw[if_pos h4]at q1;have q1:PoS Y _ (.rf (Yu ts)) D:=q1;rw[bJ];refine⟨_,us,h2,I1.sB,r1, ?_⟩;rw[eg];intro d kvs ls H' B' n z1 z2 z3 z4 z5 z6 z7 z8 z9;refine⟨d,kvs,a_ hlen,z6,λo=> ?_⟩;have sF:zm H1 (upd H' d (.frz o (.dT kvs))):=λb u h=>by
    rw[zf (λz=>by rw[z,z4]at h;cases h)];exact z1 _ _ h
   have J:=(I1.grow sF).forget i (some (.ref d));refine⟨_,ρ.set i .un,we.map weT,ts,J,vg z3 z4 z5 z6 z7 z9,by rw[ae];exact h3,ec,λDd H2 xs B2 a1 a2 a3 a4 a5 a6=> ?_⟩
   have lB:=a5.trans (zB.le J.sB a2);refine⟨Dd,xs,ts,rfl,a3,a4.mono lB,h4.1,h4.2.1,h4.2.2,λr ys hr' ry=> ?_⟩;have sN:zm H2 (upd H2 r (.lst ys)):=zm.new hr' _;refine q1 r ys _ B2 (J.sH.trans (a2.trans sN)) ((J.sH.trans a2).free hr') zl (ry B2 a4) (lB.free hr') ((a5.trans λb u h=> ?_).trans (uH J.sH J.old (a2.trans sN) J.sB));cases q:upd H' d (.frz o (.dT kvs)) b with
   | none=>rw[zR q]at h ⊢;exact sN _ _ h
   | some w=>rw[zO q]at h ⊢;exact h
end
def frzS (f:En->RS):En->RS:=λρ=>f (frz ρ)
theorem gB {X:Cx}{Y:Fx}{st:Stmt}{f:En->RS}(h:JF X Y st f):JF X Y st (frzS f):= .mk λρ=>
 PS.imp (h (frz ρ)) λD σ H ⟨B,I,q⟩=>⟨_,I.frz,PoS.up I.up q⟩
end PV
namespace G
open PySem PySem.Spec PyProof.Rows L2 PV
def b_1h:En->RS:=
  zn (ifS (zx ltC (vB 1) (ap1 Zo (vB 0))) (zq (zd ixT (vE 0) (vE 1))) (nxS))
  (zn (ifS (zx eqC (vB 0) (j4 (ze))) (zq (cE (.int 0))) (nxS))
  (zq (zd zy (zd zY (zd ixT (vE 0) (zd JJ (vE 1) (ap1 Zo (vB 0)))) (cE (.int 31))) (vE 1))))
def gC:List T->R T:=λts=>zh (b_1h  (en0 2 ts))
def b_4 (c_1h:List T->R T):En->RS:=
  zn (zI 3 (zd JJ (zd zY (zd zy (zb 2 c_1h (za (vE 0) (za (vE 1) (ze)))) (zd zY (cE (.int 6151)) (zd zy (vE 1) (cE (.int 1))))) (cE (.int 40692))) (cE (.int 2147483399))))
  (zq (zd JJ (zd JJ (zd zy (zd zY (vE 3) (vE 3)) (zd wv (vE 3) (cE (.int 31)))) (cE (.int 2147483629))) (vE 2)))
def f_4:List T->R T:=λts=>zh (b_4 (gC) (en0 4 ts))
def GX (c_4:List T->R T):En->RS:=
  zn (zI 2 (cE (.str "abcdefghijklmnopqrstuvwxyz")))
  (zn (ifS (zx gtC (zb 3 c_4 (za (vE 0) (za (vE 1) (za (cE (.int 6)) (ze))))) (cE (.int 0))) (zq (zd ixT (j4 (za (cE (.str "a")) (za (cE (.str "b")) (za (cE (.str "ab")) (za (cE (.str "cab")) (ze)))))) (zb 3 c_4 (za (vE 0) (za (zd zy (vE 1) (cE (.int 1))) (za (cE (.int 4)) (ze))))))) (nxS))
  (zq (ap1 (Kw "") (zL (Zx (zd zy (cE (.int 1)) (zb 3 c_4 (za (vE 0) (za (zd zy (vE 1) (cE (.int 1))) (za (cE (.int 3)) (ze))))))) (zC 0) (zW) (zd ixT (vE 3) (zb 3 c_4 (za (vE 1) (za (zd zy (zd zy (vE 2) (cE (.int 2))) (vE 0)) (za (cE (.int 26)) (ze)))))) 1 [0,1,2]))))
def k7:List T->R T:=λts=>zh (GX (f_4) (en0 3 ts))
def GY (c_4:List T->R T)(c_12:List T->R T):En->RS:=
  zn (ifS (zx gtC (zb 3 c_4 (za (vE 0) (za (vE 1) (za (cE (.int 3)) (ze))))) (cE (.int 0))) (zn (zI 2 (zd JW (zb 3 c_4 (za (vE 0) (za (zd zy (vE 1) (cE (.int 1))) (za (cE (.int 7)) (ze))))) (cE (.int 3))))
  (zn (ifS (zx eqC (zb 3 c_4 (za (vE 0) (za (zd zy (vE 1) (cE (.int 3))) (za (cE (.int 8)) (ze))))) (cE (.int 0))) (zI 2 (zd ixT (j4 (za (u8 (cE (.int 20))) (za (cE (.int 17)) (za (cE (.int 20)) (ze))))) (zb 3 c_4 (za (vE 0) (za (zd zy (vE 1) (cE (.int 4))) (za (cE (.int 3)) (ze))))))) (nxS))
  (zq (Z1 (za (cE (.str "whole")) (za (vE 2) (za (zd yJ (cE (.int 20)) (zd zy (vE 2) (zb 3 c_4 (za (vE 0) (za (zd zy (vE 1) (cE (.int 2))) (za (cE (.int 4)) (ze))))))) (ze)))))))) (nxS))
  (zn (uI 3 (ze))
  (zn (j3 (Zx (zd zy (cE (.int 1)) (zb 3 c_4 (za (vE 0) (za (zd zy (vE 1) (cE (.int 1))) (za (cE (.int 4)) (ze))))))) (zC 4) (zn (zI 5 (zb 2 c_12 (za (vE 0) (za (zd zy (zd zy (vE 1) (cE (.int 5))) (zd zY (cE (.int 5)) (vE 4))) (ze)))))
  (ifS (zx uF (vB 5) (vB 3)) (Q6 3 (vE 5)) (nxS))))
  (zq (Z1 (za (cE (.str "pick")) (za (ap1 Qv (zL (xF (vE 3)) (zK 0 1) (zW) (Z1 (za (vE 1) (za (zd zy (cE (.int 1)) (zb 3 c_4 (za (vE 2) (za (zd zy (zd zy (vE 3) (cE (.int 30))) (vE 0)) (za (cE (.int 20)) (ze)))))) (ze)))) 2 [0,1])) (ze)))))))
def gD:List T->R T:=λts=>zh (GY (f_4) (k7) (en0 6 ts))
def b_h (c_4:List T->R T)(c_15:List T->R T)(c_h:List T->R T):En->RS:=
  zn (zI 3 (zb 3 c_4 (za (vE 0) (za (vE 1) (za (cE (.int 5)) (ze))))))
  (zn (ifS (orT (zx eqC (vB 2) (cE (.int 1))) (zx ltC (vB 3) (cE (.int 2)))) (zq (zb 2 c_15 (za (vE 0) (za (zd zy (vE 1) (cE (.int 1))) (ze))))) (nxS))
  (zn (ifS (zx ltC (vB 3) (cE (.int 4))) (zn (zI 4 (zL (Zx (zd zy (cE (.int 1)) (zb 3 c_4 (za (vE 0) (za (zd zy (vE 1) (cE (.int 1))) (za (cE (.int 3)) (ze))))))) (zC 0) (zW) (zb 3 c_h (za (vE 1) (za (zd zy (zd zy (zd zY (cE (.int 3)) (vE 2)) (cE (.int 40))) (zd zY (cE (.int 50)) (vE 0))) (za (zd JW (vE 3) (cE (.int 1))) (ze))))) 1 [0,1,2]))
  (zq (Z1 (za (cE (.str "row")) (za (ap1 Qv (vE 4)) (ze)))))) (nxS))
  (zn (zI 5 (zb 3 c_4 (za (vE 0) (za (zd zy (vE 1) (cE (.int 1))) (za (cE (.int 3)) (ze))))))
  (zq (Z1 (za (cE (.str "many")) (za (zb 3 c_h (za (vE 0) (za (zd zy (zd zY (cE (.int 3)) (vE 1)) (cE (.int 40))) (za (zd JW (vE 2) (cE (.int 1))) (ze))))) (za (vE 5) (za (zd yJ (cE (.int 3)) (zd zy (vE 5) (zb 3 c_4 (za (vE 0) (za (zd zy (vE 1) (cE (.int 2))) (za (cE (.int 3)) (ze))))))) (ze))))))))))
def S_h:Nat->Nat->List T->R T
 | 0,_=>λ_=> .bad
 | n+1,_=>λts=>zh (b_h (f_4) (gD) (S_h n 0) (en0 6 ts))
abbrev f_h (n:Nat):List T->R T:=S_h n 0
def b_i:En->RS:=
  zn (zI 1 (j4 (za (Z1 (ze)) (ze))))
  (zn (j3 (ZB (vE 0)) (zC 2) (zn (uI 3 (ze))
  (zn (j3 (ZB (vE 1)) (zC 4) (Q7 3 (zL (ZB (vE 2)) (zC 0) (zW) (zd zy (vE 1) (Z1 (za (vE 0) (ze)))) 1 [4])))
  (mvS 1 3))))
  (zq (vE 1)))
def f_i:List T->R T:=λts=>zh (b_i  (en0 5 ts))
def b_5 (c_5:List T->R T)(c_i:List T->R T):En->RS:=
  zn (ifS (zx eqC (zd ixT (vE 0) (cE (.int 0))) (cE (.str "whole"))) (zq (GS (jV (zd ixT (vE 0) (cE (.int 1))) (zd zy (zd ixT (vE 0) (cE (.int 2))) (cE (.int 1)))))) (nxS))
  (zn (ifS (zx eqC (zd ixT (vE 0) (cE (.int 0))) (cE (.str "pick"))) (zq (zL (ZB (zd ixT (vE 0) (cE (.int 1)))) (zK 0 1) (zW) (vE 0) 2 [])) (nxS))
  (zn (ifS (zx eqC (zd ixT (vE 0) (cE (.int 0))) (cE (.str "row"))) (zq (zb 1 c_i (za (zL (ZB (zd ixT (vE 0) (cE (.int 1)))) (zC 0) (zW) (zb 1 c_5 (za (vE 0) (ze))) 1 []) (ze)))) (nxS))
  (zn (uI 1 (ze))
  (zn (j3 (jV (zd ixT (vE 0) (cE (.int 2))) (zd zy (zd ixT (vE 0) (cE (.int 3))) (cE (.int 1)))) (zC 2) (Q7 1 (zb 1 c_i (za (zd zY (j4 (za (zb 1 c_5 (za (zd ixT (vE 0) (cE (.int 1))) (ze))) (ze))) (vE 2)) (ze)))))
  (zq (vE 1))))))
def S_5:Nat->Nat->List T->R T
 | 0,_=>λ_=> .bad
 | n+1,_=>λts=>zh (b_5 (S_5 n 0) (f_i) (en0 3 ts))
abbrev f_5 (n:Nat):List T->R T:=S_5 n 0
def b_f (c_5:List T->R T)(c_f:List T->R T):En->RS:=
  zn (ifS (zx inC (zd ixT (vE 0) (cE (.int 0))) (Z1 (za (cE (.str "whole")) (za (cE (.str "pick")) (ze))))) (zq (ap1 Zo (zb 1 c_5 (za (vE 0) (ze))))) (nxS))
  (zn (zI 1 (ifE (zx eqC (zd ixT (vE 0) (cE (.int 0))) (cE (.str "row"))) (zL (ZB (zd ixT (vE 0) (cE (.int 1)))) (zC 0) (zW) (zb 1 c_f (za (vE 0) (ze))) 1 []) (j4 (ze))))
  (zn (zI 2 (cE (.int 1)))
  (zn (j3 (ZB (vE 1)) (zC 3) (zI 2 (zd zY (vE 2) (vE 3))))
  (zn (ifS (zx eqC (zd ixT (vE 0) (cE (.int 0))) (cE (.str "many"))) (zn (zI 4 (zb 1 c_f (za (zd ixT (vE 0) (cE (.int 1))) (ze))))
  (zn (zI 2 (zd zy (ap1 yX (ZV eqC (zd ixT (vE 0) (cE (.int 2))) (cE (.int 0)))) (zd zY (vE 4) (ap1 yX (chE leC leC (zd ixT (vE 0) (cE (.int 2))) (cE (.int 1)) (zd ixT (vE 0) (cE (.int 3))))))))
  (zn (zI 2 (zd zy (vE 2) (zd zY (zd zY (vE 4) (vE 4)) (ap1 yX (chE leC leC (zd ixT (vE 0) (cE (.int 2))) (cE (.int 2)) (zd ixT (vE 0) (cE (.int 3))))))))
  (zI 2 (zd zy (vE 2) (zd zY (zd zY (zd zY (vE 4) (vE 4)) (vE 4)) (ap1 yX (ZV eqC (zd ixT (vE 0) (cE (.int 3))) (cE (.int 3)))))))))) (nxS))
  (zq (vE 2))))))
def S_f:Nat->Nat->List T->R T
 | 0,_=>λ_=> .bad
 | n+1,_=>λts=>zh (b_f (f_5 8) (S_f n 0) (en0 5 ts))
abbrev f_f (n:Nat):List T->R T:=S_f n 0
def GZ (c_h:List T->R T)(c_f:List T->R T):En->RS:=
  zn (zI 3 (zb 3 c_h (za (vE 0) (za (vE 1) (za (cE (.int 3)) (ze))))))
  (zn (j3 (Zx (cE (.int 3))) (zC 4) (zn (ifS (zx leC (zb 1 c_f (za (vE 3) (ze))) (vB 2)) (zq (vE 3)) (nxS))
  (zI 3 (zb 3 c_h (za (vE 0) (za (zd zy (zd zy (vE 1) (cE (.int 500))) (zd zY (cE (.int 700)) (vE 4))) (za (cE (.int 2)) (ze))))))))
  (zq (ifE (zx leC (zb 1 c_f (za (vE 3) (ze))) (vB 2)) (vE 3) (Z1 (za (cE (.str "whole")) (za (u8 (cE (.int 1))) (za (cE (.int 2)) (ze))))))))
def gE:List T->R T:=λts=>zh (GZ (f_h 8) (f_f 8) (en0 5 ts))
def b_a:En->RS:=
  zq (j2 (ap1 (wZ "int") (vB 0)) (Qt (ap1 (wZ "bool") (vB 0))))
def f_a:List T->R T:=λts=>zh (b_a  (en0 1 ts))
def b_1j (c_a:List T->R T):En->RS:=
  zq (j2 (zb 1 c_a (za (vE 0) (ze))) (j2 (zb 1 c_a (za (vE 1) (ze))) (ch3E leC leC leC (vB 2) (vB 0) (vB 1) (vB 3))))
def z00:List T->R T:=λts=>zh (b_1j (f_a) (en0 4 ts))
def b_e:En->RS:=
  zq (j2 (ap1 (wZ "tuple") (vB 0)) (chE leC leC (vB 1) (ap1 Zo (vB 0)) (vB 2)))
def f_e:List T->R T:=λts=>zh (b_e  (en0 3 ts))
def b_v:En->RS:=
  zn (ifS (orT (WW (jT (ap1 (wZ "str") (vB 0)))) (WW (chT leC leC (cE (.int 1)) (ap1 Zo (vB 0)) (cE (.int 3))))) (zq (cE (.bl false))) (nxS))
  (zq (ap1 V0 (zL (ZB (vE 0)) (zC 0) (zW) (chE leC leC (cE (.str "a")) (vB 0) (cE (.str "z"))) 1 [])))
def f_v:List T->R T:=λts=>zh (b_v  (en0 1 ts))
def z01 (c_a:List T->R T)(c_e:List T->R T)(c_v:List T->R T):En->RS:=
  zq (j2 (zb 3 c_e (za (vE 0) (za (cE (.int 2)) (za (cE (.int 2)) (ze))))) (j2 (zb 1 c_v (za (zd ixT (vE 0) (cE (.int 0))) (ze))) (j2 (zb 1 c_a (za (zd ixT (vE 0) (cE (.int 1))) (ze))) (chE leC leC (cE (.int 1)) (zd ixT (vE 0) (cE (.int 1))) (cE (.int 20))))))
def gF:List T->R T:=λts=>zh (z01 (f_a) (f_e) (f_v) (en0 1 ts))
def z02 (c_e:List T->R T)(c_19:List T->R T):En->RS:=
  zn (ifS (orT (WW (jT (zb 3 c_e (za (vE 0) (za (cE (.int 1)) (za (cE (.int 4)) (ze))))))) (WW (jT (ap1 V0 (zL (ZB (vE 0)) (zC 0) (zW) (zb 1 c_19 (za (vE 0) (ze))) 1 []))))) (zq (cE (.bl false))) (nxS))
  (zn (zI 1 (zL (ZB (vE 0)) (zC 0) (zW) (zd ixT (vE 0) (cE (.int 0))) 1 []))
  (zq (ZV eqC (ap1 QI (vB 1)) (ap1 Zo (vB 1)))))
def gG:List T->R T:=λts=>zh (z02 (f_e) (gF) (en0 2 ts))
def b_9 (c_1j:List T->R T)(c_9:List T->R T)(c_17:List T->R T)(c_1o:List T->R T):En->RS:=
  zn (ifS (orT (zx eqC (vB 1) (cE (.int 0))) (orT (WW (jT (ap1 (wZ "tuple") (vB 0)))) (zx eqC (ap1 Zo (vB 0)) (cE (.int 0))))) (zq (cE (.bl false))) (nxS))
  (zn (ifS (zx eqC (zd ixT (vE 0) (cE (.int 0))) (cE (.str "whole"))) (zq (j2 (ZV eqC (ap1 Zo (vB 0)) (cE (.int 3))) (zb 4 c_1j (za (zd ixT (vE 0) (cE (.int 1))) (za (zd ixT (vE 0) (cE (.int 2))) (za (u8 (cE (.int 20))) (za (cE (.int 20)) (ze)))))))) (nxS))
  (zn (ifS (zx eqC (zd ixT (vE 0) (cE (.int 0))) (cE (.str "pick"))) (zq (j2 (ZV eqC (ap1 Zo (vB 0)) (cE (.int 2))) (zb 1 c_17 (za (zd ixT (vE 0) (cE (.int 1))) (ze))))) (nxS))
  (zn (ifS (zx eqC (zd ixT (vE 0) (cE (.int 0))) (cE (.str "row"))) (zq (j2 (ZV eqC (ap1 Zo (vB 0)) (cE (.int 2))) (zb 2 c_1o (za (zd ixT (vE 0) (cE (.int 1))) (za (zd JW (vE 1) (cE (.int 1))) (ze)))))) (nxS))
  (zn (ifS (zx eqC (zd ixT (vE 0) (cE (.int 0))) (cE (.str "many"))) (zq (j2 (ZV eqC (ap1 Zo (vB 0)) (cE (.int 4))) (j2 (zb 4 c_1j (za (zd ixT (vE 0) (cE (.int 2))) (za (zd ixT (vE 0) (cE (.int 3))) (za (cE (.int 0)) (za (cE (.int 3)) (ze)))))) (zb 2 c_9 (za (zd ixT (vE 0) (cE (.int 1))) (za (zd JW (vE 1) (cE (.int 1))) (ze))))))) (nxS))
  (zq (cE (.bl false)))))))
def z03 (c_e:List T->R T)(c_9:List T->R T):En->RS:=
  zq (j2 (zb 3 c_e (za (vE 0) (za (cE (.int 1)) (za (cE (.int 3)) (ze))))) (ap1 V0 (zL (ZB (vE 0)) (zC 0) (zW) (zb 2 c_9 (za (vE 0) (za (vE 1) (ze)))) 1 [1])))
def S_9:Nat->Nat->List T->R T
 | 0,_=>λ_=> .bad
 | n+1,0=>λts=>zh (b_9 (z00) (S_9 n 0) (gG) (S_9 n 1) (en0 2 ts))
 | n+1,_=>λts=>zh (z03 (f_e) (S_9 n 0) (en0 2 ts))
abbrev f_9 (n:Nat):List T->R T:=S_9 n 0
abbrev f_1o (n:Nat):List T->R T:=S_9 n 1
def b_3 (c_9:List T->R T):En->RS:=
  zq (zb 2 c_9 (za (vE 0) (za (cE (.int 3)) (ze))))
def f_3:List T->R T:=λts=>zh (b_3 (f_9 20) (en0 1 ts))
def b_o (c_3:List T->R T):En->RS:=
  ifS (WW (jT (zb 1 c_3 (za (vE 0) (ze))))) (XZ) (nxS)
def f_o:List T->R T:=λts=>zh (b_o (f_3) (en0 1 ts))
def b_2 (c_2:List T->R T):En->RS:=
  zn (ifS (zx eqC (zd ixT (vE 0) (cE (.int 0))) (cE (.str "whole"))) (zq (Z1 (za (cE (.str "whole")) (za (u8 (zd ixT (vE 0) (cE (.int 2)))) (za (u8 (zd ixT (vE 0) (cE (.int 1)))) (ze)))))) (nxS))
  (zn (ifS (zx eqC (zd ixT (vE 0) (cE (.int 0))) (cE (.str "pick"))) (zq (Z1 (za (cE (.str "pick")) (za (ap1 X8 (zd ixT (vE 0) (cE (.int 1)))) (ze))))) (nxS))
  (zn (ifS (zx eqC (zd ixT (vE 0) (cE (.int 0))) (cE (.str "row"))) (zq (Z1 (za (cE (.str "row")) (za (ap1 Qv (zL (Vc (zd ixT (vE 0) (cE (.int 1)))) (zC 0) (zW) (zb 1 c_2 (za (vE 0) (ze))) 1 [])) (ze))))) (nxS))
  (zq (Z1 (za (cE (.str "many")) (za (zb 1 c_2 (za (zd ixT (vE 0) (cE (.int 1))) (ze))) (za (zd ixT (vE 0) (cE (.int 2))) (za (zd ixT (vE 0) (cE (.int 3))) (ze)))))))))
def S_2:Nat->Nat->List T->R T
 | 0,_=>λ_=> .bad
 | n+1,_=>λts=>zh (b_2 (S_2 n 0) (en0 1 ts))
abbrev f_2 (n:Nat):List T->R T:=S_2 n 0
def b_j (c_o:List T->R T)(c_2:List T->R T):En->RS:=
  zn (jU (zb 1 c_o (za (vE 0) (ze))))
  (zq (zb 1 c_2 (za (vE 0) (ze))))
def f_j:List T->R T:=λts=>zh (b_j (f_o) (f_2 8) (en0 1 ts))
def z1P (c_a:List T->R T):En->RS:=
  zq (j2 (zb 1 c_a (za (vE 0) (ze))) (chE leC leC (u8 (cE (.int 50))) (vB 0) (cE (.int 50))))
def z04:List T->R T:=λts=>zh (z1P (f_a) (en0 1 ts))
def b_n (c_v:List T->R T)(c_n:List T->R T)(c_1e:List T->R T):En->RS:=
  zn (ifS (orT (zx eqC (vB 1) (cE (.int 0))) (orT (WW (jT (ap1 (wZ "tuple") (vB 0)))) (zx eqC (ap1 Zo (vB 0)) (cE (.int 0))))) (zq (cE (.bl false))) (nxS))
  (zn (ifS (orT (zx eqC (zd ixT (vE 0) (cE (.int 0))) (cE (.str "sum"))) (zx eqC (zd ixT (vE 0) (cE (.int 0))) (cE (.str "size")))) (zq (j2 (ZV eqC (ap1 Zo (vB 0)) (cE (.int 3))) (j2 (zb 1 c_1e (za (zd ixT (vE 0) (cE (.int 1))) (ze))) (zb 1 c_1e (za (zd ixT (vE 0) (cE (.int 2))) (ze)))))) (nxS))
  (zn (ifS (zx eqC (zd ixT (vE 0) (cE (.int 0))) (cE (.str "word"))) (zq (j2 (ZV eqC (ap1 Zo (vB 0)) (cE (.int 2))) (zb 1 c_v (za (zd ixT (vE 0) (cE (.int 1))) (ze))))) (nxS))
  (zn (ifS (orT (zx eqC (zd ixT (vE 0) (cE (.int 0))) (cE (.str "rising"))) (zx eqC (zd ixT (vE 0) (cE (.int 0))) (cE (.str "unlike")))) (zq (ZV eqC (ap1 Zo (vB 0)) (cE (.int 1)))) (nxS))
  (zn (ifS (zx eqC (zd ixT (vE 0) (cE (.int 0))) (cE (.str "no"))) (zq (j2 (ZV eqC (ap1 Zo (vB 0)) (cE (.int 2))) (zb 2 c_n (za (zd ixT (vE 0) (cE (.int 1))) (za (zd JW (vE 1) (cE (.int 1))) (ze)))))) (nxS))
  (zn (ifS (orT (zx eqC (zd ixT (vE 0) (cE (.int 0))) (cE (.str "all"))) (zx eqC (zd ixT (vE 0) (cE (.int 0))) (cE (.str "some")))) (zq (j2 (ZV eqC (ap1 Zo (vB 0)) (cE (.int 3))) (j2 (zb 2 c_n (za (zd ixT (vE 0) (cE (.int 1))) (za (zd JW (vE 1) (cE (.int 1))) (ze)))) (zb 2 c_n (za (zd ixT (vE 0) (cE (.int 2))) (za (zd JW (vE 1) (cE (.int 1))) (ze))))))) (nxS))
  (zq (cE (.bl false))))))))
def S_n:Nat->Nat->List T->R T
 | 0,_=>λ_=> .bad
 | n+1,_=>λts=>zh (b_n (f_v) (S_n n 0) (z04) (en0 2 ts))
abbrev f_n (n:Nat):List T->R T:=S_n n 0
def b_8 (c_n:List T->R T):En->RS:=
  zq (zb 2 c_n (za (vE 0) (za (cE (.int 3)) (ze))))
def f_8:List T->R T:=λts=>zh (b_8 (f_n 8) (en0 1 ts))
def b_6 (c_8:List T->R T):En->RS:=
  ifS (WW (jT (zb 1 c_8 (za (vE 0) (ze))))) (XZ) (nxS)
def f_6:List T->R T:=λts=>zh (b_6 (f_8) (en0 1 ts))
def b_1 (c_10:List T->R T)(c_r:List T->R T):En->RS:=
  zn (ifS (zx eqC (zd ixT (vE 0) (cE (.int 0))) (cE (.str "whole"))) (zq (zd zy (zd JW (zd ixT (vE 0) (cE (.int 2))) (zd ixT (vE 0) (cE (.int 1)))) (cE (.int 1)))) (nxS))
  (zn (ifS (zx eqC (zd ixT (vE 0) (cE (.int 0))) (cE (.str "pick"))) (zq (ap1 Zo (zd ixT (vE 0) (cE (.int 1))))) (nxS))
  (zn (ifS (zx eqC (zd ixT (vE 0) (cE (.int 0))) (cE (.str "row"))) (zq (zb 1 c_10 (za (zd ixT (vE 0) (cE (.int 1))) (ze)))) (nxS))
  (zq (zb 2 c_r (za (vE 0) (za (zd zy (zd ixT (vE 0) (cE (.int 3))) (cE (.int 1))) (ze)))))))
def gH (c_1:List T->R T):En->RS:=
  zn (zI 1 (cE (.int 1)))
  (zn (j3 (ZB (vE 0)) (zC 2) (zI 1 (zd zY (vE 1) (zb 1 c_1 (za (vE 2) (ze))))))
  (zq (vE 1)))
def b_r (c_10:List T->R T):En->RS:=
  zq (ap1 xS (zL (jV (zd ixT (vE 0) (cE (.int 2))) (vE 1)) (zC 0) (zW) (zb 1 c_10 (za (zd zY (j4 (za (zd ixT (vE 1) (cE (.int 1))) (ze))) (vE 0)) (ze))) 1 [0]))
def S_1:Nat->Nat->List T->R T
 | 0,_=>λ_=> .bad
 | n+1,0=>λts=>zh (b_1 (S_1 n 1) (S_1 n 2) (en0 1 ts))
 | n+1,1=>λts=>zh (gH (S_1 n 0) (en0 3 ts))
 | n+1,_=>λts=>zh (b_r (S_1 n 1) (en0 2 ts))
abbrev f_1 (n:Nat):List T->R T:=S_1 n 0
abbrev f_10 (n:Nat):List T->R T:=S_1 n 1
abbrev f_r (n:Nat):List T->R T:=S_1 n 2
def b_q:En->RS:=
  zq (zL (ZB (zd ixT (vE 0) (cE (.int 1)))) (zC 0) (zW) (zd ixT (vE 0) (cE (.int 0))) 1 [])
def f_q:List T->R T:=λts=>zh (b_q  (en0 1 ts))
def b_g (c_q:List T->R T)(c_1n:List T->R T)(c_13:List T->R T):En->RS:=
  zn (ifS (zx eqC (zd ixT (vE 0) (cE (.int 0))) (cE (.str "whole"))) (zq (zd zy (zd ixT (vE 0) (cE (.int 1))) (vE 1))) (nxS))
  (zn (ifS (zx eqC (zd ixT (vE 0) (cE (.int 0))) (cE (.str "pick"))) (zq (zd ixT (zb 1 c_q (za (vE 0) (ze))) (vE 1))) (nxS))
  (zn (ifS (zx eqC (zd ixT (vE 0) (cE (.int 0))) (cE (.str "row"))) (zq (zb 2 c_13 (za (zd ixT (vE 0) (cE (.int 1))) (za (vE 1) (ze))))) (nxS))
  (zq (zb 2 c_1n (za (vE 0) (za (vE 1) (ze)))))))
def gJ (c_r:List T->R T)(c_13:List T->R T):En->RS:=
  zn (zI 2 (zd ixT (vE 0) (cE (.int 2))))
  (zn (Zk (zx leC (zb 2 c_r (za (vE 0) (za (zd zy (vE 2) (cE (.int 1))) (ze)))) (vB 1)) (zI 2 (zd zy (vE 2) (cE (.int 1)))) (8))
  (zq (zb 2 c_13 (za (zd zY (j4 (za (zd ixT (vE 0) (cE (.int 1))) (ze))) (vE 2)) (za (zd JW (vE 1) (zb 2 c_r (za (vE 0) (za (vE 2) (ze))))) (ze))))))
def gK (c_1:List T->R T)(c_g:List T->R T):En->RS:=
  zn (uI 2 (ze))
  (zn (zI 3 (vE 1))
  (zn (j3 (Vc (vE 0)) (zC 4) (zn (zI 5 (zb 1 c_1 (za (vE 4) (ze))))
  (zn (Q6 2 (zb 2 c_g (za (vE 4) (za (zd JJ (vE 3) (vE 5)) (ze)))))
  (zI 3 (zd wv (vE 3) (vE 5))))))
  (zq (ap1 QS (vE 2)))))
def S_g:Nat->Nat->List T->R T
 | 0,_=>λ_=> .bad
 | n+1,0=>λts=>zh (b_g (f_q) (S_g n 1) (S_g n 2) (en0 2 ts))
 | n+1,1=>λts=>zh (gJ (f_r 20) (S_g n 2) (en0 3 ts))
 | n+1,_=>λts=>zh (gK (f_1 20) (S_g n 0) (en0 6 ts))
abbrev f_g (n:Nat):List T->R T:=S_g n 0
abbrev f_1n (n:Nat):List T->R T:=S_g n 1
abbrev f_13 (n:Nat):List T->R T:=S_g n 2
def b_x (c_o:List T->R T)(c_1:List T->R T)(c_g:List T->R T):En->RS:=
  zn (jU (zb 1 c_o (za (vE 0) (ze))))
  (zn (zI 1 (zb 1 c_1 (za (vE 0) (ze))))
  (zn (ifS (zx gtC (vB 1) (cE (.int 500))) (XZ) (nxS))
  (GT (Zx (vE 1)) (zC 0) (zW) (zb 2 c_g (za (vE 1) (za (vE 0) (ze)))) 1 [0])))
def f_x:List T->R T:=λts=>zh (b_x (f_o) (f_1 20) (f_g 20) (en0 2 ts))
def b_k (c_k:List T->R T):En->RS:=
  zn (ifS (WW (jT (ap1 (wZ "tuple") (vB 0)))) (zq (j4 (za (vE 0) (ze)))) (nxS))
  (zn (uI 1 (ze))
  (zn (j3 (ZB (vE 0)) (zC 2) (Q7 1 (zb 1 c_k (za (vE 2) (ze)))))
  (zq (vE 1))))
def S_k:Nat->Nat->List T->R T
 | 0,_=>λ_=> .bad
 | n+1,_=>λts=>zh (b_k (S_k n 0) (en0 3 ts))
abbrev f_k (n:Nat):List T->R T:=S_k n 0
def z1Q (c_a:List T->R T)(c_k:List T->R T):En->RS:=
  zq (zL (ZB (zb 1 c_k (za (vE 0) (ze)))) (zC 0) (jT (zb 1 c_a (za (vE 0) (ze)))) (vE 0) 1 [])
def z05:List T->R T:=λts=>zh (z1Q (f_a) (f_k 8) (en0 1 ts))
def b_1i:En->RS:=
  zq (ifE (jT (ap1 (wZ "tuple") (vB 0))) (vE 0) (Z1 (za (vE 0) (ze))))
def z06:List T->R T:=λts=>zh (b_1i  (en0 1 ts))
def z1R:En->RS:=
  zq (ap1 V0 (zL (Q8 (vE 0) (slE (vE 0) (ua (cE (.int 1))) (noO))) (zK 0 1) (zW) (ZV leC (vB 0) (vB 1)) 2 []))
def z1S:List T->R T:=λts=>zh (z1R  (en0 1 ts))
def z1T:En->RS:=
  zq (Qt (ap1 z1y (zL (uP (vE 0)) (zK 0 1) (zW) (ZV inC (vB 1) (slE (vE 2) (noO) (ua (vE 0)))) 2 [0])))
def z1U:List T->R T:=λts=>zh (z1T  (en0 1 ts))
def z07 (c_1i:List T->R T)(c_k:List T->R T)(c_1d:List T->R T)(c_1k:List T->R T)(c_1l:List T->R T):En->RS:=
  zn (ifS (zx eqC (zd ixT (vE 0) (cE (.int 0))) (cE (.str "sum"))) (zq (chE leC leC (zd ixT (vE 0) (cE (.int 1))) (ap1 xS (zb 1 c_1d (za (vE 1) (ze)))) (zd ixT (vE 0) (cE (.int 2))))) (nxS))
  (zn (ifS (zx eqC (zd ixT (vE 0) (cE (.int 0))) (cE (.str "size"))) (zq (chE leC leC (zd ixT (vE 0) (cE (.int 1))) (ap1 Zo (zb 1 c_1i (za (vE 1) (ze)))) (zd ixT (vE 0) (cE (.int 2))))) (nxS))
  (zn (ifS (zx eqC (zd ixT (vE 0) (cE (.int 0))) (cE (.str "word"))) (zq (ZV inC (zd ixT (vE 0) (cE (.int 1))) (zb 1 c_k (za (vE 1) (ze))))) (nxS))
  (zn (ifS (zx eqC (zd ixT (vE 0) (cE (.int 0))) (cE (.str "rising"))) (zq (zb 1 c_1k (za (zb 1 c_1d (za (vE 1) (ze))) (ze)))) (nxS))
  (zq (zb 1 c_1l (za (zb 1 c_1i (za (vE 1) (ze))) (ze)))))))
def gM:List T->R T:=λts=>zh (z07 (z06) (f_k 8) (z05) (z1S) (z1U) (en0 2 ts))
def b_b (c_b:List T->R T)(c_16:List T->R T):En->RS:=
  zn (ifS (zx eqC (zd ixT (vE 0) (cE (.int 0))) (cE (.str "no"))) (zq (Qt (zb 2 c_b (za (zd ixT (vE 0) (cE (.int 1))) (za (vE 1) (ze)))))) (nxS))
  (zn (ifS (zx eqC (zd ixT (vE 0) (cE (.int 0))) (cE (.str "all"))) (zq (j2 (zb 2 c_b (za (zd ixT (vE 0) (cE (.int 1))) (za (vE 1) (ze)))) (zb 2 c_b (za (zd ixT (vE 0) (cE (.int 2))) (za (vE 1) (ze)))))) (nxS))
  (zn (ifS (zx eqC (zd ixT (vE 0) (cE (.int 0))) (cE (.str "some"))) (zq (orE (zb 2 c_b (za (zd ixT (vE 0) (cE (.int 1))) (za (vE 1) (ze)))) (zb 2 c_b (za (zd ixT (vE 0) (cE (.int 2))) (za (vE 1) (ze)))))) (nxS))
  (zq (zb 2 c_16 (za (vE 0) (za (vE 1) (ze)))))))
def S_b:Nat->Nat->List T->R T
 | 0,_=>λ_=> .bad
 | n+1,_=>λts=>zh (b_b (S_b n 0) (gM) (en0 2 ts))
abbrev f_b (n:Nat):List T->R T:=S_b n 0
def b_l (c_x:List T->R T)(c_6:List T->R T)(c_b:List T->R T):En->RS:=
  zn (jU (zb 1 c_6 (za (vE 1) (ze))))
  (zq (zL (ZB (zb 1 c_x (za (vE 0) (ze)))) (zC 0) (jT (zb 2 c_b (za (vE 1) (za (vE 0) (ze))))) (vE 0) 1 [1]))
def f_l:List T->R T:=λts=>zh (b_l (f_x) (f_6) (f_b 8) (en0 2 ts))
def b_d (c_a:List T->R T)(c_e:List T->R T)(c_q:List T->R T)(c_1m:List T->R T):En->RS:=
  zn (ifS (zx eqC (zd ixT (vE 0) (cE (.int 0))) (cE (.str "whole"))) (zq (j2 (zb 1 c_a (za (vE 1) (ze))) (chE leC leC (zd ixT (vE 0) (cE (.int 1))) (vB 1) (zd ixT (vE 0) (cE (.int 2)))))) (nxS))
  (zn (ifS (zx eqC (zd ixT (vE 0) (cE (.int 0))) (cE (.str "pick"))) (zq (ZV inC (vB 1) (zb 1 c_q (za (vE 0) (ze))))) (nxS))
  (zn (ifS (zx eqC (zd ixT (vE 0) (cE (.int 0))) (cE (.str "row"))) (zq (j2 (zb 3 c_e (za (vE 1) (za (ap1 Zo (zd ixT (vE 0) (cE (.int 1)))) (za (ap1 Zo (zd ixT (vE 0) (cE (.int 1)))) (ze))))) (zb 2 c_1m (za (zd ixT (vE 0) (cE (.int 1))) (za (vE 1) (ze)))))) (nxS))
  (zq (j2 (zb 3 c_e (za (vE 1) (za (zd ixT (vE 0) (cE (.int 2))) (za (zd ixT (vE 0) (cE (.int 3))) (ze))))) (zb 2 c_1m (za (zd zY (j4 (za (zd ixT (vE 0) (cE (.int 1))) (ze))) (ap1 Zo (vB 1))) (za (vE 1) (ze))))))))
def z08 (c_d:List T->R T):En->RS:=
  zq (ap1 V0 (zL (Q8 (vE 0) (vE 1)) (zK 0 1) (zW) (zb 2 c_d (za (vE 0) (za (vE 1) (ze)))) 2 []))
def S_d:Nat->Nat->List T->R T
 | 0,_=>λ_=> .bad
 | n+1,0=>λts=>zh (b_d (f_a) (f_e) (f_q) (S_d n 1) (en0 2 ts))
 | n+1,_=>λts=>zh (z08 (S_d n 0) (en0 2 ts))
abbrev f_d (n:Nat):List T->R T:=S_d n 0
abbrev f_1m (n:Nat):List T->R T:=S_d n 1
def z09 (c_o:List T->R T)(c_d:List T->R T):En->RS:=
  zn (jU (zb 1 c_o (za (vE 0) (ze))))
  (zq (zb 2 c_d (za (vE 0) (za (vE 1) (ze)))))
def z0a:List T->R T:=λts=>zh (z09 (f_o) (f_d 20) (en0 2 ts))
def z0b (c_1f:List T->R T):En->RS:=
  ifS (WW (jT (zb 2 c_1f (za (vE 0) (za (vE 1) (ze)))))) (XZ) (nxS)
def z0c:List T->R T:=λts=>zh (z0b (z0a) (en0 2 ts))
def b_m (c_m:List T->R T):En->RS:=
  zn (ifS (jT (ap1 (wZ "tuple") (vB 0))) (zq (ap1 Qv (zL (Vc (vE 0)) (zC 0) (zW) (zb 1 c_m (za (vE 0) (ze))) 1 []))) (nxS))
  (zq (ifE (jT (ap1 (wZ "str") (vB 0))) (vE 0) (u8 (vE 0))))
def S_m:Nat->Nat->List T->R T
 | 0,_=>λ_=> .bad
 | n+1,_=>λts=>zh (b_m (S_m n 0) (en0 1 ts))
abbrev f_m (n:Nat):List T->R T:=S_m n 0
def z0d (c_1c:List T->R T)(c_m:List T->R T):En->RS:=
  zn (jU (zb 2 c_1c (za (vE 0) (za (vE 1) (ze)))))
  (zq (zb 1 c_m (za (vE 1) (ze))))
def k8:List T->R T:=λts=>zh (z0d (z0c) (f_m 8) (en0 2 ts))
def z0e:En->RS:=
  zn (Zk (zx neC (vB 1) (cE (.int 0))) (zn (zI 2 (zd JJ (vE 0) (vE 1)))
  (zn (zI 0 (vE 1))
  (zI 1 (vE 2)))) (2 ^ 9000))
  (zq (vE 0))
def gN:List T->R T:=λts=>zh (z0e  (en0 3 ts))
def b_p (c_14:List T->R T):En->RS:=
  zn (zI 2 (zb 2 c_14 (za (ap1 GU (vB 0)) (za (vE 1) (ze)))))
  (zq (Z1 (za (zd k3 (vE 0) (vE 2)) (za (zd k3 (vE 1) (vE 2)) (ze)))))
def f_p:List T->R T:=λts=>zh (b_p (gN) (en0 3 ts))
def z0f (c_p:List T->R T):En->RS:=
  zq (zb 2 c_p (za (zd zy (zd mlT (zd ixT (vE 0) (cE (.int 0))) (zd ixT (vE 1) (cE (.int 1)))) (zd mlT (zd ixT (vE 1) (cE (.int 0))) (zd ixT (vE 0) (cE (.int 1))))) (za (zd mlT (zd ixT (vE 0) (cE (.int 1))) (zd ixT (vE 1) (cE (.int 1)))) (ze))))
def gO:List T->R T:=λts=>zh (z0f (f_p) (en0 2 ts))
def b_7 (c_1a:List T->R T):En->RS:=
  zn (zI 1 (Z1 (za (cE (.int 0)) (za (cE (.int 1)) (ze)))))
  (zn (j3 (ZB (vE 0)) (zC 2) (zI 1 (zb 2 c_1a (za (vE 1) (za (vE 2) (ze))))))
  (zq (vE 1)))
def f_7:List T->R T:=λts=>zh (b_7 (gO) (en0 3 ts))
def z0g (c_p:List T->R T):En->RS:=
  QW 1 (zd ixT (vE 0) (cE (.int 1))) c_p
def z0h:List T->R T:=λts=>zh (z0g (f_p) (en0 3 ts))
def b_s (c_p:List T->R T):En->RS:=
  zq (zb 2 c_p (za (zd mlT (zd ixT (vE 0) (cE (.int 0))) (zd ixT (vE 1) (cE (.int 0)))) (za (zd mlT (zd ixT (vE 0) (cE (.int 1))) (zd ixT (vE 1) (cE (.int 1)))) (ze))))
def f_s:List T->R T:=λts=>zh (b_s (f_p) (en0 2 ts))
def b_c (c_1:List T->R T)(c_s:List T->R T)(c_1b:List T->R T)(c_1g:List T->R T):En->RS:=
  zn (ifS (zx eqC (zd ixT (vE 0) (cE (.int 0))) (cE (.str "whole"))) (zq (Z1 (za (cE (.int 1)) (za (zb 1 c_1 (za (vE 0) (ze))) (ze))))) (nxS))
  (zn (ifS (zx eqC (zd ixT (vE 0) (cE (.int 0))) (cE (.str "pick"))) (zq (zb 2 c_1b (za (vE 0) (za (vE 1) (ze))))) (nxS))
  (zn (ifS (zx eqC (zd ixT (vE 0) (cE (.int 0))) (cE (.str "row"))) (zq (zb 2 c_1g (za (zd ixT (vE 0) (cE (.int 1))) (za (vE 1) (ze))))) (nxS))
  (zn (zI 2 (Z1 (za (cE (.int 1)) (za (zd zy (zd JW (zd ixT (vE 0) (cE (.int 3))) (zd ixT (vE 0) (cE (.int 2)))) (cE (.int 1))) (ze)))))
  (zq (zb 2 c_s (za (vE 2) (za (zb 2 c_1g (za (zd zY (j4 (za (zd ixT (vE 0) (cE (.int 1))) (ze))) (ap1 Zo (vB 1))) (za (vE 1) (ze)))) (ze))))))))
def gP (c_s:List T->R T)(c_c:List T->R T):En->RS:=
  zn (zI 2 (Z1 (za (cE (.int 1)) (za (cE (.int 1)) (ze)))))
  (zn (j3 (Q8 (vE 0) (vE 1)) (zK 3 4) (zI 2 (zb 2 c_s (za (vE 2) (za (zb 2 c_c (za (vE 3) (za (vE 4) (ze)))) (ze))))))
  (zq (vE 2)))
def S_c:Nat->Nat->List T->R T
 | 0,_=>λ_=> .bad
 | n+1,0=>λts=>zh (b_c (f_1 20) (f_s) (z0h) (S_c n 1) (en0 3 ts))
 | n+1,_=>λts=>zh (gP (f_s) (S_c n 0) (en0 5 ts))
abbrev f_c (n:Nat):List T->R T:=S_c n 0
abbrev f_1g (n:Nat):List T->R T:=S_c n 1
def b_t (c_7:List T->R T)(c_c:List T->R T):En->RS:=
  zq (zb 1 c_7 (za (zL (ZB (vE 1)) (zC 0) (zW) (zb 2 c_c (za (vE 1) (za (vE 0) (ze)))) 1 [0]) (ze)))
def f_t:List T->R T:=λts=>zh (b_t (f_7) (f_c 20) (en0 2 ts))
def b_w (c_t:List T->R T)(c_l:List T->R T):En->RS:=
  zq (zb 2 c_t (za (vE 0) (za (zb 2 c_l (za (vE 0) (za (vE 1) (ze)))) (ze))))
def f_w:List T->R T:=λts=>zh (b_w (f_t) (f_l) (en0 2 ts))
def b_u (c_6:List T->R T):En->RS:=
  zn (ifS (WW (jT (ap1 (KR "list" "tuple") (vE 0)))) (XZ) (nxS))
  (j3 (ZB (vE 0)) (zC 1) (jU (zb 1 c_6 (za (vE 1) (ze)))))
def f_u:List T->R T:=λts=>zh (b_u (f_6) (en0 2 ts))
def z0i (c_b:List T->R T):En->RS:=
  zq (ap1 Qv (zL (ZB (vE 0)) (zC 0) (zW) (zb 2 c_b (za (vE 0) (za (vE 1) (ze)))) 1 [1]))
def z0j:List T->R T:=λts=>zh (z0i (f_b 8) (en0 2 ts))
def zF:List T->R (List WE):=gm (f_x) (z0j)
def b_z (c_t:List T->R T)(c_u:List T->R T)(c_worths_by_ways:List T->R (List WE)):En->RS:=
  zn (jU (zb 1 c_u (za (vE 1) (ze))))
  (Vk 2 c_worths_by_ways (za (vE 0) (za (vE 1) (ze))) (zK 0 1) (zW) (Z1 (za (vE 0) (za (ap1 Zo (vB 1)) (za (zb 2 c_t (za (vE 2) (za (vE 1) (ze)))) (ze))))) 2 [0])
def f_z:List T->R T:=λts=>zh (b_z (f_t) (f_u) (zF) (en0 3 ts))
def b_y (c_l:List T->R T)(c_u:List T->R T):En->RS:=
  zn (jU (zb 1 c_u (za (Z1 (za (vE 1) (za (vE 2) (ze)))) (ze))))
  (zq (ZV eqC (zb 2 c_l (za (vE 0) (za (vE 1) (ze)))) (zb 2 c_l (za (vE 0) (za (vE 2) (ze))))))
def f_y:List T->R T:=λts=>zh (b_y (f_l) (f_u) (en0 3 ts))
def b_0 (c_4:List T->R T)(c_18:List T->R T)(c_j:List T->R T)(c_11:List T->R T)(c_l:List T->R T)(c_w:List T->R T)(c_y:List T->R T)(c_z:List T->R T):En->RS:=
  zn (zI 1 (zb 3 c_18 (za (vE 0) (za (cE (.int 0)) (za (cE (.int 25)) (ze))))))
  (zn (z1p 2 3 (za (zb 1 c_j (za (vE 1) (ze))) (za (zd JW (zb 3 c_4 (za (vE 0) (za (cE (.int 3000)) (za (cE (.int 13)) (ze))))) (cE (.int 6))) (ze))))
  (zn (zI 4 (zd zy (vE 3) (zb 3 c_4 (za (vE 0) (za (cE (.int 3001)) (za (cE (.int 6)) (ze)))))))
  (zn (uI 5 (za (Z1 (za (cE (.str "sum")) (za (vE 3) (za (vE 4) (ze))))) (za (Z1 (za (cE (.str "size")) (za (zb 3 c_4 (za (vE 0) (za (cE (.int 3002)) (za (cE (.int 3)) (ze))))) (za (zd zy (cE (.int 1)) (zb 3 c_4 (za (vE 0) (za (cE (.int 3003)) (za (cE (.int 3)) (ze)))))) (ze))))) (za (Z1 (za (cE (.str "unlike")) (ze))) (ze)))))
  (zn (Q6 5 (Z1 (za (cE (.str "word")) (za (zd ixT (j4 (za (cE (.str "a")) (za (cE (.str "b")) (za (cE (.str "ab")) (za (cE (.str "zz")) (ze)))))) (zb 3 c_4 (za (vE 0) (za (cE (.int 3004)) (za (cE (.int 4)) (ze)))))) (ze)))))
  (zn (frzS (zI 6 (zd zy (j4 (za (Z1 (za (cE (.str "sum")) (za (zd JW (cE (.int 0)) (vE 4)) (za (zd JW (cE (.int 0)) (vE 3)) (ze))))) (ze))) (slE (vE 5) (ua (cE (.int 1))) (noO)))))
  (zn (j3 (Q8 (vE 5) (vE 6)) (zK 7 8) (zn (zI 9 (zb 2 c_l (za (vE 1) (za (vE 7) (ze)))))
  (zn (zI 10 (zb 2 c_l (za (vE 2) (za (vE 8) (ze)))))
  (zn (zI 11 (zL (ZB (vE 9)) (zC 0) (zW) (zb 2 c_11 (za (vE 1) (za (vE 0) (ze)))) 1 [1]))
  (zn (ifS (orT (zx neC (ap1 Zo (vB 9)) (ap1 Zo (vB 10))) (zx neC (zL (ZB (vE 11)) (zC 0) (zx uF (vB 0) (vB 1)) (vE 0) 1 [10]) (j4 (ze)))) (zq (cE (.bl false))) (nxS))
  (ifS (zx neC (zb 2 c_w (za (vE 1) (za (vE 7) (ze)))) (zb 2 c_w (za (vE 2) (za (vE 8) (ze))))) (zq (cE (.bl false))) (nxS)))))))
  (zn (ifS (zx neC (zb 2 c_z (za (vE 1) (za (vE 5) (ze)))) (zb 2 c_z (za (vE 2) (za (vE 6) (ze))))) (zq (cE (.bl false))) (nxS))
  (zn (asgS (Z1 (za (Z1 (za (cE (.str "sum")) (za (u8 (cE (.int 50))) (za (cE (.int 50)) (ze))))) (za (Z1 (za (cE (.str "sum")) (za (cE (.int 1)) (za (cE (.int 0)) (ze))))) (ze)))) (zK 12 13))
  (zn (ifS (zx u9 (zb 3 c_y (za (vE 1) (za (Z1 (za (cE (.str "some")) (za (vE 12) (za (vE 13) (ze))))) (za (vE 12) (ze))))) (cE (.bl true))) (zq (cE (.bl false))) (nxS))
  (zq (ZV Q5 (zb 3 c_y (za (vE 1) (za (zd ixT (vE 5) (cE (.int 0))) (za (Z1 (za (cE (.str "all")) (za (Z1 (za (cE (.str "sum")) (za (vE 3) (za (cE (.int 50)) (ze))))) (za (Z1 (za (cE (.str "sum")) (za (u8 (cE (.int 50))) (za (vE 4) (ze))))) (ze))))) (ze))))) (cE (.bl true)))))))))))))
def f_0:List T->R T:=λts=>zh (b_0 (f_4) (gE) (f_j) (k8) (f_l) (f_w) (f_y) (f_z) (en0 14 ts))
end G
namespace G
open PySem L2 PV
noncomputable abbrev scr (ns:List Int):T:= .fz (ns.map T.int)
theorem Xg (ns:List Int)(k:Int)(h0:0<=k):∃c,gC [scr ns,.int k]= .ok (.int c):=by
 have e1:gC [scr ns,.int k]=zh (if decide (k < ((ns.map T.int).length))=true then (atT (ns.map T.int) k).s (λt=> .rt t) else
   match (eqC (scr ns) (.lst [])).s (λb=>if b=true then RS.rt (.int 0) else .nx [.vl (scr ns),.vl (.int k)]) with
   | .nx ρ' =>zq (zd zy (zd zY (zd ixT (vE 0) (zd JJ (vE 1) (ap1 Zo (vB 0)))) (cE (.int 31))) (vE 1)) ρ'
   | r=>r):=by
  show zh (match (if decide _=true then (atT _ k).s (λt=>RS.rt t) else .nx _) with
   | .nx ρ' =>_
   | r=>r)=_
  cases decide (k < ((ns.map _).length:Int)) with
  | true=>
   unfold atT;cases atI _ k <;> rfl
  | false=>rfl
 rw[e1,ae]
 by_cases hk:k < (ns.length)
 ·obtain⟨v,hv⟩:∃v,ns[k.toNat]? =some v:=⟨ns[k.toNat]'(by omega),aj (by omega)⟩
  have ea:atI (ns.map T.int) k=some (.int v):=by
   have:k=((k.toNat):Int):=by omega
   rw[this];exact j8 (by rw[ax,hv];rfl)
  rw[decide_eq_true hk];exact⟨v,by unfold atT;rw[ea];rfl⟩
 ·rw[decide_eq_false hk];cases ns with
  | nil=>exact⟨0,rfl⟩
  | cons x xs=>
   have hm0:=lA k (show (((x :: xs).length):Int) ≠ 0 by simp only[ay];omega)
   have hm1:=iz k (show (0) < (((x :: xs).length):Int) by simp only[ay];omega)
   obtain⟨v,hv⟩:∃v,(x :: xs)[(k % (((x :: xs).length):Int)).toNat]? =some v:=⟨_,aj (by omega)⟩
   have ea:atI ((x :: xs).map T.int) (k % (((x :: xs).length):Int))=some (.int v):=by
    have e:k % (((x :: xs).length):Int)=(((k % (((x :: xs).length):Int)).toNat:Nat):Int):=by omega
    rw[e];exact j8 (by rw[ax,hv];rfl)
   have cm:WV v 31:= .inr ⟨by decide,by decide⟩
   have hp:(0:Int) < (((x :: xs).map T.int).length):=by simp only[ae,ay];omega
   refine⟨v*31+k, ?_⟩;show zh (((((if 0 < (((x :: xs).map _).length:Int) then R.ok _ else .bad).bind λy=>ixT _ y).bind λa=>zY a _).bind λa=>zy a _).s λt=> .rt t)=_
   rw[if_pos hp];show zh ((((atT _ _).bind λa=>zY a _).bind λa=>zy a _).s λt=> .rt t)=_;rw[ae];unfold atT;rw[ea];show zh ((((if WV v 31 then R.ok _ else .bad)).bind λa=>zy a _).s λt=> .rt t)=_
   rw[if_pos cm];rfl
theorem zM (ns:List Int)(k m:Int)(h0:0<=k)(hm:0 < m):∃p,f_4 [scr ns,.int k,.int m]= .ok (.int p)/\0<=p/\p < m:=by
 obtain⟨c,hc⟩:=Xg ns k h0;have cm2:WV (c+6151*(k+1)) 40692:= .inr ⟨by decide,by decide⟩
 generalize hd:(c+6151*(k+1))*40692 % 2147483399=d;have cm3:WV d d:= .inl ⟨by omega,by omega⟩
 refine⟨(d*d+d / 31) % 2147483629 % m, ?_,lA _ (by omega),iz _ hm⟩
 have e1:f_4 [scr ns,.int k,.int m]=zh (match ((((((gC _).bind λx=>(zY (.int 6151) (.int _)).bind λy=>zy x y).bind λx=>zY x _).bind λx=>JJ x _)).s λt=>RS.nx _) with
   | .nx ρ' =>zq _ ρ'
   | r=>r):=rfl
 rw[e1,hc];show zh (match ((((if WV _ _ then R.ok _ else .bad)).bind λx=>JJ x _).s λt=>RS.nx _) with
   | .nx ρ' =>_
   | r=>r)=_
 rw[if_pos cm2];show zh (zq _ _)=_;rw[hd];show zh (((((if WV d d then R.ok _ else .bad).bind λx=>zy x _).bind λx=>JJ x _).bind λx=>JJ x _).s λt=>RS.rt t)=_
 rw[if_pos cm3];show zh ((if 0 < m then R.ok _ else .bad).s λt=>RS.rt t)=_
 rw[if_pos hm];rfl
theorem Yx {ft:En->R Bool}{fe:En->R T}:∀(ts:List T) (ρ:En) (x:Sl),zt (zC 0) ft fe ts (ρ.set 0 x)=zt (zC 0) ft fe ts ρ
 | [],_,_=>rfl
 | t :: ts,ρ,x=>by
  unfold zt zC;rw[List.set_set]
theorem ZM {ft:En->R Bool}{fe:En->R T}{p:T->Bool}{h:T->T}:∀(ts:List T) (ρ:En),(∀t∈ts,ft (ρ.set 0 (.vl t))= .ok (p t)/\(p t=true->fe (ρ.set 0 (.vl t))= .ok (h t)))->zt (zC 0) ft fe ts ρ= .ok ((ts.filter p).map h)
 | [],_,_=>rfl
 | t :: ts,ρ,H=>by
  obtain⟨h1,h2⟩:=H t ab;have ih:=ZM ts ρ λu hu=>H u (a9 _ hu);have e:zt (zC 0) ft fe (t :: ts) ρ=(ft _).bind λk=>if k=true then (fe _).bind λv=>(zt _ ft fe ts _).bind λvs=> .ok _ else zt _ ft fe ts _:=rfl
  rw[e,h1,Yx,ih];show (if p t=true then _ else _)=_
  cases hp:p t with
  | true=>rw[h2 hp,List.filter_cons_of_pos hp];rfl
  | false=>rw[if_neg az,List.filter_cons_of_neg (by rw[hp];exact az)]
theorem Yy {fe:En->R T}{h:T->T}(ts:List T)(ρ:En)(H:∀t∈ts,fe (ρ.set 0 (.vl t))= .ok (h t)):zt (zC 0) zW fe ts ρ= .ok (ts.map h):=by
 have:=ZM (ft:=zW) ts ρ λt ht=>⟨rfl,λ_=>H t ht⟩;rw[this,List.filter_eq_self.mpr (λ_ _=>rfl)]
theorem zG {fe:En->R T}{h:T->T}{k:Nat}{js:List Nat}{ρ:En}(ts:List T)(hl:ts.length<=bnd)(H:∀t∈ts,fe ((Jo k js ρ).set 0 (.vl t))= .ok (h t)):zu (zC 0) zW fe k js ρ ts= .ok (ts.map h):=by
 unfold zu;rw[if_pos hl,Yy ts _ H];rfl
theorem J0 (p:T->Bool):∀ts:List T,Wm (ts.map λt=>T.bl (p t))=some (ts.all p)
 | []=>rfl
 | t :: ts=>by
  show (match Wm (ts.map λt=>T.bl _) with | some j=>some _ | none=>none)=_
  rw[J0 p ts];rfl
noncomputable def isW:T->Bool
 | .int _=>true
 | _=>false
theorem wJ (t:T):f_a [t]= .ok (.bl (isW t)):=by cases t <;> rfl
noncomputable def vj (a b:Nat):T->Bool
 | .tup xs=>decide (a<=xs.length) && decide (xs.length<=b)
 | _=>false
theorem Zl (t:T)(a b:Nat):f_e [t,.int a,.int b]= .ok (.bl (vj a b t)):=by
 cases t with
 | tup xs=>
  show zh ((if decide _=true then R.ok _ else .ok _).s λt=> .rt t)=_
  have e1:decide ((a:Int)<=(xs.length))=decide (a<=xs.length):=by simp
  have e2:decide ((xs.length:Int)<=(b))=decide (xs.length<=b):=by simp
  rw[e1,e2];show _=R.ok (T.bl (decide _ && decide _));cases decide (a<=xs.length) <;> rfl
 | _=>rfl
noncomputable def jL (lo hi:Int):T->T->Bool
 | .int i,.int j=>decide (lo<=i) && decide (i<=j) && decide (j<=hi)
 | _,_=>false
theorem Yz (t u:T)(lo hi:Int):z00 [t,u,.int lo,.int hi]= .ok (.bl (jL lo hi t u)):=by
 cases t with
 | int i=>
  cases u with
  | int j=>
   show zh ((if decide _=true then (if decide _=true then R.ok _ else .ok _) else .ok _).s λt=> .rt t)=_
   show _=R.ok (T.bl (decide _ && decide _ && decide _));cases decide (lo<=i) <;> cases decide (i<=j) <;> rfl
  | _=>rfl
 | _=>cases u <;> rfl
noncomputable def Zg (c:Nat):Bool:=decide (97<=c) && decide (c<=122)
def Z5:T->Bool
 | .str x=>decide (1<=x.length) && decide (x.length<=3) && x.cps.toList.all Zg
 | _=>false
theorem Vl (a b:Nat):decide ([a] < [b])=decide (a < b):=by
 by_cases h:a < b
 ·rw[decide_eq_true h];exact decide_eq_true (List.Lex.rel h)
 ·rw[decide_eq_false h];refine decide_eq_false λz=> ?_;cases z with
  | rel h' =>exact h h'
  | cons h' =>cases h'
theorem Xh (c:Nat)(ρ:En):chE leC leC (cE (.str "a")) (vB 0) (cE (.str "z")) ((Sl.vl (.str ⟨#[c]⟩)) :: ρ)= .ok (.bl (Zg c)):=by
 have e1:leC (.str "a") (.str ⟨#[c]⟩)= .ok (decide (97<=c)):=by
  show R.ok (!decide ([c] < [97]))=_;rw[Vl]
  by_cases h:c < 97
  ·rw[decide_eq_true h,decide_eq_false (by omega)];rfl
  ·rw[decide_eq_false h,decide_eq_true (by omega)];rfl
 have e2:leC (.str ⟨#[c]⟩) (.str "z")= .ok (decide (c<=122)):=by
  show R.ok (!decide ([122] < [c]))=_;rw[Vl]
  by_cases h:122 < c
  ·rw[decide_eq_true h,decide_eq_false (by omega)];rfl
  ·rw[decide_eq_false h,decide_eq_true (by omega)];rfl
 show (leC (.str "a") (.str _)).bind (λk=>if k=true then (leC (.str _) (.str "z")).bind λk' =>R.ok (T.bl k') else R.ok _)=_
 rw[e1,e2];unfold Zg;cases decide (97<=c) <;> rfl
def Xi:T->Prop
 | .str x=>x.length<=bnd
 | _=>True
theorem YA (t:T)(ht:Xi t):f_v [t]= .ok (.bl (Z5 t)):=by
 cases t with
 | str x=>
  have hx:=ht;have e0:Zo (.str x)= .ok _:=if_pos hx;have ec:zu (zC 0) zW (chE leC leC (cE (.str "a")) (vB 0) (cE (.str "z"))) 1 [] [.vl (.str x)] (Jp x)= .ok (x.cps.toList.map λc=>T.bl (Zg c)):=by
   have hs:(Jp x).length<=bnd:=by unfold Jp;rw[ae];exact hx
   have:=zG (h:=λt=>match t with | .str y=>T.bl (Zg (y.cps.toList.headD 0)) | t=>t) (k:=1) (js:=[]) (ρ:=[.vl (.str x)]) _ hs λt ht=>by
    obtain⟨c,_,rfl⟩:=av.mp ht;exact Xh c []
   rw[this];unfold Jp;rw[aJ];rfl
  have ea:Wm (x.cps.toList.map λc=>T.bl (Zg c))=some (x.cps.toList.all Zg):=by
   have:=J0 (λt=>match t with | .str y=>Zg (y.cps.toList.headD 0) | _=>true) (Jp x)
   unfold Jp at this;rw[aJ,iL]at this;exact this
  have e1:f_v [.str x]=zh (match ((((Zo (.str x)).bind λy=>(leC _ y).bind λk=>if k=true then leC y _ else .ok _).bind λb=> .ok _).s λk=>if k=true then RS.rt _ else .nx _) with
    | .nx ρ' =>zq _ ρ'
    | r=>r):=rfl
  rw[e1,e0];have c1:decide ((1:Int)<=(x.length))=decide (1<=x.length):=by
   by_cases h:1<=x.length
   ·rw[decide_eq_true h];exact decide_eq_true (by omega)
   ·rw[decide_eq_false h];exact decide_eq_false (by omega)
  have c2:decide ((x.length:Int)<=(3))=decide (x.length<=3):=by
   by_cases h:x.length<=3
   ·rw[decide_eq_true h];exact decide_eq_true (by omega)
   ·rw[decide_eq_false h];exact decide_eq_false (by omega)
  show zh (match ((((if decide _=true then R.ok _ else .ok _)).bind λb=> .ok _).s λk=>if k=true then RS.rt _ else .nx _) with
    | .nx ρ' =>_
    | r=>r)=_
  rw[c1,c2];show _=R.ok (T.bl (decide _ && decide _ && x.cps.toList.all _));cases decide (1<=x.length) with
  | false=>rfl
  | true=>
   cases decide (x.length<=3) with
   | false=>rfl
   | true=>
    show zh ((((zu _ _ _ 1 [] [.vl _] _).bind λvs=> .ok _).bind V0).s λt=> .rt t)=_;rw[ec];show zh ((match Wm (x.cps.toList.map λc=>T.bl _) with | some k=>R.ok _ | none=> .bad).s λt=> .rt t)=_
    rw[ea];rfl
 | _=>rfl
theorem bOk {α β:Type}(a:α)(f:α->R β):(R.ok a).bind f=f a:=rfl
theorem Zt {α:Type}(a:α)(f:α->RS):(R.ok a).s f=f a:=rfl
theorem jM (r:R T):zh (r.s λt=> .rt t)=r:=by cases r <;> rfl
theorem Z2 (f:En->R T)(ρ:En):zq f ρ=(f (frz ρ)).s λt=> .rt t:=rfl
theorem zA {g:List T->R T}{f:En->R T}{ρ:En}:zb 1 g (za f ze) ρ=(f ρ).bind λx=>g [x]:=by
 unfold zb za ze;cases f ρ <;> rfl
theorem zw {g:List T->R T}{f f' :En->R T}{ρ:En}:zb 2 g (za f (za f' ze)) ρ=(f ρ).bind λx=>(f' ρ).bind λy=>g [x,y]:=by
 unfold zb za ze;cases f ρ with
 | ok a=>cases f' ρ <;> rfl
 | ex c=>rfl
 | bad=>rfl
theorem Zc {g:List T->R T}{f f' f'' :En->R T}{ρ:En}:zb 3 g (za f (za f' (za f'' ze))) ρ=(f ρ).bind λx=>(f' ρ).bind λy=>(f'' ρ).bind λz=>g [x,y,z]:=by
 unfold zb za ze;cases f ρ with
 | ok a=>
  cases f' ρ with
  | ok b=>cases f'' ρ <;> rfl
  | ex c=>rfl
  | bad=>rfl
 | ex c=>rfl
 | bad=>rfl
theorem z1V {g:List T->R T}{f f' f'' f3:En->R T}{ρ:En}:zb 4 g (za f (za f' (za f'' (za f3 ze)))) ρ=(f ρ).bind λx=>(f' ρ).bind λy=>(f'' ρ).bind λz=>(f3 ρ).bind λw=>g [x,y,z,w]:=by
 unfold zb za ze;cases f ρ with
 | ok a=>
  cases f' ρ with
  | ok b=>
   cases f'' ρ with
   | ok c=>cases f3 ρ <;> rfl
   | ex c=>rfl
   | bad=>rfl
  | ex c=>rfl
  | bad=>rfl
 | ex c=>rfl
 | bad=>rfl
def z0k (r k:R T):R T:=r.bind λx=>match x with
 | .bl true=>k
 | .bl false=> .ok (.bl false)
 | _=> .bad
theorem jn (f g:En->R T)(ρ:En):j2 f g ρ=z0k (f ρ) (g ρ):=rfl
theorem Zd (a:Bool)(k:R T):z0k (.ok (.bl a)) k=if a=true then k else .ok (.bl false):=by cases a <;> rfl
theorem v0 {t:T}{ρ:En}:vE 0 (.vl t :: ρ)= .ok t:=rfl
theorem v1 {t:T}{a:Sl}{ρ:En}:vE 1 (a :: .vl t :: ρ)= .ok t:=rfl
theorem w0 {t:T}{ρ:En}:vB 0 (.vl t :: ρ)= .ok t:=rfl
theorem w1 {t:T}{a:Sl}{ρ:En}:vB 1 (a :: .vl t :: ρ)= .ok t:=rfl
theorem Z3 {t:T}{ρ:En}:cE t ρ= .ok t:=rfl
theorem zk {g:T->T->R T}{f f' :En->R T}{ρ:En}:zd g f f' ρ=(f ρ).bind λx=>(f' ρ).bind λy=>g x y:=rfl
theorem ZD {t:T}{ρ:En}:frz (.vl t :: ρ)= .vl t :: frz ρ:=rfl
theorem wK {ρ:En}:frz (.un :: ρ)= .un :: frz ρ:=rfl
theorem ZN:frz []=[]:=rfl
theorem YB {g g' :T->T->R Bool}{fa fb fc:En->R T}{ρ:En}:chE g g' fa fb fc ρ=(fa ρ).bind λx=>(fb ρ).bind λy=>(g x y).bind λk=>if k=true then (fc ρ).bind λz=>(g' y z).bind λk' => .ok (.bl k') else .ok (.bl false):=rfl
theorem Ze {g:T->R T}{f:En->R T}{ρ:En}:ap1 g f ρ=(f ρ).bind g:=rfl
theorem wL {i j:Int}:leC (.int i) (.int j)= .ok (decide (i<=j)):=rfl
theorem ZE {g:T->T->R Bool}{f f' :En->R T}{ρ:En}:ZV g f f' ρ=(f ρ).bind λx=>(f' ρ).bind λy=>(g x y).bind λb=> .ok (.bl b):=rfl
theorem JN {xs:List T}:Zo (.tup xs)= .ok (.int xs.length):=rfl
theorem gQ {xs:List T}:Zo (.lst xs)= .ok (.int xs.length):=rfl
mutual
noncomputable def sOk:T->Prop
 | .str x=>x.length<=bnd
 | .tup xs=>uV xs
 | .lst xs=>uV xs
 | .fz xs=>uV xs
 | _=>True
noncomputable def uV:List T->Prop
 | []=>True
 | t :: ts=>sOk t/\uV ts
end
theorem jo:∀{ts:List T} {t:T},uV ts->t∈ts->sOk t
 | u :: ts,t,h,hm=>by
  have h' :=by simpa only[uV] using h
  rcases ao.mp hm with rfl | hm
  ·exact h'.1
  ·exact jo h'.2 hm
theorem sOk.str {t:T}(h:sOk t):Xi t:=by
 cases t with
 | str x=>
  have h' :=by simpa only[sOk] using h
  exact h'
 | _=>trivial
theorem wM {xs:List T}(h:sOk (.tup xs)):uV xs:=by simpa only[sOk] using h
def zQ:T->Bool
 | .tup [w,.int i]=>Z5 w && decide (1<=i) && decide (i<=20)
 | _=>false
theorem YC (t:T)(ht:sOk t):gF [t]= .ok (.bl (zQ t)):=by
 have e:gF [t]=zh (z01 _ _ _ [.vl t]):=rfl;rw[e,z01];simp only[Z2,jM,ZD,ZN,jn,Zc,zA,v0,Z3,bOk,zk,YB];rw[show f_e [t,.int 2,.int 2]= .ok _ from Zl t 2 2,Zd];cases t with
 | tup xs=>
  match xs,ht with
  | [],_=>rfl
  | [_],_=>rfl
  | _ :: _ :: _ :: _,_=>simp[vj,zQ]
  | [w,n],ht=>
   have hw:sOk w:=jo (wM ht) (by simp)
   show (if true=true then z0k (f_v [w]) (z0k (f_a [n]) ((leC _ n).bind λk=>if k=true then (leC n _).bind λk' =>R.ok _ else .ok _)) else _)=_
   rw[YA w hw.str,wJ,Zd,Zd];cases n with
   | int i=>
    show (if Z5 w=true then (if true=true then (if decide _=true then R.ok _ else .ok _) else _) else _)=R.ok (T.bl (Z5 w && decide _ && decide _))
    cases Z5 w <;> cases decide (1<=i) <;> rfl
   | _=>
    cases Z5 w <;> rfl
 | _=>rfl
theorem zU (f g:En->RS)(ρ:En):zn f g ρ=match f ρ with | .nx ρ' =>g ρ' | r=>r:=rfl
theorem ZH (g:En->R Bool)(f1 f2:En->RS)(ρ:En):ifS g f1 f2 ρ=(g ρ).s λk=>if k=true then f1 ρ else f2 ρ:=rfl
theorem UP (f g:En->R Bool)(ρ:En):orT f g ρ=(f ρ).bind λx=>if x=true then .ok true else g ρ:=rfl
theorem WA (f:En->R Bool)(ρ:En):WW f ρ=(f ρ).bind λx=> .ok (!x):=rfl
theorem jp (f:En->R T)(ρ:En):jT f ρ=(f ρ).bind tru:=rfl
theorem uW (k:Bool):tru (.bl k)= .ok k:=rfl
theorem Ju (i:Nat)(f:En->R T)(ρ:En):zI i f ρ=(f ρ).s λt=> .nx (ρ.set i (.vl t)):=rfl
theorem zS {g:T->T->R Bool}{f f' :En->R T}{ρ:En}:zx g f f' ρ=(f ρ).bind λx=>(f' ρ).bind λy=>g x y:=rfl
theorem zT {fi:En->R (List T)}{g:T->En->R En}{ft:En->R Bool}{fe:En->R T}{k:Nat}{js:List Nat}{ρ:En}:zL fi g ft fe k js ρ=(fi ρ).bind λts=>(zu g ft fe k js ρ ts).bind λvs=> .ok (.lst vs):=rfl
theorem jq {f:En->R T}{ρ:En}:ZB f ρ=(f ρ).bind Jq:=rfl
noncomputable def Zy:T->Str
 | .tup (.str w :: _)=>w
 | _=>⟨#[]⟩
def uX:T->Bool
 | .tup cs=>decide (1<=cs.length) && decide (cs.length<=4) && cs.all zQ && decide ((dd [] (cs.map Zy)).length=cs.length)
 | _=>false
theorem WB {c:T}(h:zQ c=true):∃w n,c= .tup [.str w,n]:=by
 unfold zQ at h;split at h
 ·rename_i w i;cases w with
  | str x=>exact⟨x,_,rfl⟩
  | _=>cases h
 ·cases h
theorem w8:∀{cs:List T},cs.all zQ=true->y7 (cs.map λc=>T.str (Zy c))=some (cs.map Zy)
 | [],_=>rfl
 | c :: cs,h=>by
  rw[cY,ah]at h;have ih:=w8 h.2;show (match y7 (cs.map λc=>T.str _) with | some ys=>some _ | none=>none)=_
  rw[ih];rfl
theorem UQ (t:T)(ht:sOk t):gG [t]= .ok (.bl (uX t)):=by
 have e:gG [t]=zh (z02 _ _ [.vl t,.un]):=rfl;rw[e,z02];simp only[zU,ZH,UP,WA,jp,Zc,v0,Z3,bOk];rw[show f_e [t,.int 1,.int 4]= .ok _ from Zl t 1 4];cases t with
 | tup cs=>
  have hl:vj 1 4 (.tup cs)=(decide _ && decide _):=rfl;rw[hl];show _=R.ok (T.bl (decide _ && decide _ && cs.all _ && decide _));cases h14:(decide (1<=cs.length) && decide (cs.length<=4)) with
  | false=>rfl
  | true=>
   rw[ah,decide_eq_true_eq,decide_eq_true_eq]at h14;have hb:cs.length<=bnd:=ar h14.2 (by decide)
   have ec:zu _ _ (zb 1 gF (za (vE 0) ze)) 1 [] [.vl (.tup cs),.un] cs= .ok (cs.map λc=>T.bl _):=
    zG cs hb λc hc=>by
     exact YC c (jo (wM ht) hc)
   simp only[dz,aL,if_false,Ze,zT,jq,v0,bOk,Jq,ec];have ea:V0 (.lst (cs.map λc=>T.bl (zQ c)))= .ok (.bl (cs.all zQ)):=by
    show (match Wm (cs.map λc=>T.bl _) with | some k=>R.ok _ | none=> .bad)=_
    rw[J0]
   rw[ea];simp only[bOk,uW,Zt];cases hall:cs.all _ with
   | false=>rfl
   | true=>
    have ew:zu _ _ (zd ixT (vE 0) (cE (.int 0))) 1 [] [.vl (.tup cs),.un] cs= .ok (cs.map λc=>T.str (Zy c)):=
     zG cs hb λc hc=>by
      obtain⟨w,n,rfl⟩:=WB (aH.mp hall c hc);rfl
    simp only[dz,aL,if_false,nxS,Ju,zT,jq,v0,bOk,Jq,ew,Zt,Z2];show zh (((QI (.lst (cs.map λc=>T.str _))).bind λx=>(Zo (.lst (cs.map λc=>T.str _))).bind λy=>(eqC x y).bind λb=>R.ok _).s λt=> .rt t)=_;have el:QI (.lst (cs.map λc=>T.str (Zy c)))= .ok (.int (dd [] (cs.map Zy)).length):=by
     show (match y7 (cs.map λc=>T.str _) with | some ys=>if (cs.map λc=>T.str _).length+1 < 4096 then R.ok _ else .bad | none=> .bad)=_
     rw[w8 hall];exact if_pos (by rw[ae];omega)
    rw[el,gQ,ae];show R.ok _=_;congr 2
    by_cases hq:(dd [] (cs.map Zy)).length=cs.length
    ·rw[hq];simp
    ·rw[decide_eq_false hq];simp only[Bool.true_and,beq_eq_false_iff_ne];omega
 | _=>rfl
noncomputable def isS (w:Str):T->Bool
 | .str s=>s == w
 | _=>false
theorem eqS (h:T)(w:Str):eqC h (.str w)= .ok (isS w h):=by cases h <;> rfl
theorem eqI (i j:Int):eqC (.int i) (.int j)= .ok (i == j):=rfl
theorem at0 {h:T}{r:List T}:ixT (.tup (h :: r)) (.int 0)= .ok h:=by
 show atT _ 0=_;unfold atT;rw[show atI _ 0=some h from j8 rfl]
theorem at1 {h a:T}{r:List T}:ixT (.tup (h :: a :: r)) (.int 1)= .ok a:=by
 show atT _ 1=_;unfold atT;rw[show atI _ 1=some a from j8 rfl]
theorem at2 {h a b:T}{r:List T}:ixT (.tup (h :: a :: b :: r)) (.int 2)= .ok b:=by
 show atT _ 2=_;unfold atT;rw[show atI _ 2=some b from j8 rfl]
theorem at3 {h a b c:T}{r:List T}:ixT (.tup (h :: a :: b :: c :: r)) (.int 3)= .ok c:=by
 show atT _ 3=_;unfold atT;rw[show atI _ 3=some c from j8 rfl]
noncomputable def Jv (k:T->Bool):T->Bool
 | .tup ks=>decide (1<=ks.length) && decide (ks.length<=3) && ks.all k
 | _=>false
def WC:List T->Bool
 | [a,b]=>jL (-20) 20 a b
 | _=>false
def YD:List T->Bool
 | [c]=>uX c
 | _=>false
def gR (k:T->Bool):List T->Bool
 | [c]=>Jv k c
 | _=>false
def YE (k:T->Bool):List T->Bool
 | [c,a,b]=>jL 0 3 a b && k c
 | _=>false
def UR (k:T->Bool):T->Bool
 | .tup (h :: r)=>if isS "whole" h=true then WC r else if isS "pick" h=true then YD r else if isS "row" h=true then gR k r else if isS "many" h=true then YE k r else false
 | _=>false
def isK:Nat->T->Bool
 | 0,_=>false
 | d+1,t=>UR (isK d) t
theorem YF {α:Type}(xs:List α)(n:Nat):((xs.length:Int) == (n:Int))=decide (xs.length=n):=by
 by_cases h:xs.length=n
 ·rw[h];simp
 ·rw[decide_eq_false h,beq_eq_false_iff_ne];omega
theorem YG {f:En->R T}{ρ:En}:u8 f ρ=(f ρ).bind λx=>match x with | .int i=> .ok (.int (-i)) | _=> .bad:=rfl
theorem Zq {i j:Int}:JW (.int i) (.int j)= .ok (.int (i - j)):=rfl
set_option maxHeartbeats 1000000 in
theorem Xj {n:Nat}{d:Nat}{k:T->Bool}(H0:∀t,sOk t->S_9 n 0 [t,.int d]= .ok (.bl (k t)))(H1:∀t,sOk t->S_9 n 1 [t,.int d]= .ok (.bl (Jv k t)))(t:T)(ht:sOk t):
  S_9 (n+1) 0 [t,.int ((d+1:Nat):Int)]= .ok (.bl (UR k t)):=by
 have e:S_9 (n+1) 0 [t,.int ((d+1:Nat))]=zh (b_9 z00 _ gG _ [.vl t,.vl (.int _)]):=rfl;have hL:(((d+1:Nat):Int) == 0)=false:=by rw[beq_eq_false_iff_ne];omega
 have hL1:((d+1:Nat)) - 1=(d:Int):=by omega
 rw[e,b_9];simp only[zU,ZH,UP,WA,jp,zS,w0,w1,Z3,bOk,eqI,hL,aL,if_false,Ze];cases t with
 | tup xs=>
  cases xs with
  | nil=>rfl
  | cons h r=>
   have hs:=wM ht;have hm:∀u∈r,sOk u:=λu hu=>jo hs (a9 _ hu);have z0:(((h :: r).length:Int) == 0)=false:=by rw[beq_eq_false_iff_ne];simp only[ay];omega
   have ti:wZ "tuple" (.tup (h :: r))= .ok (.bl true):=rfl;simp only[ti,bOk,uW,dz,aL,if_false,JN,eqI,z0,Zt,nxS,zk,v0,v1,Z3,at0,eqS,Z2,ZD,ZN,jn,ZE,Ze,w0,z1V,zA,zw,YG,Zq,hL1];show _=R.ok (T.bl (if isS "whole" h=true then WC r else if isS "pick" h=true then YD r else if isS "row" h=true then gR k r else if isS "many" h=true then YE k r else false))
   have l3:(((h :: r).length:Int) == 3)=decide _:=YF (h :: r) 3;have l2:(((h :: r).length:Int) == 2)=decide _:=YF (h :: r) 2;have l4:(((h :: r).length:Int) == 4)=decide _:=YF _ 4;simp only[l2,l3,l4,Zd];cases isS _ h with
   | true=>
    match r,hm with
    | [],_=>rfl
    | [_],_=>rfl
    | _ :: _ :: _ :: _,_=>simp[WC,Zt,zh]
    | [a,b],_=>
     simp only[at1,at2,bOk,Yz];rfl
   | false=>
    simp only[aL,if_false,v0,v1,w0,bOk,at0,Zt,ZD,ZN,JN,eqI,l2,l4,Zd,Zq,hL1];cases isS _ h with
    | true=>
     match r,hm with
     | [],_=>rfl
     | _ :: _ :: _,_=>simp[YD,Zt,zh]
     | [c],hm=>
      simp only[at1,bOk,UQ c (hm c (by simp))]
      rfl
    | false=>
     simp only[aL,if_false,v0,v1,w0,bOk,at0,Zt,ZD,ZN,JN,eqI,l2,l4,Zd,Zq,hL1];cases isS _ h with
     | true=>
      match r,hm with
      | [],_=>rfl
      | _ :: _ :: _,_=>simp[gR,Zt,zh]
      | [c],hm=>
       simp only[at1,bOk,H1 c (hm c (by simp))]
       rfl
     | false=>
      simp only[aL,if_false,v0,v1,w0,bOk,at0,Zt,ZD,ZN,JN,eqI,l2,l4,Zd,Zq,hL1];cases isS _ h with
      | true=>
       match r,hm with
       | [],_=>rfl
       | [_],_=>rfl
       | [_,_],_=>rfl
       | _ :: _ :: _ :: _ :: _,_=>simp[YE,Zt,zh]
       | [c,a,b],hm=>
        simp only[at1,at2,at3,bOk,Yz,H0 c (hm c (by simp)),Zd]
        show zh (match (if jL 0 3 a b=true then R.ok _ else .ok _).s (λt=>RS.rt t) with | .nx _=>RS.rt _ | r=>r)=R.ok (T.bl (jL 0 3 a b && k c))
        cases jL 0 3 a b <;> rfl
      | false=>rfl
 | _=>rfl
theorem gU {n:Nat}{d:Nat}{k:T->Bool}(H0:∀t,sOk t->S_9 n 0 [t,.int d]= .ok (.bl (k t)))(t:T)(ht:sOk t):S_9 (n+1) 1 [t,.int d]= .ok (.bl (Jv k t)):=by
 have e:S_9 (n+1) 1 [t,.int d]=zh (z03 f_e (S_9 n 0) [.vl t,.vl (.int d)]):=rfl;rw[e,z03];simp only[Z2,jM,ZD,ZN,jn,Zc,v0,Z3,bOk];rw[show f_e [t,.int 1,.int 3]= .ok (.bl (vj 1 3 t)) from Zl t 1 3,Zd];cases t with
 | tup ks=>
  show (if (decide (1<=ks.length) && decide (ks.length<=3))=true then _ else _)=R.ok (T.bl (decide (1<=ks.length) && decide (ks.length<=3) && ks.all k))
  cases h13:(decide (1<=ks.length) && decide (ks.length<=3)) with
  | false=>rfl
  | true=>
   rw[ah,decide_eq_true_eq,decide_eq_true_eq]at h13;have hb:ks.length<=bnd:=ar h13.2 (by decide)
   have ec:zu (zC 0) zW (zb 2 (S_9 n 0) (za (vE 0) (za (vE 1) ze))) 1 [1] [.vl (.tup ks),.vl (.int d)] ks= .ok (ks.map λc=>T.bl (k c)):=
    zG (h:=λc=>T.bl (k c)) ks hb λc hc=>by
     show zb 2 (S_9 n 0) (za (vE 0) (za (vE 1) ze)) [.vl c,.vl (.int d)]=_;rw[zw,v0,v1,bOk,bOk];exact H0 c (jo (wM ht) hc)
   simp only[if_true,Ze,zT,jq,v0,bOk,Jq,ec];show (match Wm (ks.map λc=>T.bl (k c)) with | some k=>R.ok (T.bl k) | none=> .bad)=_
   rw[J0];rfl
 | _=>rfl
theorem uf:∀(d n:Nat),2*d+1<=n->∀t,sOk t->S_9 n 0 [t,.int d]= .ok (.bl (isK d t))
 | 0,n+1,_,t,_=>rfl
 | d+1,n+2,h,t,ht=>Xj (n:=n+1) (λu hu=>uf d (n+1) (by omega) u hu) (λu hu=>gU (λv hv=>uf d n (by omega) v hv) u hu) t ht
theorem US (t:T)(ht:sOk t):f_3 [t]= .ok (.bl (isK 3 t)):=by
 have e:f_3 [t]=zh (b_3 (f_9 20) [.vl t]):=rfl;rw[e,b_3];simp only[Z2,jM,ZD,ZN,zw,v0,Z3,bOk];exact uf 3 20 (by omega) t ht
noncomputable def inR (lo hi:Int):T->Bool
 | .int i=>decide (lo<=i) && decide (i<=hi)
 | _=>false
theorem WD:∀(ws acc:List Str),(dd acc ws).length<=acc.length+ws.length
 | [],acc=>ak _
 | w :: ws,acc=>by
  unfold dd;have:=WD ws (if w∈acc then acc else acc++[w])
  by_cases h:w∈acc
  ·rw[if_pos h]at this ⊢;simp only[ay];omega
  ·rw[if_neg h]at this ⊢;rw[aC,aG]at this;simp only[ay];omega
theorem wN:∀(ws acc:List Str),((dd acc ws).length=acc.length+ws.length)↔∀(k:Nat) (w:Str),ws[k]? =some w->w ∉ acc++ws.take k
 | [],acc=>by simp[dd]
 | w :: ws,acc=>by
  unfold dd
  by_cases h:w∈acc
  ·rw[if_pos h];have:=WD ws acc;constructor
   ·intro e;simp only[ay]at e;omega
   ·intro H;exact absurd (eN _ h) (H 0 w rfl)
  ·rw[if_neg h];have ih:=wN ws (acc++[w]);rw[aC,aG]at ih;rw[show acc.length+(w :: ws).length=acc.length+1+ws.length by simp only[ay];omega,ih]
   constructor
   ·intro H k v e;cases k with
    | zero=>simp at e;subst e;simpa using h
    | succ k=>
     have:=H k v (by simpa using e)
     simpa[bF] using this
   ·intro H k v e;have:=H (k+1) v (by simpa using e)
    simpa[bF] using this
theorem ltI (i j:Int):ltC (.int i) (.int j)= .ok (decide (i < j)):=rfl
theorem v2 {t:T}{a b:Sl}{ρ:En}:vE 2 (a :: b :: .vl t :: ρ)= .ok t:=rfl
theorem v3 {t:T}{a b c:Sl}{ρ:En}:vE 3 (a :: b :: c :: .vl t :: ρ)= .ok t:=rfl
theorem w2 {t:T}{a b:Sl}{ρ:En}:vB 2 (a :: b :: .vl t :: ρ)= .ok t:=rfl
theorem w3 {t:T}{a b c:Sl}{ρ:En}:vB 3 (a :: b :: c :: .vl t :: ρ)= .ok t:=rfl
theorem w5 {t:T}{a b c d e:Sl}{ρ:En}:vB 5 (a :: b :: c :: d :: e :: .vl t :: ρ)= .ok t:=rfl
theorem v4 {t:T}{a b c d:Sl}{ρ:En}:vE 4 (a :: b :: c :: d :: .vl t :: ρ)= .ok t:=rfl
theorem uY (w:Str):∀ws:List Str,jI (λy=>eqF 30 y (.str w)) (ws.map T.str)=some (decide (w∈ws))
 | []=>rfl
 | x :: ws=>by
  have ih:=uY w ws;show (match jI (λy=>eqF 30 y (.str w)) (ws.map T.str) with | none=>none | some c=>some ((x == w) || c))=_
  rw[ih];show some ((x == w) || decide (w∈ws))=_
  congr 1
  by_cases h:x=w
  ·subst h;simp
  ·have h' :¬ w=x:=λz=>h z.symm;simp[h,h']
theorem gtI (i j:Int):gtC (.int i) (.int j)= .ok (decide (i > j)):=rfl
theorem Z4 (i j:Int):zy (.int i) (.int j)= .ok (.int (i+j)):=rfl
theorem gX (p:Int)(h0:0<=p)(h1:p < 26):ixT (.str "abcdefghijklmnopqrstuvwxyz") (.int p)= .ok (.str ⟨#[97+p.toNat]⟩):=by
 obtain⟨n,rfl⟩:=dJ h0;have h:n < 26:=by omega
 iterate 26 (refine(Nat.lt_or_eq_of_le (Nat.le_of_lt_succ h)).elim (λh=> ?_) (λe=>e ▸ rfl))
 exact absurd h (lC _)
abbrev letE:En->R T:=zd ixT (vE 3) (zb 3 f_4 (za (vE 1) (za (zd zy (zd zy (vE 2) (cE (.int 2))) (vE 0)) (za (cE (.int 26)) (ze)))))
theorem gY (ns:List Int)(k:Int)(h0:0<=k)(j:Nat):∃c:Nat,(97<=c/\c<=122)/\letE [.vl (.int (j:Int)),.vl (scr ns),.vl (.int k),.vl (.str "abcdefghijklmnopqrstuvwxyz")]= .ok (.str ⟨#[c]⟩):=by
 obtain⟨p,e,p0,p1⟩:=zM ns (k+2+j) 26 (by omega) (by omega)
 refine⟨97+p.toNat,⟨by omega,by omega⟩, ?_⟩
 simp only[letE,zk,v3,bOk,Zc,v1,v2,v0,Z3,Z4,e];exact gX p p0 p1
theorem UT (ns:List Int)(k:Int)(h0:0<=k):∃w:Str,k7 [scr ns,.int k]= .ok (.str w)/\Z5 (.str w)=true:=by
 have e:k7 [scr ns,.int k]=zh (GX _ [.vl _,.vl _,.un]):=rfl;obtain⟨p,e0,p0,p1⟩:=zM ns k 6 h0 (by omega)
 have hset:∀t,([Sl.vl (scr ns),Sl.vl (.int k),.un]).set 2 _=[Sl.vl _,Sl.vl _,.vl t]:=λ_=>rfl;rw[e,GX];simp only[zU,ZH,Ju,Z3,Zt,hset,zS,Zc,v0,v1,bOk,e0,gtI];cases hp:decide (p > 0) with
 | true=>
  obtain⟨q,e1,q0,q1⟩:=zM ns (k+1) 4 (by omega) (by omega)
  simp only[if_true,Z2,ZD,ZN,zk,Zc,v0,v1,Z3,bOk,Z4,e1];have hq:q=0\/q=1\/q=2\/q=3:=by omega
  rcases hq with rfl | rfl | rfl | rfl
  ·exact⟨"a",rfl,by decide⟩
  ·exact⟨"b",rfl,by decide⟩
  ·exact⟨"ab",rfl,by decide⟩
  ·exact⟨"cab",rfl,by decide⟩
 | false=>
  obtain⟨q,e1,q0,q1⟩:=zM ns (k+1) 3 (by omega) (by omega)
  simp only[aL,if_false,nxS,Z2,jM,ZD,ZN,Ze,zT];obtain⟨g,hg⟩:=lg.mp (gY ns k h0);have ei:Zx (zd zy (cE (.int 1)) (zb 3 f_4 (za (vE 0) (za (zd zy (vE 1) (cE (.int 1))) (za (cE (.int 3)) (ze)))))) [Sl.vl (scr ns),Sl.vl (.int k),.vl (.str "abcdefghijklmnopqrstuvwxyz")]= .ok (rng 0 (1+q).toNat):=by
   unfold Zx;simp only[zk,Zc,v0,v1,Z3,bOk,Z4,e1];rw[if_pos ⟨by omega,by omega⟩]
  have ec:∀n,n<=3->zu _ _ _ 1 [0,1,2] [Sl.vl _,Sl.vl _,.vl _] _= .ok ((rng 0 n).map λt=>match t with | .int j=> .str ⟨#[g j.toNat]⟩ | t=>t):=λn hn=>
   zG _ (by unfold rng;rw[ae,bL];exact ar hn (by decide)) λt ht=>by
    obtain⟨j,_,rfl⟩:=av.mp ht;rw[Int.zero_add];exact(hg j).2
  rw[ei,bOk,ec _ (by omega),bOk]
  have hw:∀j,Zg _=true:=λj=>by
   obtain⟨a,b⟩:=(hg j).1;unfold Zg;rw[decide_eq_true a,decide_eq_true b];rfl
  have hq:q=0\/q=1\/q=2:=by omega
  rcases hq with rfl | rfl | rfl
  ·refine⟨⟨#[g 0]⟩,rfl, ?_⟩;show (Zg _ && true)=true;rw[hw 0];rfl
  ·refine⟨⟨#[g 0,g 1]⟩,rfl, ?_⟩;show (Zg _ && (Zg _ && true))=true;rw[hw 0,hw 1];rfl
  ·refine⟨⟨#[g 0,g 1,g 2]⟩,rfl, ?_⟩;show (Zg _ && (Zg _ && (Zg _ && true)))=true;rw[hw 0,hw 1,hw 2];rfl
theorem z1W (j:Int):zY (.int 5) (.int j)= .ok (.int (5*j)):=by
 show (if WV 5 j then R.ok _ else .bad)=_
 rw[if_pos (.inl ⟨by decide,by decide⟩)]
theorem WZ {f g:En->R T}{ρ:En}{x y:T}(hf:f ρ= .ok x)(hg:g ρ= .ok y):Z1 (za f (za g ze)) ρ= .ok (.tup [x,y]):=by
 unfold Z1 za ze;rw[hf,hg];rfl
theorem gZ {f g h:En->R T}{ρ:En}{x y z:T}(hf:f ρ= .ok x)(hg:g ρ= .ok y)(hh:h ρ= .ok z):Z1 (za f (za g (za h ze))) ρ= .ok (.tup [x,y,z]):=by
 unfold Z1 za ze;rw[hf,hg,hh];rfl
theorem tup4 {f g h i:En->R T}{ρ:En}{x y z w:T}(hf:f ρ= .ok x)(hg:g ρ= .ok y)(hh:h ρ= .ok z)(hi:i ρ= .ok w):Z1 (za f (za g (za h (za i ze)))) ρ= .ok (.tup [x,y,z,w]):=by
 unfold Z1 za ze;rw[hf,hg,hh,hi];rfl
noncomputable def Dst (ws:List Str):Prop:=∀(k:Nat) (w:Str),ws[k]? =some w->w ∉ ws.take k
theorem Dst.add {ws:List Str}(h:Dst ws){w:Str}(hw:w ∉ ws):Dst (ws++[w]):=λk x hx=>by
 by_cases hk:k < ws.length
 ·rw[aT hk]at hx;rw[List.take_append_of_le_length (by omega)]
  exact h k x hx
 ·rw[aP (by omega)]at hx
  have hk' :k=ws.length:=by
   rcases Nat.lt_or_ge (k - ws.length) 1 with z | z
   ·omega
   ·rw[aV (by simpa using z)]at hx;cases hx
  subst hk';rw[Nat.sub_self]at hx;cases hx;rw[List.take_left']
  ·exact hw
  ·rfl
abbrev WF:En->RS:=zn (zI 5 (zb 2 k7 (za (vE 0) (za (zd zy (zd zy (vE 1) (cE (.int 5))) (zd zY (cE (.int 5)) (vE 4))) (ze)))))
  (ifS (zx uF (vB 5) (vB 3)) (Q6 3 (vE 5)) (nxS))
theorem Jw (ns:List Int)(k:Int)(h0:0<=k):∀(js:List Nat) (ws:List Str) (x4 x5:Sl),js.length+ws.length<=4->Dst ws->(∀w∈ws,Z5 (.str w)=true)->
  ∃ws' y4 y5,Zj (zC 4) WF (js.map λ(j:Nat)=>T.int (0+(j:Int))) [.vl (scr ns),.vl (.int k),.un,.ow (ws.map T.str),x4,x5]= .nx [.vl (scr ns),.vl (.int k),.un,.ow (ws'.map T.str),y4,y5]/\ws'.length<=4/\Dst ws' /\(∀w∈ws',Z5 (.str w)=true)/\(0 < js.length+ws.length->0 < ws'.length)
 | [],ws,x4,x5,hl,hd,hw=>⟨ws,x4,x5,rfl,by simpa using hl,hd,hw,λh=>by simpa using h⟩
 | j :: js,ws,x4,x5,hl,hd,hw=>by
  obtain⟨w,ew,hw'⟩:=UT ns (k+5+5*(0+(j:Int))) (by omega)
  have hl' :js.length+ws.length+1<=4:=by simpa[ay,Nat.add_right_comm] using hl
  have e:Zj (zC 4) WF ((j :: js).map λ(j:Nat)=>T.int (0+(j:Int))) [.vl (scr ns),.vl (.int k),.un,.ow (ws.map T.str),x4,x5]=match WF [.vl (scr ns),.vl (.int k),.un,.ow (ws.map T.str),.vl (.int (0+(j:Int))),x5] with
   | .nx ρ2=>Zj (zC 4) WF (js.map λ(j:Nat)=>T.int (0+(j:Int))) ρ2
   | .ct ρ2=>Zj (zC 4) WF (js.map λ(j:Nat)=>T.int (0+(j:Int))) ρ2
   | .bk ρ2=> .nx ρ2
   | r=>r:=rfl
  have eb:WF [.vl (scr ns),.vl (.int k),.un,.ow (ws.map T.str),.vl (.int (0+(j:Int))),x5]= .nx [.vl (scr ns),.vl (.int k),.un,.ow ((if w∈ws then ws else ws++[w]).map T.str),.vl (.int (0+(j:Int))),.vl (.str w)]:=by
   have w3o:∀(a b c:Sl) (ts:List T) (ρ:En),vB 3 (a :: b :: c :: .ow ts :: ρ)= .ok _:=λ_ _ _ _ _=>rfl;have hset:∀t,([.vl _,.vl (.int k),.un,.ow (ws.map T.str),.vl (.int (0+(j:Int))),x5]:En).set 5 (.vl t)=[.vl (scr ns),.vl (.int k),.un,.ow (ws.map T.str),.vl _,.vl t]:=λ_=>rfl;have en:uF (.str w) (.lst (ws.map T.str))= .ok (!decide (w∈ws)):=by
    show ((match jI (λy=>eqF 30 y (.str w)) (ws.map _) with | some b=>R.ok b | none=> .bad)).bind (λb=>R.ok _)=_
    rw[uY];rfl
   simp only[WF,zU,Ju,zw,v0,v1,v4,zk,Z3,bOk,Z4,z1W,ew,Zt,hset,ZH,zS,w5,w3o,en]
   by_cases hm:w∈ws
   ·rw[decide_eq_true hm,if_pos hm];rfl
   ·rw[decide_eq_false hm,if_neg hm];have hb:(ws.map T.str).length < bnd:=by rw[ae];exact bh (show ws.length<=4 by omega) (by decide)
    show (if (ws.map _).length < bnd then RS.nx _ else .bad)=_
    rw[if_pos hb,cx];rfl
  rw[e,eb]
  by_cases hm:w∈ws
  ·rw[if_pos hm];obtain⟨ws',y4,y5,r1,r2,r3,r4,r5⟩:=Jw ns k h0 js ws _ _ (by omega) hd hw
   exact⟨ws',y4,y5,r1,r2,r3,r4,λ_=>r5 (by have:=List.length_pos_of_mem hm;omega)⟩
  ·rw[if_neg hm];obtain⟨ws',y4,y5,r1,r2,r3,r4,r5⟩:=Jw ns k h0 js _ _ _ (by simp only[aC,ay,bZ];omega) (hd.add hm) (λx hx=>by
    rcases bv.mp hx with z | z
    ·exact hw x z
    ·rw[au.mp z];exact hw')
   exact⟨ws',y4,y5,r1,r2,r3,r4,λ_=>r5 (by simp only[aC,ay,bZ];omega)⟩
abbrev z0l:En->R T:=Z1 (za (vE 1) (za (zd zy (cE (.int 1)) (zb 3 f_4 (za (vE 2) (za (zd zy (zd zy (vE 3) (cE (.int 30))) (vE 0)) (za (cE (.int 20)) (ze)))))) (ze)))
theorem uZ (ns:List Int)(k:Int)(h0:0<=k):∀(ws:List Str) (i:Nat) (x0 x1:Sl),(∀w∈ws,Z5 (.str w)=true)->∃cs:List T,zt (zK 0 1) zW z0l (((ws.map T.str).zipIdx i).map λp=>T.tup [.int (p.2:Nat),p.1]) [x0,x1,.vl (scr ns),.vl (.int k)]= .ok cs/\cs.all zQ=true/\cs.map Zy=ws
 | [],i,x0,x1,_=>⟨[],rfl,rfl,rfl⟩
 | w :: ws,i,x0,x1,hw=>by
  obtain⟨p,e,p0,p1⟩:=zM ns (k+30+i) 20 (by omega) (by omega)
  obtain⟨cs,r1,r2,r3⟩:=uZ ns k h0 ws _ _ _ λx hx=>hw x (a9 _ hx);have ec:z0l [.vl (.int (i)),.vl (.str w),.vl (scr ns),.vl (.int k)]= .ok (.tup [.str w,.int (1+p)]):=by
   have ea:zb 3 f_4 (za (vE 2) (za (zd zy (zd zy (vE 3) (cE (.int 30))) (vE 0)) (za (cE (.int 20)) (ze)))) [.vl (.int (i)),.vl (.str w),.vl (scr ns),.vl (.int k)]= .ok (.int p):=by
    simp only[Zc,v2,v3,v0,zk,Z3,bOk,Z4,e]
   have eb:zd zy (cE (.int 1)) (zb 3 f_4 (za (vE 2) (za (zd zy (zd zy (vE 3) (cE (.int 30))) (vE 0)) (za (cE (.int 20)) (ze))))) [.vl (.int (i)),.vl (.str w),.vl (scr ns),.vl (.int k)]= .ok (.int (1+p)):=by
    rw[zk,ea];rfl
   exact WZ v1 eb
  refine⟨.tup [.str w,.int (1+p)] :: cs, ?_, ?_, ?_⟩
  ·show ((z0l [.vl _,.vl _,.vl _,.vl _]).bind λv=>(zt _ _ _ (((ws.map _).zipIdx _).map λp=>T.tup _) [.vl _,.vl _,.vl _,.vl _]).bind λvs=>R.ok _)=_;rw[ec,r1];rfl
  ·rw[cY,r2,Bool.and_true];show (Z5 _ && decide _ && decide _)=true;rw[hw w ab,decide_eq_true (by omega),decide_eq_true (by omega)];rfl
  ·rw[aq,r3];rfl
theorem Vm (i j:Int):yJ (.int i) (.int j)= .ok (.int (if j < i then j else i)):=rfl
theorem Xk (ns:List Int)(k:Int)(h0:0<=k):∃t,gD [scr ns,.int k]= .ok t/\∀d,isK (d+1) t=true:=by
 have e:gD [scr ns,.int k]=zh (GY f_4 k7 [.vl (scr ns),.vl (.int k),.un,.un,.un,.un]):=rfl;obtain⟨p,e0,p0,p1⟩:=zM ns k 3 h0 (by omega)
 rw[e,GY,zU];simp only[ZH,zS,Zc,v0,v1,Z3,bOk,e0,gtI,Zt];cases hp:decide (p > 0) with
 | true=>
  obtain⟨q,e1,q0,q1⟩:=zM ns (k+1) 7 (by omega) (by omega)
  obtain⟨q3,e3,_,_⟩:=zM ns (k+3) 8 (by omega) (by omega)
  obtain⟨q4,e4,a4,b4⟩:=zM ns (k+4) 3 (by omega) (by omega)
  obtain⟨q2,e2,a2,b2⟩:=zM ns (k+2) 4 (by omega) (by omega)
  have hset:∀t x,([.vl (scr ns),.vl (.int k),x,.un,.un,.un]:En).set 2 (.vl t)=[.vl (scr ns),.vl (.int k),.vl t,.un,.un,.un]:=λ_ _=>rfl;have fin:∀low:Int, -20<=low->low<=20->∃t,zh (zq (Z1 (za (cE (.str "whole")) (za (vE 2) (za (zd yJ (cE (.int 20)) (zd zy (vE 2) (zb 3 f_4 (za (vE 0) (za (zd zy (vE 1) (cE (.int 2))) (za (cE (.int 4)) (ze))))))) (ze))))) [.vl (scr ns),.vl (.int k),.vl (.int low),.un,.un,.un])= .ok t/\∀d,isK (d+1) t=true:=by
   intro low hl1 hl2;refine⟨.tup [.str "whole",.int low,.int (if low+q2 < 20 then low+q2 else 20)], ?_,λd=> ?_⟩
   ·rw[Z2,jM];refine gZ rfl rfl ?_;simp only[ZD,wK,ZN,zk,v2,v0,v1,Zc,Z3,bOk,Z4,e2,Vm]
   ·show (decide (-20<=low) && decide (low<=_) && decide (_<=(20:Int)))=true;rw[decide_eq_true hl1,decide_eq_true (by split <;> omega),decide_eq_true (by split <;> omega)];rfl
  simp only[if_true,zU,Ju,ZH,zk,Zc,v0,v1,Z3,bOk,Z4,e1,Zq,Zt,hset,zS,e3,eqI];cases hq:(q3 == 0) with
  | true=>
   have h3:q4=0\/q4=1\/q4=2:=by omega
   rcases h3 with rfl | rfl | rfl
   ·obtain⟨t,r,s⟩:=fin (-20) (by omega) (by omega)
    refine⟨t, ?_,s⟩;rw[← r];simp only[if_true,e4,bOk];have hv:∀ρ,(j4 (za (u8 (cE (.int 20))) (za (cE (.int 17)) (za (cE (.int 20)) (ze)))) ρ)= .ok (.lst [.int (-20),.int 17,.int 20]):=λ_=>rfl;simp only[hv,bOk];have hx:ixT (.lst [.int (-20),.int 17,.int 20]) (.int 0)= .ok (.int (-20)):=rfl;simp only[hx,Zt,hset,Z2];generalize Z1 _ _=z;cases z <;> rfl
   ·obtain⟨t,r,s⟩:=fin (17) (by omega) (by omega)
    refine⟨t, ?_,s⟩;rw[← r];simp only[if_true,e4,bOk];have hv:∀ρ,(j4 (za (u8 (cE (.int 20))) (za (cE (.int 17)) (za (cE (.int 20)) (ze)))) ρ)= .ok (.lst [.int (-20),.int 17,.int 20]):=λ_=>rfl;simp only[hv,bOk];have hx:ixT (.lst [.int (-20),.int 17,.int 20]) (.int 1)= .ok (.int (17)):=rfl;simp only[hx,Zt,hset,Z2];generalize Z1 _ _=z;cases z <;> rfl
   ·obtain⟨t,r,s⟩:=fin (20) (by omega) (by omega)
    refine⟨t, ?_,s⟩;rw[← r];simp only[if_true,e4,bOk];have hv:∀ρ,(j4 (za (u8 (cE (.int 20))) (za (cE (.int 17)) (za (cE (.int 20)) (ze)))) ρ)= .ok (.lst [.int (-20),.int 17,.int 20]):=λ_=>rfl;simp only[hv,bOk];have hx:ixT (.lst [.int (-20),.int 17,.int 20]) (.int 2)= .ok (.int (20)):=rfl;simp only[hx,Zt,hset,Z2];generalize Z1 _ _=z;cases z <;> rfl
  | false=>
   obtain⟨t,r,s⟩:=fin (q - 3) (by omega) (by omega)
   refine⟨t, ?_,s⟩;rw[← r];simp only[aL,if_false,nxS,Z2];generalize Z1 _ _=z;cases z <;> rfl
 | false=>
  obtain⟨q,e1,q0,q1⟩:=zM ns (k+1) 4 (by omega) (by omega)
  simp only[aL,if_false,nxS,zU];have ei:Zx (zd zy (cE (.int 1)) (zb 3 f_4 (za (vE 0) (za (zd zy (vE 1) (cE (.int 1))) (za (cE (.int 4)) (ze)))))) [.vl (scr ns),.vl (.int k),.un,.ow [],.un,.un]= .ok (rng 0 (1+q).toNat):=by
   unfold Zx;simp only[zk,Zc,v0,v1,Z3,bOk,Z4,e1];rw[if_pos ⟨by omega,by omega⟩]
  have el:uI 3 ze [.vl (scr ns),.vl (.int k),.un,.un,.un,.un]= .nx [.vl (scr ns),.vl (.int k),.un,.ow [],.un,.un]:=rfl;rw[el];have hn:(aY (1+q).toNat).length=(1+q).toNat:=bL;obtain⟨ws,y4,y5,r1,r2,r3,r4,r5⟩:=Jw ns k h0 (aY (1+q).toNat) [] .un .un (by rw[hn,bZ];omega) (λk w h=>by cases h) (λw h=>by cases h)
  have hpos:0 < ws.length:=r5 (by rw[hn,bZ];omega)
  have ef:j3 (Zx (zd zy (cE (.int 1)) (zb 3 f_4 (za (vE 0) (za (zd zy (vE 1) (cE (.int 1))) (za (cE (.int 4)) (ze))))))) (zC 4) WF [.vl (scr ns),.vl (.int k),.un,.ow [],.un,.un]= .nx [.vl (scr ns),.vl (.int k),.un,.ow (ws.map T.str),y4,y5]:=by
   unfold j3;rw[ei,Zt];exact r1
  obtain⟨cs,s1,s2,s3⟩:=uZ ns k h0 ws 0 .un .un r4;have hcl:cs.length=ws.length:=by rw[← s3,ae]
  refine⟨.tup [.str "pick",.tup cs], ?_,λd=> ?_⟩
  ·dsimp only;rw[ef];dsimp only;rw[Z2,jM];refine WZ rfl ?_;rw[Ze,zT];have ee:xF (vE 3) (frz [.vl (scr ns),.vl (.int k),.un,.ow (ws.map T.str),y4,y5])= .ok (jm (ws.map T.str)):=rfl;rw[ee,bOk];unfold zu;rw[if_pos (by unfold jm;rw[ae,iA,ae];exact ar r2 (by decide))]
   have ec:zt (zK 0 1) zW z0l (jm (ws.map T.str)) (Jo 2 [0,1] (frz [.vl (scr ns),.vl (.int k),.un,.ow (ws.map T.str),y4,y5]))= .ok cs:=s1;rw[ec];rfl
  ·show (decide (1<=cs.length) && decide (cs.length<=4) && cs.all zQ && decide ((dd [] (cs.map Zy)).length=cs.length))=true;have hd:(dd [] (cs.map Zy)).length=cs.length:=by
    rw[s3,hcl];have:=(wN ws []).mpr (λk w h=>by simpa using r3 k w h)
    simpa using this
   rw[decide_eq_true (by omega),decide_eq_true (by omega),s2,decide_eq_true hd];rfl
theorem vk (c:Int)(j:Int)(hc:WV c j):zY (.int c) (.int j)= .ok (.int (c*j)):=by
 show (if WV c j then R.ok _ else .bad)=_
 rw[if_pos hc]
theorem G1 (j:Int):zY (.int 3) (.int j)= .ok (.int (3*j)):=vk _ _ (.inl ⟨by decide,by decide⟩)
theorem G4 (j:Int):zY (.int 50) (.int j)= .ok (.int (50*j)):=vk _ _ (.inl ⟨by decide,by decide⟩)
abbrev z0m (c:List T->R T):En->R T:=zb 3 c (za (vE 1) (za (zd zy (zd zy (zd zY (cE (.int 3)) (vE 2)) (cE (.int 40))) (zd zY (cE (.int 50)) (vE 0))) (za (zd JW (vE 3) (cE (.int 1))) (ze))))
theorem ug (ns:List Int):∀(d n:Nat),d<=n->1<=d->∀k:Int,0<=k->∃t,S_h n 0 [scr ns,.int k,.int (d:Int)]= .ok t/\isK d t=true
 | d+1,n+1,hn,_,k,h0=>by
  have e:S_h (n+1) 0 [scr ns,.int k,.int ((d+1:Nat))]=zh (b_h f_4 gD (S_h n 0) [.vl (scr ns),.vl (.int k),.vl _,.un,.un,.un]):=rfl;obtain⟨p,e0,p0,p1⟩:=zM ns k 5 h0 (by omega)
  obtain⟨l,el,hl⟩:=Xk ns (k+1) (by omega)
  have hset:([.vl (scr ns),.vl (.int k),.vl (.int ((d+1:Nat))),.un,.un,.un]:En).set 3 (.vl (.int p))=[.vl (scr ns),.vl (.int k),.vl _,.vl (.int p),.un,.un]:=rfl;rw[e,b_h];simp only[zU,Ju,ZH,UP,zS,Zc,zw,v0,v1,v2,Z3,bOk,e0,Zt,hset,w2,w3,eqI,ltI,Z4,Z2,ZD,wK,ZN,zk,el];have hd1:((((d+1:Nat):Int) == 1))=decide (d=0):=by
   by_cases h:d=0
   ·subst h;rfl
   ·rw[decide_eq_false h,beq_eq_false_iff_ne];omega
  rw[hd1]
  by_cases hleaf:d=0\/p < 2
  ·refine⟨l, ?_,hl d⟩;rcases hleaf with h | h
   ·rw[decide_eq_true h];rfl
   ·rw[decide_eq_true h];cases decide (d=0) <;> rfl
  ·have hd0:¬ d=0:=λz=>hleaf (.inl z);have hp2:¬ p < 2:=λz=>hleaf (.inr z);have hsub:((d+1:Nat)) - 1=(d:Int):=by omega
   rw[decide_eq_false hd0,decide_eq_false hp2];simp only[aL,if_false,Zt,nxS,w3,v0,v1,v2,bOk,ltI,Z3];cases hp:decide (p < 4) with
   | true=>
    obtain⟨q,e1,q0,q1⟩:=zM ns (k+1) 3 (by omega) (by omega)
    have hj:∀j:Nat,∃t,z0m (S_h n 0) [.vl (.int (0+(j:Int))),.vl (scr ns),.vl (.int k),.vl (.int ((d+1:Nat)))]= .ok t/\isK d t=true:=λj=>by
     obtain⟨t,r,s⟩:=ug ns d n (by omega) (by omega) (3*k+40+50*(0+(j:Int))) (by omega)
     refine⟨t, ?_,s⟩;simp only[z0m,Zc,v0,v1,v2,v3,zk,Z3,bOk,G1,G4,Z4,Zq,hsub,r]
    obtain⟨g,hg⟩:=lg.mp hj;have ei:Zx (zd zy (cE (.int 1)) (zb 3 f_4 (za (vE 0) (za (zd zy (vE 1) (cE (.int 1))) (za (cE (.int 3)) (ze)))))) [.vl (scr ns),.vl (.int k),.vl (.int ((d+1:Nat))),.vl (.int p),.un,.un]= .ok (rng 0 (1+q).toNat):=by
     unfold Zx;simp only[zk,Zc,v0,v1,Z3,bOk,Z4,e1];rw[if_pos ⟨by omega,by omega⟩]
    have ec:zu (zC 0) zW (z0m (S_h n 0)) 1 [0,1,2] [.vl (scr ns),.vl (.int k),.vl _,.vl (.int p),.un,.un] _= .ok ((rng 0 (1+q).toNat).map λt=>match t with | .int j=>g j.toNat | t=>t):=
     zG _ (by unfold rng;rw[ae,bL];exact ar (show (1+q).toNat<=3 by omega) (by decide)) λt ht=>by
      obtain⟨j,_,rfl⟩:=av.mp ht;show z0m (S_h n 0) [.vl _,.vl (scr ns),.vl (.int k),.vl _]= .ok (g _);rw[(hg j).1,Int.zero_add,bE]
    generalize hcs:((rng 0 (1+q).toNat).map λt=>match t with | .int j=>g j.toNat | t=>t)=cs at ec
    have hlen:cs.length=(1+q).toNat:=by rw[← hcs];unfold rng;rw[ae,ae,bL]
    have hall:∀t∈cs,isK d t=true:=λt ht=>by
     rw[← hcs]at ht;obtain⟨u,hu,rfl⟩:=av.mp ht;obtain⟨j,_,rfl⟩:=av.mp hu;exact(hg _).2
    refine⟨.tup [.str "row",.tup cs], ?_, ?_⟩
    ·have hs4:([.vl (scr ns),.vl (.int k),.vl (.int ((d+1:Nat))),.vl (.int p),.un,.un]:En).set 4 (.vl (.lst cs))=[.vl (scr ns),.vl (.int k),.vl _,.vl (.int p),.vl (.lst cs),.un]:=rfl;simp only[if_true,zT,ei,bOk,ec,Zt,hs4,ZD,wK,ZN];rfl
    ·show (decide _ && decide _ && cs.all _)=true;rw[decide_eq_true (by omega),decide_eq_true (by omega),aH.mpr hall];rfl
   | false=>
    obtain⟨q,e1,q0,q1⟩:=zM ns (k+1) 3 (by omega) (by omega)
    obtain⟨q2,e2,_,_⟩:=zM ns (k+2) 3 (by omega) (by omega)
    obtain⟨t,r,s⟩:=ug ns d n (by omega) (by omega) (3*k+40) (by omega)
    refine⟨.tup [.str "many",t,.int q,.int (if q+q2 < 3 then q+q2 else 3)], ?_, ?_⟩
    ·have hs5:([.vl (scr ns),.vl (.int k),.vl (.int ((d+1:Nat))),.vl (.int p),.un,.un]:En).set 5 (.vl (.int q))=[.vl _,.vl _,.vl _,.vl _,.un,.vl _]:=rfl;simp only[aL,if_false,v0,v1,zk,Z3,bOk,Z4,e1,Zt,hs5,ZD,wK,ZN,jM];refine tup4 rfl ?_ rfl ?_
     ·simp only[Zc,v0,v1,v2,zk,Z3,bOk,G1,Z4,Zq,hsub,r]
     ·have v5:∀{t:T} {a b c d e:Sl} {ρ:En},vE 5 (a :: b :: c :: d :: e :: .vl t :: ρ)= .ok t:=rfl;simp only[Zc,v0,v1,v5,zk,Z3,bOk,Z4,e2,Vm]
    ·show (jL 0 3 _ _ && isK d t)=true;rw[s,Bool.and_true];show (decide _ && decide _ && decide _)=true;rw[decide_eq_true (by omega),decide_eq_true (by split <;> omega),decide_eq_true (by split <;> omega)];rfl
mutual
noncomputable def dep:T->Nat
 | .tup xs=>Qa xs+1
 | .lst xs=>Qa xs+1
 | _=>1
noncomputable def Qa:List T->Nat
 | []=>0
 | t :: ts=>max (dep t) (Qa ts)
end
mutual
noncomputable def siz:T->Nat
 | .tup xs=>Qb xs+1
 | .lst xs=>Qb xs+1
 | _=>1
noncomputable def Qb:List T->Nat
 | []=>0
 | t :: ts=>siz t+Qb ts
end
theorem jN {w:Str}{t:T}(h:isS w t=true):t= .str w:=by
 cases t with
 | str s=>
  have:=h;rw[eq_of_beq this]
 | _=>cases h
theorem YH {lo hi:Int}{t:T}(h:inR lo hi t=true):∃i,t= .int i:=by
 cases t with
 | int i=>exact⟨i,rfl⟩
 | _=>cases h
theorem J4 {lo hi:Int}{a b:T}(h:jL lo hi a b=true):∃i j,a= .int i/\b= .int j:=by
 cases a with
 | int i=>
  cases b with
  | int j=>exact⟨i,j,rfl,rfl⟩
  | _=>cases h
 | _=>cases h
structure Fit (D S:Nat) (t:T):Prop where
 so:sOk t
 dp:dep t<=D
 sz:siz t<=S
theorem UU {c:T}(h:zQ c=true):Fit 2 3 c:=by
 unfold zQ at h;split at h
 ·rename_i w i;have hw:=by
   rw[ah,ah]at h;exact h.1.1
  cases w with
  | str x=>
   have hx:(decide _ && decide _ && x.cps.toList.all _)=true:=hw;rw[ah,ah,decide_eq_true_eq,decide_eq_true_eq]at hx;refine⟨?_, ?_, ?_⟩
   ·simp only[sOk,uV,and_true];exact ar hx.1.2 (by decide)
   ·simp[dep,Qa]
   ·simp[siz,Qb]
  | _=>cases hw
 ·cases h
theorem z1X {D S:Nat}:∀{cs:List T},(∀c∈cs,Fit D S c)->uV cs/\Qa cs<=D/\Qb cs<=S*cs.length
 | [],_=>⟨by simp only[uV],aZ _,aZ _⟩
 | c :: cs,h=>by
  obtain⟨a,b,d⟩:=z1X λx hx=>h x (a9 _ hx);obtain⟨x,y,z⟩:=h c ab;refine⟨?_, ?_, ?_⟩
  ·exact⟨x,a⟩
  ·simp only[Qa];omega
  ·simp only[Qb,ay,Nat.mul_add,Nat.mul_one];omega
theorem wO:∀(d:Nat) (t:T),isK d t=true->Fit (2*d+2) (15*4 ^ d) t
 | 0,_,h=>by cases h
 | d+1,t,h=>by
  have hone:1<=4 ^ d:=Nat.pow_pos (by omega)
  have h:UR _ t=true:=h;unfold UR at h;split at h
  ·rename_i hd r;split at h
   ·rename_i e;rw[jN e];unfold WC at h;split at h
    ·obtain⟨i,j,rfl,rfl⟩:=J4 h;refine⟨by simp only[sOk,uV,and_true];decide,by simp only[dep,Qa];omega,by simp only[siz,Qb];omega⟩
    ·cases h
   ·split at h
    ·rename_i e;rw[jN e];unfold YD at h;split at h
     ·unfold uX at h;split at h
      ·rw[ah,ah,ah,decide_eq_true_eq,decide_eq_true_eq]at h;obtain⟨a,b,z⟩:=z1X λc hc=>UU (aH.mp h.1.2 c hc);refine⟨by simp only[sOk,uV,and_true];exact⟨by decide,a⟩,by simp only[dep,Qa];omega,by simp only[siz,Qb];omega⟩
      ·cases h
     ·cases h
    ·split at h
     ·rename_i e;rw[jN e];unfold gR at h;split at h
      ·unfold Jv at h;split at h
       ·rename_i cs;rw[ah,ah,decide_eq_true_eq,decide_eq_true_eq]at h;obtain⟨a,b,z⟩:=z1X λc hc=>wO d c (aH.mp h.2 c hc);have:15*4 ^ d*cs.length<=15*4 ^ d*3:=Nat.mul_le_mul_left _ h.1.2;refine⟨by simp only[sOk,uV,and_true];exact⟨by decide,a⟩,by simp only[dep,Qa];omega,by simp only[siz,Qb];omega⟩
       ·cases h
      ·cases h
     ·split at h
      ·rename_i e;rw[jN e];unfold YE at h;split at h
       ·rename_i c a b;rw[ah]at h;obtain⟨i,j,rfl,rfl⟩:=J4 h.1;obtain⟨x,y,z⟩:=wO d c h.2;refine⟨by simp only[sOk,uV,and_true];exact⟨by decide,x⟩,by simp only[dep,Qa];omega,by simp only[siz,Qb];omega⟩
       ·cases h
      ·cases h
  ·cases h
theorem G5 {xs ys:List T}(h:xs.length+ys.length<=bnd):zy (.tup xs) (.tup ys)= .ok (.tup (xs++ys)):=if_pos h
theorem wa (ρ:En):nxS ρ= .nx ρ:=rfl
inductive Kd where
 | whole (lo hi:Int)
 | pick (cs:List (Str×Int))
 | row (ks:List Kd)
 | many (k:Kd) (lo hi:Nat)
noncomputable def jO (c:Str×Int):T:= .tup [.str c.1,.int c.2]
mutual
noncomputable def Kd.t:Kd->T
 | .whole lo hi=> .tup [.str "whole",.int lo,.int hi]
 | .pick cs=> .tup [.str "pick",.tup (cs.map jO)]
 | .row ks=> .tup [.str "row",.tup (Kd.ts ks)]
 | .many k lo hi=> .tup [.str "many",k.t,.int (lo:Int),.int (hi:Int)]
noncomputable def Kd.ts:List Kd->List T
 | []=>[]
 | k :: ks=>k.t :: Kd.ts ks
end
theorem Kd.ts_map:∀ks:List Kd,Kd.ts ks=ks.map Kd.t
 | []=>by simp only[Kd.ts,bR]
 | k :: ks=>by simp only[Kd.ts,aq,Kd.ts_map ks]
def Kd.Ok:Nat->Kd->Prop
 | 0,_=>False
 | _+1,.whole lo hi=> -20<=lo/\lo<=hi/\hi<=20
 | _+1,.pick cs=>1<=cs.length/\cs.length<=4/\(∀c∈cs,Z5 (.str c.1)=true/\1<=c.2/\c.2<=20)/\Dst (cs.map (·.1))
 | d+1,.row ks=>1<=ks.length/\ks.length<=3/\∀k∈ks,Kd.Ok d k
 | d+1,.many k lo hi=>lo<=hi/\hi<=3/\Kd.Ok d k
theorem YI {c:T}(h:zQ c=true):∃p:Str×Int,c=jO p/\Z5 (.str p.1)=true/\1<=p.2/\p.2<=20:=by
 unfold zQ at h;split at h
 ·rename_i w i;rw[ah,ah,decide_eq_true_eq,decide_eq_true_eq]at h;cases w with
  | str x=>exact⟨(x,i),rfl,h.1.1,h.1.2,h.2⟩
  | _=>cases h.1.1
 ·cases h
theorem uh {α:Type}{P:T->Prop}{Q:α->Prop}{f:α->T}(H:∀t,P t->∃a,t=f a/\Q a):∀(ts:List T),(∀t∈ts,P t)->∃as:List α,ts=as.map f/\∀a∈as,Q a
 | [],_=>⟨[],rfl,λ_ h=>nomatch h⟩
 | t :: ts,h=>by
  obtain⟨a,rfl,ha⟩:=H t (h t ab);obtain⟨as,rfl,has⟩:=uh H ts λu hu=>h u (a9 _ hu);exact⟨a :: as,rfl,λb hb=>by
   rcases ao.mp hb with rfl | hb
   ·exact ha
   ·exact has b hb⟩
theorem ui:∀(d:Nat) (t:T),isK d t=true->∃k:Kd,t=k.t/\k.Ok d
 | 0,_,h=>by cases h
 | d+1,t,h=>by
  have h:UR _ t=true:=h;unfold UR at h;split at h
  ·rename_i hd r;split at h
   ·rename_i e;rw[jN e];unfold WC at h;split at h
    ·obtain⟨i,j,rfl,rfl⟩:=J4 h;have h:(decide _ && decide _ && decide _)=true:=h;rw[ah,ah,decide_eq_true_eq,decide_eq_true_eq,decide_eq_true_eq]at h;exact⟨.whole i j,by simp only[Kd.t],h.1.1,h.1.2,h.2⟩
    ·cases h
   ·split at h
    ·rename_i e;rw[jN e];unfold YD at h;split at h
     ·unfold uX at h;split at h
      ·rename_i cs;rw[ah,ah,ah,decide_eq_true_eq,decide_eq_true_eq,decide_eq_true_eq]at h;obtain⟨⟨⟨h1,h2⟩,h3⟩,h4⟩:=h;obtain⟨as,rfl,has⟩:=uh (λt ht=>YI ht) cs λc hc=>aH.mp h3 c hc;rw[ae]at h1 h2;refine⟨.pick as,by simp only[Kd.t],h1,h2,has, ?_⟩
       have e1:(as.map jO).map Zy=as.map (·.1):=by rw[aJ];rfl
       rw[e1]at h4;have:=(wN _ []).mp (by rw[h4,ae];simp)
       exact λk w hw hm=>this k w hw (by simpa using hm)
      ·cases h
     ·cases h
    ·split at h
     ·rename_i e;rw[jN e];unfold gR at h;split at h
      ·unfold Jv at h;split at h
       ·rename_i cs;rw[ah,ah,decide_eq_true_eq,decide_eq_true_eq]at h;obtain⟨ks,rfl,hks⟩:=uh (λt ht=>ui d t ht) cs λc hc=>aH.mp h.2 c hc;rw[ae]at h;exact⟨.row ks,by simp only[Kd.t,Kd.ts_map],h.1.1,h.1.2,hks⟩
       ·cases h
      ·cases h
     ·split at h
      ·rename_i e;rw[jN e];unfold YE at h;split at h
       ·rename_i c a b;rw[ah]at h;obtain⟨h1,h2⟩:=h;obtain⟨i,j,rfl,rfl⟩:=J4 h1;obtain⟨k,rfl,hk⟩:=ui d c h2;have h1:(decide _ && decide _ && decide _)=true:=h1;rw[ah,ah,decide_eq_true_eq,decide_eq_true_eq,decide_eq_true_eq]at h1;obtain⟨⟨a1,a2⟩,a3⟩:=h1;obtain⟨m,rfl⟩:=dJ a1;obtain⟨n,rfl⟩:=dJ (Int.le_trans a1 a2);exact⟨.many k m n,by simp only[Kd.t],by omega,by omega,hk⟩
       ·cases h
      ·cases h
  ·cases h
noncomputable def Z8 (made:List (List T)):List (List T)->List (List T)
 | []=>made
 | ls :: r=>Z8 (made.flatMap λa=>ls.map λx=>a++[x]) r
abbrev U0 (ls:List (List T)):List T:=(Z8 [[]] ls).map T.tup
mutual
noncomputable def Kd.all:Kd->List T
 | .whole lo hi=>(aY (hi+1 - lo).toNat).map λ(i:Nat)=>T.int (lo+(i:Int))
 | .pick cs=>cs.map λc=>T.str c.1
 | .row ks=>U0 (Kd.alls ks)
 | .many k lo hi=>(aY (hi+1 - lo)).flatMap λi=>U0 (ai (lo+i) k.all)
noncomputable def Kd.alls:List Kd->List (List T)
 | []=>[]
 | k :: ks=>k.all :: Kd.alls ks
end
theorem Kd.alls_map:∀ks:List Kd,Kd.alls ks=ks.map Kd.all
 | []=>by simp only[Kd.alls,bR]
 | k :: ks=>by simp only[Kd.alls,aq,Kd.alls_map ks]
noncomputable def prd:List Nat->Nat
 | []=>1
 | n :: r=>n*prd r
theorem Jx:∀{ns:List Nat},(∀n∈ns,1<=n)->1<=prd ns
 | [],_=>ak _
 | n :: ns,h=>cO (h n ab) (Jx λm hm=>h m (a9 _ hm))
theorem J6 {α β:Type}(f:α->List β)(n:Nat):∀as:List α,(∀a∈as,(f a).length=n)->(as.flatMap f).length=as.length*n
 | [],_=>by simp
 | a :: as,h=>by
  rw[bX,aC,h a ab,J6 f n as λb hb=>h b (a9 _ hb),ay,eR,c9,iJ]
theorem Jy:∀(ls:List (List T)) (made:List (List T)),(Z8 made ls).length=made.length*prd (ls.map (·.length))
 | [],made=>by simp[Z8,prd]
 | l :: ls,made=>by
  rw[Z8,Jy ls,J6 _ _ _ λa _=>ae ..,aq,prd,c_]
abbrev z0n:En->RS:=Q7 3 (zL (ZB (vE 2)) (zC 0) (zW) (zd zy (vE 1) (Z1 (za (vE 0) (ze)))) 1 [4])
theorem U1 {L M:T}{l:List T}(hl:l.length<=bnd):∀(as:List (List T)) (acc:List T) (x:Sl),(∀a∈as,a.length<=1000)->acc.length+as.length*l.length<=bnd->
  ∃y,Zj (zC 4) z0n (as.map T.tup) [.vl L,.vl M,.vl (.lst l),.ow acc,x]= .nx [.vl L,.vl M,.vl (.lst l),.ow (acc++(as.flatMap λa=>l.map λx=>a++[x]).map T.tup),y]
 | [],acc,x,_,_=>⟨x,by simp[Zj]⟩
 | a :: as,acc,x,ha,hb=>by
  have ha1:=ha a ab;have hb1:bnd=16777216:=rfl;rw[ay,eR]at hb;have ec:zu _ _ (zd zy (vE 1) (Z1 (za (vE 0) (ze)))) 1 [4] [.vl L,.vl M,.vl (.lst l),.ow acc,.vl (.tup a)] l= .ok (l.map λx=>T.tup _):=
   zG l hl λx hx=>by
    exact G5 (by rw[aG];omega)
  have eb:z0n [.vl L,.vl M,.vl (.lst l),.ow acc,.vl (.tup a)]= .nx [.vl L,.vl M,.vl (.lst l),.ow (acc++l.map λx=>T.tup (a++[x])),.vl (.tup a)]:=by
   show (((zu _ _ _ _ _ _ l).bind _).s _)=_;rw[ec,bOk];show (if _ then _ else _)=_
   rw[if_pos (by rw[ae];omega)]
   rfl
  obtain⟨y,ih⟩:=U1 hl as (acc++l.map λx=>T.tup _) _ (λb hb=>ha b (a9 _ hb)) (by rw[aC,ae];omega)
  refine⟨y, ?_⟩;have e:Zj (zC 4) _ ((a :: as).map T.tup) [.vl L,.vl M,.vl (.lst l),.ow acc,x]=match z0n [.vl L,.vl M,.vl _,.ow acc,.vl _] with
   | .nx ρ2=>Zj _ _ _ ρ2
   | .ct ρ2=>Zj _ _ _ ρ2
   | .bk ρ2=> .nx ρ2
   | r=>r:=rfl
  rw[e,eb];dsimp only;rw[ih,bX,cx,aJ,bF];rfl
abbrev vm:En->RS:=(zn (uI 3 (ze))
  (zn (j3 (ZB (vE 1)) (zC 4) z0n)
  (mvS 1 3)))
theorem WG {L:T}(m:Nat):∀(ls:List (List T)) (made:List (List T)) (k:Nat) (x y z:Sl),(∀a∈made,a.length<=k)->k+ls.length<=1000->(∀l∈ls,1<=l.length)->made.length*prd (ls.map (·.length))<=bnd->1<=made.length->
  ∃x' y' z',Zj (zC 2) vm (ls.map T.lst) [.vl L,.vl (.lst (made.map T.tup)),x,y,z]= .nx [.vl L,.vl (.lst ((Z8 made ls).map T.tup)),x',y',z']
 | [],made,k,x,y,z,_,_,_,_,_=>⟨x,y,z,by simp[Zj,Z8]⟩
 | l :: ls,made,k,x,y,z,hk,hkl,hpos,hb,hm=>by
  have hpr:=Jx λn hn=>by
   obtain⟨l',hl',rfl⟩:=av.mp hn;exact hpos l' (a9 _ hl')
  rw[aq,prd,← c_]at hb;have hb1:=ar (cM _ hpr) hb;have hll:=ar (Nat.le_mul_of_pos_left _ hm) hb1;rw[ay]at hkl;obtain⟨w,er⟩:=U1 hll _ [] z (λa ha=>ar (hk a ha) (by omega)) (by rw[bZ];omega)
  have es:vm [.vl L,.vl (.lst (made.map T.tup)),.vl (.lst l),y,z]= .nx [.vl L,.vl (.lst ((made.flatMap λa=>l.map λx=>a++[x]).map T.tup)),.vl (.lst l),.vl (.lst ((made.flatMap λa=>l.map λx=>a++[x]).map T.tup)),w]:=by
   have e0:uI 3 (ze) [.vl L,.vl (.lst (made.map T.tup)),.vl (.lst l),y,z]= .nx [.vl L,.vl _,.vl _,.ow [],z]:=rfl;have e1:j3 (ZB (vE 1)) _ _ [.vl L,.vl (.lst _),.vl _,.ow [],z]= .nx [.vl L,.vl _,.vl _,.ow ((made.flatMap λa=>l.map λx=>a++[x]).map _),w]:=er;unfold vm;rw[zU,e0];dsimp only;rw[zU,e1];rfl
  obtain⟨x',y',z',ih⟩:=WG m ls (made.flatMap λa=>l.map λx=>a++[x]) (k+1) _ (.vl (.lst ((made.flatMap λa=>l.map λx=>a++[x]).map _))) w (λa ha=>by
   obtain⟨b,hb,hx⟩:=cN.mp ha;obtain⟨u,_,rfl⟩:=av.mp hx;have:=hk b hb;rw[aC,aG];omega) (by omega) (λl' hl' =>hpos l' (a9 _ hl')) (by
    rw[J6 _ _ _ λa _=>ae ..];exact hb) (by
    rw[J6 _ _ _ λa _=>ae ..];exact cO hm (hpos l ab))
  refine⟨x',y',z', ?_⟩;have e:Zj (zC 2) _ ((l :: ls).map T.lst) [.vl L,.vl (.lst (made.map T.tup)),x,y,z]=match vm [.vl L,.vl _,.vl _,y,z] with
   | .nx ρ2=>Zj _ _ _ ρ2
   | .ct ρ2=>Zj _ _ _ ρ2
   | .bk ρ2=> .nx ρ2
   | r=>r:=rfl
  rw[e,es];exact ih
theorem YJ (ls:List (List T))(hl:ls.length<=1000)(hpos:∀l∈ls,1<=l.length)(hb:prd (ls.map (·.length))<=bnd):f_i [.lst (ls.map T.lst)]= .ok (.lst (U0 ls)):=by
 obtain⟨x',y',z',er⟩:=WG 0 ls [[]] 0 .un .un .un (λa ha=>by rw[au.mp ha];exact ak _) (by omega) hpos (by rw[aG,c9];exact hb) (ak _)
 have e:f_i [.lst (ls.map T.lst)]=zh (b_i [.vl _,.un,.un,.un,.un]):=rfl;have e0:zI 1 (j4 (za (Z1 (ze)) (ze))) [.vl (.lst (ls.map T.lst)),.un,.un,.un,.un]= .nx [.vl _,.vl _,.un,.un,.un]:=rfl;have e1:j3 (ZB (vE 0)) _ _ [.vl (.lst _),.vl (.lst [.tup []]),.un,.un,.un]= .nx _:=er;rw[e,b_i,zU,e0];dsimp only;rw[zU,e1];rfl
theorem ZO (n:Nat):∀m:Nat,prd (ai m n)=n ^ m
 | 0=>rfl
 | m+1=>by rw[bA,prd,ZO n m,hU,cR]
theorem J7 (ls:List (List T)):(U0 ls).length=prd (ls.map (·.length)):=by
 rw[ae,Jy,aG,c9]
noncomputable def pw (n lo hi:Nat):Nat:=((aY (hi+1 - lo)).map λi=>n ^ (lo+i)).sum
theorem ZY (k:Kd)(lo hi:Nat):(Kd.many k lo hi).all.length=pw k.all.length lo hi:=by
 rw[Kd.all,List.length_flatMap,pw];congr 1
 refine bc λi _=> ?_;rw[J7,aX,ZO]
theorem jC (ks:List Kd):(Kd.row ks).all.length=prd (ks.map λk=>k.all.length):=by
 rw[Kd.all,J7,Kd.alls_map,aJ];rfl
theorem ZP (lo hi:Int):(Kd.whole lo hi).all.length=(hi+1 - lo).toNat:=by
 rw[Kd.all,ae,bL]
theorem wP (cs:List (Str×Int)):(Kd.pick cs).all.length=cs.length:=by
 rw[Kd.all,ae]
theorem Xl {lo hi:Nat}(h:lo<=hi)(h3:hi<=3):(lo=0/\hi=0)\/(lo=0/\hi=1)\/(lo=0/\hi=2)\/(lo=0/\hi=3)\/(lo=1/\hi=1)\/(lo=1/\hi=2)\/(lo=1/\hi=3)\/(lo=2/\hi=2)\/(lo=2/\hi=3)\/(lo=3/\hi=3):=(by decide:∀hi lo:Fin 4,lo.1<=hi.1->(lo.1=0/\hi.1=0)\/(lo.1=0/\hi.1=1)\/(lo.1=0/\hi.1=2)\/(lo.1=0/\hi.1=3)\/(lo.1=1/\hi.1=1)\/(lo.1=1/\hi.1=2)\/(lo.1=1/\hi.1=3)\/(lo.1=2/\hi.1=2)\/(lo.1=2/\hi.1=3)\/(lo.1=3/\hi.1=3)) ⟨hi,iV h3⟩ ⟨lo,iV (ar h h3)⟩ h
noncomputable def iv (b:Bool):Nat:=if b then 1 else 0
theorem Xm (n:Nat){lo hi:Nat}(h:lo<=hi)(h3:hi<=3):pw n lo hi=iv (lo == 0)+n*iv (decide (lo<=1) && decide (1<=hi))+n*n*iv (decide (lo<=2) && decide (2<=hi))+n*n*n*iv (hi == 3):=by
 rcases Xl h h3 with ⟨rfl,rfl⟩ | ⟨rfl,rfl⟩ | ⟨rfl,rfl⟩ | ⟨rfl,rfl⟩ | ⟨rfl,rfl⟩ | ⟨rfl,rfl⟩ | ⟨rfl,rfl⟩ | ⟨rfl,rfl⟩ | ⟨rfl,rfl⟩ | ⟨rfl,rfl⟩ <;>
  simp[pw,hZ,iv,hU]
 all_goals omega
theorem G6 {n:Nat}(hn:1<=n){lo hi:Nat}(h:lo<=hi)(h3:hi<=3):1<=pw n lo hi:=by
 have h2:=cO hn hn;have h1:=cO h2 hn;rw[Xm n h h3];rcases Xl h h3 with ⟨rfl,rfl⟩ | ⟨rfl,rfl⟩ | ⟨rfl,rfl⟩ | ⟨rfl,rfl⟩ | ⟨rfl,rfl⟩ | ⟨rfl,rfl⟩ | ⟨rfl,rfl⟩ | ⟨rfl,rfl⟩ | ⟨rfl,rfl⟩ | ⟨rfl,rfl⟩ <;>
  simp[iv] <;> omega
theorem z1Y {n N:Nat}(hn:n<=N){lo hi:Nat}(h:lo<=hi)(h3:hi<=3):pw n lo hi<=1+N+N*N+N*N*N:=by
 have h2:=bf hn hn;have h1:=bf h2 hn;rw[Xm n h h3];rcases Xl h h3 with ⟨rfl,rfl⟩ | ⟨rfl,rfl⟩ | ⟨rfl,rfl⟩ | ⟨rfl,rfl⟩ | ⟨rfl,rfl⟩ | ⟨rfl,rfl⟩ | ⟨rfl,rfl⟩ | ⟨rfl,rfl⟩ | ⟨rfl,rfl⟩ | ⟨rfl,rfl⟩ <;>
  simp[iv] <;> omega
theorem Vn {N:Nat}(hN:1<=N):∀(ns:List Nat),(∀n∈ns,n<=N)->prd ns<=N ^ ns.length
 | [],_=>ak _
 | n :: ns,h=>by
  rw[prd,cR];exact bf (Vn hN ns λm hm=>h m (a9 _ hm)) (h n ab)
theorem Zu:∀(d:Nat) (k:Kd),k.Ok d->1<=k.all.length
 | 0,_,h=>h.elim
 | d+1,.whole lo hi,h=>by
  obtain⟨_,h2,_⟩:=h;rw[ZP];omega
 | d+1,.pick cs,h=>by
  rw[wP];exact h.1
 | d+1,.row ks,h=>by
  rw[jC];refine Jx λn hn=> ?_;obtain⟨k,hk,rfl⟩:=av.mp hn;exact Zu d k (h.2.2 k hk)
 | d+1,.many k lo hi,h=>by
  rw[ZY];exact G6 (Zu d k h.2.2) h.1 h.2.1
noncomputable def mx:Nat->Nat
 | 0=>0
 | 1=>41
 | d+1=>1+mx d+mx d*mx d+mx d*mx d*mx d
theorem Vo (d:Nat):41<=mx (d+1):=by
 induction d with
 | zero=>exact ak _
 | succ d ih=>
  show 41<=1+mx _+mx _*mx _+mx _*mx _*mx _;omega
theorem YK (d:Nat)(n:Nat)(h:n<=41):n<=mx (d+1):=ar h (Vo d)
theorem Xn {N m:Nat}(hN:1<=N)(h:m<=3):N ^ m<=1+N+N*N+N*N*N:=by
 have:m=0\/m=1\/m=2\/m=3:=by omega
 rcases this with rfl | rfl | rfl | rfl <;> simp[hU] <;> omega
theorem j5:∀(d:Nat) (k:Kd),k.Ok d->k.all.length<=mx d
 | 0,_,h=>h.elim
 | d+1,.whole lo hi,h=>by
  obtain⟨h1,h2,h3⟩:=h;rw[ZP];exact YK d _ (by omega)
 | d+1,.pick cs,h=>by
  rw[wP];exact YK d _ (ar h.2.1 (by omega))
 | 1,.row ks,h=>by
  obtain⟨h1,h2,h3⟩:=h
  match ks,h1,h3 with
  | k :: _,_,h3=>exact(h3 k ab).elim
 | d+2,.row ks,h=>by
  obtain⟨h1,h2,h3⟩:=h;rw[jC];have hp:=ar (by omega:1<=41) (Vo d)
  have:=Vn hp (ks.map λk=>k.all.length) λn hn=>by
   obtain⟨k,hk,rfl⟩:=av.mp hn;exact j5 _ k (h3 k hk)
  rw[ae]at this;exact ar this (Xn hp h2)
 | 1,.many k lo hi,h=>h.2.2.elim
 | d+2,.many k lo hi,h=>by
  rw[ZY];exact z1Y (j5 _ k h.2.2) h.1 h.2.1
theorem zc {f g:En->RS}{ρ ρ' :En}(h:f ρ= .nx ρ'):zn f g ρ=g ρ' :=by rw[zU,h]
theorem cs0 {x w:Str}{r:List T}{ρ:En}:zx eqC (zd ixT (vE 0) (cE (.int 0))) (cE (.str w)) (.vl (.tup (.str x :: r)) :: ρ)= .ok (x == w):=by
 rw[zS,zk,v0,bOk,Z3,bOk,at0,Z3,bOk];rfl
theorem jr {a b:T}{r:List T}{ρ:En}:zd ixT (vE 0) (cE (.int 1)) (.vl (.tup (a :: b :: r)) :: ρ)= .ok b:=by
 rw[zk,v0,bOk,Z3,bOk,at1]
theorem W1 {a b c:T}{r:List T}{ρ:En}:zd ixT (vE 0) (cE (.int 2)) (.vl (.tup (a :: b :: c :: r)) :: ρ)= .ok c:=by
 rw[zk,v0,bOk,Z3,bOk,at2]
theorem Vp {a b c d:T}{r:List T}{ρ:En}:zd ixT (vE 0) (cE (.int 3)) (.vl (.tup (a :: b :: c :: d :: r)) :: ρ)= .ok d:=by
 rw[zk,v0,bOk,Z3,bOk,at3]
theorem UV {f:En->R T}{ρ:En}{i:Int}(h:f ρ= .ok (.int i)):zd zy f (cE (.int 1)) ρ= .ok (.int (i+1)):=by
 rw[zk,h,bOk,Z3,bOk,Z4]
theorem uj {f g:En->R T}{ρ:En}{i j:Int}(hf:f ρ= .ok (.int i))(hg:g ρ= .ok (.int j))(h: -1000000 < i/\i < 1000000/\ -1000000 < j/\j < 1000000):jV f g ρ= .ok (rng i (j - i).toNat):=by
 unfold jV;rw[hf,hg];exact if_pos h
theorem YL:∀(cs:List (Str×Int)) (x y:Sl),zt (zK 0 1) zW (vE 0) (cs.map jO) [x,y]= .ok (cs.map λc=>T.str c.1)
 | [],_,_=>rfl
 | c :: cs,x,y=>by
  have e:zt (zK 0 1) zW (vE 0) ((c :: cs).map jO) [x,y]=(zt _ _ _ _ [.vl _,.vl _]).bind λvs=> .ok _:=rfl;rw[e,YL cs];rfl
theorem WH {x:T}{m:Nat}(h:m<=3):zY (.lst [x]) (.int (m:Int))= .ok (.lst (ai m [x]).flatten):=by
 unfold zY;dsimp only;have c:0<=(m:Int)/\(m:Int) < 1000000/\[x].length*(m:Int).toNat<=bnd:=by
  have hb:3<=bnd:=by decide
  refine⟨by omega,by omega, ?_⟩
  rw[aG,c9];exact ar h hb
 rw[if_pos c,bE]
theorem ZZ {α:Type}(x:α):∀m:Nat,(ai m [x]).flatten=ai m x
 | 0=>rfl
 | m+1=>by rw[bA,fF,ZZ x m];rfl
abbrev uk (ca cr:List T->R T):En->RS:=Q7 1 (zb 1 cr (za (zd zY (j4 (za (zb 1 ca (za (zd ixT (vE 0) (cE (.int 1))) (ze))) (ze))) (vE 2)) (ze)))
theorem G7 {f:En->R T}{ρ:En}{x:T}(hf:f ρ= .ok x):j4 (za f ze) ρ= .ok (.lst [x]):=by
 unfold j4 za ze;rw[hf];rfl
theorem WI {ca:List T->R T}{k:Kd}{t:T}{lo:Nat}{ws:List T}(hw:ca [t]= .ok (.lst ws))(hpos:1<=ws.length){a b c:T}:∀(js:List Nat) (acc:List T) (x:Sl),(∀j∈js,lo+j<=3)->acc.length+(js.map λj=>ws.length ^ (lo+j)).sum<=bnd->
  ∃y,Zj (zC 2) (uk ca f_i) (js.map λ(j:Nat)=>T.int ((lo:Int)+(j:Int))) [.vl (.tup [a,t,b,c]),.ow acc,x]= .nx [.vl (.tup [a,t,b,c]),.ow (acc++js.flatMap λj=>U0 (ai (lo+j) ws)),y]
 | [],acc,x,_,_=>⟨x,by simp[Zj]⟩
 | j :: js,acc,x,hj,hb=>by
  have hj1:=hj j ab;rw[aq,eM]at hb;have er:f_i [.lst ((ai (lo+j) ws).map _)]= .ok _:=YJ _ (by rw[aU];omega) (λl hl=>by rw[bj hl];exact hpos) (by rw[aX,ZO];omega)
  have hlen:(U0 (ai (lo+j) ws)).length=ws.length ^ (lo+j):=by rw[J7,aX,ZO]
  have em:zY (.lst [.lst ws]) (.int ((lo)+(j)))= .ok (.lst ((ai (lo+j) ws).map T.lst)):=by
   have e1:(lo:Int)+(j)=((lo+j:Nat)):=by omega
   rw[e1,WH (by omega),ZZ,aX]
  have eb:uk ca f_i [.vl (.tup [a,t,b,c]),.ow acc,.vl (.int ((lo)+(j)))]= .nx [.vl (.tup [a,t,b,c]),.ow (acc++U0 (ai (lo+j) ws)),.vl (.int ((lo)+(j)))]:=by
   have e1:zb 1 f_i (za (zd zY (j4 (za (zb 1 ca (za (zd ixT (vE 0) (cE (.int 1))) (ze))) (ze))) (vE 2)) (ze)) [.vl (.tup [a,t,b,c]),.ow acc,.vl (.int ((lo)+(j)))]= .ok (.lst (U0 (ai (lo+j) ws))):=by
    have e0:zb 1 ca (za (zd ixT (vE 0) (cE (.int 1))) (ze)) [.vl (.tup [a,t,b,c]),.ow acc,.vl (.int ((lo)+(j)))]= .ok (.lst ws):=by
     rw[zA,jr,bOk,hw]
    rw[zA,zk,G7 e0,bOk,v2,bOk,em,bOk,er]
   show ((zb 1 _ _ _).s λt=>match t with | .lst us=>if acc.length+us.length<=bnd then RS.nx _ else .bad | _=> .bad)=_
   rw[e1];show (if _ then _ else _)=_
   rw[if_pos (by omega)]
   rfl
  obtain⟨y,ih⟩:=WI (k:=k) hw hpos js (acc++U0 (ai (lo+j) ws)) _ (λi hi=>hj i (a9 _ hi)) (by rw[aC];omega)
  refine⟨y, ?_⟩;have e:Zj (zC 2) (uk ca f_i) ((j :: js).map λ(j:Nat)=>T.int ((lo)+(j))) [.vl (.tup [a,t,b,c]),.ow acc,x]=match uk ca _ [.vl _,.ow acc,.vl _] with
   | .nx ρ2=>Zj _ _ (js.map λ(j)=>T.int _) ρ2
   | .ct ρ2=>Zj _ _ (js.map λ(j)=>T.int _) ρ2
   | .bk ρ2=> .nx ρ2
   | r=>r:=rfl
  rw[e,eb];dsimp only;rw[ih,bX,bF]
theorem vn {ca:List T->R T}{a t:T}{lo hi:Nat}(h1:lo<=hi)(h2:hi<=3){x:Sl}{acc:List T}{r:RS}
  (el:Zj (zC 2) (uk ca f_i) ((aY (hi+1 - lo)).map λ(j:Nat)=>T.int ((lo:Int)+(j:Int))) [.vl (.tup [a,t,.int (lo:Int),.int (hi:Int)]),.ow acc,x]=r):
  j3 (jV (zd ixT (vE 0) (cE (.int 2))) (zd zy (zd ixT (vE 0) (cE (.int 3))) (cE (.int 1)))) (zC 2) (uk ca f_i) [.vl (.tup [a,t,.int (lo:Int),.int (hi:Int)]),.ow acc,x]=r:=by
 have hn:((hi:Int)+1 - (lo)).toNat=hi+1 - lo:=by omega
 have hc: -1000000 < (lo:Int)/\(lo:Int) < 1000000/\ -1000000 < (hi:Int)+1/\(hi:Int)+1 < 1000000:=by omega
 have e:j3 (jV (zd ixT (vE 0) (cE (.int 2))) (zd zy (zd ixT (vE 0) (cE (.int 3))) (cE (.int 1)))) (zC 2) (uk ca f_i) [.vl (.tup [a,t,.int (lo),.int (hi)]),.ow acc,x]=(jV _ _ _).s λts=>Zj _ _ ts _:=rfl;rw[e,uj W1 (UV Vp) hc,hn];exact el
theorem G8 {n L lo hi:Nat}(e:L=pw n lo hi)(h:L<=1000000):([]:List T).length+((aY (hi+1 - lo)).map λj=>n ^ (lo+j)).sum<=bnd:=by
 have h' :pw n lo hi<=bnd:=ar (e ▸ h) (by decide)
 rw[bZ,hV];exact h'
theorem YM {ca:List T->R T}(d:Nat)(lo hi:Int)(h:(Kd.whole lo hi).Ok (d+1))(hl:(Kd.whole lo hi).all.length<=1000000)(H:∀k' :Kd,k'.Ok d->ca [k'.t]= .ok (.lst k'.all)):zh (b_5 ca f_i (en0 3 [(Kd.whole lo hi).t]))= .ok (.lst (Kd.whole lo hi).all):=by
 have e:zh (b_5 ca f_i (en0 3 [(Kd.whole lo hi).t]))=zh (b_5 ca _ [.vl _,.un,.un]):=rfl;rw[e,b_5,zU,ZH];obtain⟨h1,h2,h3⟩:=h;simp only[Kd.t];rw[Z2,ZD,wK];unfold GS;rw[uj jr (UV W1) ⟨by omega,by omega,by omega,by omega⟩]
 rfl
theorem vo {ca:List T->R T}(d:Nat)(cs:List (Str×Int))(h:(Kd.pick cs).Ok (d+1))(hl:(Kd.pick cs).all.length<=1000000)(H:∀k' :Kd,k'.Ok d->ca [k'.t]= .ok (.lst k'.all)):zh (b_5 ca f_i (en0 3 [(Kd.pick cs).t]))= .ok (.lst (Kd.pick cs).all):=by
 have hb1:bnd=16777216:=rfl;have e:zh (b_5 ca f_i (en0 3 [(Kd.pick cs).t]))=zh (b_5 ca _ [.vl _,.un,.un]):=rfl;rw[e,b_5,zU,ZH];simp only[Kd.t];rw[cs0,Zt,show (("pick":Str) == "whole")=false from rfl,if_neg az,wa];dsimp only;rw[zU,ZH,Z2,ZD,wK,wK,ZN,zT,jq,jr];have hc:=h.2.1;have ec:zu (zK 0 1) zW (vE 0) 2 [] [.vl (.tup [.str "pick",.tup (cs.map jO)]),.un,.un] (cs.map jO)= .ok (cs.map λc=>T.str c.1):=by
  unfold zu;rw[if_pos (by rw[ae];omega)]
  show quiet (zt _ _ _ _ [.un,.un])=_;rw[YL];rfl
 show zh (match ((((R.ok _).bind λts=>(zu _ _ _ 2 [] _ ts).bind λvs=> .ok _)).s λt=> .rt t) with | .nx ρ' =>_ | r=>r)=_
 rw[bOk,ec];rfl
theorem Xo {ca:List T->R T}(d:Nat)(ks:List Kd)(h:(Kd.row ks).Ok (d+1))(hl:(Kd.row ks).all.length<=1000000)(H:∀k' :Kd,k'.Ok d->ca [k'.t]= .ok (.lst k'.all)):zh (b_5 ca f_i (en0 3 [(Kd.row ks).t]))= .ok (.lst (Kd.row ks).all):=by
 have hb1:bnd=16777216:=rfl;have e:zh (b_5 ca f_i (en0 3 [(Kd.row ks).t]))=zh (b_5 ca _ [.vl _,.un,.un]):=rfl;rw[e,b_5,zU,ZH];obtain⟨h1,h2,h3⟩:=h;simp only[Kd.t];rw[cs0,Zt,show (("row":Str) == "whole")=false from rfl,if_neg az,wa];dsimp only;rw[zU,ZH,cs0,Zt,show (("row":Str) == "pick")=false from rfl,if_neg az,wa];dsimp only;rw[zU,ZH,Z2,ZD,wK,wK,ZN,zA,Kd.ts_map];have ec:zu (zC 0) zW (zb 1 ca (za (vE 0) (ze))) 1 [] [.vl (.tup [.str "row",.tup (ks.map Kd.t)]),.un,.un] (ks.map Kd.t)= .ok ((ks.map Kd.all).map T.lst):=by
  unfold zu;rw[if_pos (by rw[ae];omega)]
  show quiet (zt _ _ _ _ [.un])=_;have:∀(ks:List Kd) (x:Sl),(∀k∈ks,k.Ok d)->zt (zC 0) zW (zb 1 ca (za (vE 0) (ze))) (ks.map Kd.t) [x]= .ok ((ks.map Kd.all).map T.lst):=by
   intro ks
   induction ks with
   | nil=>intro _ _;rfl
   | cons k ks ih=>
    intro x hk;have e1:zt (zC 0) zW (zb 1 ca (za (vE 0) (ze))) ((k :: ks).map _) [x]=(zb 1 ca _ [.vl k.t]).bind λv=>(zt _ _ _ _ [.vl k.t]).bind λvs=> .ok _:=rfl;rw[e1,zA,v0,bOk,H k (hk k ab),ih _ λk' hk' =>hk k' (a9 _ hk')];rfl
  rw[this ks .un h3];rfl
 have hrow:=jC ks;have er:f_i [.lst ((ks.map Kd.all).map _)]= .ok _:=YJ _ (by rw[ae];omega) (λl hl=>by
  obtain⟨k,hk,rfl⟩:=av.mp hl;exact Zu d k (h3 k hk)) (by
  rw[aJ];show prd (ks.map λk=>k.all.length)<=bnd;omega)
 show zh (match ((((R.ok _).bind λts=>(zu _ _ _ 1 [] _ ts).bind λvs=> .ok _).bind λx=>f_i [x]).s λt=> .rt t) with | .nx ρ' =>_ | r=>r)=_
 rw[bOk,ec,bOk,bOk,er,Kd.all,Kd.alls_map];rfl
theorem vp {ca:List T->R T}(d:Nat)(k:Kd)(lo hi:Nat)(h:(Kd.many k lo hi).Ok (d+1))(hl:(Kd.many k lo hi).all.length<=1000000)(H:∀k' :Kd,k'.Ok d->ca [k'.t]= .ok (.lst k'.all)):zh (b_5 ca f_i (en0 3 [(Kd.many k lo hi).t]))= .ok (.lst (Kd.many k lo hi).all):=by
 have hb1:bnd=16777216:=rfl;have e:zh (b_5 ca f_i (en0 3 [(Kd.many k lo hi).t]))=zh (b_5 ca f_i [.vl (Kd.many k lo hi).t,.un,.un]):=rfl;rw[e,b_5,zU,ZH];obtain⟨h1,h2,h3⟩:=h;have hml:=ZY k lo hi;simp only[Kd.t];rw[cs0,Zt,show (("many":Str) == "whole")=false from rfl,if_neg az,wa];dsimp only;rw[zU,ZH,cs0,Zt,show (("many":Str) == "pick")=false from rfl,if_neg az,wa];dsimp only;rw[zU,ZH,cs0,Zt,show (("many":Str) == "row")=false from rfl,if_neg az,wa];dsimp only;have e0:uI 1 (ze) [.vl (.tup [.str "many",k.t,.int (lo:Int),.int (hi:Int)]),.un,.un]= .nx [.vl (.tup [.str "many",k.t,.int (lo:Int),.int (hi:Int)]),.ow [],.un]:=rfl;rw[zU,e0];dsimp only;obtain⟨y,el⟩:=WI (k:=k) (lo:=lo) (H k h3) (Zu d k h3) (a:= .str "many") (b:= .int (lo:Int)) (c:= .int (hi:Int)) (aY (hi+1 - lo)) [] .un (λj hj=>by have:=bH.mp hj;omega) (G8 hml hl)
 have e1:=vn (ca:=ca) (t:=k.t) h1 h2 el;rw[cq]at e1;rw[zc e1,Kd.all];rfl
theorem vq {ca:List T->R T}(d:Nat)(k:Kd)(h:k.Ok (d+1))(hl:k.all.length<=1000000)(H:∀k' :Kd,k'.Ok d->ca [k'.t]= .ok (.lst k'.all)):zh (b_5 ca f_i (en0 3 [k.t]))= .ok (.lst k.all):=by
 cases k with
 | whole lo hi=>exact YM d lo hi h hl H
 | pick cs=>exact vo d cs h hl H
 | row ks=>exact Xo d ks h hl H
 | many k lo hi=>exact vp d k lo hi h hl H
theorem Vq:∀(d n:Nat),d<=n->d<=3->∀k:Kd,k.Ok d->k.all.length<=1000000->S_5 n 0 [k.t]= .ok (.lst k.all)
 | 0,_,_,_,_,h,_=>h.elim
 | d+1,0,hn,_,_,_,_=>by omega
 | d+1,n+1,hn,hd,k,h,hl=>by
  have e:S_5 (n+1) 0 [k.t]=zh (b_5 (S_5 n 0) f_i (en0 3 [k.t])):=rfl;rw[e];refine vq d k h hl λk' hk' =>Vq d n (by omega) (by omega) k' hk' ?_
  have h1:=j5 d k' hk';have:mx d<=1000000:=by
   have:d=0\/d=1\/d=2:=by omega
   rcases this with rfl | rfl | rfl <;> decide
  omega
theorem in2 {x a b:Str}{r:List T}{ρ:En}:zx inC (zd ixT (vE 0) (cE (.int 0))) (Z1 (za (cE (.str a)) (za (cE (.str b)) (ze)))) (.vl (.tup (.str x :: r)) :: ρ)=inC (.str x) (.tup [.str a,.str b]):=by
 rw[zS,zk,v0,bOk,Z3,bOk,at0,bOk,WZ Z3 Z3,bOk]
theorem u0 {g:En->R Bool}{f1 f2:En->RS}{ρ:En}(h:g ρ= .ok true):ifS g f1 f2 ρ=f1 ρ:=by rw[ZH,h,Zt,if_pos rfl]
theorem if_f {g:En->R Bool}{f1 f2:En->RS}{ρ:En}(h:g ρ= .ok false):ifS g f1 f2 ρ=f2 ρ:=by rw[ZH,h,Zt,if_neg az]
theorem zo {g:En->R Bool}{f1:En->RS}{ρ:En}(h:g ρ= .ok false):ifS g f1 nxS ρ= .nx ρ:=by rw[if_f h];rfl
theorem zJ {i:Nat}{f:En->R T}{ρ:En}{t:T}(h:f ρ= .ok t):zI i f ρ= .nx (ρ.set i (.vl t)):=by rw[Ju,h,Zt]
theorem zi {f:En->R T}{ρ:En}{t:T}(h:f (frz ρ)= .ok t):zq f ρ= .rt t:=by rw[Z2,h,Zt]
theorem jt {g:T->En->R En}{fb:En->RS}{t:T}{ts:List T}{ρ ρ1 ρ2:En}(hg:g t ρ= .ok ρ1)(hb:fb ρ1= .nx ρ2):Zj g fb (t :: ts) ρ=Zj g fb ts ρ2:=by
 rw[Zj,hg];dsimp only;rw[hb]
theorem setg (i:Nat)(t:T)(ρ:En):zC i t ρ= .ok (ρ.set i (.vl t)):=rfl
theorem zz {f g:En->RS}{ρ:En}{t:T}(h:f ρ= .rt t):zn f g ρ= .rt t:=by rw[zU,h]
theorem YN {i j:Nat}(h:i < 2 ^ 60):zY (.int (i:Int)) (.int (j:Int))= .ok (.int ((i*j:Nat):Int)):=by
 rw[vk _ _ (.inl ⟨by omega,by omega⟩),eW]
theorem G9 {d n:Nat}(h:n<=mx d)(hd:d<=3):n < 2 ^ 60:=by
 have:d=0\/d=1\/d=2\/d=3:=by omega
 have h3:mx 3 < 2 ^ 60:=by decide
 have h2:mx 2 < 2 ^ 60:=by decide
 have h1:mx 1 < 2 ^ 60:=by decide
 have h0:mx 0 < 2 ^ 60:=by decide
 rcases this with rfl | rfl | rfl | rfl <;> omega
theorem U2 {a b:Sl}:∀(ns:List Nat) (m:Nat) (x y:Sl),(∀n∈ns,1<=n)->m*prd ns < 2 ^ 60->∃x',Zj (zC 3) (zI 2 (zd zY (vE 2) (vE 3))) (ns.map λ(n:Nat)=>T.int (n:Int)) [a,b,.vl (.int (m:Int)),x,y]= .nx [a,b,.vl (.int ((m*prd ns:Nat):Int)),x',y]
 | [],m,x,y,_,_=>⟨x,by simp[Zj,prd]⟩
 | n :: ns,m,x,y,hp,hb=>by
  have hpr:=Jx λk hk=>hp k (a9 _ hk);have hn:=hp n ab;have hmm:m<=m*prd (n :: ns):=cM _ (cO hn hpr);have hb2:=bh hmm hb;rw[prd,← c_]at hb;obtain⟨x',ih⟩:=U2 ns _ _ y (λk hk=>hp k (a9 _ hk)) hb;refine⟨x', ?_⟩;have es:zI 2 (zd zY (vE 2) (vE 3)) [a,b,.vl (.int (m)),.vl (.int (n)),y]= .nx [a,b,.vl (.int ((m*n):Int)),.vl (.int (n)),y]:=by
   rw[Ju,zk,v2,bOk,v3,bOk,YN hb2];rfl
  have s3:zC 3 (T.int (n)) [a,b,.vl (.int (m)),x,y]= .ok _:=rfl;rw[aq,jt s3 es,prd,← c_];exact ih
theorem U3:∀(d:Nat) (lo hi:Int),(Kd.whole lo hi).Ok (d+1)->(Kd.whole lo hi).Ok 1
 | _,_,_,h=>h
theorem vt:∀(d:Nat) (cs:List (Str×Int)),(Kd.pick cs).Ok (d+1)->(Kd.pick cs).Ok 1
 | _,_,h=>h
theorem WJ {cs:List T->R T}(k:Kd)(h:k.Ok 1){x:Str}{r:List T}(ht:k.t= .tup (.str x :: r))(hx:inC (.str x) (.tup [.str "whole",.str "pick"])= .ok true):zh (b_f (f_5 8) cs (en0 5 [k.t]))= .ok (.int (k.all.length:Int)):=by
 have ha:f_5 8 _= .ok _:=Vq 1 8 (by omega) (by omega) k h (ar (j5 1 k h) (by decide))
 have e:zh (b_f (f_5 8) cs (en0 5 [k.t]))=zh (b_f _ cs [.vl k.t,.un,.un,.un,.un]):=rfl;have e1:zx inC (zd ixT (vE 0) (cE (.int 0))) (Z1 (za (cE (.str "whole")) (za (cE (.str "pick")) (ze)))) [.vl k.t,.un,.un,.un,.un]= .ok true:=by
  rw[ht,in2,hx]
 have e2:zq (ap1 Zo (zb 1 (f_5 8) (za (vE 0) (ze)))) [.vl k.t,.un,.un,.un,.un]= .rt (.int (k.all.length)):=by
  refine zi ?_;rw[ZD,Ze,zA,v0,bOk,ha,bOk,gQ]
 rw[e,b_f,zz (by rw[u0 e1,e2])]
 rfl
theorem z1Z (b:Bool):b2 b=(iv b:Int):=by cases b <;> rfl
theorem vv {cs:List T->R T}{d:Nat}(hd:d+1<=3)(ks:List Kd)(h:(Kd.row ks).Ok (d+1))(H:∀k:Kd,k.Ok d->cs [k.t]= .ok (.int (k.all.length:Int))):zh (b_f (f_5 8) cs (en0 5 [(Kd.row ks).t]))= .ok (.int ((Kd.row ks).all.length:Int)):=by
 have hlt:=G9 (j5 _ _ h) hd;rw[jC]at hlt ⊢;obtain⟨h1,h2,h3⟩:=h;simp only[Kd.t,Kd.ts_map];have e:zh (b_f (f_5 8) cs (en0 5 [.tup [.str "row",.tup (ks.map Kd.t)]]))=zh (b_f _ cs [.vl _,.un,.un,.un,.un]):=rfl;have e1:zx inC (zd ixT (vE 0) (cE (.int 0))) (Z1 (za (cE (.str "whole")) (za (cE (.str "pick")) (ze)))) [.vl (.tup [.str "row",.tup (ks.map Kd.t)]),.un,.un,.un,.un]= .ok false:=by
  rfl
 have ec:zu (zC 0) zW (zb 1 cs (za (vE 0) (ze))) 1 [] [.vl (.tup [.str "row",.tup (ks.map Kd.t)]),.un,.un,.un,.un] (ks.map Kd.t)= .ok ((ks.map λk=>k.all.length).map λ(n:Nat)=>T.int (n)):=by
  unfold zu;rw[if_pos (by rw[ae];exact ar h2 (by decide))]
  have:∀(ks:List Kd) (x:Sl),(∀k∈ks,k.Ok d)->zt (zC 0) zW (zb 1 cs (za (vE 0) (ze))) (ks.map Kd.t) [x]= .ok ((ks.map λk=>k.all.length).map λ(n:Nat)=>T.int (n)):=by
   intro ks
   induction ks with
   | nil=>intro _ _;rfl
   | cons k ks ih=>
    intro x hk;have e1:zt (zC 0) zW (zb 1 cs (za (vE 0) (ze))) ((k :: ks).map _) [x]=(zb 1 cs _ [.vl k.t]).bind λv=>(zt _ _ _ _ [.vl k.t]).bind λvs=> .ok _:=rfl;rw[e1,zA,v0,bOk,H k (hk k ab),ih _ λk' hk' =>hk k' (a9 _ hk')];rfl
  show quiet (zt _ _ _ _ [.un])=_;rw[this ks .un h3];rfl
 have e2:ifE (zx eqC (zd ixT (vE 0) (cE (.int 0))) (cE (.str "row"))) (zL (ZB (zd ixT (vE 0) (cE (.int 1)))) (zC 0) (zW) (zb 1 cs (za (vE 0) (ze))) 1 []) (j4 (ze)) [.vl (.tup [.str "row",.tup (ks.map Kd.t)]),.un,.un,.un,.un]= .ok (.lst ((ks.map λk=>k.all.length).map λ(n:Nat)=>T.int (n))):=by
  unfold ifE;rw[cs0,bOk,show (("row":Str) == "row")=true from rfl,if_pos rfl,zT,jq,jr];show ((R.ok _).bind _)=_;rw[bOk,ec,bOk]
 obtain⟨x',el⟩:=U2 (a:= .vl _) (ks.map λk=>k.all.length) 1 .un .un (λn hn=>by
  obtain⟨k,hk,rfl⟩:=av.mp hn;exact Zu d k (h3 k hk)) (by rw[c9];exact hlt)
 rw[c9]at el;have e3:j3 (ZB (vE 1)) _ _ [.vl _,.vl (.lst ((ks.map λk=>k.all.length).map λ(n:Nat)=>T.int (n))),.vl (.int 1),.un,.un]=_:=el;rw[e,b_f,zc (zo e1),zc (zJ e2)];have s1:([.vl (.tup [.str "row",.tup (ks.map Kd.t)]),.un,.un,.un,.un]:En).set 1 (.vl (.lst ((ks.map λk=>k.all.length).map λ(n:Nat)=>T.int (n))))=[.vl _,.vl (.lst ((ks.map λk=>k.all.length).map λ(n:Nat)=>T.int (n))),.un,.un,.un]:=rfl;rw[s1,zc (zJ Z3)];have s2:([.vl (.tup [.str "row",.tup (ks.map Kd.t)]),.vl (.lst ((ks.map λk=>k.all.length).map λ(n:Nat)=>T.int (n))),.un,.un,.un]:En).set 2 (.vl (.int 1))=[.vl _,.vl (.lst ((ks.map λk=>k.all.length).map λ(n)=>T.int _)),.vl _,.un,.un]:=rfl;rw[s2,zc e3];rfl
theorem Ga {f g:En->R T}{ρ:En}{i j c:Int}(hf:f ρ= .ok (.int i))(hg:g ρ= .ok (.int j)):chE leC leC f (cE (.int c)) g ρ= .ok (.bl (decide (i<=c) && decide (c<=j))):=by
 rw[YB,hf,bOk,Z3,bOk,wL,hg];cases decide (i<=c) <;> rfl
theorem wb (a b:Nat):decide ((a:Int)<=(b:Int))=decide (a<=b):=by
 by_cases h:a<=b
 ·rw[decide_eq_true h];exact decide_eq_true (by omega)
 ·rw[decide_eq_false h];exact decide_eq_false (by omega)
theorem Vr (a b:Nat):((a:Int) == (b:Int))=(a == b):=by
 by_cases h:a=b
 ·subst h;simp
 ·rw[beq_eq_false_iff_ne.mpr h,beq_eq_false_iff_ne];omega
theorem z0o {f:En->R T}{ρ:En}{b:Bool}(h:f ρ= .ok (.bl b)):ap1 yX f ρ= .ok (.int ((iv b:Nat):Int)):=by
 rw[Ze,h];show R.ok _=_;rw[z1Z]
theorem YO {f g:En->R T}{ρ:En}{i j:Nat}(hf:f ρ= .ok (.int (i:Int)))(hg:g ρ= .ok (.int (j:Int))):zd zy f g ρ= .ok (.int ((i+j:Nat):Int)):=by
 rw[zk,hf,bOk,hg,bOk,Z4,Int.natCast_add]
theorem jD {f g:En->R T}{ρ:En}{i j:Nat}(h:i < 2 ^ 60)(hf:f ρ= .ok (.int (i:Int)))(hg:g ρ= .ok (.int (j:Int))):zd zY f g ρ= .ok (.int ((i*j:Nat):Int)):=by
 rw[zk,hf,bOk,hg,bOk,YN h]
theorem Xp {d n:Nat}(h:n<=mx d)(hd:d+1<=3)(h0:1<=d):n*n*n < 2 ^ 60/\n*n < 2 ^ 60/\n < 2 ^ 60:=by
 have h1:n<=70644:=by
  have:d=1\/d=2:=by omega
  have h2:mx 2=70644:=by decide
  have h1:mx 1=41:=by decide
  rcases this with rfl | rfl <;> omega
 have h2:=bf h1 h1;have h3:=bf h2 h1;have h4:70644*70644*70644 < 2 ^ 60:=by decide
 have h5:70644*70644 < 2 ^ 60:=by decide
 have h6:70644 < 2 ^ 60:=by decide
 exact⟨bh h3 h4,bh h2 h5,bh h1 h6⟩
noncomputable abbrev mt (t:T)(lo hi:Nat):T:= .tup [.str "many",t,.int (lo:Int),.int (hi:Int)]
theorem v4' {t:T}{a b c d:Sl}{ρ:En}:vE 4 (a :: b :: c :: d :: .vl t :: ρ)= .ok t:=rfl
theorem YQ {t:T}{a x:Sl}{lo hi n:Nat}(h3:n*n*n < 2 ^ 60)(h2:n*n < 2 ^ 60)(h1:n < 2 ^ 60):
  zn (zI 2 (zd zy (ap1 yX (ZV eqC (zd ixT (vE 0) (cE (.int 2))) (cE (.int 0)))) (zd zY (vE 4) (ap1 yX (chE leC leC (zd ixT (vE 0) (cE (.int 2))) (cE (.int 1)) (zd ixT (vE 0) (cE (.int 3))))))))
  (zn (zI 2 (zd zy (vE 2) (zd zY (zd zY (vE 4) (vE 4)) (ap1 yX (chE leC leC (zd ixT (vE 0) (cE (.int 2))) (cE (.int 2)) (zd ixT (vE 0) (cE (.int 3))))))))
  (zI 2 (zd zy (vE 2) (zd zY (zd zY (zd zY (vE 4) (vE 4)) (vE 4)) (ap1 yX (ZV eqC (zd ixT (vE 0) (cE (.int 3))) (cE (.int 3))))))))
  [.vl (mt t lo hi),a,.vl (.int 1),x,.vl (.int (n:Int))]= .nx [.vl (mt t lo hi),a,.vl (.int ((iv (lo == 0)+n*iv (decide (lo<=1) && decide (1<=hi))+n*n*iv (decide (lo<=2) && decide (2<=hi))+n*n*n*iv (hi == 3):Nat):Int)),x,.vl (.int (n:Int))]:=by
 have le1:∀{p q r s:Sl},ap1 _ (chE leC leC _ _ _) [.vl (mt t lo hi),p,q,r,s]= .ok (.int ((iv (decide (lo<=1) && decide (1<=hi))):Int)):=λ{p q r s}=>z0o (by
  rw[Ga W1 Vp];rw[show decide ((lo:Int)<=1)=decide _ from wb lo 1,show decide ((1:Int)<=(hi))=decide _ from wb 1 hi])
 have le2:∀{p q r s:Sl},ap1 _ (chE leC leC _ _ _) [.vl (mt t lo hi),p,q,r,s]= .ok (.int ((iv (decide (lo<=2) && decide (2<=hi))):Int)):=λ{p q r s}=>z0o (by
  rw[Ga W1 Vp];rw[show decide ((lo:Int)<=2)=decide _ from wb lo 2,show decide ((2:Int)<=(hi))=decide _ from wb 2 hi])
 have eq0:∀{p q r s:Sl},ap1 _ (ZV eqC (zd ixT _ _) (cE _)) [.vl (mt t lo hi),p,q,r,s]= .ok _:=λ{p q r s}=>z0o (by
  rw[ZE,W1,bOk,Z3,bOk,eqI,bOk,show ((lo:Int) == 0)=(lo == 0) from Vr lo 0])
 have eq3:∀{p q r s:Sl},ap1 _ (ZV eqC (zd ixT _ _) (cE _)) [.vl (mt t lo hi),p,q,r,s]= .ok _:=λ{p q r s}=>z0o (by
  rw[ZE,Vp,bOk,Z3,bOk,eqI,bOk,show ((hi:Int) == 3)=(hi == 3) from Vr hi 3])
 have a1:=zJ (i:=2) (YO (eq0 (p:=a) (q:= .vl (.int 1)) (r:=x)) (jD h1 v4' le1));have a1:zI 2 _ _= .nx [.vl _,a,.vl _,x,.vl _]:=a1;rw[zc a1];generalize iv _+n*iv _=m1;have a2:=zJ (i:=2) (YO (v2 (t:= .int (m1)) (b:=a) (ρ:=[x,.vl _])) (jD h2 (jD h1 v4' v4') le2));rw[zc a2];generalize m1+n*n*iv _=m2;have a3:=zJ (i:=2) (YO (v2 (t:= .int (m2)) (b:=a) (ρ:=[x,.vl _])) (jD h3 (jD h2 (jD h1 v4' v4') v4') eq3));exact a3
theorem YR {cs:List T->R T}{d:Nat}(hd:d+1<=3)(k:Kd)(lo hi:Nat)(h:(Kd.many k lo hi).Ok (d+1))(H:∀k:Kd,k.Ok d->cs [k.t]= .ok (.int (k.all.length:Int))):zh (b_f (f_5 8) cs (en0 5 [(Kd.many k lo hi).t]))= .ok (.int ((Kd.many k lo hi).all.length:Int)):=by
 obtain⟨h1,h2,h3⟩:=h;have hd0:1<=d:=by
  cases d with
  | zero=>exact h3.elim
  | succ d=>omega
 obtain⟨c3,c2,c1⟩:=Xp (j5 d k h3) hd hd0;rw[ZY,Xm _ h1 h2];simp only[Kd.t];have hk:=H k h3;generalize k.all.length=n at*;generalize k.t=t at*;have e:zh (b_f (f_5 8) cs (en0 5 [mt t lo hi]))=zh (b_f _ cs [.vl _,.un,.un,.un,.un]):=rfl;have e1:zx inC (zd ixT (vE 0) (cE (.int 0))) (Z1 (za (cE (.str "whole")) (za (cE (.str "pick")) (ze)))) [.vl (mt t lo hi),.un,.un,.un,.un]= .ok false:=by
  rfl
 have e2:ifE (zx eqC (zd ixT (vE 0) (cE (.int 0))) (cE (.str "row"))) (zL (ZB (zd ixT (vE 0) (cE (.int 1)))) (zC 0) (zW) (zb 1 cs (za (vE 0) (ze))) 1 []) (j4 (ze)) [.vl (mt t lo hi),.un,.un,.un,.un]= .ok (.lst []):=by
  rfl
 have s1:([.vl (mt t lo hi),.un,.un,.un,.un]:En).set 1 (.vl (.lst []))=[.vl _,.vl _,.un,.un,.un]:=rfl;have s2:([.vl (mt t lo hi),.vl (.lst []),.un,.un,.un]:En).set 2 (.vl (.int 1))=[.vl _,.vl _,.vl _,.un,.un]:=rfl;have e3:j3 (ZB (vE 1)) (zC 3) (zI 2 (zd zY (vE 2) (vE 3))) [.vl (mt t lo hi),.vl (.lst []),.vl (.int 1),.un,.un]= .nx _:=rfl;have e4:zx eqC (zd ixT (vE 0) (cE (.int 0))) (cE (.str "many")) [.vl (mt t lo hi),.vl (.lst []),.vl (.int 1),.un,.un]= .ok true:=by
  rfl
 have e5:zb 1 cs (za (zd ixT (vE 0) (cE (.int 1))) (ze)) [.vl (mt t lo hi),.vl (.lst []),.vl (.int 1),.un,.un]= .ok (.int (n)):=by
  rw[zA,jr,bOk,hk]
 have s5:([.vl (mt t lo hi),.vl (.lst []),.vl (.int 1),.un,.un]:En).set 4 (.vl (.int (n)))=[.vl _,.vl _,.vl _,.un,.vl _]:=rfl;have e6:=YQ (t:=t) (a:= .vl (.lst [])) (x:= .un) (lo:=lo) (hi:=hi) c3 c2 c1;rw[e,b_f,zc (zo e1),zc (zJ e2),s1,zc (zJ Z3),s2,zc e3];have e7:∀(P:En->RS),ifS _ (zn _ P) nxS _=P _:=λP=>by
  rw[u0 e4,zc (zJ e5),s5]
 rw[zc (Eq.trans (e7 _) e6)];rfl
theorem YS:∀(d n:Nat),d<=n->d<=3->∀k:Kd,k.Ok d->S_f n 0 [k.t]= .ok (.int (k.all.length:Int))
 | 0,_,_,_,_,h=>h.elim
 | d+1,0,hn,_,_,_=>by omega
 | d+1,n+1,hn,hd,k,h=>by
  have H:=λk' hk' =>YS d n (by omega) (by omega) k' hk'
  cases k with
  | whole lo hi=>exact WJ _ (U3 d lo hi h) (x:="whole") (r:=[.int lo,.int hi]) (by simp only[Kd.t]) rfl
  | pick cs=>exact WJ _ (vt d cs h) (x:="pick") (r:=[.tup (cs.map jO)]) (by simp only[Kd.t]) rfl
  | row ks=>exact vv (by omega) ks h H
  | many k lo hi=>exact YR (by omega) k lo hi h H
theorem Ok.mono:∀(d:Nat) (k:Kd),k.Ok d->k.Ok (d+1)
 | 0,_,h=>h.elim
 | d+1,.whole _ _,h=>h
 | d+1,.pick _,h=>h
 | d+1,.row ks,h=>⟨h.1,h.2.1,λk hk=>Ok.mono d k (h.2.2 k hk)⟩
 | d+1,.many k _ _,h=>⟨h.1,h.2.1,Ok.mono d k h.2.2⟩
theorem Xq (j:Int):zY (.int 700) (.int j)= .ok (.int (700*j)):=vk _ _ (.inl ⟨by decide,by decide⟩)
theorem Gb (ns:List Int)(d:Nat)(h1:1<=d)(h8:d<=8)(k:Int)(h0:0<=k):∃q:Kd,f_h 8 [scr ns,.int k,.int (d:Int)]= .ok q.t/\q.Ok d:=by
 obtain⟨t,ht,hi⟩:=ug ns d 8 h8 h1 k h0;obtain⟨q,rfl,hq⟩:=ui d t hi;exact⟨q,ht,hq⟩
abbrev smB:En->RS:=zn (ifS (zx leC (zb 1 (f_f 8) (za (vE 3) (ze))) (vB 2)) (zq (vE 3)) (nxS))
  (zI 3 (zb 3 (f_h 8) (za (vE 0) (za (zd zy (zd zy (vE 1) (cE (.int 500))) (zd zY (cE (.int 700)) (vE 4))) (za (cE (.int 2)) (ze))))))
abbrev en5 (ns:List Int)(a:Int)(m:Nat)(k:Kd)(x:Sl):En:=[.vl (scr ns),.vl (.int a),.vl (.int (m:Int)),.vl k.t,x]
theorem YT {ns:List Int}{a:Int}{m:Nat}{k:Kd}{x:Sl}(hk:k.Ok 3):zx leC (zb 1 (f_f 8) (za (vE 3) (ze))) (vB 2) (en5 ns a m k x)= .ok (decide (k.all.length<=m)):=by
 have e:f_f 8 _= .ok _:=YS 3 8 (by omega) (by omega) k hk
 rw[zS,zA,v3,bOk,e,bOk,w2,bOk,wL,wb]
theorem Xr (ns:List Int){a:Int}{m:Nat}(ha:0<=a){k:Kd}(hk:k.Ok 3)(j:Nat):(k.all.length<=m/\smB (en5 ns a m k (.vl (.int (0+(j:Int)))))= .rt k.t)\/∃k' :Kd,k'.Ok 3/\smB (en5 ns a m k (.vl (.int (0+(j:Int)))))= .nx (en5 ns a m k' (.vl (.int (0+(j:Int))))):=by
 by_cases h:k.all.length<=m
 ·refine .inl ⟨h, ?_⟩;refine zz ?_;rw[u0 (by rw[YT hk,decide_eq_true h])]
  exact zi rfl
 ·obtain⟨q,hq,ho⟩:=Gb ns 2 (by omega) (by omega) (a+500+700*(0+(j))) (by omega)
  refine .inr ⟨q,Ok.mono 2 q ho, ?_⟩;unfold smB;rw[zc (zo (by rw[YT hk,decide_eq_false h]))]
  have hq:f_h 8 [scr ns,.int _,.int 2]= .ok q.t:=hq;have e:zb 3 (f_h 8) (za (vE 0) (za (zd zy (zd zy (vE 1) (cE (.int 500))) (zd zY (cE (.int 700)) (vE 4))) (za (cE (.int 2)) (ze)))) (en5 ns a m k (.vl (.int (0+(j)))))= .ok q.t:=by
   rw[Zc,v0,bOk,zk,zk,v1,bOk,Z3,bOk,Z4,bOk,zk,Z3,bOk,v4,bOk,Xq,bOk,Z4,bOk,Z3,bOk,hq]
  rw[zJ e];rfl
theorem Gc {g:T->En->R En}{fb:En->RS}{t:T}{ts:List T}{ρ ρ1:En}{r:T}(hg:g t ρ= .ok ρ1)(hb:fb ρ1= .rt r):Zj g fb (t :: ts) ρ= .rt r:=by
 rw[Zj,hg];dsimp only;rw[hb]
theorem YU (ns:List Int){a:Int}{m:Nat}(ha:0<=a):∀(js:List Nat) (k:Kd) (x:Sl),k.Ok 3->(∃k' :Kd,k'.Ok 3/\k'.all.length<=m/\Zj (zC 4) smB (js.map λ(j:Nat)=>T.int (0+(j:Int))) (en5 ns a m k x)= .rt k'.t)\/
  ∃(k' :Kd) (x' :Sl),k'.Ok 3/\Zj (zC 4) smB (js.map λ(j:Nat)=>T.int (0+(j:Int))) (en5 ns a m k x)= .nx (en5 ns a m k' x')
 | [],k,x,hk=> .inr ⟨k,x,hk,rfl⟩
 | j :: js,k,x,hk=>by
  have s3:zC 4 (T.int (0+(j))) (en5 ns a m k x)= .ok _:=rfl;rw[aq];rcases Xr ns ha hk j with ⟨h1,h2⟩ | ⟨k',h1,h2⟩
  ·exact .inl ⟨k,hk,h1,Gc s3 h2⟩
  ·rw[jt s3 h2];exact YU ns ha js k' _ h1
theorem vw (ns:List Int)(a:Int)(ha:0<=a)(m:Nat)(hm:4<=m):∃k:Kd,k.Ok 3/\k.all.length<=m/\gE [scr ns,.int a,.int (m:Int)]= .ok k.t:=by
 obtain⟨q,hq,ho⟩:=Gb ns 3 (by omega) (by omega) a ha
 have hq:f_h 8 [scr ns,.int a,.int 3]= .ok q.t:=hq;have e:gE [scr ns,.int a,.int (m)]=zh (GZ _ _ [.vl _,.vl _,.vl _,.un,.un]):=rfl;have e1:zb 3 (f_h 8) (za (vE 0) (za (vE 1) (za (cE (.int 3)) (ze)))) [.vl (scr ns),.vl (.int a),.vl (.int (m)),.un,.un]= .ok q.t:=by
  rw[Zc,v0,bOk,v1,bOk,Z3,bOk,hq]
 have s1:([.vl _,.vl _,.vl _,.un,.un]:En).set 3 _=en5 ns a m q .un:=rfl;rw[e,GZ,zc (zJ e1),s1];rcases YU ns ha _ q .un ho with ⟨k,h1,h2,h3⟩ | ⟨k,x,h1,h3⟩
 ·refine⟨k,h1,h2, ?_⟩;have e2:j3 (Zx (cE (.int 3))) (zC 4) smB _= .rt k.t:=h3;rw[zz e2];rfl
 ·have e2:j3 (Zx (cE (.int 3))) (zC 4) smB _= .nx _:=h3;rw[zc e2];have ec:zx leC _ _ (frz (en5 ns a m k x))= .ok _:=YT h1
  by_cases h:k.all.length<=m
  ·refine⟨k,h1,h, ?_⟩;rw[zi]
   ·rfl
   ·unfold ifE;rw[ec,decide_eq_true h];rfl
  ·refine⟨.whole (-1) 2,⟨by omega,by omega,by omega⟩,by exact hm, ?_⟩
   rw[zi]
   ·rfl
   ·unfold ifE;rw[ec,bOk,decide_eq_false h,if_neg az];rfl
mutual
noncomputable def Kd.has:Kd->T->Bool
 | .whole lo hi=>λt=>inR lo hi t
 | .pick cs=>λt=>match t with | .str x=>cs.any λc=>c.1 == x | _=>false
 | .row ks=>λt=>match t with | .tup xs=>xs.length == ks.length && Kd.hass ks xs | _=>false
 | .many k lo hi=>λt=>match t with | .tup xs=>decide (lo<=xs.length) && decide (xs.length<=hi) && xs.all k.has | _=>false
noncomputable def Kd.hass:List Kd->List T->Bool
 | []=>λ_=>true
 | k :: ks=>λxs=>match xs with | []=>true | x :: xs=>k.has x && Kd.hass ks xs
end
theorem J8:∀(ks:List Kd) (xs:List T),Kd.hass ks xs=(ks.zip xs).all λq=>q.1.has q.2
 | [],_=>by simp[Kd.hass]
 | k :: ks,[]=>by simp[Kd.hass]
 | k :: ks,x :: xs=>by simp[Kd.hass,J8 ks xs]
noncomputable def UW:List (List T)->List T->Prop
 | [],[]=>True
 | l :: ls,x :: xs=>x∈l/\UW ls xs
 | _,_=>False
theorem Jz:∀(ls made:List (List T)) (xs:List T),xs∈Z8 made ls↔∃a∈made,∃b,UW ls b/\xs=a++b
 | [],made,xs=>by
  rw[Z8];constructor
  ·exact λh=>⟨xs,h,[],trivial,by simp⟩
  ·rintro⟨a,ha,b,hb,rfl⟩
   cases b with
   | nil=>simpa using ha
   | cons=>exact hb.elim
 | l :: ls,made,xs=>by
  rw[Z8,Jz ls];constructor
  ·rintro⟨a',ha',b,hb,rfl⟩
   obtain⟨a,ha,hx⟩:=cN.mp ha';obtain⟨x,hl,e⟩:=av.mp hx;exact⟨a,ha,x :: b,⟨hl,hb⟩,by rw[← e];simp⟩
  ·rintro⟨a,ha,b,hb,rfl⟩
   cases b with
   | nil=>exact hb.elim
   | cons x b=>exact⟨a++[x],cN.mpr ⟨a,ha,av.mpr ⟨x,hb.1,rfl⟩⟩,b,hb.2,by simp⟩
theorem ju (ls:List (List T))(t:T):t∈U0 ls↔∃xs,UW ls xs/\t= .tup xs:=by
 rw[av];constructor
 ·rintro⟨xs,h,rfl⟩
  obtain⟨a,ha,b,hb,rfl⟩:=(Jz ls _ xs).mp h;rw[au.mp ha];exact⟨b,hb,rfl⟩
 ·rintro⟨xs,h,rfl⟩
  exact⟨xs,(Jz ls _ xs).mpr ⟨[],au.mpr rfl,xs,h,rfl⟩,rfl⟩
theorem jv (l:List T):∀(m:Nat) (xs:List T),UW (ai m l) xs↔xs.length=m/\∀x∈xs,x∈l
 | 0,[]=>by simp[UW]
 | 0,x :: xs=>by simp[UW]
 | m+1,[]=>by simp[UW,bA]
 | m+1,x :: xs=>by
  show x∈l/\UW _ xs↔_;rw[jv l m xs];simp;constructor
  ·rintro⟨a,b,c⟩;exact⟨b,a,c⟩
  ·rintro⟨a,b,c⟩;exact⟨b,a,c⟩
theorem WK:∀(ks:List Kd),(∀k∈ks,∀x,x∈k.all↔k.has x=true)->∀xs,UW (ks.map Kd.all) xs↔(xs.length == ks.length && Kd.hass ks xs)=true
 | [],_,[]=>by simp[UW,Kd.hass]
 | [],_,x :: xs=>by simp[UW]
 | k :: ks,h,[]=>by simp[UW]
 | k :: ks,h,x :: xs=>by
  show x∈k.all/\UW _ xs↔_;rw[WK ks (λk' hk' =>h k' (a9 _ hk')) xs,h k ab x];simp[Kd.hass];constructor
  ·rintro⟨a,b,c⟩;exact⟨b,a,c⟩
  ·rintro⟨a,b,c⟩;exact⟨b,a,c⟩
mutual
theorem Zm:∀(k:Kd) (x:T),x∈k.all↔k.has x=true
 | .whole lo hi,x=>by
  rw[Kd.all,Kd.has,av];constructor
  ·rintro⟨i,hi',rfl⟩
   rw[bH]at hi';simp[inR];omega
  ·intro h;obtain⟨i,rfl⟩:=YH h;simp[inR]at h;exact⟨(i - lo).toNat,by rw[bH];omega,by congr 1;omega⟩
 | .pick cs,x=>by
  rw[Kd.all,Kd.has,av];constructor
  ·rintro⟨c,hc,rfl⟩
   simp only[eG];exact⟨c,hc,by simp⟩
  ·intro h;dsimp only at h;split at h
   ·rw[eG]at h;obtain⟨c,hc,e⟩:=h;exact⟨c,hc,by rw[eq_of_beq e]⟩
   ·cases h
 | .row ks,x=>by
  rw[Kd.all,Kd.has,ju,Kd.alls_map];have:=WK ks (U4 ks);constructor
  ·rintro⟨xs,h,rfl⟩
   exact(this xs).mp h
  ·intro h;dsimp only at h;split at h
   ·rename_i xs;exact⟨xs,(this xs).mpr h,rfl⟩
   ·cases h
 | .many k lo hi,x=>by
  rw[Kd.all,Kd.has,cN];constructor
  ·rintro⟨i,hi',h⟩
   rw[ju]at h;obtain⟨xs,h,rfl⟩:=h;rw[jv]at h;rw[bH]at hi';simp only[ah,decide_eq_true_eq,aH];exact⟨⟨by omega,by omega⟩,λy hy=>(Zm k y).mp (h.2 y hy)⟩
  ·intro h;dsimp only at h;split at h
   ·rename_i xs;simp only[ah,decide_eq_true_eq,aH]at h;refine⟨xs.length - lo,by rw[bH];omega, ?_⟩
    rw[ju];exact⟨xs,(jv _ _ _).mpr ⟨by omega,λy hy=>(Zm k y).mpr (h.2 y hy)⟩,rfl⟩
   ·cases h
theorem U4:∀(ks:List Kd),∀k∈ks,∀x,x∈k.all↔k.has x=true
 | [],_,h=>nomatch h
 | k :: ks,k',h=>by
  rcases ao.mp h with e | h
  ·intro x;rw[e];exact Zm k x
  ·exact U4 ks k' h
end
theorem wc {c:List T->R T}:∀(qs:List (Kd×T)) (x y:Sl),(∀q∈qs,c [q.1.t,q.2]= .ok (.bl (q.1.has q.2)))->zt (zK 0 1) zW (zb 2 c (za (vE 0) (za (vE 1) (ze)))) (qs.map λq=>T.tup [q.1.t,q.2]) [x,y]= .ok (qs.map λq=>T.bl (q.1.has q.2))
 | [],_,_,_=>rfl
 | q :: qs,x,y,h=>by
  have e:zb 2 c (za (vE 0) (za (vE 1) (ze))) [.vl q.1.t,.vl q.2]= .ok (.bl (q.1.has q.2)):=by
   rw[zw,v0,bOk,v1,bOk,h q ab]
  have ih:=wc qs (.vl q.1.t) (.vl q.2) λr hr=>h r (a9 _ hr);have e0:zt (zK 0 1) zW (zb 2 c (za (vE 0) (za (vE 1) (ze)))) ((q :: qs).map λq=>T.tup [q.1.t,q.2]) [x,y]=
   (zb 2 c _ [.vl _,.vl q.2]).bind λv=>(zt _ _ _ (qs.map λq=>T.tup _) [.vl _,.vl q.2]).bind λvs=> .ok _:=rfl
  rw[e0,e,bOk,ih,bOk,aq]
theorem wQ {α:Type}(p:α->Bool):∀qs:List α,Wm (qs.map λq=>T.bl (p q))=some (qs.all p)
 | []=>rfl
 | q :: qs=>by
  have e:Wm ((q :: qs).map λq=>T.bl (p q))=match Wm (qs.map λq=>T.bl _) with | some j=>some _ | none=>none:=rfl
  rw[e,wQ p qs];rfl
theorem Ge (ks:List Kd)(xs:List T):y8 (ks.map Kd.t) xs=(ks.zip xs).map λq=>T.tup [q.1.t,q.2]:=by
 unfold y8;rw[List.zip_map_left,aJ];rfl
theorem U5 {c:List T->R T}{s:T}(ks:List Kd)(xs:List T)(hs:jz s= .ok (ks.map Kd.t))(hl:ks.length<=3)(H:∀q∈ks.zip xs,c [q.1.t,q.2]= .ok (.bl (q.1.has q.2))):
  zh (z08 c (en0 2 [s,.tup xs]))= .ok (.bl ((ks.zip xs).all λq=>q.1.has q.2)):=by
 have ez:Q8 (vE 0) (vE 1) [.vl s,.vl (.tup xs)]= .ok ((ks.zip xs).map λq=>T.tup [q.1.t,q.2]):=by
  show (jz s).bind _=_;rw[hs,← Ge];rfl
 have hb:((ks.zip xs).map λq=>T.tup [q.1.t,q.2]).length<=bnd:=by
  rw[ae,eY];exact ar (Nat.min_le_left _ _) (ar hl (by decide))
 have ec:zu (zK 0 1) zW (zb 2 c (za (vE 0) (za (vE 1) (ze)))) 2 [] [.vl s,.vl (.tup xs)] ((ks.zip xs).map λq=>T.tup [q.1.t,q.2])= .ok ((ks.zip xs).map λq=>T.bl (q.1.has q.2)):=by
  unfold zu;rw[if_pos hb];show quiet (zt _ _ _ _ [.un,.un])=_;rw[wc _ _ _ H];rfl
 rw[z08,zi]
 ·rfl
 ·show ap1 _ _ [.vl s,.vl _]=_;rw[Ze,zT,ez,bOk,ec,bOk];show (match Wm ((ks.zip xs).map λq=>T.bl _) with | some k=>_ | none=>_)=_
  rw[wQ]
theorem U6 (cs:List (Str×Int))(h:cs.length<=4):f_q [(Kd.pick cs).t]= .ok (.lst (cs.map λc=>T.str c.1)):=by
 have e:f_q [(Kd.pick cs).t]=zh (b_q [.vl (.tup [.str "pick",.tup (cs.map jO)])]):=by rfl
 have hb:(cs.map jO).length<=bnd:=by rw[ae];exact ar h (by decide)
 have ec:zu _ _ (zd ixT (vE 0) (cE (.int 0))) 1 [] [.vl (.tup [.str "pick",.tup (cs.map jO)])] _= .ok ((cs.map jO).map λc=>match c with | .tup (w :: _)=>w | _=>c):=
  zG _ hb λt ht=>by
   obtain⟨c,_,rfl⟩:=av.mp ht;rfl
 rw[e,b_q,zi]
 ·rfl
 ·show zL _ _ _ _ _ _ [.vl _]=_;show ((zu _ _ _ _ _ _ _).bind _)=_;rw[ec,aJ];rfl
theorem U7 (t:T):∀cs:List (Str×Int),jI (λy=>eqF 30 y t) (cs.map λc=>T.str c.1)=some ((Kd.pick cs).has t)
 | []=>by cases t <;> rfl
 | c :: cs=>by
  have ih:=U7 t cs;have e:jI (λy=>eqF 30 y t) ((c :: cs).map λc=>T.str c.1)=match eqF 30 _ t with
   | none=>none
   | some b=>match jI (λy=>eqF 30 y t) (cs.map λc=>T.str c.1) with
    | none=>none
    | some d=>some _:=rfl
  rw[e,ih];cases t <;> rfl
abbrev en2 (a b:T):En:=[.vl a,.vl b]
theorem ya {x w:Str}{r:List T}{b:T}(h:(x == w)=false){f:En->RS}:ifS (zx eqC (zd ixT (vE 0) (cE (.int 0))) (cE (.str w))) f nxS (en2 (.tup (.str x :: r)) b)= .nx (en2 (.tup (.str x :: r)) b):=
 zo (by rw[cs0,h])
theorem Gf {x:Str}{r:List T}{b:T}{f:En->RS}:ifS (zx eqC (zd ixT (vE 0) (cE (.int 0))) (cE (.str x))) f nxS (en2 (.tup (.str x :: r)) b)=f (en2 (.tup (.str x :: r)) b):=
 u0 (by rw[cs0,beq_self_eq_true])
theorem YV {cp:List T->R T}(lo hi:Int)(x:T):zh (b_d f_a f_e f_q cp (en0 2 [(Kd.whole lo hi).t,x]))= .ok (.bl ((Kd.whole lo hi).has x)):=by
 have e:en0 2 [(Kd.whole lo hi).t,x]=en2 (.tup [.str "whole",.int lo,.int hi]) x:=by rfl
 rw[e,b_d,zz]
 ·rfl
 ·rw[Gf,zi];show j2 _ _ (en2 _ x)=_;rw[jn,zA,v1,bOk,wJ];cases x with
  | int i=>
   rw[YB,jr,bOk,w1,bOk,wL,bOk,W1,bOk,wL];show _=R.ok (T.bl (decide _ && decide _));cases decide (lo<=i) <;> rfl
  | _=>rfl
theorem vx {cp:List T->R T}(cs:List (Str×Int))(h4:cs.length<=4)(x:T):zh (b_d f_a f_e f_q cp (en0 2 [(Kd.pick cs).t,x]))= .ok (.bl ((Kd.pick cs).has x)):=by
 have e:en0 2 [(Kd.pick cs).t,x]=en2 (.tup [.str "pick",.tup (cs.map jO)]) x:=by rfl
 have hw:=U6 cs h4;rw[Kd.t]at hw;rw[e,b_d,zc (ya (by decide)),zz]
 ·rfl
 ·rw[Gf,zi];show ZV _ _ _ (en2 _ x)=_;rw[ZE,w1,bOk,zA,v0,bOk,hw];show ((match jI (λy=>eqF 30 y x) (cs.map λ(c:Str×Int)=>T.str c.1) with | some b=>R.ok b | none=> .bad).bind _)=_
  rw[U7];rfl
theorem Xs {cp:List T->R T}(ks:List Kd)(h3:ks.length<=3)(x:T)(H:∀xs,x= .tup xs->cp [.tup (ks.map Kd.t),x]= .ok (.bl ((ks.zip xs).all λq=>q.1.has q.2))):zh (b_d f_a f_e f_q cp (en0 2 [(Kd.row ks).t,x]))= .ok (.bl ((Kd.row ks).has x)):=by
 have e:en0 2 [(Kd.row ks).t,x]=en2 (.tup [.str "row",.tup (ks.map Kd.t)]) x:=by rw[Kd.t,Kd.ts_map];rfl
 rw[e,b_d,zc (ya (by decide)),zc (ya (by decide)),zz]
 ·rfl
 ·rw[Gf,zi];show j2 _ _ (en2 _ x)=_;have el:ap1 Zo (zd ixT (vE 0) (cE (.int 1))) (en2 (.tup [.str "row",.tup (ks.map Kd.t)]) x)= .ok (.int (ks.length)):=by
   rw[Ze,jr,bOk,JN,ae]
  rw[jn,Zc,v1,bOk,el,bOk,bOk,Zl,Zd,zw,jr,bOk,v1,bOk];cases x with
  | tup xs=>
   rw[H xs rfl];show (if (decide _ && decide _)=true then _ else _)=R.ok (T.bl (xs.length == ks.length && Kd.hass ks xs))
   rw[J8]
   by_cases h:xs.length=ks.length
   ·simp[h]
   ·rw[if_neg (by simp;omega)]
    simp[h]
  | _=>rfl
theorem YW (k:Kd):∀xs:List T,((ai xs.length k).zip xs).all (λq=>q.1.has q.2)=xs.all k.has
 | []=>rfl
 | x :: xs=>by
  rw[ay,bA,fA,cY,cY,YW k xs]
theorem vy {cp:List T->R T}(k:Kd)(lo hi:Nat)(h3:hi<=3)(x:T)(H:∀xs,x= .tup xs->xs.length<=3->cp [.lst ((ai xs.length k).map Kd.t),x]= .ok (.bl (((ai xs.length k).zip xs).all λq=>q.1.has q.2))):zh (b_d f_a f_e f_q cp (en0 2 [(Kd.many k lo hi).t,x]))= .ok (.bl ((Kd.many k lo hi).has x)):=by
 have e:en0 2 [(Kd.many k lo hi).t,x]=en2 (.tup [.str "many",k.t,.int (lo),.int (hi)]) x:=by rfl
 rw[e,b_d,zc (ya (by decide)),zc (ya (by decide)),zc (ya (by decide)),zi]
 ·rfl
 ·show j2 _ _ (en2 _ x)=_;rw[jn,Zc,v1,bOk,W1,bOk,Vp,bOk,Zl,Zd];cases x with
  | tup xs=>
   show (if (decide _ && decide _)=true then _ else _)=R.ok (T.bl (decide _ && decide _ && xs.all _))
   cases hh:(decide (lo<=xs.length) && decide (xs.length<=hi)) with
   | false=>rfl
   | true=>
    rw[ah,decide_eq_true_eq,decide_eq_true_eq]at hh;have hx:xs.length<=3:=by omega
    have em:zd zY (j4 (za (zd ixT (vE 0) (cE (.int 1))) (ze))) (ap1 Zo (vB 1)) (en2 (.tup [.str "many",k.t,.int (lo),.int (hi)]) (.tup xs))= .ok (.lst ((ai xs.length k).map Kd.t)):=by
     rw[zk,G7 jr,bOk,Ze,w1,bOk,JN,bOk,WH hx,ZZ,aX]
    rw[zw,em,bOk,v1,bOk,H xs rfl hx,YW];rfl
  | _=>rfl
theorem Vs:∀(d n:Nat),2*d<=n->∀(k:Kd) (x:T),k.Ok d->S_d n 0 [k.t,x]= .ok (.bl (k.has x))
 | 0,_,_,_,_,h=>h.elim
 | d+1,n+2,hn,k,x,h=>by
  have ih:=Vs d n (by omega)
  have e:S_d (n+2) 0 [k.t,x]=zh (b_d f_a f_e f_q (S_d (n+1) 1) (en0 2 [k.t,x])):=by rw[S_d]
  have e1:∀s y,S_d (n+1) 1 [s,y]=zh _:=λs y=>by rw[S_d];intro h;cases h
  cases k with
  | whole lo hi=>exact YV lo hi x
  | pick cs=>exact vx cs h.2.1 x
  | row ks=>
   refine Xs ks h.2.1 x λxs hx=> ?_;rw[e1,hx,U5 ks xs rfl h.2.1 λq hq=>ih q.1 q.2 (h.2.2 q.1 (bY hq).1)]
  | many k lo hi=>
   refine vy k lo hi h.2.1 x λxs hx h3=> ?_;rw[e1,hx,U5 _ xs rfl (by rw[aU];exact h3) λq hq=>ih q.1 q.2 (by
    rw[bj (bY hq).1];exact h.2.2)]
theorem YX:∀(d:Nat) (k:Kd),k.Ok d->isK d k.t=true
 | 0,_,h=>h.elim
 | d+1,.whole lo hi,h=>by
  have e:isK (d+1) (Kd.whole lo hi).t=(decide (-20<=lo) && decide (lo<=hi) && decide (hi<=20)):=by rfl
  obtain⟨h1,h2,h3⟩:=h;rw[e];simp;omega
 | d+1,.pick cs,h=>by
  have e:isK (d+1) (Kd.pick cs).t=(decide (1<=(cs.map jO).length) && decide ((cs.map jO).length<=4) && (cs.map jO).all zQ && decide ((dd [] ((cs.map jO).map Zy)).length=(cs.map jO).length)):=by rfl
  obtain⟨h1,h2,h3,h4⟩:=h;have e1:(cs.map jO).map Zy=cs.map (·.1):=by rw[aJ];rfl
  have e2:=(wN _ []).mpr λk w hw=>by simpa using h4 k w hw
  rw[e,e1,e2,ae];simp only[ah,decide_eq_true_eq,aH];refine⟨⟨⟨h1,h2⟩,λc hc=> ?_⟩,by simp⟩
  obtain⟨p,hp,rfl⟩:=av.mp hc;obtain⟨a,b,c⟩:=h3 p hp;show (Z5 _ && decide _ && decide _)=true;rw[a];simp;omega
 | d+1,.row ks,h=>by
  have e:isK (d+1) (Kd.row ks).t=(decide (1<=(ks.map Kd.t).length) && decide ((ks.map Kd.t).length<=3) && (ks.map Kd.t).all (isK d)):=by rw[Kd.t,Kd.ts_map];rfl
  obtain⟨h1,h2,h3⟩:=h;rw[e,ae];simp only[ah,decide_eq_true_eq,aH];refine⟨⟨h1,h2⟩,λc hc=> ?_⟩;obtain⟨k,hk,rfl⟩:=av.mp hc;exact YX d k (h3 k hk)
 | d+1,.many k lo hi,h=>by
  have e:isK (d+1) (Kd.many k lo hi).t=((decide ((0:Int)<=(lo:Int)) && decide ((lo:Int)<=(hi)) && decide ((hi:Int)<=3)) && isK d k.t):=by rfl
  obtain⟨h1,h2,h3⟩:=h;rw[e,YX d k h3];simp;omega
theorem U8:∀(ks:List Kd) (xs:List T),xs.length=ks.length->Kd.hass ks xs=true->∀x∈xs,∃k∈ks,k.has x=true
 | [],[],_,_,_,h=>nomatch h
 | k :: ks,[],h,_,_,_=>by cases h
 | [],x :: xs,h,_,_,_=>by cases h
 | k :: ks,x :: xs,hl,h,y,hy=>by
  rw[Kd.hass]at h;rw[ah]at h;rcases ao.mp hy with rfl | hy
  ·exact⟨k,ab,h.1⟩
  ·obtain⟨k',hk,hh⟩:=U8 ks xs (by simpa using hl) h.2 y hy
   exact⟨k',a9 _ hk,hh⟩
theorem U9 {α β:Type}(f:α->List β)(m:Nat):∀(as:List α) (i j:Nat),(∀a∈as,(f a).length=m)->j < m->(as.flatMap f)[i*m+j]? =(as[i]?).bind λa=>(f a)[j]?
 | [],i,j,_,_=>by simp
 | a :: as,0,j,h,hj=>by
  have ha:=h a ab;rw[bX,Nat.zero_mul,hV,aT (by omega)]
  rfl
 | a :: as,i+1,j,h,hj=>by
  have ha:=h a ab;have e:(i+1)*m=i*m+m:=by rw[eR,c9]
  rw[bX,aP (by omega),ha,e,show i*m+m+j - m=i*m+j by omega,U9 f m as i j (λb hb=>h b (a9 _ hb)) hj]
  rfl
theorem WL {α β:Type}(f:α->List β):∀(as:List α) (q j:Nat) (a:α),as[q]? =some a->j < (f a).length->(as.flatMap f)[((as.take q).map λb=>(f b).length).sum+j]? =(f a)[j]?
 | [],q,j,a,h,_=>by simp at h
 | b :: as,0,j,a,h,hj=>by
  have e:=by simpa using h
  subst e;rw[bX,List.take_zero,bR,iW,hV,aT hj]
 | b :: as,q+1,j,a,h,hj=>by
  rw[bX,List.take_succ_cons,aq,eM,Nat.add_assoc,aP (by omega),Nat.add_sub_cancel_left]
  exact WL f as q j a (by simpa using h) hj
theorem wd:∀(ls made:List (List T)) (l:List T),Z8 made (ls++[l])=(Z8 made ls).flatMap λa=>l.map λx=>a++[x]
 | [],made,l=>rfl
 | _ :: ls,made,l=>by
  rw[dj,Z8,Z8,wd ls]
theorem vz {ls:List (List T)}{l:List T}{i j:Nat}{xs:List T}{x:T}(h:(Z8 [[]] ls)[i]? =some xs)(hx:l[j]? =some x):(Z8 [[]] (ls++[l]))[i*l.length+j]? =some (xs++[x]):=by
 have hj:=(aw.mp hx).1;rw[wd,U9 _ _ _ i j (λa _=>ae ..) hj,h];show (l.map λx=>xs++[x])[j]? =_;rw[ax,hx];rfl
theorem Ua:∀(ns:List Nat) (n:Nat),prd (ns++[n])=prd ns*n
 | [],n=>by simp[prd]
 | m :: ns,n=>by rw[dj,prd,prd,Ua ns n,c_]
theorem wf (ls:List (List T)):(Z8 [[]] ls).length=prd (ls.map (·.length)):=by rw[Jy,aG,c9]
theorem WM {α:Type}{xs:List α}{i:Nat}(h:i < xs.length):∃x,xs[i]? =some x:=⟨_,aj h⟩
theorem Gg {xs:List T}{j:Nat}{v:T}(h:xs[j]? =some v):atT xs (j:Int)= .ok v:=by unfold atT;rw[j8 h]
noncomputable def shr (c lo q:Nat):Nat:=((aY q).map λi=>c ^ (lo+i)).sum
theorem vA (c lo q:Nat):shr c lo (q+1)=shr c lo q+c ^ (lo+q):=by
 unfold shr;rw[hZ,cx];simp
theorem Xt {k:Kd}{lo hi q j:Nat}{xs:List T}(hq:q < hi+1 - lo)(h:(Z8 [[]] (ai (lo+q) k.all))[j]? =some xs):(Kd.many k lo hi).all[shr k.all.length lo q+j]? =some (.tup xs):=by
 have hj:=(aw.mp h).1;have e:=WL (λi=>U0 (ai _ _)) _ q j q (by rw[dw hq]) (by rw[ae];exact hj)
 have e2:(((aY (hi+1 - lo)).take q).map λb=>(U0 (ai (lo+b) k.all)).length).sum=shr k.all.length lo q:=by
  rw[List.take_range,lD (f_ hq),shr];congr 1
  refine bc λi _=> ?_;rw[J7,aX,ZO]
 rw[e2]at e;rw[Kd.all,e];rw[ax,h];rfl
abbrev cpB (c:List T->R T):En->RS:=zI 1 (zd zY (vE 1) (zb 1 c (za (vE 2) (ze))))
theorem YY {c:List T->R T}{S:Sl}:∀(ks:List Kd) (m:Nat) (x:Sl),(∀k∈ks,c [k.t]= .ok (.int (k.all.length:Int))/\1<=k.all.length)->m*prd (ks.map λk=>k.all.length) < 2 ^ 60->
  ∃y,Zj (zC 2) (cpB c) (ks.map Kd.t) [S,.vl (.int (m:Int)),x]= .nx [S,.vl (.int ((m*prd (ks.map λk=>k.all.length):Nat):Int)),y]
 | [],m,x,_,_=>⟨x,by simp[Zj,prd]⟩
 | k :: ks,m,x,H,hb=>by
  obtain⟨hc,h1⟩:=H k ab;have hp:=Jx λn hn=>by
   obtain⟨k',hk',rfl⟩:=av.mp hn;exact(H k' (a9 _ hk')).2
  rw[aq,prd,← c_]at hb;have hm:m < 2 ^ 60:=by
   have h2:m<=m*k.all.length:=cM _ h1;have h3:m*k.all.length<=m*k.all.length*prd (ks.map λk=>k.all.length):=cM _ hp;omega
  have eb:cpB c [S,.vl (.int (m)),.vl k.t]= .nx [S,.vl (.int ((m*k.all.length:Nat))),.vl k.t]:=by
   rw[cpB,zJ]
   ·rfl
   ·rw[zk,v1,bOk,zA,v2,bOk,hc,bOk,YN hm]
  obtain⟨y,ih⟩:=YY (S:=S) ks _ _ (λk' hk' =>H k' (a9 _ hk')) hb;refine⟨y, ?_⟩;rw[aq,jt rfl eb,ih,aq,prd,c_]
theorem JA {c:List T->R T}{s:T}(ks:List Kd)(hs:Jq s= .ok (ks.map Kd.t))(H:∀k∈ks,c [k.t]= .ok (.int (k.all.length:Int))/\1<=k.all.length)(hb:prd (ks.map λk=>k.all.length) < 2 ^ 60):
  zh (gH c (en0 3 [s]))= .ok (.int ((prd (ks.map λk=>k.all.length):Nat):Int)):=by
 obtain⟨y,e⟩:=YY ks 1 .un H (by rw[c9];exact hb)
 rw[c9]at e;have e0:zI 1 (cE (.int 1)) [.vl s,.un,.un]= .nx [.vl s,.vl _,.un]:=rfl;have e1:j3 (ZB (vE 0)) (zC 2) (cpB c) [.vl s,.vl (.int 1),.un]= .nx [.vl s,.vl (.int ((prd (ks.map λk=>k.all.length)):Int)),y]:=by
  show ((Jq s).s λts=>Zj _ _ ts _)=_;rw[hs];exact e
 show zh (gH c [.vl s,.un,.un])=_;rw[gH,zc e0,zc e1];rfl
theorem YZ {α:Type}(g:α->Nat):∀l:List α,ZK (l.map λa=>T.int ((g a:Nat):Int))=some (l.map λa=>((g a:Nat):Int))
 | []=>rfl
 | a :: l=>by
  show (match ZK (l.map λa=>T.int _) with | some l=>some _ | none=>none)=_
  rw[YZ g l];rfl
theorem Ub {α:Type}(g:α->Nat):∀l:List α,(l.map λa=>((g a:Nat):Int)).sum=(((l.map g).sum:Nat):Int)
 | []=>rfl
 | a :: l=>by rw[aq,eM,aq,eM,Ub g l];omega
theorem Gh {α:Type}(g:α->Nat)(l:List α):xS (.lst (l.map λa=>T.int ((g a:Nat):Int)))= .ok (.int (((l.map g).sum:Nat):Int)):=by
 unfold xS;dsimp only;rw[YZ,← Ub]
theorem jx (k:Kd)(m:Nat):((ai m k).map λk=>k.all.length)=ai m k.all.length:=by rw[aX]
theorem qa {c:List T->R T}{t:T}{n lo hi q:Nat}(h4:lo+q<=4)(H:∀m,m<=3->c [.lst (ai m t)]= .ok (.int ((n ^ m:Nat):Int))):
  zh (b_r c (en0 2 [mt t lo hi,.int ((lo+q:Nat):Int)]))= .ok (.int ((shr n lo q:Nat):Int)):=by
 have er:jV (zd ixT (vE 0) (cE (.int 2))) (vE 1) [.vl (mt t lo hi),.vl (.int ((lo+q:Nat)))]= .ok (rng (lo) q):=by
  rw[uj rfl rfl ⟨by omega,by omega,by omega,by omega⟩]
  congr 2;omega
 have ec:zu _ _ (zb 1 c (za (zd _ _ _) _)) 1 [0] [.vl _,.vl (.int ((lo+q:Nat)))] _= .ok ((rng (lo) q).map λx=>match x with | .int i=>T.int ((n ^ i.toNat:Nat)) | y=>y):=
  zG _ (by unfold rng;rw[ae,bL];have:bnd=16777216:=rfl;omega) λx hx=>by
   obtain⟨i,hi',rfl⟩:=av.mp hx;have hi2:=bH.mp hi';show zb 1 c _ [.vl _,.vl _]=_;have e1:zd zY (j4 (za (zd ixT (vE 1) (cE (.int 1))) (ze))) (vE 0) [.vl (.int ((lo)+(i))),.vl (mt t lo hi)]= .ok (.lst (ai (lo+i) t)):=by
    have e0:zd ixT (vE 1) (cE (.int 1)) [.vl (.int ((lo)+(i))),.vl (mt t lo hi)]= .ok t:=rfl;rw[zk,G7 e0,bOk,v0,bOk,show (lo:Int)+(i)=((lo+i:Nat)) by omega,WH (by omega),ZZ]
   rw[zA,e1,bOk,H _ (by omega)]
   show _=R.ok (T.int _);rw[show ((lo:Int)+(i)).toNat=lo+i by omega]
 rw[b_r,zi]
 ·rfl
 ·show ap1 _ _ [.vl _,.vl _]=_;rw[Ze,zT,er,bOk,ec,bOk,bOk];have e2:((rng (lo) q).map λx=>match x with | .int i=>T.int ((n ^ i.toNat:Nat)) | y=>y)=(aY q).map λi=>T.int ((n ^ (lo+i):Nat)):=by
   unfold rng;rw[aJ];refine bc λi _=> ?_;show T.int _=_;rw[show ((lo:Int)+(i)).toNat=lo+i by omega]
  rw[e2,Gh (λi=>n ^ (lo+i))];rfl
theorem Vt {d n m:Nat}(h:n<=mx d)(hd:d<=2)(hm:m<=3):n ^ m < 2 ^ 60:=by
 have h2:mx d<=70644:=by
  have:d=0\/d=1\/d=2:=by omega
  rcases this with rfl | rfl | rfl <;> decide
 have h3:=ar (Nat.pow_le_pow_left (ar h h2) m) (bW (by omega) hm)
 omega
theorem Uc:∀(d n:Nat),3*d<=n->d<=3->∀k:Kd,k.Ok d->S_1 n 0 [k.t]= .ok (.int (k.all.length:Int))
 | 0,_,_,_,_,h=>h.elim
 | d+1,n+3,hn,hd,k,h=>by
  have ih:=Uc d n (by omega) (by omega)
  have ih1:=Uc d (n+1) (by omega) (by omega)
  have e:S_1 (n+3) 0 [k.t]=zh (b_1 _ _ [.vl k.t]):=rfl;have e2:∀s u,S_1 (n+2) 2 [s,u]=zh _:=λs u=>rfl;rw[e,b_1];cases k with
  | whole lo hi=>
   obtain⟨h1,h2,h3⟩:=h;rw[ZP];simp only[Kd.t];rw[zz (t:= .int _)]
   ·rfl
   ·rw[u0 (by rw[cs0,beq_self_eq_true]),zi]
    show R.ok _=_;congr 2;omega
  | pick cs=>
   rw[wP];simp only[Kd.t];rw[zc (zo (by rfl)),zz]
   ·rfl
   ·rw[u0 (by rw[cs0,beq_self_eq_true]),zi]
    show R.ok _=_;rw[ae]
  | row ks=>
   obtain⟨h1,h2,h3⟩:=h;rw[jC];simp only[Kd.t];rw[Kd.ts_map,zc (zo (by rfl)),zc (zo (by rfl)),zz]
   ·rfl
   ·rw[u0 (by rw[cs0,beq_self_eq_true]),zi]
    have hl:=j5 (d+1) (.row ks) ⟨h1,h2,h3⟩;rw[jC]at hl;exact JA ks rfl (λk hk=>⟨ih1 k (h3 k hk),Zu d k (h3 k hk)⟩) (G9 hl hd)
  | many k lo hi=>
   obtain⟨h1,h2,h3⟩:=h;rw[ZY];simp only[Kd.t];rw[zc (zo (by rfl)),zc (zo (by rfl)),zc (zo (by rfl)),zi]
   ·rfl
   ·show zb 2 _ _ [.vl _]=_;rw[zw,v0,bOk,UV Vp,bOk,e2,show (hi:Int)+1=((lo+(hi+1 - lo):Nat)) by omega]
    refine qa (by omega) λm hm=> ?_
    have hp:prd ((ai m k).map λk=>k.all.length)=k.all.length ^ m:=by rw[jx,ZO]
    rw[← hp];refine JA _ (by rw[aX];rfl) (λk' hk' => ?_) (by rw[hp];exact Vt (j5 d k h3) (by omega) hm)
    rw[bj hk'];exact⟨ih k h3,Zu d k h3⟩
theorem ZX {d:Nat}(hd:d<=3){k:Kd}(h:k.Ok d):f_1 20 [k.t]= .ok (.int (k.all.length:Int)):=Uc d 20 (by omega) hd k h
theorem Ud {d:Nat}(hd:d<=2){k:Kd}(h:k.Ok d){lo hi q:Nat}(h4:lo+q<=4):f_r 20 [mt k.t lo hi,.int ((lo+q:Nat):Int)]= .ok (.int ((shr k.all.length lo q:Nat):Int)):=by
 have e:f_r 20 [mt k.t lo hi,.int ((lo+q:Nat))]=zh (b_r (S_1 19 1) (en0 2 [mt k.t lo hi,.int ((lo+q):Int)])):=rfl;rw[e];refine qa h4 λm hm=> ?_;have hp:prd ((ai m k).map λk=>k.all.length)=k.all.length ^ m:=by rw[jx,ZO]
 rw[← hp];refine JA _ (by rw[aX];rfl) (λk' hk' => ?_) (by rw[hp];exact Vt (j5 d k h) hd hm)
 rw[bj hk'];exact⟨Uc d 18 (by omega) (by omega) k h,Zu d k h⟩
abbrev paB (cc cw:List T->R T):En->RS:=zn (zI 5 (zb 1 cc (za (vE 4) (ze))))
  (zn (Q6 2 (zb 2 cw (za (vE 4) (za (zd JJ (vE 3) (vE 5)) (ze)))))
  (zI 3 (zd wv (vE 3) (vE 5))))
structure AtOk (cc cw:List T->R T) (k:Kd):Prop where
 cnt:cc [k.t]= .ok (.int (k.all.length:Int))
 at_:∀(i:Nat) x,k.all[i]? =some x->cw [k.t,.int (i:Int)]= .ok x
 pos:1<=k.all.length
 le:k.all.length < 1000000
theorem v5' {t:T}{a b c d e:Sl}{ρ:En}:vE 5 (a :: b :: c :: d :: e :: .vl t :: ρ)= .ok t:=rfl
theorem Vu {n c:Nat}(h:1<=c):JJ (.int (n:Int)) (.int (c:Int))= .ok (.int ((n % c:Nat):Int)):=by
 unfold JJ;dsimp only;rw[if_pos (by omega)];rfl
theorem Xu {n c:Nat}(h:1<=c)(h' :c < 1000000):wv (.int (n:Int)) (.int (c:Int))= .ok (.int ((n / c:Nat):Int)):=by
 unfold wv;dsimp only;rw[if_pos (by omega)];rfl
theorem Vv {i:Nat}{f:En->R T}{ρ:En}{ts:List T}{t:T}(hi:ρ[i]? =some (.ow ts))(hl:ts.length < bnd)(h:f ρ= .ok t):Q6 i f ρ= .nx (ρ.set i (.ow (ts++[t]))):=by
 unfold Q6;rw[hi];dsimp only;rw[h,Zt,if_pos hl]
theorem qb {cc cw:List T->R T}{S N:Sl}:∀(rs:List Kd) (acc:List T) (n:Nat) (x y:Sl),(∀k∈rs,AtOk cc cw k)->n < prd (rs.map λk=>k.all.length)->acc.length+rs.length<=1000->
  ∃xs r x' y',(Z8 [[]] (rs.reverse.map Kd.all))[n]? =some xs/\Zj (zC 4) (paB cc cw) (rs.map Kd.t) [S,N,.ow acc,.vl (.int (n:Int)),x,y]= .nx [S,N,.ow (acc++xs.reverse),r,x',y']
 | [],acc,n,x,y,_,hn,_=>⟨[],.vl (.int (n)),x,y,by
   have:=by simp[prd]at hn;exact hn
   subst this;rfl,by simp[Zj]⟩
 | k :: rs,acc,n,x,y,H,hn,hl=>by
  obtain⟨hc,hw,h1,hle⟩:=H k ab;rw[ay]at hl;have hb:bnd=16777216:=rfl;have hmod:n % k.all.length < k.all.length:=Nat.mod_lt _ h1;obtain⟨v,hv⟩:=WM hmod;have hdiv:=Nat.div_lt_of_lt_mul hn;obtain⟨xs,r,x',y',e1,e2⟩:=qb rs (acc++[v]) _ _ _ (λk' hk' =>H k' (a9 _ hk')) hdiv (by rw[aC,aG];omega)
  have b1:zI 5 (zb 1 cc (za (vE 4) (ze))) [S,N,.ow acc,.vl (.int (n)),.vl k.t,y]= .nx [S,N,.ow acc,.vl (.int (n)),.vl k.t,.vl (.int (k.all.length))]:=by
   rw[zJ]
   ·rfl
   ·rw[zA,v4,bOk,hc]
  have b2:Q6 2 (zb 2 cw (za (vE 4) (za (zd JJ (vE 3) (vE 5)) (ze)))) [S,N,.ow acc,.vl (.int (n)),.vl k.t,.vl (.int (k.all.length))]= .nx [S,N,.ow (acc++[v]),.vl (.int (n)),.vl k.t,.vl (.int (k.all.length))]:=by
   rw[Vv rfl (by omega)]
   ·rfl
   ·rw[zw,v4,bOk,zk,v3,bOk,v5',bOk,Vu h1,bOk,hw _ v hv]
  have b3:zI 3 (zd wv (vE 3) (vE 5)) [S,N,.ow (acc++[v]),.vl (.int (n)),.vl k.t,.vl (.int (k.all.length))]= .nx [S,N,.ow (acc++[v]),.vl (.int ((n / k.all.length:Nat))),.vl k.t,.vl (.int (k.all.length))]:=by
   rw[zJ]
   ·rfl
   ·rw[zk,v3,bOk,v5',bOk,Xu h1 hle]
  have eb:paB cc cw [S,N,.ow acc,.vl (.int (n)),.vl k.t,y]= .nx [S,N,.ow (acc++[v]),.vl (.int ((n / k.all.length:Nat))),.vl k.t,.vl (.int (k.all.length))]:=by
   rw[paB,zc b1,zc b2,b3]
  refine⟨xs++[v],r,x',y', ?_, ?_⟩
  ·have:=vz e1 hv;rw[cR,Nat.div_add_mod]at this;rw[ba,cx];exact this
  ·rw[aq,jt rfl eb,e2];simp
theorem qc:∀ns:List Nat,prd ns.reverse=prd ns
 | []=>rfl
 | n :: ns=>by rw[ba,Ua,qc ns,prd,cR]
theorem JB {cc cw:List T->R T}{s:T}(ks:List Kd)(hs:jz s= .ok (ks.map Kd.t))(hl:ks.length<=3)(H:∀k∈ks,AtOk cc cw k){n:Nat}{xs:List T}(hx:(Z8 [[]] (ks.map Kd.all))[n]? =some xs):
  zh (gK cc cw (en0 6 [s,.int (n:Int)]))= .ok (.tup xs):=by
 have hn:=(aw.mp hx).1;rw[wf,aJ]at hn;have hr:(ks.reverse.map λk=>k.all.length)=(ks.map λk=>k.all.length).reverse:=by rw[bm]
 obtain⟨ys,r,x',y',e1,e2⟩:=qb _ [] n .un .un (λk hk=>H k (dk.mp hk)) (by rw[hr,qc];exact hn) (by rw[bo,bZ];omega)
 rw[dh,hx]at e1;cases e1;have e0:uI 2 (ze) [.vl s,.vl (.int (n)),.un,.un,.un,.un]= .nx [.vl s,.vl _,.ow [],.un,.un,.un]:=rfl;have e3:zI 3 (vE 1) [.vl s,.vl (.int (n)),.ow [],.un,.un,.un]= .nx [.vl s,.vl _,.ow [],.vl _,.un,.un]:=rfl;have e4:j3 (Vc (vE 0)) (zC 4) (paB cc cw) [.vl s,.vl (.int (n)),.ow [],.vl (.int (n)),.un,.un]= .nx [.vl s,.vl (.int (n)),.ow xs.reverse,r,x',y']:=by
  show (((jz s).bind λxs=>R.ok _).s λts=>Zj _ _ ts _)=_;rw[hs,bOk,← bm];exact e2
 have hlen:xs.reverse.length<=bnd:=by
  have:∀(ls made:List _) (m:Nat),(∀a∈made,a.length<=m)->∀a∈Z8 made ls,a.length<=m+ls.length:=by
   intro ls
   induction ls with
   | nil=>intro made m h a ha;exact h a ha
   | cons l ls ih=>
    intro made m h a ha;have:=ih (made.flatMap λa=>l.map λx=>a++[x]) (m+1) (λb hb=>by
     obtain⟨c,hc,hb⟩:=cN.mp hb;obtain⟨z,_,rfl⟩:=av.mp hb;have:=h c hc;rw[aC,aG];omega) a ha
    rw[ay];omega
  have h1:=this _ _ 0 (λa ha=>by rw[au.mp ha];exact ak _) xs (bK hx)
  rw[ae]at h1;rw[bo];have hb:bnd=16777216:=rfl;omega
 show zh (gK cc cw [.vl s,.vl _,.un,.un,.un,.un])=_;rw[gK,zc e0,zc e3,zc e4,zi]
 ·rfl
 ·show QS (.lst _)=_;unfold QS;dsimp only;rw[if_pos hlen,dh]
abbrev mtT:En->R Bool:=zx leC (zb 2 (f_r 20) (za (vE 0) (za (zd zy (vE 2) (cE (.int 1))) (ze)))) (vB 1)
abbrev mtB:En->RS:=zI 2 (zd zy (vE 2) (cE (.int 1)))
theorem w1n {t:T}{a:Sl}{ρ:En}:vB 1 (a :: .vl t :: ρ)= .ok t:=rfl
theorem qd {d:Nat}(hd:d<=2){k:Kd}(h:k.Ok d){lo hi n:Nat}(h1:lo<=hi)(h3:hi<=3)(hn:n < shr k.all.length lo (hi+1 - lo)):∀(f q:Nat),q<=hi - lo->hi - lo - q < f->shr k.all.length lo q<=n->
  ∃q',q' <=hi - lo/\shr k.all.length lo q' <=n/\n < shr k.all.length lo (q' +1)/\Zk mtT mtB f [.vl (mt k.t lo hi),.vl (.int (n:Int)),.vl (.int ((lo+q:Nat):Int))]= .nx [.vl (mt k.t lo hi),.vl (.int (n:Int)),.vl (.int ((lo+q' :Nat):Int))]
 | 0,q,_,hf,_=>by omega
 | f+1,q,hq,hf,hs=>by
  have et:mtT [.vl (mt k.t lo hi),.vl (.int (n)),.vl (.int ((lo+q:Nat)))]= .ok (decide (shr k.all.length lo (q+1)<=n)):=by
   rw[mtT,zS,zw,v0,bOk,UV v2,bOk,show ((lo+q:Nat):Int)+1=((lo+(q+1):Nat)) by omega,Ud hd h (by omega),bOk,w1n,bOk,wL,wb]
  have eu:Zk mtT mtB (f+1) [.vl (mt k.t lo hi),.vl (.int (n)),.vl (.int ((lo+q:Nat)))]=(mtT _).s λk' =>if k' =true then match mtB [.vl _,.vl _,.vl (.int _)] with
    | .nx ρ2=>Zk mtT mtB f ρ2
    | .ct ρ2=>Zk mtT mtB f ρ2
    | .bk ρ2=> .nx ρ2
    | r=>r
   else .nx _:=rfl
  rw[eu,et,Zt]
  by_cases hc:shr k.all.length lo (q+1)<=n
  ·rw[if_pos (decide_eq_true hc)];have hq2:q+1<=hi - lo:=by
    rcases Nat.lt_or_ge q _ with z | z
    ·exact z
    ·have:q=hi - lo:=by omega
     rw[this,show hi - lo+1=hi+1 - lo by omega]at hc
     omega
   have eb:mtB [.vl (mt k.t lo hi),.vl (.int (n)),.vl (.int ((lo+q:Nat)))]= .nx [.vl (mt k.t lo hi),.vl (.int (n)),.vl (.int ((lo+(q+1):Nat)))]:=by
    rw[mtB,zJ]
    ·rfl
    ·rw[UV v2,show ((lo+q:Nat):Int)+1=((lo+(q+1):Nat)) by omega]
   exact qd hd h h1 h3 hn f _ hq2 (by omega) hc
  ·rw[if_neg (by simpa using hc)]
   exact⟨q,hq,hs,by omega,rfl⟩
theorem Gi {i j:Nat}(h:j<=i):JW (.int (i:Int)) (.int (j:Int))= .ok (.int ((i - j:Nat):Int)):=by
 rw[Zq];congr 2;omega
theorem UX {d:Nat}(hd:d<=2){k:Kd}(h:k.Ok d){cp:List T->R T}{lo hi n:Nat}(h1:lo<=hi)(h3:hi<=3)(hn:n < shr k.all.length lo (hi+1 - lo))
  (H:∀(m:Nat),m<=3->∀(j:Nat) (xs:List T),(Z8 [[]] (ai m k.all))[j]? =some xs->cp [.lst (ai m k.t),.int (j:Int)]= .ok (.tup xs)):
  ∃x,(Kd.many k lo hi).all[n]? =some x/\zh (gJ (f_r 20) cp (en0 3 [mt k.t lo hi,.int (n:Int)]))= .ok x:=by
 obtain⟨q,hq,hs,hs',e⟩:=qd hd h h1 h3 hn 8 0 (by omega) (by omega) (by unfold shr;simp)
 rw[vA]at hs';have hj:n - shr k.all.length lo q < (Z8 [[]] (ai (lo+q) k.all)).length:=by
  rw[wf,aX,ZO];omega
 obtain⟨xs,hx⟩:=WM hj;have ha:=Xt (hi:=hi) (by omega) hx
 rw[show shr _ lo q+(n - shr _ lo q)=n by omega]at ha
 refine⟨_,ha, ?_⟩;have e0:zI 2 (zd ixT (vE 0) (cE (.int 2))) [.vl (mt k.t lo hi),.vl (.int (n:Int)),.un]= .nx [.vl _,.vl _,.vl (.int ((lo+0:Nat)))]:=rfl;show zh (gJ _ cp [.vl _,.vl _,.un])=_;rw[gJ,zc e0,zc e,zi]
 ·rfl
 ·show zb 2 cp _ [.vl _,.vl _,.vl _]=_;have em:zd zY (j4 (za (zd ixT (vE 0) (cE (.int 1))) (ze))) (vE 2) [.vl (mt k.t lo hi),.vl (.int (n)),.vl (.int ((lo+q:Nat)))]= .ok (.lst (ai (lo+q) k.t)):=by
   rw[zk,G7 jr,bOk,v2,bOk,WH (by omega),ZZ]
  rw[zw,em,bOk,zk,v1,bOk,zw,v0,bOk,v2,bOk,Ud hd h (by omega),bOk,Gi hs,bOk,H _ (by omega) _ xs hx]
theorem qe {d:Nat}(hd:d<=2){k:Kd}(h:k.Ok d):k.all.length < 1000000:=by
 have h1:=j5 d k h;have h2:mx d<=70644:=by
  have:d=0\/d=1\/d=2:=by omega
  rcases this with rfl | rfl | rfl <;> decide
 omega
theorem ja:∀(d n:Nat),3*d<=n->d<=3->∀k:Kd,k.Ok d->∀(i:Nat) (x:T),k.all[i]? =some x->S_g n 0 [k.t,.int (i:Int)]= .ok x
 | 0,_,_,_,_,h=>h.elim
 | d+1,n+3,hn,hd,k,h=>by
  intro i x hx;have ih:=ja d n (by omega) (by omega)
  have ih1:=ja d (n+1) (by omega) (by omega)
  have e:S_g (n+3) 0 [k.t,.int (i:Int)]=zh (b_g f_q _ _ (en2 k.t (.int (i:Int)))):=rfl;have hi' :=(aw.mp hx).1;rw[e,b_g];cases k with
  | whole lo hi=>
   rw[Kd.all,ax]at hx;rw[ZP]at hi';rw[dw hi']at hx;cases hx;rw[zz]
   ·rfl
   ·rfl
  | pick cs=>
   have hw:=U6 cs h.2.1;simp only[Kd.t]at hw ⊢;rw[zc (ya (by decide)),zz]
   ·rfl
   ·rw[Gf,zi];show zd ixT _ _ (en2 _ _)=_;rw[zk,zA,v0,bOk,hw,v1];exact Gg hx
  | row ks=>
   obtain⟨h1,h2,h3⟩:=h;rw[Kd.all,Kd.alls_map,ax]at hx;cases hr:(Z8 _ _)[i]? with
   | none=>rw[hr]at hx;cases hx
   | some xs=>
    rw[hr]at hx;cases hx;simp only[Kd.t];rw[Kd.ts_map,zc (ya (by decide)),zc (ya (by decide)),zz]
    ·rfl
    ·rw[Gf,zi];refine JB ks rfl h2 (λk hk=>⟨ZX (by omega) (h3 k hk),ih1 k (h3 k hk),Zu d k (h3 k hk),qe (by omega) (h3 k hk)⟩) hr
  | many k lo hi=>
   obtain⟨h1,h2,h3⟩:=h;rw[ZY]at hi';obtain⟨x',hx',hv⟩:=UX (cp:=S_g (n+1) 2) (by omega) h3 h1 h2 hi' (λm hm j xs hr=>by
    refine JB _ (by rw[aX];rfl) (by rw[aU];exact hm) (λk' hk' => ?_) (by rw[aX];exact hr)
    rw[bj hk'];exact⟨ZX (by omega) h3,ih k h3,Zu d k h3,qe (by omega) h3⟩)
   rw[hx]at hx';cases hx';simp only[Kd.t];rw[zc (ya (by decide)),zc (ya (by decide)),zc (ya (by decide)),zi]
   ·rfl
   ·show zb 2 _ _ (en2 _ _)=_;rw[zw,v0,bOk,v1,bOk];exact hv
theorem Gj {k:Kd}(h:k.Ok 3){i:Nat}{x:T}(hx:k.all[i]? =some x):f_g 20 [k.t,.int (i:Int)]= .ok x:=ja 3 20 (by omega) (by omega) k h i x hx
noncomputable def Pl:Nat->T->Prop
 | 0,_=>False
 | n+1,.tup xs=>∀x∈xs,Pl n x
 | n+1,.lst xs=>∀x∈xs,Pl n x
 | _+1,.fz _=>False
 | _+1,_=>True
theorem J9 {f:T->T->Option Bool}:∀(xs ys:List T),(∀x∈xs,∀y,∃b,f x y=some b)->∃b,eqL f xs ys=some b
 | [],[],_=>⟨_,rfl⟩
 | [],_ :: _,_=>⟨_,rfl⟩
 | _ :: _,[],_=>⟨_,rfl⟩
 | x :: xs,y :: ys,h=>by
  obtain⟨b,hb⟩:=h x ab y;obtain⟨c,hc⟩:=J9 xs ys λz hz=>h z (a9 _ hz);exact⟨b && c,by unfold eqL;rw[hb,hc]⟩
theorem Z9 {f:T->T->Option Bool}:∀(xs:List T),(∀x∈xs,f x x=some true)->eqL f xs xs=some true
 | [],_=>rfl
 | x :: xs,h=>by
  unfold eqL;rw[h x ab,Z9 xs λz hz=>h z (a9 _ hz)];rfl
theorem Ja:∀(n:Nat) (y x:T),Pl n y->∃b,eqF n y x=some b
 | 0,_,_,h=>h.elim
 | n+1,y,x,h=>by
  cases y with
  | tup xs=>
   cases x with
   | tup ys=>exact J9 xs ys λz hz u=>Ja n z u (h z hz)
   | _=>exact⟨false,by rw[eqF] <;> intros <;> first | rfl | contradiction | (intro z)⟩
  | lst xs=>
   cases x with
   | lst ys=>exact J9 xs ys λz hz u=>Ja n z u (h z hz)
   | fz ys=>exact J9 xs ys λz hz u=>Ja n z u (h z hz)
   | _=>exact⟨false,by rw[eqF] <;> intros <;> first | rfl | contradiction | (intro z)⟩
  | fz xs=>exact h.elim
  | non=>cases x <;> exact⟨_,rfl⟩
  | bl b=>cases x <;> exact⟨_,rfl⟩
  | int i=>cases x <;> exact⟨_,rfl⟩
  | str i=>cases x <;> exact⟨_,rfl⟩
theorem zV:∀(n:Nat) (y:T),Pl n y->eqF n y y=some true
 | 0,_,h=>h.elim
 | n+1,y,h=>by
  cases y with
  | tup xs=>exact Z9 xs λz hz=>zV n z ((h) z hz)
  | lst xs=>exact Z9 xs λz hz=>zV n z ((h) z hz)
  | fz xs=>exact h.elim
  | non=>rfl
  | bl b=>show some _=_;simp
  | int i=>show some _=_;simp
  | str i=>show some _=_;simp
theorem Pl.up:∀(n:Nat) (y:T),Pl n y->Pl (n+1) y
 | 0,_,h=>h.elim
 | n+1,y,h=>by
  cases y with
  | tup xs=>exact λz hz=>Pl.up n z ((h) z hz)
  | lst xs=>exact λz hz=>Pl.up n z ((h) z hz)
  | fz xs=>exact h.elim
  | _=>exact trivial
theorem Pl.le {n m:Nat}{y:T}(hm:n<=m)(h:Pl n y):Pl m y:=by
 obtain⟨j,rfl⟩:∃j,m=n+j:=⟨m - n,by omega⟩
 clear hm
 induction j with
 | zero=>exact h
 | succ j ih=>exact Pl.up _ _ ih
theorem ul {t:T}(h:Pl 30 t):neC t t= .ok false:=by unfold neC;rw[zV 30 t h];rfl
theorem vC {t:T}(h:Pl 30 t):eqC t t= .ok true:=by unfold eqC;rw[zV 30 t h]
theorem WN {f:T->Option Bool}:∀(ts:List T),(∀t∈ts,∃b,f t=some b)->∃b,jI f ts=some b/\(b=false->∀t∈ts,f t=some false)
 | [],_=>⟨false,rfl,λ_ _ h=>nomatch h⟩
 | t :: ts,h=>by
  obtain⟨b,hb⟩:=h t ab;obtain⟨c,hc,h'⟩:=WN ts λu hu=>h u (a9 _ hu);refine⟨b || c,by unfold jI;rw[hb,hc],λe u hu=> ?_⟩
  rw[Bool.or_eq_false_iff]at e;rcases ao.mp hu with rfl | hu
  ·rw[hb,e.1]
  ·exact h' e.2 u hu
theorem ZQ {f:En->R T}{ρ:En}{t:T}(h:f ρ= .ok t):jU f ρ= .nx ρ:=by unfold jU;rw[h,Zt]
theorem all_map (k:Kd):((rng 0 k.all.length).map λt=>match t with | .int i=>(k.all[i.toNat]?).getD .non | y=>y)=k.all:=by
 unfold rng;rw[aJ];refine dQ λi=> ?_;rw[ax]
 by_cases hi:i < k.all.length
 ·rw[dw hi];show some ((k.all[((0:Int)+(i)).toNat]?).getD _)=_;rw[show ((0:Int)+(i)).toNat=i by omega]
  obtain⟨x,hx⟩:=WM hi;rw[hx];rfl
 ·rw[aV (by simpa using hi),aV (by omega)];rfl
theorem Xv {f:En->R T}{ρ:En}{j:Int}(hf:f ρ= .ok (.int j))(h: -1000000 < j/\j < 1000000):Zx f ρ= .ok (rng 0 j.toNat):=by
 unfold Zx;rw[hf];exact if_pos h
theorem z20 {i j:Int}:gtC (.int i) (.int j)= .ok (decide (j < i)):=rfl
theorem z21 {g:En->R Bool}{f f' :En->R T}{ρ:En}(h:g ρ= .ok true):ifE g f f' ρ=f ρ:=by unfold ifE;rw[h];rfl
theorem z22 {g:En->R Bool}{f f' :En->R T}{ρ:En}(h:g ρ= .ok false):ifE g f f' ρ=f' ρ:=by unfold ifE;rw[h];rfl
inductive W:Nat->T->Prop where
 | int (d:Nat) (i:Int):W d (.int i)
 | str (d:Nat) (s:Str):W d (.str s)
 | tup {d:Nat} {xs:List T} (h:xs.length<=3) (r:∀x∈xs,W d x):W (d+1) (.tup xs)
theorem z0p:∀(d:Nat) (k:Kd) (x:T),k.Ok (d+1)->k.has x=true->W d x
 | d,.whole lo hi,x,_,h=>by
  cases x <;> first | exact .int _ _ | (simp[Kd.has,inR]at h)
 | d,.pick cs,x,_,h=>by
  cases x <;> first | exact .str _ _ | (simp[Kd.has]at h)
 | 0,.row ks,x,hk,h=>by
  obtain⟨h1,h3,hk⟩:=hk
  match ks,h1,hk with
  | k :: _,_,hk=>exact(hk k ab).elim
 | 0,.many k lo hi,x,hk,h=>hk.2.2.elim
 | d+1,.row ks,x,hk,h=>by
  obtain⟨h1,h3,hk⟩:=hk;cases x with
  | tup xs=>
   rw[Kd.has]at h;simp only[ah,beq_iff_eq]at h;obtain⟨hl,hh⟩:=h;refine .tup (by omega) λx hx=> ?_
   obtain⟨k,hm,hx'⟩:=U8 ks xs hl hh x hx;exact z0p d k x (hk k hm) hx'
  | _=>simp[Kd.has]at h
 | d+1,.many k lo hi,x,hk,h=>by
  obtain⟨h1,h3,hk⟩:=hk;cases x with
  | tup xs=>
   rw[Kd.has]at h;simp only[ah,decide_eq_true_eq,aH]at h;obtain⟨⟨hl,hl'⟩,hh⟩:=h;refine .tup (by omega) λx hx=> ?_
   exact z0p d k x hk (hh x hx)
  | _=>simp[Kd.has]at h
mutual
noncomputable def lv:T->List T
 | .tup xs=>lvs xs
 | .non=>[.non]
 | .bl b=>[.bl b]
 | .int b=>[.int b]
 | .str b=>[.str b]
 | .lst b=>[.lst b]
 | .fz b=>[.fz b]
noncomputable def lvs:List T->List T
 | []=>[]
 | x :: xs=>lv x++lvs xs
end
theorem qf (xs:List T):lv (.tup xs)=lvs xs:=by rw[lv]
theorem Vw (i:Int):lv (.int i)=[.int i]:=by rw[lv]
theorem Gk (i:Str):lv (.str i)=[.str i]:=by rw[lv]
theorem j0 (x:T)(xs:List T):lvs (x :: xs)=lv x++lvs xs:=by rw[lvs]
theorem wR:lvs []=[]:=by rw[lvs]
theorem qg {n:Nat}:∀xs:List T,(∀x∈xs,(lv x).length<=n)->(lvs xs).length<=xs.length*n
 | [],_=>by exact aZ _
 | x :: xs,h=>by
  rw[j0,aC,ay,iI];have h1:=h x ab;have h2:=qg xs λy hy=>h y (a9 _ hy);omega
theorem pow3 (d:Nat):1<=3 ^ d:=Nat.one_le_pow _ _ (by omega)
theorem Vx {d:Nat}{x:T}(h:W d x):(lv x).length<=3 ^ d:=by
 induction h with
 | int d i=>exact pow3 d
 | str d i=>exact pow3 d
 | @tup d xs h r ih=>
  rw[qf];have:=qg xs ih;have h3:=eS (3 ^ d) h;omega
inductive Lf:T->Prop where
 | int (i:Int):Lf (.int i)
 | str (i:Str):Lf (.str i)
theorem Vy:∀(xs:List T),(∀x∈xs,∀y∈lv x,Lf y)->∀y∈lvs xs,Lf y
 | [],_,y,hy=>by cases hy
 | x :: xs,h,y,hy=>by
  rcases bv.mp hy with hy | hy
  ·exact h x ab y hy
  ·exact Vy xs (λz hz=>h z (a9 _ hz)) y hy
theorem Gm {d:Nat}{x:T}(h:W d x):∀y∈lv x,Lf y:=by
 induction h with
 | int d i=>intro y hy;rw[au.mp hy];exact .int _
 | str d i=>intro y hy;rw[au.mp hy];exact .str _
 | @tup d xs h r ih=>intro y hy;exact Vy xs ih y hy
theorem Gn {i:Nat}{f:En->R T}{ρ:En}{ts us:List T}(hi:ρ[i]? =some (.ow ts))(h:f ρ= .ok (.lst us))(hl:ts.length+us.length<=bnd):Q7 i f ρ= .nx (ρ.set i (.ow (ts++us))):=by
 unfold Q7;rw[hi];dsimp only;rw[h,Zt];dsimp only;rw[if_pos hl]
abbrev loB (c:List T->R T):En->RS:=Q7 1 (zb 1 c (za (vE 2) (ze)))
theorem qh {c:List T->R T}{n:Nat}(hn:n<=1000){a:Sl}:∀(xs:List T) (acc:List T) (x:Sl),(∀x∈xs,c [x]= .ok (.lst (lv x))/\(lv x).length<=n)->acc.length+xs.length*n<=1000000->
  ∃x',Zj (zC 2) (loB c) xs [a,.ow acc,x]= .nx [a,.ow (acc++lvs xs),x']
 | [],acc,x,_,_=>⟨x,by rw[wR,bJ];rfl⟩
 | y :: xs,acc,x,H,hb=>by
  obtain⟨e,hl⟩:=H y ab;rw[ay,iI]at hb;have hB:bnd=16777216:=rfl;obtain⟨x',h⟩:=qh hn xs (acc++lv y) _ (λz hz=>H z (a9 _ hz)) (by rw[aC];omega)
  refine⟨x', ?_⟩;have s2:zC 2 y [a,.ow acc,x]= .ok _:=rfl;have b2:loB c [a,.ow acc,.vl y]= .nx [a,.ow (acc++lv y),.vl y]:=by
   have z:zb 1 c (za (vE 2) (ze)) [a,.ow acc,.vl y]= .ok (.lst (lv y)):=by rw[zA,v2,bOk,e]
   exact Gn rfl z (by omega)
  rw[jt s2 b2,h,j0,bF]
theorem Go {x:T}{r:En}:WW (jT (ap1 (wZ "tuple") (vB 0))) (.vl x :: r)= .ok (!(match x with | .tup _=>true | _=>false)):=by
 all_goals (cases x <;> rfl)
theorem JC:∀(n d:Nat),d < n->d<=3->∀x:T,W d x->S_k n 0 [x]= .ok (.lst (lv x))
 | 0,d,h,_,_,_=>absurd h (lC _)
 | n+1,d,h,h3,x,hx=>by
  show zh (b_k _ [.vl x,.un,.un])=_;rw[b_k];cases hx with
  | int d i=>
   rfl
  | str d i=>
   rfl
  | @tup d xs hl r=>
   have hp:3 ^ d<=27:=bW (by omega) (show d<=3 by omega)
   obtain⟨x',el⟩:=qh (by omega) xs [] .un (λy hy=>⟨JC n d (by omega) (by omega) y (r y hy),Vx (r y hy)⟩) (by have:=bf hl hp;simp;omega)
   have e1:uI 1 ze [.vl (.tup xs),.un,.un]= .nx [.vl _,.ow [],.un]:=rfl;have e2:j3 (ZB (vE 0)) (zC 2) (loB (S_k n 0)) [.vl (.tup xs),.ow [],.un]= .nx [.vl (.tup xs),.ow ([]++lvs xs),x']:=by
    exact el
   rw[zc (zo Go),zc e1,zc e2,cq];rfl
theorem jE {ft:En->R Bool}{p:T->Bool}{k:Nat}{js:List Nat}{ρ:En}{fe:En->R T}(ts:List T)(hl:ts.length<=bnd)(H:∀t∈ts,ft ((Jo k js ρ).set 0 (.vl t))= .ok (p t)/\fe ((Jo k js ρ).set 0 (.vl t))= .ok t):zu (zC 0) ft fe k js ρ ts= .ok (ts.filter p):=by
 unfold zu;rw[if_pos hl,ZM (h:=id) ts _ λt ht=>⟨(H t ht).1,λ_=>(H t ht).2⟩,List.map_id];rfl
noncomputable def JI:List T->List Int
 | []=>[]
 | .int i :: r=>i :: JI r
 | .non :: r=>JI r
 | .bl _ :: r=>JI r
 | .str _ :: r=>JI r
 | .tup _ :: r=>JI r
 | .lst _ :: r=>JI r
 | .fz _ :: r=>JI r
theorem WO:∀ts:List T,ts.filter isW=(JI ts).map T.int
 | []=>rfl
 | t :: ts=>by
  have ih:=WO ts;rw[List.filter_cons,ih];cases t <;> rfl
theorem qi:∀is:List Int,ZK (is.map T.int)=some is
 | []=>rfl
 | i :: is=>by
  have e:ZK ((i :: is).map T.int)=match ZK _ with | some l=>some _ | none=>none:=rfl
  rw[e,qi is]
theorem Ue:∀ts:List T,(JI ts).length<=ts.length
 | []=>ak _
 | t :: ts=>by
  have ih:=Ue ts;cases t <;> simp only[JI,ay] <;> omega
theorem w9 {d:Nat}{x:T}(hd:d<=2)(h:W d x):(lv x).length<=9:=ar (Vx h) (bW (by omega) hd)
theorem UY {d:Nat}(hd:d<=2){x:T}(h:W d x):z05 [x]= .ok (.lst ((JI (lv x)).map T.int)):=by
 show zh _=_;have hl:=w9 hd h;have ec:zu _ (jT (zb 1 f_a (za (vE 0) _))) (vE 0) 1 [] [.vl x] (lv x)= .ok _:=
  jE _ (by have hB:bnd=16777216:=rfl;omega) λt _=>⟨by
   show jT _ [.vl t]=_;rw[jp,zA,v0,bOk,wJ,bOk,uW],rfl⟩
 rw[z1Q,zi]
 ·rfl
 ·show zL _ _ _ _ _ _ [.vl x]=_;have hv:f_k 8 [x]= .ok _:=JC 8 d (by omega) (by omega) x h
  rw[zT,jq,zA,v0,bOk,hv];show ((zu _ _ _ _ _ _ _).bind _)=_;rw[ec,bOk,WO]
noncomputable def asc (is:List Int):Bool:=(is.zip (is.drop 1)).all λq=>decide (q.1<=q.2)
theorem qj:∀(qs:List (Int×Int)) (x y:Sl),zt (zK 0 1) zW (ZV leC (vB 0) (vB 1)) (qs.map λq=>T.tup [.int q.1,.int q.2]) [x,y]= .ok (qs.map λq=>T.bl (decide (q.1<=q.2)))
 | [],_,_=>rfl
 | q :: qs,x,y=>by
  have ih:=qj qs (.vl (.int q.1)) (.vl (.int q.2));have e0:zt (zK 0 1) zW (ZV leC (vB 0) (vB 1)) ((q :: qs).map λq=>T.tup [.int q.1,.int q.2]) [x,y]=
   (R.ok (T.bl _)).bind λv=>(zt _ _ _ (qs.map λq=>T.tup [.int q.1,.int q.2]) [.vl _,.vl _]).bind λvs=> .ok _:=rfl
  rw[e0,bOk,ih,bOk,aq]
theorem Xw (xs:List T):cut xs (some ((1:Nat):Int)) none=xs.drop 1:=by
 unfold cut;rw[HT.sIx_nat,HT.sIx_none]
 by_cases h:1<=xs.length
 ·rw[lD h,h9 (by rw[fR];omega)]
 ·have:xs=[]:=fU.mp (by omega)
  subst this;rfl
theorem qk (is:List Int)(hl:is.length<=100):z1S [.lst (is.map T.int)]= .ok (.bl (asc is)):=by
 show zh _=_;have hz:Q8 (vE 0) (slE (vE 0) (ua (cE (.int 1))) (noO)) [.vl (.lst (is.map T.int))]= .ok ((is.zip (is.drop 1)).map λq=>T.tup [.int q.1,.int q.2]):=by
  show R.ok (y8 _ (cut _ (some ((1:Nat))) _))=_;rw[Xw,← List.map_drop];unfold y8;rw[List.zip_map,aJ];rfl
 have ec:zu (zK 0 1) zW (ZV leC (vB 0) (vB 1)) 2 [] [.vl (.lst (is.map T.int))] ((is.zip (is.drop 1)).map λq=>T.tup [.int q.1,.int q.2])= .ok ((is.zip (is.drop 1)).map λq=>T.bl (decide (q.1<=q.2))):=by
  unfold zu;rw[if_pos (by rw[ae,eY];have hB:bnd=16777216:=rfl;omega)]
  show quiet (zt _ _ _ _ [.un,.un])=_;rw[qj];rfl
 rw[z1R,zi]
 ·rfl
 ·show ap1 _ _ [.vl _]=_;rw[Ze,zT,hz,bOk,ec,bOk];show (match Wm _ with | some k=>R.ok _ | none=> .bad)=_
  rw[wQ (λq=>decide _)];rfl
theorem Gp (is:List Int):xS (.lst (is.map T.int))= .ok (.int is.sum):=by
 unfold xS;dsimp only;rw[qi]
def inB (xs:List T)(x:T):Bool:=(jI (λy=>eqF 30 y x) xs).getD false
theorem Gq {xs:List T}(x:T)(h:∀y∈xs,Pl 30 y):jI (λy=>eqF 30 y x) xs=some (inB xs x):=by
 obtain⟨b,e,_⟩:=WN xs λt ht=>Ja 30 t x (h t ht);unfold inB;rw[e];rfl
theorem W.pl {d:Nat}{x:T}(h:W d x):Pl (d+1) x:=by
 induction h with
 | int d i=>exact trivial
 | str d i=>exact trivial
 | @tup d xs h r ih=>exact ih
theorem W.pl30 {d:Nat}{x:T}(h:W d x)(hd:d<=2):Pl 30 x:=h.pl.le (by omega)
noncomputable def wS:T->List T
 | .tup xs=>xs
 | .non=>[.non]
 | .bl b=>[.bl b]
 | .int b=>[.int b]
 | .str b=>[.str b]
 | .lst b=>[.lst b]
 | .fz b=>[.fz b]
theorem Xx {d:Nat}{x:T}(h:W d x):z06 [x]= .ok (.tup (wS x)):=by cases h <;> rfl
theorem qm {d:Nat}{x:T}(h:W d x):(wS x).length<=3:=by
 cases h with
 | int=>exact(by decide:1<=3)
 | str=>exact(by decide:1<=3)
 | tup h _=>exact h
theorem vD {d:Nat}{x:T}(h:W d x)(hd:d<=2):∀y∈wS x,Pl 30 y:=by
 cases h with
 | int=>intro y hy;rw[au.mp hy];exact trivial
 | str=>intro y hy;rw[au.mp hy];exact trivial
 | @tup d xs h r=>intro y hy;exact(r y hy).pl30 (by omega)
def un (ps:List T):Bool:= !(ps.zipIdx.any λp=>inB (ps.take p.2) p.1)
theorem qo {xs:List T}{k:Nat}:slT (.tup xs) none (some (k:Int))= .ok (.tup (xs.take k)):=by
 show R.ok _=_;have:cut xs none (some (k))=xs.take k:=by
  unfold cut;rw[HT.sIx_none,HT.sIx_nat];simp only[List.drop_zero,Nat.sub_zero];rw[List.take_eq_take_iff];omega
 rw[this]
theorem Xy {ps:List T}(h:∀y∈ps,Pl 30 y)(k:Nat)(x:T):inC x (.tup (ps.take k))= .ok (inB (ps.take k) x):=by
 show (match jI (λy=>eqF 30 y x) _ with | some b=>R.ok b | none=> .bad)=_
 rw[Gq x λy hy=>h y (eT hy)]
abbrev ulE:En->R T:=ZV inC (vB 1) (slE (vE 2) (noO) (ua (vE 0)))
theorem qp {ps:List T}(h:∀y∈ps,Pl 30 y):∀(qs:List (T×Nat)) (x y:Sl),zt (zK 0 1) zW ulE (qs.map λp=>T.tup [.int (p.2:Nat),p.1]) [x,y,.vl (.tup ps)]= .ok (qs.map λp=>T.bl (inB (ps.take p.2) p.1))
 | [],_,_=>rfl
 | q :: qs,x,y=>by
  have ih:=qp h qs (.vl (.int (q.2))) (.vl q.1);have e:ulE [.vl (.int (q.2)),.vl q.1,.vl (.tup ps)]= .ok (.bl (inB (ps.take q.2) q.1)):=by
   have e2:slE (vE 2) noO (ua (vE 0)) [.vl (.int (q.2)),.vl q.1,.vl (.tup ps)]=slT (.tup ps) _ _:=rfl;unfold ulE;rw[ZE,w1,bOk,e2,qo,bOk,Xy h,bOk]
  have e0:zt (zK 0 1) zW ulE ((q :: qs).map λp=>T.tup [.int (p.2),p.1]) [x,y,.vl (.tup ps)]=
   (ulE [.vl _,.vl q.1,.vl _]).bind λv=>(zt _ _ ulE (qs.map λp=>T.tup _) [.vl _,.vl q.1,.vl _]).bind λvs=> .ok _:=rfl
  rw[e0,e,bOk,ih,bOk,aq]
theorem WP {α:Type}(p:α->Bool):∀qs:List α,JM (qs.map λq=>T.bl (p q))=some (qs.any p)
 | []=>rfl
 | q :: qs=>by
  have e:JM ((q :: qs).map λq=>T.bl (p q))=match JM (qs.map λq=>T.bl _) with | some j=>some _ | none=>none:=rfl
  rw[e,WP p qs];rfl
theorem qr {ps:List T}(h:∀y∈ps,Pl 30 y)(hl:ps.length<=100):z1U [.tup ps]= .ok (.bl (un ps)):=by
 show zh _=_;have ec:zu (zK 0 1) zW ulE 2 [0] [.vl (.tup ps)] (jm ps)= .ok (ps.zipIdx.map λp=>T.bl (inB (ps.take p.2) p.1)):=by
  unfold zu;rw[if_pos (by unfold jm;rw[ae,iA];have hB:bnd=16777216:=rfl;omega)]
  show quiet (zt _ _ _ _ [.un,.un,.vl _])=_;unfold jm;rw[qp h];rfl
 rw[z1T,zi]
 ·rfl
 ·have e1:zL (uP (vE 0)) (zK 0 1) zW ulE 2 [0] [.vl (.tup ps)]= .ok (.lst (ps.zipIdx.map λp=>T.bl (inB (ps.take p.2) p.1))):=by
   show ((R.ok _).bind _)=_;rw[bOk,ec,bOk]
  have e2:ap1 z1y (zL (uP (vE 0)) (zK 0 1) zW ulE 2 [0]) [.vl (.tup ps)]= .ok (.bl (ps.zipIdx.any λp=>inB (ps.take p.2) p.1)):=by
   rw[Ze,e1];show (match JM _ with | some k=>R.ok _ | none=> .bad)=_
   rw[WP (λp:T×Nat=>inB _ p.1)]
  show Qt _ [.vl _]=_;unfold Qt;rw[e2];rfl
noncomputable def Gr (w:Str):T->Bool
 | .str x=>x == w
 | _=>false
theorem z23 (w:Str)(n:Nat):∀t:T,eqF n t (.str w)=some (Gr w t)
 | .str x=>by cases n <;> rfl
 | .non=>by cases n <;> rfl
 | .bl _=>by cases n <;> rfl
 | .int _=>by cases n <;> rfl
 | .tup _=>by cases n <;> rfl
 | .lst _=>by cases n <;> rfl
 | .fz _=>by cases n <;> rfl
theorem qt (w:Str):∀ts:List T,jI (λy=>eqF 30 y (.str w)) ts=some (ts.any (Gr w))
 | []=>rfl
 | t :: ts=>by
  have e:jI (λy=>eqF 30 y (.str w)) (t :: ts)=match eqF 30 t _ with
   | none=>none
   | some b=>match jI (λy=>eqF 30 y _) ts with
    | none=>none
    | some d=>some _:=rfl
  rw[e,z23,qt w ts];rfl
inductive Ru where
 | sum (a b:Int) | size (a b:Int) | word (w:Str) | rising | unlike | no (r:Ru) | all (r s:Ru) | some (r s:Ru)
def Ru.t:Ru->T
 | .sum a b=> .tup [.str "sum",.int a,.int b]
 | .size a b=> .tup [.str "size",.int a,.int b]
 | .word w=> .tup [.str "word",.str w]
 | .rising=> .tup [.str "rising"]
 | .unlike=> .tup [.str "unlike"]
 | .no r=> .tup [.str "no",r.t]
 | .all r s=> .tup [.str "all",r.t,s.t]
 | .some r s=> .tup [.str "some",r.t,s.t]
inductive jc:Nat->Ru->Prop where
 | sum {d:Nat} {a b:Int} (ha: -50<=a/\a<=50) (hb: -50<=b/\b<=50):jc (d+1) (.sum a b)
 | size {d:Nat} {a b:Int} (ha: -50<=a/\a<=50) (hb: -50<=b/\b<=50):jc (d+1) (.size a b)
 | word {d:Nat} {w:Str} (h:Z5 (.str w)=true):jc (d+1) (.word w)
 | rising {d:Nat}:jc (d+1) .rising
 | unlike {d:Nat}:jc (d+1) .unlike
 | no {d:Nat} {r:Ru} (h:jc d r):jc (d+1) (.no r)
 | all {d:Nat} {r s:Ru} (h:jc d r) (h' :jc d s):jc (d+1) (.all r s)
 | some {d:Nat} {r s:Ru} (h:jc d r) (h' :jc d s):jc (d+1) (.some r s)
def kp:Ru->T->Bool
 | .sum a b,x=>decide (a<=(JI (lv x)).sum) && decide ((JI (lv x)).sum<=b)
 | .size a b,x=>decide (a<=((wS x).length:Int)) && decide (((wS x).length:Int)<=b)
 | .word w,x=>(lv x).any (Gr w)
 | .rising,x=>asc (JI (lv x))
 | .unlike,x=>un (wS x)
 | .no r,x=> !kp r x
 | .all r s,x=>kp r x && kp s x
 | .some r s,x=>kp r x || kp s x
theorem Jb {i:Int}(h: -50<=i/\i<=50):z04 [.int i]= .ok (.bl true):=by
 show zh _=_;rw[z1P,zi]
 ·rfl
 ·show j2 _ _ [.vl _]=_;rw[jn,zA,v0,bOk,YB,YG,Z3,bOk];rw[bOk,w0,bOk,wL,decide_eq_true h.1,bOk,bOk,wL,decide_eq_true h.2];rfl
theorem Zi {x w:Str}{r:List T}{ρ:En}(b:Bool)(h:(x == w)=b):zx eqC (zd ixT (vE 0) (cE (.int 0))) (cE (.str w)) (.vl (.tup (.str x :: r)) :: ρ)= .ok b:=by rw[cs0,h]
theorem yb {f g:En->R Bool}{ρ:En}{b:Bool}(h:f ρ= .ok false)(h' :g ρ= .ok b):orT f g ρ= .ok b:=by rw[UP,h,bOk,if_neg az,h']
theorem or_t {f g:En->R Bool}{ρ:En}(h:f ρ= .ok true):orT f g ρ= .ok true:=by rw[UP,h,bOk,if_pos rfl]
theorem JO {f g:En->R T}{ρ:En}{r:R T}(h:f ρ= .ok (.bl true))(h' :g ρ=r):j2 f g ρ=r:=by rw[jn,h,Zd,if_pos rfl,h']
theorem Vz {xs:List T}{ρ:En}{n:Int}(h:((xs.length:Int) == n)=true):ZV eqC (ap1 Zo (vB 0)) (cE (.int n)) (.vl (.tup xs) :: ρ)= .ok (.bl true):=by
 rw[ZE,Ze,w0,bOk,JN,bOk,Z3,bOk,eqI,h,bOk]
theorem ZR {xs:List T}{d:Nat}{x:T}:orT (zx eqC (vB 1) (cE (.int 0))) (orT (WW (jT (ap1 (wZ "tuple") (vB 0)))) (zx eqC (ap1 Zo (vB 0)) (cE (.int 0)))) (en2 (.tup (x :: xs)) (.int ((d+1:Nat):Int)))= .ok false:=by
 refine yb ?_ (yb ?_ ?_)
 ·rw[zS,w1,bOk,Z3,bOk,eqI,beq_eq_false_iff_ne.mpr (by omega)]
 ·rfl
 ·rw[zS,Ze,w0,bOk,JN,bOk,Z3,bOk,eqI,beq_eq_false_iff_ne.mpr (by rw[ay];omega)]
theorem vF {w:Str}(h:Z5 (.str w)=true):Xi (.str w):=by
 have h:(decide _ && decide _ && w.cps.toList.all _)=true:=h;simp only[ah,decide_eq_true_eq]at h;exact ar h.1.2 (by decide)
theorem jF:∀(n d:Nat),d<=n->∀r:Ru,jc d r->S_n n 0 [r.t,.int (d:Int)]= .ok (.bl true)
 | 0,d,h,r,hr=>by
  have:d=0:=by omega
  subst this;cases hr
 | n+1,d,h,r,hr=>by
  show zh (b_n f_v (S_n n 0) z04 (en2 r.t (.int (d:Int))))=_;rw[b_n];cases hr with
  | @sum d a b ha hb=>
   rw[Ru.t,zc (zo ZR),zz (t:= .bl true)]
   ·rfl
   ·exact zi (JO (Vz rfl) (JO (by show zb 1 _ _ (en2 _ _)=_;rw[zA,jr,bOk,Jb ha]) (by show zb 1 _ _ (en2 _ _)=_;rw[zA,W1,bOk,Jb hb])))
  | @size d a b ha hb=>
   rw[Ru.t,zc (zo ZR),zz (t:= .bl true)]
   ·rfl
   ·exact zi (JO (Vz rfl) (JO (by show zb 1 _ _ (en2 _ _)=_;rw[zA,jr,bOk,Jb ha]) (by show zb 1 _ _ (en2 _ _)=_;rw[zA,W1,bOk,Jb hb])))
  | @word d w hw=>
   rw[Ru.t,zc (zo ZR),zc (zo (yb (Zi false (by decide)) (Zi false (by decide)))),zz (t:= .bl true)]
   ·rfl
   ·exact zi (JO (Vz rfl) (by show zb 1 _ _ (en2 _ _)=_;rw[zA,jr,bOk,YA _ (vF hw),hw]))
  | rising=>
   rw[Ru.t,zc (zo ZR),zc (zo (yb (Zi false (by decide)) (Zi false (by decide)))),zc (zo (Zi false (by decide))),zz (t:= .bl true)]
   ·rfl
   ·rw[u0 (or_t (Zi true (by decide)))]
    exact zi (Vz rfl)
  | unlike=>
   rw[Ru.t,zc (zo ZR),zc (zo (yb (Zi false (by decide)) (Zi false (by decide)))),zc (zo (Zi false (by decide))),zz (t:= .bl true)]
   ·rfl
   ·rw[u0 (yb (Zi false (by decide)) (Zi true (by decide)))]
    exact zi (Vz rfl)
  | @no d r hr=>
   have ih:=jF n d (by omega) r hr
   rw[Ru.t,zc (zo ZR),zc (zo (yb (Zi false (by decide)) (Zi false (by decide)))),zc (zo (Zi false (by decide))),zc (zo (yb (Zi false (by decide)) (Zi false (by decide)))),zz (t:= .bl true)]
   ·rfl
   ·rw[u0 (Zi true (by decide))]
    exact zi (JO (Vz rfl) (by show zb 2 _ _ (en2 _ _)=_;rw[zw,jr,bOk,zk,v1,bOk,Z3,bOk,Zq,bOk,show ((d+1:Nat)) - 1=(d:Int) by omega,ih]))
  | @all d r s hr hs=>
   have ih:=jF n d (by omega) r hr
   have ih' :=jF n d (by omega) s hs
   rw[Ru.t,zc (zo ZR),zc (zo (yb (Zi false (by decide)) (Zi false (by decide)))),zc (zo (Zi false (by decide))),zc (zo (yb (Zi false (by decide)) (Zi false (by decide)))),zc (zo (Zi false (by decide))),zz (t:= .bl true)]
   ·rfl
   ·exact zi (JO (Vz rfl) (JO (by show zb 2 _ _ (en2 _ _)=_;rw[zw,jr,bOk,zk,v1,bOk,Z3,bOk,Zq,bOk,show ((d+1:Nat):Int) - 1=(d) by omega,ih]) (by show zb 2 _ _ (en2 _ _)=_;rw[zw,W1,bOk,zk,v1,bOk,Z3,bOk,Zq,bOk,show ((d+1:Nat):Int) - 1=(d) by omega,ih'])))
  | @some d r s hr hs=>
   have ih:=jF n d (by omega) r hr
   have ih' :=jF n d (by omega) s hs
   rw[Ru.t,zc (zo ZR),zc (zo (yb (Zi _ (by decide)) (Zi _ (by decide)))),zc (zo (Zi _ (by decide))),zc (zo (yb (Zi _ (by decide)) (Zi _ (by decide)))),zc (zo (Zi _ (by decide))),zz]
   ·rfl
   ·exact zi (JO (Vz rfl) (JO (by show zb 2 _ _ (en2 _ _)=_;rw[zw,jr,bOk,zk,v1,bOk,Z3,bOk,Zq,bOk,show ((d+1:Nat):Int) - 1=(d) by omega,ih]) (by show zb 2 _ _ (en2 _ _)=_;rw[zw,W1,bOk,zk,v1,bOk,Z3,bOk,Zq,bOk,show ((d+1:Nat):Int) - 1=(d) by omega,ih'])))
theorem Gs {f g h:En->R T}{ρ:En}{i j k:Int}(hf:f ρ= .ok (.int i))(hg:g ρ= .ok (.int j))(hh:h ρ= .ok (.int k)):chE leC leC f g h ρ= .ok (.bl (decide (i<=j) && decide (j<=k))):=by
 rw[YB,hf,bOk,hg,bOk,wL,bOk];cases decide (i<=j) with
 | true=>rw[if_pos rfl,hh,bOk,wL,bOk,Bool.true_and]
 | false=>rw[if_neg az,Bool.false_and]
theorem qu {r:Ru}{x:T}{d:Nat}(hd:d<=2)(h:W d x)(b:Bool)(hr:(match r with | .no _=>False | .all _ _=>False | .some _ _=>False | _=>True)):gM [r.t,x]= .ok (.bl (kp r x)):=by
 have hn:=UY hd h;have hp:=Xx h;have hv:f_k 8 [x]= .ok (.lst (lv x)):=JC 8 d (by omega) (by omega) x h
 have hi:=ar (Ue _) (w9 hd h);show zh (z07 z06 (f_k 8) z05 _ _ (en2 r.t x))=_;rw[z07];cases r with
 | sum a b=>
  rw[zz]
  ·rfl
  ·refine zi ?_;show chE _ _ _ _ _ (en2 _ x)=_;exact Gs jr (by rw[Ze,zA,v1,bOk,hn,bOk,Gp]) W1
 | size a b=>
  rw[Ru.t,zc (zo (Zi _ (by decide))),zz]
  ·rfl
  ·rw[u0 (Zi _ (by decide))]
   refine zi ?_;show chE _ _ _ _ _ (en2 _ x)=_;exact Gs jr (by rw[Ze,zA,v1,bOk,hp,bOk,JN]) W1
 | word w=>
  rw[Ru.t,zc (zo (Zi false (by decide))),zc (zo (Zi false (by decide))),zz]
  ·rfl
  ·rw[u0 (Zi true (by decide))]
   refine zi ?_;show ZV _ _ _ (en2 _ x)=_;rw[ZE,jr,bOk,zA,v1,bOk,hv];show ((match jI (λy=>eqF 30 y (.str w)) (lv x) with | some b=>R.ok b | none=> .bad).bind _)=_
   rw[qt];rfl
 | rising=>
  rw[Ru.t,zc (zo (Zi false (by decide))),zc (zo (Zi _ (by decide))),zc (zo (Zi _ (by decide))),zz (t:= .bl (kp _ x))]
  ·rfl
  ·rw[u0 (Zi true (by decide))]
   refine zi ?_;show zb 1 _ _ (en2 _ x)=_;rw[zA,zA,v1,bOk,hn,bOk,qk _ (by omega)]
   rfl
 | unlike=>
  rw[Ru.t,zc (zo (Zi false (by decide))),zc (zo (Zi _ (by decide))),zc (zo (Zi false (by decide))),zc (zo (Zi _ (by decide))),zi]
  ·rfl
  ·show zb 1 _ _ (en2 _ x)=_;rw[zA,zA,v1,bOk,hp,bOk,qr (vD h hd) (ar (qm h) (by omega))]
   rfl
 | no=>exact hr.elim
 | all=>exact hr.elim
 | some=>exact hr.elim
theorem Xz {f:En->R T}{ρ:En}{b:Bool}(h:f ρ= .ok (.bl b)):Qt f ρ= .ok (.bl (!b)):=by unfold Qt;rw[h];rfl
theorem XA {f g:En->R T}{ρ:En}{a b:Bool}(h:f ρ= .ok (.bl a))(h' :g ρ= .ok (.bl b)):j2 f g ρ= .ok (.bl (a && b)):=by
 rw[jn,h,h'];cases a <;> rfl
theorem Gu {f g:En->R T}{ρ:En}{a b:Bool}(h:f ρ= .ok (.bl a))(h' :g ρ= .ok (.bl b)):orE f g ρ= .ok (.bl (a || b)):=by
 unfold orE;rw[h];cases a with
 | true=>rfl
 | false=>exact h'
theorem jG {x:T}{e:Nat}(he:e<=2)(hx:W e x):∀(n d:Nat),d<=n->∀r:Ru,jc d r->S_b n 0 [r.t,x]= .ok (.bl (kp r x))
 | 0,d,h,r,hr=>by
  have:d=0:=by omega
  subst this;cases hr
 | n+1,d,h,r,hr=>by
  show zh (b_b (S_b n 0) gM (en2 r.t x))=_;rw[b_b];have fin:∀(r:Ru) (s:Str) (q:List T),r.t= .tup (.str s :: q)->(s == "no")=false->(s == "all")=false->(s == "some")=false->(match r with | .no _=>False | .all _ _=>False | .some _ _=>False | _=>True)->
    zh (zn (ifS (zx eqC (zd ixT (vE 0) (cE (.int 0))) (cE (.str "no"))) (zq (Qt (zb 2 (S_b n 0) (za (zd ixT (vE 0) (cE (.int 1))) (za (vE 1) (ze)))))) (nxS))
  (zn (ifS (zx eqC (zd ixT (vE 0) (cE (.int 0))) (cE (.str "all"))) (zq (j2 (zb 2 (S_b n 0) (za (zd ixT (vE 0) (cE (.int 1))) (za (vE 1) (ze)))) (zb 2 (S_b n 0) (za (zd ixT (vE 0) (cE (.int 2))) (za (vE 1) (ze)))))) (nxS))
  (zn (ifS (zx eqC (zd ixT (vE 0) (cE (.int 0))) (cE (.str "some"))) (zq (orE (zb 2 (S_b n 0) (za (zd ixT (vE 0) (cE (.int 1))) (za (vE 1) (ze)))) (zb 2 (S_b n 0) (za (zd ixT (vE 0) (cE (.int 2))) (za (vE 1) (ze)))))) (nxS))
  (zq (zb 2 gM (za (vE 0) (za (vE 1) (ze))))))) (en2 r.t x))= .ok (.bl (kp r x)):=by
   intro r s q e h1 h2 h3 hm;have hs:=qu he hx true hm;rw[e]at hs ⊢;rw[zc (zo (Zi _ h1)),zc (zo (Zi false h2)),zc (zo (Zi _ h3)),zi]
   ·rfl
   ·show zb 2 _ _ (en2 _ x)=_;rw[zw,v0,bOk,v1,bOk,hs]
  cases hr with
  | @sum d a b ha hb=>exact fin (.sum a b) "sum" _ rfl (by decide) (by decide) (by decide) trivial
  | @size d a b ha hb=>exact fin _ "size" _ rfl (by decide) (by decide) (by decide) trivial
  | @word d w hw=>exact fin _ _ _ rfl (by decide) (by decide) (by decide) trivial
  | rising=>exact fin .rising _ _ rfl (by decide) (by decide) (by decide) trivial
  | unlike=>exact fin .unlike _ _ rfl (by decide) (by decide) (by decide) trivial
  | @no d r hr=>
   have ih:=jG he hx n d (by omega) r hr
   rw[Ru.t,zz]
   ·rfl
   ·exact zi (Xz (by show zb 2 _ _ (en2 _ x)=_;rw[zw,jr,bOk,v1,bOk,ih]))
  | @all d r s hr hs=>
   have ih:=jG he hx n d (by omega) r hr
   have ih' :=jG he hx n d (by omega) s hs
   rw[Ru.t,zc (zo (Zi _ (by decide))),zz]
   ·rfl
   ·exact zi (XA (by show zb 2 _ _ (en2 _ x)=_;rw[zw,jr,bOk,v1,bOk,ih]) (by show zb 2 _ _ (en2 _ x)=_;rw[zw,W1,bOk,v1,bOk,ih']))
  | @some d r s hr hs=>
   have ih:=jG he hx n d (by omega) r hr
   have ih' :=jG he hx n d (by omega) s hs
   rw[Ru.t,zc (zo (Zi _ (by decide))),zc (zo (Zi _ (by decide))),zz]
   ·rfl
   ·exact zi (Gu (by show zb 2 _ _ (en2 _ x)=_;rw[zw,jr,bOk,v1,bOk,ih]) (by show zb 2 _ _ (en2 _ x)=_;rw[zw,W1,bOk,v1,bOk,ih']))
theorem Gv {f:T->T->Option Bool}:∀xs ys:List T,(∀x∈xs,∀y∈ys,∃b,f x y=some b/\(b=true↔x=y))->∃b,eqL f xs ys=some b/\(b=true↔xs=ys)
 | [],[],_=>⟨true,rfl,by simp⟩
 | [],y :: ys,_=>⟨false,rfl,by simp⟩
 | x :: xs,[],_=>⟨false,rfl,by simp⟩
 | x :: xs,y :: ys,H=>by
  obtain⟨b,e,h⟩:=H x ab y ab;obtain⟨c,e',h'⟩:=Gv xs ys λu hu v hv=>H u (a9 _ hu) v (a9 _ hv);have e0:eqL f (x :: xs) (y :: ys)=match f x y with
   | none=>none
   | some b=>match eqL f xs ys with
    | none=>none
    | some c=>some (b && c):=rfl
  refine⟨b && c,by rw[e0,e,e'], ?_⟩
  rw[ah,h,h',lz]
theorem z24:∀(n d e:Nat) (x y:T),d<=n->W d x->W e y->∃b,eqF n x y=some b/\(b=true↔x=y):=by
 intro n d e x y hn hx
 induction hx generalizing n e y with
 | int d i=>
  intro hy;cases hy with
  | int e j=>exact⟨i == j,by cases n <;> rfl,by rw[beq_iff_eq,T.int.injEq]⟩
  | str e j=>exact⟨false,by cases n <;> rfl,by simp⟩
  | tup h r=>exact⟨false,by cases n <;> rfl,by simp⟩
 | str d i=>
  intro hy;cases hy with
  | int e j=>exact⟨false,by cases n <;> rfl,by simp⟩
  | str e j=>exact⟨i == j,by cases n <;> rfl,by rw[beq_iff_eq,T.str.injEq]⟩
  | tup h r=>exact⟨false,by cases n <;> rfl,by simp⟩
 | @tup d xs h r ih=>
  intro hy;obtain⟨n,rfl⟩:∃m,n=m+1:=⟨n - 1,by omega⟩
  cases hy with
  | int e j=>exact⟨false,rfl,by simp⟩
  | str e j=>exact⟨false,rfl,by simp⟩
  | @tup e ys h' r' =>
   obtain⟨b,e1,h1⟩:=Gv (f:=eqF n) xs ys λu hu v hv=>ih u hu n e v (by omega) (r' v hv)
   exact⟨b,e1,by rw[h1,T.tup.injEq]⟩
theorem qv {x:T}(hx:W 2 x):∀ys:List T,(∀y∈ys,W 2 y)->∃b,jI (λy=>eqF 30 y x) ys=some b/\(b=true↔x∈ys)
 | [],_=>⟨false,rfl,by simp⟩
 | y :: ys,H=>by
  obtain⟨b,e,h⟩:=z24 30 2 2 y x (by omega) (H y ab) hx
  obtain⟨c,e',h'⟩:=qv hx ys λv hv=>H v (a9 _ hv);have e0:jI (λy=>eqF 30 y x) (y :: ys)=match eqF 30 y x with
   | none=>none
   | some b=>match jI (λy=>eqF 30 y x) ys with
    | none=>none
    | some d=>some (b || d):=rfl
  refine⟨b || c,by rw[e0,e,e'], ?_⟩
  rw[dC,h,h',ao];exact⟨λq=>q.elim (λz=> .inl z.symm) .inr,λq=>q.elim (λz=> .inl z.symm) .inr⟩
theorem z25 {x:T}(hx:W 2 x){ys:List T}(hy:∀y∈ys,W 2 y){b:Bool}(h:b=true↔x∈ys):uF x (.lst ys)= .ok (!b):=by
 obtain⟨c,e,h'⟩:=qv hx ys hy;have hc:c=b:=by rw[dD,h,h']
 subst hc;show ((match jI (λy=>eqF 30 y x) ys with | some b=>R.ok b | none=> .bad).bind λb=>R.ok (!b))=_
 rw[e];rfl
theorem um {k:Kd}(hk:k.Ok 3){x:T}(hx:x∈k.all):W 2 x:=z0p 2 k x hk ((Zm k x).mp hx)
theorem wg {x:T}(hx:W 2 x){r:Ru}(hr:jc 3 r):f_b 8 [r.t,x]= .ok (.bl (kp r x)):=jG (by omega) hx 8 3 (by omega) r hr
noncomputable def frT (q:Rat):T:= .tup [.int q.num,.int q.den]
theorem Gw {b:Nat}:neC (.int (b:Int)) (.int 0)= .ok (!(b == 0)):=by
 show R.ok (!((b:Int) == 0))=_;congr 2
 cases b with
 | zero=>rfl
 | succ n=>
  rw[show ((n+1 == 0)=false) from rfl,beq_eq_false_iff_ne];omega
theorem vG {g:En->R Bool}{fb:En->RS}{n:Nat}{ρ ρ' :En}(h:g ρ= .ok true)(hb:fb ρ= .nx ρ'):Zk g fb (n+1) ρ=Zk g fb n ρ' :=by
 show (g ρ).s _=_;rw[h,Zt,if_pos rfl,hb]
theorem qw {g:En->R Bool}{fb:En->RS}{n:Nat}{ρ:En}(h:g ρ= .ok false):Zk g fb (n+1) ρ= .nx ρ:=by
 show (g ρ).s _=_;rw[h,Zt,if_neg az]
theorem modn {a b:Nat}(h:1<=b):JJ (.int (a:Int)) (.int (b:Int))= .ok (.int ((a % b:Nat):Int)):=Vu h
abbrev gdB:En->RS:=zn (zI 2 (zd JJ (vE 0) (vE 1))) (zn (zI 0 (vE 1)) (zI 1 (vE 2)))
theorem qx:∀(n b a:Nat) (x:Sl),b < n->∃x',Zk (zx neC (vB 1) (cE (.int 0))) gdB n [.vl (.int (a:Int)),.vl (.int (b:Int)),x]= .nx [.vl (.int ((fI a b:Nat):Int)),.vl (.int 0),x']
 | 0,b,a,x,h=>by omega
 | n+1,0,a,x,h=>⟨x,by
  rw[qw (show zx neC (vB 1) (cE (.int 0)) [.vl (.int (a:Int)),.vl (.int ((0:Nat):Int)),x]= .ok false from Gw),Nat.gcd_zero_right];rfl⟩
 | n+1,b+1,a,x,h=>by
  have e:gdB [.vl (.int (a:Int)),.vl (.int ((b+1:Nat):Int)),x]= .nx [.vl (.int ((b+1:Nat):Int)),.vl (.int ((a % (b+1):Nat):Int)),.vl (.int ((a % (b+1):Nat):Int))]:=by
   have e1:zI 2 (zd JJ (vE 0) (vE 1)) [.vl (.int (a:Int)),.vl (.int ((b+1:Nat):Int)),x]= .nx [.vl (.int (a:Int)),.vl (.int ((b+1:Nat):Int)),.vl (.int ((a % (b+1):Nat):Int))]:=by
    rw[zJ (t:= .int ((a % (b+1):Nat):Int))]
    ·rfl
    ·rw[zk,v0,bOk,v1,bOk,modn (by omega)]
   show zn _ _ _=_;rw[zc e1];rfl
  have hlt:a % (b+1) < n:=by have:=Nat.mod_lt a (show b+1 > 0 by omega);omega
  obtain⟨x',hx⟩:=qx n (a % (b+1)) (b+1) (.vl (.int ((a % (b+1):Nat):Int))) hlt;refine⟨x', ?_⟩;rw[vG (show zx neC (vB 1) (cE (.int 0)) [.vl (.int (a:Int)),.vl (.int ((b+1:Nat):Int)),x]= .ok true from Gw) e,hx,iX (b+1),← Nat.gcd_rec,iX]
theorem XB {a b:Nat}(h:b < 2 ^ 9000):gN [.int (a:Int),.int (b:Int)]= .ok (.int ((fI a b:Nat):Int)):=by
 obtain⟨x',hx⟩:=qx (2 ^ 9000) b a .un h;show zh (z0e [.vl (.int (a:Int)),.vl (.int (b:Int)),.un])=_;unfold z0e;rw[zc hx];rfl
theorem Gx (u:Int):GU (.int u)= .ok (.int (u.natAbs:Int)):=by
 show R.ok (T.int (if u < 0 then -u else u))=_
 congr 2
 split <;> omega
theorem VA {u:Int}{g:Nat}(h0:1<=g)(h:g < 2 ^ 9000):k3 (.int u) (.int (g:Int))= .ok (.int (u / (g:Int))):=by
 show (if _ then _ else _)=_
 rw[if_pos];refine⟨by omega, ?_⟩
 rw[dF];exact(Nat.log2_lt (by omega)).mpr h
theorem z26 (u:Int)(d:Nat)(h:1<=d):(mkRat u d).num=u / ((fI u.natAbs d:Nat):Int)/\(((mkRat u d).den:Nat):Int)=(d:Int) / ((fI u.natAbs d:Nat):Int):=by
 rw[fO,fP,if_neg (by omega),if_neg (by omega),iX d]
 exact⟨rfl,Int.natCast_ediv _ _⟩
theorem XD {u:Int}{d:Nat}(h:1<=d):1<=fI u.natAbs d/\fI u.natAbs d<=d:=⟨Nat.gcd_pos_of_pos_right _ h,Nat.gcd_le_right _ h⟩
theorem jb {u:Int}{d:Nat}(h:1<=d)(hd:d < 2 ^ 9000):f_p [.int u,.int (d:Int)]= .ok (frT (mkRat u d)):=by
 obtain⟨g1,g2⟩:=XD (u:=u) h;have hg:fI u.natAbs d < 2 ^ 9000:=bh g2 hd;obtain⟨m1,m2⟩:=z26 u d h;show zh (b_p gN [.vl (.int u),.vl (.int (d:Int)),.un])=_;unfold b_p;have e1:zI 2 (zb 2 gN (za (ap1 GU (vB 0)) (za (vE 1) (ze)))) [.vl (.int u),.vl (.int (d:Int)),.un]= .nx [.vl (.int u),.vl (.int (d:Int)),.vl (.int ((fI u.natAbs d:Nat):Int))]:=by
  rw[zJ (t:= .int ((fI u.natAbs d:Nat):Int))]
  ·rfl
  ·rw[zw,Ze,w0,bOk,Gx,bOk,v1,bOk,XB hd]
 rw[zc e1,zi (t:=frT (mkRat u d))]
 ·rfl
 ·unfold frT;rw[m1,m2];exact WZ (VA g1 hg) (VA g1 hg)
structure Bd (q:Rat) (m:Nat):Prop where
 num:q.num.natAbs<=2 ^ m
 den:q.den<=2 ^ m
theorem Bd.le {q:Rat}{m n:Nat}(h:Bd q m)(hm:m<=n):Bd q n:=⟨ar h.num (bW (by decide) hm),ar h.den (bW (by decide) hm)⟩
theorem Bd.mk' {u:Int}{d m:Nat}(h:1<=d)(h1:u.natAbs<=2 ^ m)(h2:d<=2 ^ m):Bd (mkRat u d) m:=by
 constructor
 ·rw[fO,if_neg (by omega),Int.natAbs_ediv_of_dvd]
  ·exact ar (lE _ _) h1
  ·exact Int.natAbs_dvd_natAbs.mp (by simpa using Nat.gcd_dvd_right d u.natAbs)
 ·rw[fP,if_neg (by omega)]
  exact ar (lE _ _) h2
theorem VB (q:Rat):1<=q.den:=Nat.pos_of_ne_zero q.den_nz
theorem Bd.mul {p q:Rat}{m n:Nat}(h:Bd p m)(k:Bd q n):Bd (p*q) (m+n):=by
 rw[Rat.mul_def'];refine Bd.mk' (cO (VB p) (VB q)) ?_ ?_
 ·rw[ic,eU];exact bf h.num k.num
 ·rw[eU];exact bf h.den k.den
theorem XF {p q:Rat}{m n:Nat}(h:Bd p m)(k:Bd q n):(p.num*(q.den:Int)+q.num*(p.den:Int)).natAbs<=2 ^ (m+n+1):=by
 refine ar (Int.natAbs_add_le _ _) ?_;rw[ic,ic,dF,dF];have e1:=bf h.num k.den;have e2:=bf k.num h.den;rw[hU,eU];have e3:2 ^ n*2 ^ m=2 ^ m*2 ^ n:=cR _ _;omega
theorem Bd.add {p q:Rat}{m n:Nat}(h:Bd p m)(k:Bd q n):Bd (p+q) (m+n+1):=by
 rw[Rat.add_def'];refine Bd.mk' (cO (VB p) (VB q)) (XF h k) ?_;refine ar (bf h.den k.den) ?_;rw[← eU];exact bW (by decide) (by omega)
theorem lt9 {n m:Nat}(h:n<=2 ^ m)(hm:m < 9000):n < 2 ^ 9000:=bh h (ie (by decide) hm)
theorem ltb {n m:Nat}(h:n<=2 ^ m)(hm:m < 8000):n < big:=by
 unfold big;exact bh h (ie (by decide) hm)
theorem z27 {i j:Int}{m n:Nat}(h:i.natAbs<=2 ^ m)(k:j.natAbs<=2 ^ n)(hm:m < 8000)(hn:n < 8000):mlT (.int i) (.int j)= .ok (.int (i*j)):=by
 show (if _ then _ else _)=_
 rw[if_pos ⟨ltb h hm,ltb k hn⟩]
theorem nd (d:Nat){m:Nat}(h:d<=2 ^ m):((d:Int)).natAbs<=2 ^ m:=by rw[dF];exact h
theorem ix0 {i:Nat}{a b:T}{ρ:En}(h:vE i ρ= .ok (.tup [a,b])):zd ixT (vE i) (cE (.int 0)) ρ= .ok a:=by rw[zk,h,bOk,Z3,bOk,at0]
theorem ix1 {i:Nat}{a b:T}{ρ:En}(h:vE i ρ= .ok (.tup [a,b])):zd ixT (vE i) (cE (.int 1)) ρ= .ok b:=by rw[zk,h,bOk,Z3,bOk,at1]
theorem qy {f g:En->R T}{ρ:En}{i j:Int}{m n:Nat}(hf:f ρ= .ok (.int i))(hg:g ρ= .ok (.int j))(h:i.natAbs<=2 ^ m)(k:j.natAbs<=2 ^ n)(hm:m < 8000)(hn:n < 8000):zd mlT f g ρ= .ok (.int (i*j)):=by
 rw[zk,hf,bOk,hg,bOk,z27 h k hm hn]
theorem z28 {f g:En->R T}{ρ:En}{i j:Int}(hf:f ρ= .ok (.int i))(hg:g ρ= .ok (.int j)):zd zy f g ρ= .ok (.int (i+j)):=by
 rw[zk,hf,bOk,hg,bOk,Z4]
theorem Uf {p q:Rat}{m n:Nat}(h:Bd p m)(k:Bd q n)(hm:m+n < 8000):f_s [frT p,frT q]= .ok (frT (p*q)):=by
 show zh (b_s f_p [.vl (frT p),.vl (frT q)])=_;unfold b_s;rw[zi (t:=frT (p*q))]
 ·rfl
 ·rw[zw];have e0:vE 0 (frz [.vl (frT p),.vl (frT q)])= .ok (.tup [.int p.num,.int p.den]):=rfl;have e1:vE 1 (frz [.vl (frT p),.vl (frT q)])= .ok (.tup [.int q.num,.int q.den]):=rfl;rw[qy (ix0 e0) (ix0 e1) h.num k.num (by omega) (by omega),bOk,qy (ix1 e0) (ix1 e1) (nd _ h.den) (nd _ k.den) (by omega) (by omega),bOk,← eW,
   jb (cO (VB p) (VB q)) (lt9 (m:=m+n) (by rw[eU];exact bf h.den k.den) (by omega)),← Rat.mul_def']
theorem XG {p q:Rat}{m n:Nat}(h:Bd p m)(k:Bd q n)(hm:m+n < 8000):gO [frT p,frT q]= .ok (frT (p+q)):=by
 show zh (z0f f_p [.vl (frT p),.vl (frT q)])=_;unfold z0f;rw[zi (t:=frT (p+q))]
 ·rfl
 ·rw[zw];have e0:vE 0 (frz [.vl (frT p),.vl (frT q)])= .ok (.tup [.int p.num,.int p.den]):=rfl;have e1:vE 1 (frz [.vl (frT p),.vl (frT q)])= .ok (.tup [.int q.num,.int q.den]):=rfl;rw[z28 (qy (ix0 e0) (ix1 e1) h.num (nd _ k.den) (by omega) (by omega)) (qy (ix0 e1) (ix1 e0) k.num (nd _ h.den) (by omega) (by omega)),bOk,qy (ix1 e0) (ix1 e1) (nd _ h.den) (nd _ k.den) (by omega) (by omega),bOk,← eW,
   jb (cO (VB p) (VB q)) (lt9 (m:=m+n) (by rw[eU];exact bf h.den k.den) (by omega)),← Rat.add_def']
noncomputable def Jc:List Rat->Rat
 | []=>0
 | q :: r=>q+Jc r
abbrev tgB:En->RS:=zI 1 (zb 2 gO (za (vE 1) (za (vE 2) (ze))))
theorem qz {s:Sl}{m:Nat}:∀(qs:List Rat) (p:Rat) (n:Nat) (x:Sl),(∀q∈qs,Bd q m)->Bd p n->n+qs.length*(m+1) < 8000->
  ∃x',Zj (zC 2) tgB (qs.map frT) [s,.vl (frT p),x]= .nx [s,.vl (frT (p+Jc qs)),x']
 | [],p,n,x,_,_,_=>⟨x,by rw[Jc,Rat.add_zero];rfl⟩
 | q :: r,p,n,x,hq,hp,hl=>by
  rw[ay,eR]at hl;have kq:=hq q ab;obtain⟨x',e⟩:=qz r (p+q) (n+m+1) (.vl (frT q)) (λa ha=>hq a (a9 _ ha)) (hp.add kq) (by omega)
  refine⟨x', ?_⟩;rw[aq,jt (setg 2 _ _) (ρ2:=[s,.vl (frT (p+q)),.vl (frT q)]),e,Jc,io];show zI 1 _ [s,.vl (frT p),.vl (frT q)]=_;rw[zJ (t:=frT (p+q))]
  ·rfl
  ·rw[zw,v1,bOk,show vE 2 [s,.vl (frT p),.vl (frT q)]= .ok (frT q) from rfl,bOk,XG hp kq (by omega)]
theorem bd0:Bd 0 0:=⟨by decide,by decide⟩
theorem bd1:Bd 1 0:=⟨by decide,by decide⟩
theorem uo {qs:List Rat}{m:Nat}(h:∀q∈qs,Bd q m)(hl:qs.length*(m+1) < 8000):f_7 [.lst (qs.map frT)]= .ok (frT (Jc qs)):=by
 show zh (b_7 gO [.vl (.lst (qs.map frT)),.un,.un])=_;unfold b_7;have e1:zI 1 (Z1 (za (cE (.int 0)) (za (cE (.int 1)) (ze)))) [.vl (.lst (qs.map frT)),.un,.un]= .nx [.vl (.lst (qs.map frT)),.vl (frT 0),.un]:=by
  rw[zJ (WZ rfl rfl)];rfl
 obtain⟨x',e⟩:=qz (s:= .vl (.lst (qs.map frT))) qs 0 0 .un h bd0 (by omega)
 have e2:j3 (ZB (vE 0)) (zC 2) tgB [.vl (.lst (qs.map frT)),.vl (frT 0),.un]= .nx [.vl (.lst (qs.map frT)),.vl (frT (Jc qs)),x']:=by
  rw[Rat.zero_add]at e;exact e
 rw[zc e1,zc e2];rfl
noncomputable def zZ:List Rat->Rat
 | []=>1
 | q :: r=>q*zZ r
noncomputable def u3 (cs:List (Str×Int)):Int:=(cs.map (·.2)).sum
mutual
noncomputable def Kd.sh:Kd->T->Rat
 | .whole lo hi=>λ_=>mkRat 1 (hi+1 - lo).toNat
 | .pick cs=>λt=>match t with | .str x=>mkRat ((cs.lookup x).getD 0) (u3 cs).toNat | _=>0
 | .row ks=>λt=>match t with | .tup xs=>Kd.shs ks xs | _=>0
 | .many k lo hi=>λt=>match t with | .tup xs=>mkRat 1 (hi+1 - lo)*zZ (xs.map k.sh) | _=>0
noncomputable def Kd.shs:List Kd->List T->Rat
 | []=>λ_=>1
 | k :: ks=>λxs=>match xs with | []=>1 | x :: xs=>k.sh x*Kd.shs ks xs
end
theorem wT:∀(ks:List Kd) (xs:List T),Kd.shs ks xs=zZ ((ks.zip xs).map λq=>q.1.sh q.2)
 | [],_=>by simp[Kd.shs,zZ]
 | k :: ks,[]=>by simp[Kd.shs,zZ]
 | k :: ks,x :: xs=>by simp[Kd.shs,zZ,wT ks xs]
theorem qA (k:Kd):∀xs:List T,((ai xs.length k).zip xs).map (λq=>q.1.sh q.2)=xs.map k.sh
 | []=>rfl
 | x :: xs=>by rw[ay,bA,fA,aq,aq,qA k xs]
theorem Bd.prod {m:Nat}:∀{qs:List Rat},(∀q∈qs,Bd q m)->Bd (zZ qs) (qs.length*m)
 | [],_=>by rw[zZ];exact bd1.le (aZ _)
 | q :: r,h=>by
  rw[zZ,ay,eR,c9,iJ];exact(h q ab).mul (Bd.prod λa ha=>h a (a9 _ ha))
theorem qB:∀cs:List (Str×Int),jA (cs.map jO)=some cs
 | []=>rfl
 | c :: cs=>by
  show (match jA (cs.map jO) with | some l=>some ((c.1,c.2) :: l) | none=>none)=_
  rw[qB cs]
theorem Dst.nd {ws:List Str}(h:Dst ws):ws.Nodup:=by
 rw[List.Nodup,bN];intro i j hi hj hij e;refine h j _ (aj hj) ?_;rw[← e];rw[dv];exact⟨i,by omega,rfl⟩
theorem wj:∀(cs:List (Str×Int)) (x:Str),(cs.any λc=>c.1 == x)=true->∃i,cs.lookup x=some i/\(x,i)∈cs
 | [],x,h=>by simp at h
 | c :: cs,x,h=>by
  rw[eJ,dC]at h
  by_cases e:c.1=x
  ·refine⟨c.2, ?_, ?_⟩
   ·rw[aO];simp[e]
   ·rw[← e];exact ab
  ·have h:(cs.any λc=>c.1 == x)=true:=h.resolve_left (by simp[e])
   obtain⟨i,h1,h2⟩:=wj cs x h;refine⟨i, ?_,a9 _ h2⟩;rw[aO];have:(x == c.1)=false:=beq_eq_false_iff_ne.mpr (b8 e);rw[this];exact h1
theorem VC:∀{cs:List (Str×Int)},(∀c∈cs,1<=c.2/\c.2<=20)->(cs.length:Int)<=u3 cs/\u3 cs<=20*cs.length
 | [],_=>by simp[u3]
 | c :: cs,h=>by
  have ih:=VC (cs:=cs) λa ha=>h a (a9 _ ha);have h0:=h c ab;have e:u3 (c :: cs)=c.2+u3 cs:=by simp[u3]
  rw[e,ay];omega
theorem VD {d:Nat}{cs:List (Str×Int)}(h:(Kd.pick cs).Ok (d+1)):1<=u3 cs/\u3 cs<=80/\∀c∈cs,1<=c.2/\c.2<=20:=by
 have hb:∀c∈cs,1<=c.2/\c.2<=20:=λc hc=>(h.2.2.1 c hc).2;have:=VC hb;have h1:=h.1;have h2:=h.2.1;exact⟨by omega,by omega,hb⟩
theorem wU (cs:List (Str×Int))(x:Str):(Kd.pick cs).sh (.str x)=mkRat ((cs.lookup x).getD 0) (u3 cs).toNat:=by rw[Kd.sh]
theorem Gy {cs:List (Str×Int)}(hd:Dst (cs.map (·.1))){x:Str}{i:Int}(h:cs.lookup x=some i):Yb (.tup (cs.map jO)) (.str x)= .ok (.int i):=by
 unfold Yb;dsimp only;rw[qB];dsimp only;rw[if_pos hd.nd,h]
theorem XH {cs:List (Str×Int)}(hd:Dst (cs.map (·.1))):Wq (.tup (cs.map jO))= .ok (.int (u3 cs)):=by
 unfold Wq;dsimp only;rw[qB];dsimp only;rw[if_pos hd.nd];rfl
theorem vH {d:Nat}{cs:List (Str×Int)}(h:(Kd.pick cs).Ok (d+1)){x:Str}{i:Int}(hx:cs.lookup x=some i):z0h [(Kd.pick cs).t,.str x]= .ok (frT ((Kd.pick cs).sh (.str x))):=by
 obtain⟨w1',w2',_⟩:=VD h;show zh (z0g f_p [.vl (Kd.pick cs).t,.vl (.str x),.un])=_;unfold z0g;have e1:zd ixT (vE 0) (cE (.int 1)) [.vl (Kd.pick cs).t,.vl (.str x),.un]= .ok (.tup (cs.map jO)):=by rw[Kd.t];exact jr
 have en:u3 cs=(((u3 cs).toNat:Nat):Int):=by omega
 show zh ((R.bind _ _).s _)=_;rw[e1,bOk,v1,bOk,Gy h.2.2.2 hx,bOk,XH h.2.2.2,bOk,en,jb (by omega) (lt9 (m:=7) (by omega) (by decide)),Zt,wU,hx]
 rfl
abbrev spB (c:List T->R T):En->RS:=zI 2 (zb 2 f_s (za (vE 2) (za (zb 2 c (za (vE 3) (za (vE 4) (ze)))) (ze))))
theorem qC {c:List T->R T}{s t:Sl}{m:Nat}:∀(qs:List (Kd×T)) (p:Rat) (n:Nat) (x y:Sl),(∀q∈qs,c [q.1.t,q.2]= .ok (frT (q.1.sh q.2))/\Bd (q.1.sh q.2) m)->Bd p n->n+qs.length*m < 8000->
  ∃x' y',Zj (zK 3 4) (spB c) (qs.map λq=>T.tup [q.1.t,q.2]) [s,t,.vl (frT p),x,y]= .nx [s,t,.vl (frT (p*zZ (qs.map λq=>q.1.sh q.2))),x',y']
 | [],p,n,x,y,_,_,_=>⟨x,y,by simp only[bR,zZ,Rat.mul_one];rfl⟩
 | q :: r,p,n,x,y,h,hp,hl=>by
  rw[ay,eR]at hl;obtain⟨k1,k2⟩:=h q ab;obtain⟨x',y',e⟩:=qC r (p*q.1.sh q.2) (n+m) (.vl q.1.t) (.vl q.2) (λa ha=>h a (a9 _ ha)) (hp.mul k2) (by omega)
  refine⟨x',y', ?_⟩;rw[aq,aq,jt (ρ1:=[s,t,.vl (frT p),.vl q.1.t,.vl q.2]) (ρ2:=[s,t,.vl (frT (p*q.1.sh q.2)),.vl q.1.t,.vl q.2]) rfl,e,zZ,Rat.mul_assoc];show zI 2 _ [s,t,.vl (frT p),.vl q.1.t,.vl q.2]=_;rw[zJ (t:=frT (p*q.1.sh q.2))]
  ·rfl
  ·rw[zw,show vE 2 [s,t,.vl (frT p),.vl q.1.t,.vl q.2]= .ok (frT p) from rfl,bOk,zw,show vE 3 [s,t,.vl (frT p),.vl q.1.t,.vl q.2]= .ok q.1.t from rfl,bOk,show vE 4 [s,t,.vl (frT p),.vl q.1.t,.vl q.2]= .ok q.2 from rfl,bOk,k1,bOk,Uf hp k2 (by omega)]
theorem WQ {c:List T->R T}{s:T}{m:Nat}(ks:List Kd)(xs:List T)(hs:jz s= .ok (ks.map Kd.t))(hl:ks.length<=3)(hm:m<=1000)(H:∀q∈ks.zip xs,c [q.1.t,q.2]= .ok (frT (q.1.sh q.2))/\Bd (q.1.sh q.2) m):
  zh (gP f_s c (en0 5 [s,.tup xs]))= .ok (frT (zZ ((ks.zip xs).map λq=>q.1.sh q.2))):=by
 have e:en0 5 [s,.tup xs]=[.vl s,.vl (.tup xs),.un,.un,.un]:=rfl;have hz:(ks.zip xs).length*m < 8000:=by
  have h1:(ks.zip xs).length<=3:=by rw[eY];omega
  have:=bf h1 hm;omega
 obtain⟨x',y',el⟩:=qC (c:=c) (s:= .vl s) (t:= .vl (.tup xs)) (ks.zip xs) 1 0 .un .un H bd1 (by omega)
 have e1:zI 2 (Z1 (za (cE (.int 1)) (za (cE (.int 1)) (ze)))) [.vl s,.vl (.tup xs),.un,.un,.un]= .nx [.vl s,.vl (.tup xs),.vl (frT 1),.un,.un]:=by
  rw[zJ (WZ rfl rfl)];rfl
 have ez:Q8 (vE 0) (vE 1) [.vl s,.vl (.tup xs),.vl (frT 1),.un,.un]= .ok ((ks.zip xs).map λq=>T.tup [q.1.t,q.2]):=by
  show (jz s).bind _=_;rw[hs,bOk,← Ge];rfl
 have e2:j3 (Q8 (vE 0) (vE 1)) (zK 3 4) (spB c) [.vl s,.vl (.tup xs),.vl (frT 1),.un,.un]= .nx [.vl s,.vl (.tup xs),.vl (frT (zZ ((ks.zip xs).map λq=>q.1.sh q.2))),x',y']:=by
  unfold j3;rw[ez,Zt,el,Rat.one_mul]
 rw[e,gP,zc e1,zc e2];rfl
noncomputable def sb:Nat->Nat
 | 0=>0
 | d+1=>7+3*sb d
theorem z0q (d:Nat):sb (d+1)=7+3*sb d:=rfl
abbrev qD (a b:T):En:=[.vl a,.vl b,.un]
theorem k9 {x w:Str}{r:List T}{b:T}(h:(x == w)=false){f:En->RS}:ifS (zx eqC (zd ixT (vE 0) (cE (.int 0))) (cE (.str w))) f nxS (qD (.tup (.str x :: r)) b)= .nx (qD (.tup (.str x :: r)) b):=
 zo (by rw[show zx eqC (zd ixT (vE 0) (cE (.int 0))) (cE (.str w)) (qD (.tup (.str x :: r)) b)= .ok (x == w) from cs0,h])
theorem z29 {x:Str}{r:List T}{b:T}{f:En->RS}:ifS (zx eqC (zd ixT (vE 0) (cE (.int 0))) (cE (.str x))) f nxS (qD (.tup (.str x :: r)) b)=f (qD (.tup (.str x :: r)) b):=
 u0 (by rw[show zx eqC (zd ixT (vE 0) (cE (.int 0))) (cE (.str x)) (qD (.tup (.str x :: r)) b)= .ok (x == x) from cs0,beq_self_eq_true])
theorem Ug:∀(d n:Nat),2*d<=n->d<=3->∀(k:Kd) (x:T),k.Ok d->k.has x=true->S_c n 0 [k.t,x]= .ok (frT (k.sh x))/\Bd (k.sh x) (sb d)
 | 0,_,_,_,_,_,h,_=>h.elim
 | d+1,n+2,hn,hd3,k,x,h,hx=>by
  have ih:=Ug d n (by omega) (by omega)
  have hsb:sb d<=1000:=by
   have h2:d<=2:=by omega
   rcases(show d=0\/d=1\/d=2 by omega) with rfl | rfl | rfl <;> decide
  have e:S_c (n+2) 0 [k.t,x]=zh (b_c (f_1 20) f_s z0h (S_c (n+1) 1) (qD k.t x)):=by rw[S_c];rfl
  have e1:∀s y,S_c (n+1) 1 [s,y]=zh (gP f_s (S_c n 0) (en0 5 [s,y])):=λs y=>by rw[S_c];intro h;cases h
  rw[e];cases k with
  | whole lo hi=>
   obtain⟨a1,a2,a3⟩:=h;have hc:=ZX (d:=1) (by omega) (U3 d lo hi ⟨a1,a2,a3⟩)
   rw[ZP]at hc;constructor
   ·rw[show (Kd.whole lo hi).t= .tup [.str "whole",.int lo,.int hi] from by rw[Kd.t]]at hc ⊢
    rw[b_c,zz (t:=frT (mkRat 1 (hi+1 - lo).toNat)),Kd.sh]
    ·rfl
    ·rw[z29,zi (t:=frT (mkRat 1 (hi+1 - lo).toNat))];show Z1 _ (qD _ x)=_;have ez:frT (mkRat 1 (hi+1 - lo).toNat)= .tup [.int 1,.int (((hi+1 - lo).toNat:Nat):Int)]:=by
      unfold frT;rw[fO,fP,if_neg (by omega),if_neg (by omega),show (1:Int).natAbs=1 from rfl,iY,Nat.div_one]
      rfl
     rw[ez];exact WZ rfl (by rw[zA,v0,bOk,hc])
   ·rw[Kd.sh];refine(Bd.mk' (m:=7) (by omega) (by decide) (by omega)).le ?_
    rw[z0q];omega
  | pick cs=>
   cases x with
   | str y=>
    have hx' :(cs.any λc=>c.1 == y)=true:=by rw[Kd.has]at hx;exact hx
    obtain⟨i,hi,hm⟩:=wj cs y hx';obtain⟨w1',w2',w3'⟩:=VD h;have hw:=w3' _ hm;constructor
    ·have hs:=vH h hi;rw[show (Kd.pick cs).t= .tup [.str "pick",.tup (cs.map jO)] from by rw[Kd.t]]at hs ⊢
     rw[b_c,zc (k9 (by decide)),zz (t:=frT ((Kd.pick cs).sh (.str y)))]
     ·rfl
     ·rw[z29,zi (t:=frT ((Kd.pick cs).sh (.str y)))];show zb 2 _ _ (qD _ _)=_;rw[zw,v0,bOk,v1,bOk,hs]
    ·rw[wU,hi];refine(Bd.mk' (m:=7) (by omega) ?_ (by omega)).le ?_
     ·show i.natAbs<=128;omega
     ·rw[z0q];omega
   | _=>rw[Kd.has]at hx;cases hx
  | row ks=>
   cases x with
   | tup xs=>
    have hx' :(xs.length == ks.length && Kd.hass ks xs)=true:=by rw[Kd.has]at hx;exact hx
    rw[ah,beq_iff_eq,J8,aH]at hx';have H:∀q∈ks.zip xs,S_c n 0 [q.1.t,q.2]= .ok (frT (q.1.sh q.2))/\Bd (q.1.sh q.2) (sb d):=λq hq=>ih q.1 q.2 (h.2.2 q.1 (bY hq).1) (hx'.2 q hq);have hp:=WQ (s:= .tup (ks.map Kd.t)) ks xs rfl h.2.1 hsb H;have es:(Kd.row ks).sh (.tup xs)=zZ ((ks.zip xs).map λq=>q.1.sh q.2):=by rw[Kd.sh,← wT]
    rw[es];constructor
    ·rw[show (Kd.row ks).t= .tup [.str "row",.tup (ks.map Kd.t)] from by rw[Kd.t,Kd.ts_map]]
     rw[b_c,zc (k9 (by decide)),zc (k9 (by decide)),zz (t:=frT (zZ ((ks.zip xs).map λq=>q.1.sh q.2)))]
     ·rfl
     ·rw[z29,zi (t:=frT (zZ ((ks.zip xs).map λq=>q.1.sh q.2)))];show zb 2 _ _ (qD _ _)=_;rw[zw,jr,bOk,v1,bOk,e1,hp]
    ·have hb:=Bd.prod (qs:=(ks.zip xs).map λq=>q.1.sh q.2) (m:=sb d) (λq hq=>by
      obtain⟨a,ha,rfl⟩:=av.mp hq;exact(H a ha).2)
     refine hb.le ?_;have h3:=h.2.1;have hz:((ks.zip xs).map λq=>q.1.sh q.2).length<=3:=by rw[ae,eY];omega
     have:=eS (sb d) hz;rw[z0q];omega
   | _=>rw[Kd.has]at hx;cases hx
  | many k lo hi=>
   cases x with
   | tup xs=>
    have hx' :(decide (lo<=xs.length) && decide (xs.length<=hi) && xs.all k.has)=true:=by rw[Kd.has]at hx;exact hx
    rw[ah,ah,decide_eq_true_eq,decide_eq_true_eq,aH]at hx';obtain⟨⟨l1,l2⟩,hx'⟩:=hx';have h1:=h.1;have h3:=h.2.1;have hx3:xs.length<=3:=by omega
    have H:∀q∈(ai xs.length k).zip xs,S_c n 0 [q.1.t,q.2]= .ok (frT (q.1.sh q.2))/\Bd (q.1.sh q.2) (sb d):=λq hq=>by
     have:=bY hq;have e:=bj this.1;refine ih q.1 q.2 ?_ ?_
     ·rw[e];exact h.2.2
     ·rw[e];exact hx' q.2 this.2
    have hp:=WQ (s:= .lst ((ai xs.length k).map Kd.t)) (ai xs.length k) xs rfl (by rw[aU];exact hx3) hsb H
    rw[qA]at hp;have es:(Kd.many k lo hi).sh (.tup xs)=mkRat 1 (hi+1 - lo)*zZ (xs.map k.sh):=by rw[Kd.sh]
    have hb:=Bd.prod (qs:=xs.map k.sh) (m:=sb d) (λq hq=>by
      rw[← qA]at hq;obtain⟨a,ha,rfl⟩:=av.mp hq;exact(H a ha).2)
    rw[ae]at hb;have hb0:Bd (mkRat 1 (hi+1 - lo)) 2:=Bd.mk' (by omega) (by decide) (by show hi+1 - lo<=4;omega)
    have hz:=eS (sb d) hx3;rw[es];constructor
    ·rw[show (Kd.many k lo hi).t= .tup [.str "many",k.t,.int (lo:Int),.int (hi:Int)] from by rw[Kd.t]]
     have em:zd zY (j4 (za (zd ixT (vE 0) (cE (.int 1))) (ze))) (ap1 Zo (vB 1)) [.vl (.tup [.str "many",k.t,.int (lo:Int),.int (hi:Int)]),.vl (.tup xs),.vl (frT (mkRat 1 (hi+1 - lo)))]= .ok (.lst ((ai xs.length k).map Kd.t)):=by
      rw[zk,G7 jr,bOk,Ze,w1,bOk,JN,bOk,WH hx3,ZZ,aX]
     have ez:frT (mkRat 1 (hi+1 - lo))= .tup [.int 1,.int ((hi:Int) - (lo:Int)+1)]:=by
      unfold frT;rw[fO,fP,if_neg (by omega),if_neg (by omega),show (1:Int).natAbs=1 from rfl,iY,Nat.div_one,show ((hi+1 - lo:Nat):Int)=(hi:Int) - (lo:Int)+1 by omega]
      rfl
     have eq:zI 2 (Z1 (za (cE (.int 1)) (za (zd zy (zd JW (zd ixT (vE 0) (cE (.int 3))) (zd ixT (vE 0) (cE (.int 2)))) (cE (.int 1))) (ze)))) (qD (.tup [.str "many",k.t,.int (lo:Int),.int (hi:Int)]) (.tup xs))= .nx [.vl (.tup [.str "many",k.t,.int (lo:Int),.int (hi:Int)]),.vl (.tup xs),.vl (frT (mkRat 1 (hi+1 - lo)))]:=by
      rw[ez,zJ (WZ rfl (y:= .int ((hi:Int) - (lo:Int)+1)) (UV (by rw[zk,Vp,bOk,W1,bOk,Zq])))]
      rfl
     rw[b_c,zc (k9 (by decide)),zc (k9 (by decide)),zc (k9 (by decide)),zc eq,zi (t:=frT (mkRat 1 (hi+1 - lo)*zZ (xs.map k.sh)))]
     ·rfl
     ·show zb 2 _ _ [.vl (.tup [.str "many",k.t,.int (lo:Int),.int (hi:Int)]),.vl (.tup xs),.vl (frT (mkRat 1 (hi+1 - lo)))]=_;rw[zw,show vE 2 [.vl (.tup [.str "many",k.t,.int (lo:Int),.int (hi:Int)]),.vl (.tup xs),.vl (frT (mkRat 1 (hi+1 - lo)))]= .ok (frT (mkRat 1 (hi+1 - lo))) from rfl,bOk,zw,em,bOk,v1,bOk,e1,hp,bOk,Uf hb0 hb (by omega)]
    ·refine(hb0.mul hb).le ?_;rw[z0q];omega
   | _=>rw[Kd.has]at hx;cases hx
theorem wk {α:Type}{f g:α->Rat}:∀{as:List α},(∀a∈as,f a=g a)->Jc (as.map f)=Jc (as.map g)
 | [],_=>rfl
 | a :: as,h=>by rw[aq,aq,Jc,Jc,h a ab,wk λb hb=>h b (a9 _ hb)]
theorem uq {lo hi:Int}{x:T}:inR lo hi x=true↔∃i,x= .int i/\lo<=i/\i<=hi:=by
 constructor
 ·intro h;obtain⟨i,rfl⟩:=YH h;simp[inR]at h;exact⟨i,rfl,h⟩
 ·rintro⟨i,rfl,h⟩
  simp[inR];exact h
theorem Jd {cs:List (Str×Int)}{x:T}:(Kd.pick cs).has x=true↔∃w,x= .str w/\w∈cs.map (·.1):=by
 have key:∀w:Str,(cs.any λc=>c.1 == w)=true↔w∈cs.map (·.1):=λw=>by
  rw[eG,av];exact⟨λ⟨c,a,b⟩=>⟨c,a,beq_iff_eq.mp b⟩,λ⟨c,a,b⟩=>⟨c,a,beq_iff_eq.mpr b⟩⟩
 constructor
 ·intro h;cases x with
  | str w=>exact⟨w,rfl,(key w).mp h⟩
  | _=>cases h
 ·rintro⟨w,rfl,h⟩
  exact(key w).mpr h
theorem XI {ws:List Str}(h:Dst ws){i j:Nat}{w:Str}(hi:ws[i]? =some w)(hj:ws[j]? =some w):i=j:=by
 have key:∀{i j:Nat},ws[i]? =some w->ws[j]? =some w->¬ i < j:=λ{i j} hi hj hl=>by
  refine h j w hj (bK (i:=i) ?_);rw[fK hl];exact hi
 have a:=key hi hj;have b:=key hj hi;omega
def Hs (ks:List Kd)(xs:List T):Prop:=xs.length=ks.length/\∀(i:Nat) (k:Kd) (x:T),ks[i]? =some k->xs[i]? =some x->k.has x=true
theorem wV {α:Type}{l:List α}{i:Nat}{a:α}(h:l[i]? =some a):a∈l:=bK h
theorem VE {ks:List Kd}{xs:List T}:(xs.length == ks.length && Kd.hass ks xs)=true↔Hs ks xs:=by
 rw[ah,beq_iff_eq,J8,aH];constructor
 ·rintro⟨h1,h2⟩
  refine⟨h1,λi k x a b=>h2 (k,x) (bK (i:=i) ?_)⟩;rw[ci];exact⟨a,b⟩
 ·rintro⟨h1,h2⟩
  refine⟨h1,λq hq=> ?_⟩;obtain⟨i,hi⟩:=df.mp hq;obtain⟨a,b⟩:=ci.mp hi;exact h2 i q.1 q.2 a b
theorem Uh {k:Kd}{xs:List T}:xs.all k.has=true↔Hs (ai xs.length k) xs:=by
 rw[aH];constructor
 ·intro h;refine⟨by simp,λi k' x a b=> ?_⟩
  obtain rfl:k=k' :=(iC.mp (wV a)).2.symm;exact h x (wV b)
 ·rintro⟨_,h⟩ x hx
  obtain⟨i,hi⟩:=df.mp hx;have hl:=(aw.mp hi).1;exact h i k x (by rw[aR,if_pos hl]) hi
theorem ur {ks:List Kd}{t:T}(h:(Kd.row ks).has t=true):∃xs,t= .tup xs/\Hs ks xs:=by
 simp only[Kd.has]at h;split at h
 ·exact⟨_,rfl,VE.mp h⟩
 ·cases h
theorem wW {k:Kd}{lo hi:Nat}{t:T}(h:(Kd.many k lo hi).has t=true):∃xs,t= .tup xs/\lo<=xs.length/\xs.length<=hi/\Hs (ai xs.length k) xs:=by
 simp only[Kd.has]at h;split at h
 ·rw[ah,ah,decide_eq_true_eq,decide_eq_true_eq]at h;exact⟨_,rfl,h.1.1,h.1.2,Uh.mp h.2⟩
 ·cases h
theorem XJ {ks:List Kd}{xs:List T}(h:Hs ks xs):(Kd.row ks).has (.tup xs)=true:=by simp only[Kd.has];exact VE.mpr h
theorem vI {k:Kd}{lo hi:Nat}{xs:List T}(h1:lo<=xs.length)(h2:xs.length<=hi)(h:Hs (ai xs.length k) xs):(Kd.many k lo hi).has (.tup xs)=true:=by
 simp only[Kd.has];rw[ah,ah,decide_eq_true_eq,decide_eq_true_eq];exact⟨⟨h1,h2⟩,Uh.mpr h⟩
theorem Zn {f:En->R T}{ρ:En}:zh (zq f ρ)=f (frz ρ):=by rw[Z2,jM]
theorem XL {ks:List Kd}{xs:List T}(h:Hs ks xs):∀q∈ks.zip xs,q.1.has q.2=true:=λq hq=>by
 obtain⟨i,hi⟩:=df.mp hq;obtain⟨a,b⟩:=ci.mp hi;exact h.2 i q.1 q.2 a b
theorem vJ {ws:List Str}(h:Dst ws):(ws.map T.str).Pairwise (λa b=>a ≠ b):=by
 rw[bp,bN];intro i j hi hj hij e;have e:ws[i]=ws[j]:=by injection e
 have:=XI h (i:=i) (j:=j) (w:=ws[j]) (by rw[aj hi,e]) (aj hj)
 omega
theorem qE (cs:List (Str×Int)):(Kd.pick cs).all=(cs.map (·.1)).map T.str:=by rw[Kd.all,aJ];rfl
theorem Ui:∀(ls made:List (List T)) (m:Nat),(∀l∈ls,l.Pairwise (λa b=>a ≠ b))->made.Pairwise (λa b=>a ≠ b)->(∀a∈made,a.length=m)->(Z8 made ls).Pairwise (λa b=>a ≠ b)
 | [],made,m,_,h,_=>by rw[Z8];exact h
 | l :: ls,made,m,hl,h,hm=>by
  rw[Z8];refine Ui ls _ (m+1) (λq hq=>hl q (a9 _ hq)) ?_ ?_
  ·rw[i8];refine⟨λa ha=> ?_,List.Pairwise.imp_of_mem (λ{a b} ha hb hab=> ?_) h⟩
   ·rw[bp];exact dZ (λhxy e=>hxy (by have:=List.append_cancel_left e;injection this)) (hl l ab)
   ·intro x hx y hy e;obtain⟨u,_,rfl⟩:=av.mp hx;obtain⟨v,_,rfl⟩:=av.mp hy;exact hab (List.append_inj e (by rw[hm a ha,hm b hb])).1
  ·intro a ha;obtain⟨b,hb,hx⟩:=cN.mp ha;obtain⟨u,_,rfl⟩:=av.mp hx;rw[aC,hm b hb];rfl
theorem qF {ls:List (List T)}(h:∀l∈ls,l.Pairwise (λa b=>a ≠ b)):(U0 ls).Pairwise (λa b=>a ≠ b):=by
 unfold U0;rw[bp];refine dZ (λhab e=>hab (by injection e)) (Ui ls [[]] 0 h (by simp) (by simp))
theorem Uj:∀(d:Nat) (k:Kd),k.Ok d->k.all.Pairwise (λa b=>a ≠ b)
 | 0,_,h=>h.elim
 | d+1,.whole lo hi,h=>by
  rw[Kd.all,bp];exact dZ (λ{i j} hab e=>hab (by injection e with e;omega)) (fZ (n:=(hi+1 - lo).toNat))
 | d+1,.pick cs,h=>by rw[qE];exact vJ h.2.2.2
 | d+1,.row ks,h=>by
  rw[Kd.all,Kd.alls_map];refine qF λl hl=> ?_;obtain⟨k,hk,rfl⟩:=av.mp hl;exact Uj d k (h.2.2 k hk)
 | d+1,.many k lo hi,h=>by
  rw[Kd.all,i8];refine⟨λi hi=>qF λl hl=> ?_,dZ (λ{i j} hij=> ?_) (fZ (n:=hi+1 - lo))⟩
  ·obtain rfl:=(iC.mp hl).2;exact Uj d k h.2.2
  ·intro x hx y hy e;obtain⟨xs,h1,rfl⟩:=(ju _ _).mp hx;obtain⟨ys,h2,rfl⟩:=(ju _ _).mp hy;have e:xs=ys:=by injection e
   subst e;have a:=((jv _ _ _).mp h1).1;have b:=((jv _ _ _).mp h2).1;omega
mutual
noncomputable def Kd.mir:Kd->Kd
 | .whole lo hi=> .whole (-hi) (-lo)
 | .pick cs=> .pick cs.reverse
 | .row ks=> .row (Kd.mirs ks).reverse
 | .many k lo hi=> .many k.mir lo hi
noncomputable def Kd.mirs:List Kd->List Kd
 | []=>[]
 | k :: ks=>k.mir :: Kd.mirs ks
end
theorem Uk:∀ks:List Kd,Kd.mirs ks=ks.map Kd.mir
 | []=>by simp[Kd.mirs]
 | k :: ks=>by simp[Kd.mirs,Uk ks]
mutual
noncomputable def mw:T->T
 | .int i=> .int (-i)
 | .tup xs=> .tup (mws xs).reverse
 | t=>t
noncomputable def mws:List T->List T
 | []=>[]
 | x :: xs=>mw x :: mws xs
end
theorem qG:∀xs:List T,mws xs=xs.map mw
 | []=>by simp[mws]
 | x :: xs=>by simp[mws,qG xs]
theorem qH (i:Int):mw (.int i)= .int (-i):=by rw[mw]
theorem Qc (x:Str):mw (.str x)= .str x:=by rw[mw] <;> simp
theorem qI (xs:List T):mw (.tup xs)= .tup (xs.map mw).reverse:=by rw[mw,qG]
mutual
theorem UZ:∀t:T,mw (mw t)=t
 | .int i=>by rw[qH,qH,Int.neg_neg]
 | .tup xs=>by rw[qI,qI,bm,dh,aJ,qJ xs]
 | .non=>by simp[mw]
 | .bl _=>by simp[mw]
 | .str _=>by simp[mw]
 | .lst _=>by simp[mw]
 | .fz _=>by simp[mw]
theorem qJ:∀xs:List T,xs.map (mw ∘ mw)=xs
 | []=>rfl
 | x :: xs=>by rw[aq,qJ xs];show mw (mw x) :: xs=_;rw[UZ x]
end
theorem VF {x y:T}(h:mw x=mw y):x=y:=by rw[← UZ x,h,UZ]
theorem VG {ws:List Str}:Dst ws↔ws.Nodup:=by
 refine⟨Dst.nd,λh k w hw hm=> ?_⟩;obtain⟨j,hj,e⟩:=List.getElem_of_mem hm;rw[cK]at hj;rw[iS]at e;have hk:k < ws.length:=(aw.mp hw).1;have e2:=(aw.mp hw).2;have:=(cI h).mp (e.trans e2.symm);omega
theorem jH (ks:List Kd):(Kd.row ks).mir= .row (ks.map Kd.mir).reverse:=by rw[Kd.mir,Uk]
theorem JD:∀(d:Nat) (k:Kd),k.Ok d->k.mir.Ok d
 | 0,_,h=>h.elim
 | d+1,.whole lo hi,h=>by
  rw[Kd.mir];have h: -20<=lo/\lo<=hi/\hi<=20:=h;exact(show -20<= -hi/\ -hi<= -lo/\ -lo<=20 by omega)
 | d+1,.pick cs,h=>by
  rw[Kd.mir];obtain⟨h1,h2,h3,h4⟩:=h;refine⟨by simpa using h1,by simpa using h2,λc hc=>h3 c (by simpa using hc), ?_⟩
  rw[VG]at h4 ⊢;rw[bm];exact eB.mpr (h4.imp b8)
 | d+1,.row ks,h=>by
  rw[jH];obtain⟨h1,h2,h3⟩:=h;refine⟨by simpa using h1,by simpa using h2,λc hc=> ?_⟩
  rw[dk]at hc;obtain⟨k,hk,rfl⟩:=av.mp hc;exact JD d k (h3 k hk)
 | d+1,.many k lo hi,h=>by
  rw[Kd.mir];obtain⟨h1,h2,h3⟩:=h;exact⟨h1,h2,JD d k h3⟩
theorem ut:∀(d:Nat) (k:Kd),k.Ok d->k.mir.mir=k
 | 0,_,h=>h.elim
 | d+1,.whole lo hi,h=>by simp[Kd.mir]
 | d+1,.pick cs,h=>by simp[Kd.mir]
 | d+1,.row ks,h=>by
  rw[jH,jH,bm,dh,aJ];congr 1
  exact(bc λk hk=>ut d k (h.2.2 k hk)).trans (List.map_id _)
 | d+1,.many k lo hi,h=>by rw[Kd.mir,Kd.mir,ut d k h.2.2]
theorem VH {ks:List Kd}{xs:List T}(H:∀k∈ks,∀x,k.has x=true->k.mir.has (mw x)=true)(h:Hs ks xs):Hs (ks.map Kd.mir).reverse (xs.map mw).reverse:=by
 obtain⟨hl,h⟩:=h;refine⟨by simpa using hl,λi k x hk hx=> ?_⟩
 have hi:i < ks.length:=by have:=(aw.mp hk).1;simpa using this
 rw[de (by simpa using hi),ae,ax]at hk
 rw[de (by simpa[hl] using hi),ae,ax,hl]at hx
 obtain⟨k',e1,rfl⟩:=dX.mp hk;obtain⟨x',e2,rfl⟩:=dX.mp hx;exact H k' (wV e1) x' (h _ _ _ e1 e2)
theorem Je:∀(d:Nat) (k:Kd) (x:T),k.Ok d->k.has x=true->k.mir.has (mw x)=true
 | 0,_,_,h,_=>h.elim
 | d+1,.whole lo hi,x,h,hx=>by
  rw[Kd.has]at hx;obtain⟨i,rfl,a,b⟩:=uq.mp hx;rw[Kd.mir,Kd.has,qH];exact uq.mpr ⟨_,rfl,by omega,by omega⟩
 | d+1,.pick cs,x,h,hx=>by
  obtain⟨w,rfl,hw⟩:=Jd.mp hx;rw[Kd.mir,Qc];exact Jd.mpr ⟨w,rfl,by simpa using hw⟩
 | d+1,.row ks,x,h,hx=>by
  obtain⟨xs,rfl,hs⟩:=ur hx;rw[jH,qI];exact XJ (VH (λk hk x hx=>Je d k x (h.2.2 k hk) hx) hs)
 | d+1,.many k lo hi,x,h,hx=>by
  obtain⟨xs,rfl,a,b,hs⟩:=wW hx;rw[Kd.mir,qI];refine vI (by simpa using a) (by simpa using b) ?_
  have:=VH (λk' hk x hx=>by rw[bj hk]at hx ⊢;exact Je d k x h.2.2 hx) hs
  rw[aX,List.reverse_replicate]at this;simpa using this
theorem uu {k:Kd}(hk:k.Ok 3)(x:T):k.mir.has (mw x)=k.has x:=by
 cases e:k.has x with
 | true=>exact Je 3 k x hk e
 | false=>
  cases e2:k.mir.has (mw x) with
  | false=>rfl
  | true=>
   have:=Je 3 k.mir (mw x) (JD 3 k hk) e2;rw[ut 3 k hk,UZ,e]at this;cases this
theorem WR:∀as bs:List Rat,zZ (as++bs)=zZ as*zZ bs
 | [],bs=>by simp[zZ,Rat.one_mul]
 | a :: as,bs=>by simp only[dj,zZ,WR as bs,Rat.mul_assoc]
theorem JE:∀qs:List Rat,zZ qs.reverse=zZ qs
 | []=>rfl
 | q :: qs=>by rw[ba,WR,JE qs,zZ,zZ,zZ,Rat.mul_one,Rat.mul_comm]
theorem y0 {cs:List (Str×Int)}(h:(cs.map (·.1)).Nodup)(x:Str):cs.reverse.lookup x=cs.lookup x:=by
 induction cs with
 | nil=>rfl
 | cons c cs ih=>
  rw[aq,cn]at h;rw[ba,List.lookup_append,ih h.2];obtain⟨w,n⟩:=c
  by_cases e:x=w
  ·subst e;have:cs.lookup x=none:=by
    rw[List.lookup_eq_none_iff];intro p hp;exact bne_iff_ne.mpr λe=>h.1 (av.mpr ⟨p,hp,e.symm⟩)
   rw[this];simp[List.lookup]
  ·have:(x == w)=false:=by simpa using e
   simp[List.lookup,this]
theorem qK {α β:Type}:∀(as:List α) (bs:List β),as.length=bs.length->as.reverse.zip bs.reverse=(as.zip bs).reverse
 | [],[],_=>rfl
 | [],_ :: _,h=>by cases h
 | _ :: _,[],h=>by cases h
 | a :: as,b :: bs,h=>by
  have h:as.length=bs.length:=Nat.succ.inj h;rw[ba,ba,List.zip_append (by simpa using h),qK as bs h];simp
theorem vK (cs:List (Str×Int)):u3 cs.reverse=u3 cs:=by unfold u3;rw[bm,List.sum_reverse]
theorem qL:∀(d:Nat) (k:Kd) (x:T),k.Ok d->k.has x=true->k.mir.sh (mw x)=k.sh x
 | 0,_,_,h,_=>h.elim
 | d+1,.whole lo hi,x,h,hx=>by
  rw[Kd.mir,Kd.sh,Kd.sh];show mkRat 1 _=mkRat 1 _;congr 1;omega
 | d+1,.pick cs,x,h,hx=>by
  obtain⟨w,rfl,hw⟩:=Jd.mp hx;rw[Kd.mir,Qc,wU,wU,y0 (VG.mp h.2.2.2),vK]
 | d+1,.row ks,x,h,hx=>by
  obtain⟨xs,rfl,hs⟩:=ur hx;rw[jH,qI,Kd.sh,Kd.sh];show Kd.shs _ _=Kd.shs _ _;rw[wT,wT,qK _ _ (by simp[hs.1]),bm,JE,List.zip_map,aJ]
  congr 1
  refine bc λq hq=> ?_;exact qL d q.1 q.2 (h.2.2 _ (bY hq).1) (XL hs q hq)
 | d+1,.many k lo hi,x,h,hx=>by
  obtain⟨xs,rfl,a,b,hs⟩:=wW hx;rw[Kd.mir,qI,Kd.sh,Kd.sh];show _*zZ _=_*zZ _;rw[bm,JE,aJ];congr 2
  refine bc λy hy=>qL d k y h.2.2 ?_;have:=Uh.mpr hs;exact aH.mp this y hy
theorem uv {k:Kd}(hk:k.Ok 3):f_o [k.t]= .ok .non:=by
 have hi:=YX 3 k hk;show zh (b_o f_3 [.vl k.t])=_;rw[b_o,zo]
 ·rfl
 ·show WW (jT (zb 1 f_3 (za (vE 0) ze))) [.vl k.t]=_;rw[WA,jp,zA,v0,bOk,US _ (wO 3 _ hi).so,hi];rfl
theorem jw {k:Kd}(hk:k.Ok 3)(h5:k.all.length<=500):f_x [k.t]= .ok (.lst k.all):=by
 show zh (b_x f_o (f_1 20) (f_g 20) [.vl k.t,.un])=_;have e1:zI 1 (zb 1 (f_1 20) (za (vE 0) (ze))) [.vl k.t,.un]= .nx (en2 k.t (.int (k.all.length:Int))):=by
  rw[zJ (t:= .int (k.all.length:Int))]
  ·rfl
  ·rw[zA,v0,bOk,ZX (by omega) hk]
 have e2:zx gtC (vB 1) (cE (.int 500)) (en2 k.t (.int (k.all.length:Int)))= .ok false:=by
  rw[zS,w1,bOk,Z3,bOk,z20,decide_eq_false (by omega)]
 have er:Zx (vE 1) (en2 k.t (.int (k.all.length:Int)))= .ok (rng 0 k.all.length):=by
  rw[Xv (j:=(k.all.length:Int)) rfl ⟨by omega,by omega⟩,bE]
 have ec:zu (zC 0) zW (zb 2 (f_g 20) (za (vE 1) (za (vE 0) (ze)))) 1 [0] (en2 k.t (.int (k.all.length:Int))) (rng 0 k.all.length)= .ok ((rng 0 k.all.length).map λt=>match t with | .int i=>(k.all[i.toNat]?).getD .non | y=>y):=
  zG _ (by unfold rng;rw[ae,bL];have:bnd=16777216:=rfl;omega) λt ht=>by
   unfold rng at ht;obtain⟨i,hi,rfl⟩:=av.mp ht;obtain⟨x,hx⟩:=WM (bH.mp hi);show zb 2 _ _ (en2 (.int ((0:Int)+(i:Int))) k.t)=R.ok ((k.all[((0:Int)+(i:Int)).toNat]?).getD .non);rw[show ((0:Int)+(i:Int))=(i:Int) by omega,zw,v1,bOk,v0,bOk,Gj hk hx,bE,hx]
   rfl
 have e3:GT (Zx (vE 1)) (zC 0) (zW) (zb 2 (f_g 20) (za (vE 1) (za (vE 0) (ze)))) 1 [0] (en2 k.t (.int (k.all.length:Int)))= .rf k.all:=by
  show ((Zx (vE 1) (en2 k.t (.int (k.all.length:Int)))).s λts=>(zu _ _ _ _ _ (en2 k.t (.int (k.all.length:Int))) ts).s λvs=>RS.rf vs)=_;rw[er,Zt,ec,Zt];exact congrArg RS.rf (all_map k)
 rw[b_x,zc (ZQ (t:= .non) (by rw[zA,v0,bOk,uv hk])),zc e1,zc (zo e2),e3]
 rfl
theorem jP {r:Ru}(h:jc 3 r):f_6 [r.t]= .ok .non:=by
 show zh (b_6 f_8 [.vl r.t])=_;rw[b_6,zo]
 ·rfl
 ·have e:f_8 [r.t]= .ok (.bl true):=by
   show zh (zq (zb 2 (f_n 8) (za (vE 0) (za (cE (.int 3)) ze))) [.vl r.t])=_;rw[zi (t:= .bl true)]
   ·rfl
   ·show zb 2 _ _ [.vl r.t]=_;rw[zw,v0,bOk,Z3,bOk];exact jF 8 3 (by omega) r h
  rw[WA,jp,zA,v0,bOk,e];rfl
theorem ke {x w:Str}{r:List T}(h:(x == w)=false){f:En->RS}:ifS (zx eqC (zd ixT (vE 0) (cE (.int 0))) (cE (.str w))) f nxS [.vl (.tup (.str x :: r))]= .nx [.vl (.tup (.str x :: r))]:=
 zo (by rw[cs0,h])
theorem z2a {x:Str}{r:List T}{f:En->RS}:ifS (zx eqC (zd ixT (vE 0) (cE (.int 0))) (cE (.str x))) f nxS [.vl (.tup (.str x :: r))]=f [.vl (.tup (.str x :: r))]:=
 u0 (by rw[cs0,beq_self_eq_true])
theorem Ul {c:List T->R T}{xs:List T}{h:T->T}{f:En->R T}{ρ:En}(hf:f ρ= .ok (.tup xs))(hl:xs.length<=3)(H:∀x∈xs,c [x]= .ok (h x)):
  zL (Vc f) (zC 0) (zW) (zb 1 c (za (vE 0) (ze))) 1 [] ρ= .ok (.lst (xs.map h).reverse):=by
 have e1:Vc f ρ= .ok xs.reverse:=by unfold Vc;rw[hf,bOk];rfl
 rw[zT,e1,bOk,zG (h:=h) xs.reverse (by rw[bo];exact ar hl (by decide)) λt ht=>by
  show zb 1 c _ [.vl t]=_;rw[zA,v0,bOk,H t (dk.mp ht)],bOk,bm]
theorem Gz {f:En->R T}{ρ:En}{xs:List T}(h:f ρ= .ok (.lst xs)):ap1 Qv f ρ= .ok (.tup xs):=by rw[Ze,h,bOk];rfl
theorem XM {f:En->R T}{ρ:En}{i:Int}(h:f ρ= .ok (.int i)):u8 f ρ= .ok (.int (-i)):=by rw[YG,h,bOk]
theorem WS:∀(d n:Nat),d<=n->∀k:Kd,k.Ok d->S_2 n 0 [k.t]= .ok k.mir.t
 | 0,_,_,_,h=>h.elim
 | d+1,0,h,_,_=>by omega
 | d+1,n+1,hn,k,h=>by
  have ih:∀k:Kd,k.Ok d->S_2 n 0 [k.t]= .ok k.mir.t:=WS d n (by omega)
  show zh (b_2 (S_2 n 0) [.vl k.t])=_;unfold b_2;cases k with
  | whole lo hi=>
   rw[Kd.mir,Kd.t,Kd.t,zz (t:= .tup [.str "whole",.int (-hi),.int (-lo)])]
   ·rfl
   ·rw[z2a,zi];exact gZ rfl (XM W1) (XM jr)
  | pick cs=>
   rw[Kd.mir,Kd.t,Kd.t,zc (ke (by decide)),zz (t:= .tup [.str "pick",.tup (cs.reverse.map jO)])]
   ·rfl
   ·rw[z2a,zi];refine WZ rfl ?_;show ap1 X8 _ [.vl _]=_;rw[Ze,jr,bOk,bm];exact if_pos (by rw[ae];exact ar h.2.1 (by decide))
  | row ks=>
   rw[jH,Kd.t,Kd.t,Kd.ts_map,Kd.ts_map,zc (ke (by decide)),zc (ke (by decide)),zz (t:= .tup [.str "row",.tup ((ks.map Kd.mir).reverse.map Kd.t)])]
   ·rfl
   ·rw[z2a,zi];refine WZ rfl (Gz ?_);have:= @Ul (S_2 n 0) (ks.map Kd.t) (λt=>match S_2 n 0 [t] with | .ok u=>u | _=>t) (zd ixT (vE 0) (cE (.int 1))) [.vl (.tup [.str "row",.tup (ks.map Kd.t)])] jr (by rw[ae];exact h.2.1) λt ht=>by
     obtain⟨k,hk,rfl⟩:=av.mp ht;rw[ih k (h.2.2 k hk)]
    refine this.trans ?_;rw[aJ,bm,aJ];congr 3
    refine bc λk hk=> ?_;show (match S_2 n 0 [k.t] with | .ok u=>u | _=>k.t)=k.mir.t
    rw[ih k (h.2.2 k hk)]
  | many k lo hi=>
   rw[Kd.mir,Kd.t,Kd.t,zc (ke (by decide)),zc (ke (by decide)),zc (ke (by decide)),Zn]
   refine tup4 rfl ?_ W1 Vp;show zb 1 _ _ [.vl _]=_;rw[zA,jr,bOk,ih k h.2.2]
theorem uw {k:Kd}(hk:k.Ok 3):f_j [k.t]= .ok k.mir.t:=by
 show zh (b_j f_o (f_2 8) [.vl k.t])=_;unfold b_j;rw[zc (ZQ (t:= .non) (by rw[zA,v0,bOk,uv hk])),Zn]
 show zb 1 _ _ [.vl k.t]=_;rw[zA,v0,bOk];exact WS 3 8 (by omega) k hk
theorem GA {k:Kd}(hk:k.Ok 3)(x:T):z0a [k.t,x]= .ok (.bl (k.has x)):=by
 show zh (z09 f_o (f_d 20) (en2 k.t x))=_;unfold z09;rw[zc (ZQ (t:= .non) (by rw[zA,v0,bOk,uv hk])),Zn]
 show zb 2 _ _ (en2 k.t x)=_;rw[zw,v0,bOk,v1,bOk];exact Vs 3 20 (by omega) k x hk
theorem vL {k:Kd}(hk:k.Ok 3){x:T}(hx:k.has x=true):z0c [k.t,x]= .ok .non:=by
 show zh (z0b z0a (en2 k.t x))=_;rw[z0b,zo (by rw[WA,jp,zw,v0,bOk,v1,bOk,GA hk,bOk,uW,bOk,hx];rfl)];rfl
noncomputable def Ws:Nat->T->Prop
 | _,.int _=>True
 | _,.str _=>True
 | d+1,.tup xs=>xs.length<=3/\∀x∈xs,Ws d x
 | _,_=>False
theorem XN:∀(d:Nat) (k:Kd) (x:T),k.Ok d->k.has x=true->Ws d x
 | 0,_,_,h,_=>h.elim
 | d+1,.whole lo hi,x,h,hx=>by
  rw[Kd.has]at hx;obtain⟨i,rfl,a,b⟩:=uq.mp hx;trivial
 | d+1,.pick cs,x,h,hx=>by
  obtain⟨w,rfl,hw⟩:=Jd.mp hx;trivial
 | d+1,.row ks,x,h,hx=>by
  obtain⟨xs,rfl,hs⟩:=ur hx;refine⟨hs.1 ▸ h.2.1,λx hx=> ?_⟩;obtain⟨i,hi⟩:=df.mp hx;have hl:i < ks.length:=by have:=(aw.mp hi).1;rw[hs.1]at this;exact this
  obtain⟨k,hk⟩:=WM hl;exact XN d k x (h.2.2 k (wV hk)) (hs.2 i k x hk hi)
 | d+1,.many k lo hi,x,h,hx=>by
  obtain⟨xs,rfl,a,b,hs⟩:=wW hx;exact⟨ar b h.2.1,λy hy=>XN d k y h.2.2 (aH.mp (Uh.mpr hs) y hy)⟩
theorem qM (t:T)(b:Bool)(h:isT "tuple" t=b):jT (ap1 (wZ "tuple") (vB 0)) [.vl t]= .ok b:=by
 rw[jp,Ze,w0,bOk,wZ,bOk,h];rfl
theorem VI (t:T)(b:Bool)(h:isT "str" t=b):jT (ap1 (wZ "str") (vB 0)) [.vl t]= .ok b:=by
 rw[jp,Ze,w0,bOk,wZ,bOk,h];rfl
theorem VJ:∀(d n:Nat),d<=n->∀x:T,Ws d x->S_m (n+1) 0 [x]= .ok (mw x)
 | d,n,hn,.int i,h=>by
  show zh (b_m (S_m n 0) [.vl (.int i)])=_;unfold b_m;rw[zc (zo (qM _ false rfl)),Zn,qH,ZD,ZN,z22 (VI _ false rfl),XM v0]
 | d,n,hn,.str i,h=>by
  show zh (b_m (S_m n 0) [.vl (.str i)])=_;unfold b_m;rw[zc (zo (qM _ false rfl)),Zn,Qc,ZD,ZN,z21 (VI _ true rfl),v0]
 | d+1,n+1,hn,.tup xs,h=>by
  show zh (b_m (S_m (n+1) 0) [.vl (.tup xs)])=_;unfold b_m;rw[zz (t:=mw (.tup xs))]
  ·rfl
  ·rw[u0 (qM _ true rfl),zi];rw[qI];exact Gz (Ul (h:=mw) v0 h.1 λx hx=>VJ d n (by omega) x (h.2 x hx))
 | d+1,0,hn,.tup xs,h=>by omega
 | 0,_,_,.tup _,h=>h.elim
 | 0,_,_,.non,h=>h.elim
 | 0,_,_,.bl _,h=>h.elim
 | 0,_,_,.lst _,h=>h.elim
 | 0,_,_,.fz _,h=>h.elim
 | _+1,_,_,.non,h=>h.elim
 | _+1,_,_,.bl _,h=>h.elim
 | _+1,_,_,.lst _,h=>h.elim
 | _+1,_,_,.fz _,h=>h.elim
theorem XO {k:Kd}(hk:k.Ok 3){x:T}(hx:k.has x=true):k8 [k.t,x]= .ok (mw x):=by
 show zh (z0d z0c (f_m 8) (en2 k.t x))=_;unfold z0d;rw[zc (ZQ (t:= .non) (by rw[zw,v0,bOk,v1,bOk,vL hk hx])),Zn]
 show zb 1 _ _ (en2 k.t x)=_;rw[zA,v1,bOk];exact VJ 3 7 (by omega) x (XN 3 k x hk hx)
theorem y3 {α:Type}{f g:α->T}{fe:En->R T}{k:Nat}{js:List Nat}{ρ:En}(l:List α)(hl:l.length<=bnd)(H:∀a∈l,fe ((Jo k js ρ).set 0 (.vl (f a)))= .ok (g a)):zu (zC 0) zW fe k js ρ (l.map f)= .ok (l.map g):=by
 rw[zG (h:=λt=>match fe ((Jo k js ρ).set 0 (.vl t)) with | .ok u=>u | _=>t) (l.map f) (by rw[ae];exact hl) (λt ht=>by
  obtain⟨a,ha,rfl⟩:=av.mp ht;rw[H a ha]),aJ]
 congr 1
 refine bc λa ha=> ?_;show (match fe ((Jo k js ρ).set 0 (.vl (f a))) with | .ok u=>u | _=>f a)=_
 rw[H a ha]
inductive Cn:(List T->T)->Prop where
 | l:Cn T.lst
 | t:Cn T.tup
theorem jQ {C:List T->T}(hC:Cn C){rs:List Ru}(hr:∀r∈rs,jc 3 r)(hn:rs.length<=1000):f_u [C (rs.map Ru.t)]= .ok .non:=by
 have lp:∀(us:List T) (rs:List Ru) (y:Sl),(∀r∈rs,jc 3 r)->∃y',Zj (zC 1) (jU (zb 1 f_6 (za (vE 1) (ze)))) (rs.map Ru.t) [.vl (C us),y]= .nx [.vl (C us),y']:=by
  intro us rs
  induction rs with
  | nil=>exact λy _=>⟨y,rfl⟩
  | cons r rs ih=>
   intro y h;obtain⟨y',e⟩:=ih (.vl r.t) λq hq=>h q (a9 _ hq);refine⟨y', ?_⟩;rw[aq,jt (ρ1:=[.vl (C us),.vl r.t]) rfl (ZQ (t:= .non) (by rw[zA];exact jP (h r ab))),e]
 obtain⟨y',e⟩:=lp (rs.map Ru.t) rs .un hr;show zh (b_u f_6 [.vl (C (rs.map Ru.t)),.un])=_;unfold b_u;rw[zc (zo (by cases hC <;> rfl))]
 have ei:ZB (vE 0) [.vl (C (rs.map Ru.t)),.un]= .ok (rs.map Ru.t):=by cases hC <;> rfl
 unfold j3;rw[ei];show zh (Zj _ _ (rs.map Ru.t) [.vl (C (rs.map Ru.t)),.un])=_;rw[e];rfl
theorem GB {f g:En->R T}{ρ:En}{x y:T}(hf:f ρ= .ok x)(hg:g ρ= .ok y):za f (za g ze) ρ= .ok [x,y]:=by
 show ((f ρ).bind λt=>((za g ze) ρ).bind λts=> .ok (t :: ts))=_;rw[hf,bOk];show ((g ρ).bind λt=>(R.ok []).bind λts=>R.ok (t :: ts)).bind _=_;rw[hg];rfl
section
variable {ts:List T}
theorem GC {f g:En->R T}{ρ:En}{t:T}(h:f ρ= .ok t)(h' :g ρ= .ok t)(hp:Pl 30 t):ZV eqC f g ρ= .ok (.bl true):=by rw[ZE,h,bOk,h',bOk,vC hp];rfl
end
theorem GD {k:Kd}(hk:k.Ok 3){ts:List T}(h:∀x∈ts,x∈k.all):Pl 30 (.lst ts):=λx hx=>(um hk (h x hx)).pl.le (show 2+1<=29 by decide)
theorem GE {k:Kd}(hk:k.Ok 3){x:T}(hx:k.has x=true):f_c 20 [k.t,x]= .ok (frT (k.sh x))/\Bd (k.sh x) 91:=Ug 3 20 (by omega) (by omega) k x hk hx
theorem GF {k:Kd}(hk:k.Ok 3){ws:List T}(hw:∀x∈ws,k.has x=true)(hl:ws.length<=60):f_t [k.t,.lst ws]= .ok (frT (Jc (ws.map k.sh))):=by
 show zh (b_t f_7 (f_c 20) (en2 k.t (.lst ws)))=_;have ec:zu (zC 0) zW (zb 2 (f_c 20) (za (vE 1) (za (vE 0) (ze)))) 1 [0] (en2 k.t (.lst ws)) ws= .ok (ws.map λx=>frT (k.sh x)):=
  zG _ (ar hl (by decide)) λt ht=>by
   show zb 2 _ _ (en2 t k.t)=_;rw[zw,v1,bOk,v0,bOk,(GE hk (hw t ht)).1]
 unfold b_t;rw[zi (t:=frT (Jc (ws.map k.sh)))]
 ·rfl
 ·show zb 1 _ _ (en2 k.t (.lst ws))=_;rw[zA,zT,jq,v1,bOk];show ((zu _ _ _ _ _ _ ws).bind _).bind _=_;rw[ec,bOk,bOk];have:=uo (qs:=ws.map k.sh) (m:=91) (λq hq=>by obtain⟨x,hx,rfl⟩:=av.mp hq;exact(GE hk (hw x hx)).2) (by rw[ae];omega)
  rw[aJ]at this;exact this
def wy (rs:List Ru)(x:T):List Bool:=rs.map λr=>kp r x
theorem qN {rs:List Ru}(hr:∀r∈rs,jc 3 r)(hn:rs.length<=1000){x:T}(hx:W 2 x):z0j [.lst (rs.map Ru.t),x]= .ok (.tup ((wy rs x).map T.bl)):=by
 have hb:bnd=16777216:=rfl;show zh (z0i (f_b 8) (en2 (.lst (rs.map Ru.t)) x))=_;unfold z0i;rw[Zn];show ap1 Qv _ (en2 (.lst (rs.map Ru.t)) x)=_;rw[Ze,zT,jq,v0,bOk];show (((zu _ _ _ _ _ _ (rs.map Ru.t)).bind _).bind _)=_;rw[y3 (g:=λr=> .bl (kp r x)) rs (by omega) λr hr' => ?_,bOk,bOk]
 ·unfold wy;rw[aJ];rfl
 ·show zb 2 _ _ (en2 r.t x)=_;rw[zw,v0,bOk,v1,bOk,wg hx (hr r hr')]
theorem Jf:∀k:List Bool,Zp (k.map T.bl)=some k
 | []=>rfl
 | b :: k=>by
  show (Zp (k.map T.bl)).map (λl=>b :: l)=_;rw[Jf k];rfl
def ZS (kf:T->List Bool):List T->List WE->List WE
 | [],es=>es
 | w :: ws,es=>ZS kf ws (JG (kf w) w es)
theorem WT {g:T->R T}{kf:T->List Bool}:∀(ws:List T) (es:List WE),(∀w∈ws,g w= .ok (.tup ((kf w).map T.bl)))->jW g ws es= .ok (ZS kf ws es)
 | [],es,_=>rfl
 | w :: ws,es,h=>by
  show ((g w).bind λt=>match t with
   | .tup ts=>(match Zp ts with
    | some k=>jW g ws (JG k w es)
    | none=> .bad)
   | _=> .bad)=_
  rw[h w ab,bOk];dsimp only;rw[Jf];exact WT ws _ λv hv=>h v (a9 _ hv)
structure EOk (al:List T) (n:Nat) (es:List WE):Prop where
 nd:(es.map (·.1)).Nodup
 len:es.length<=n
 mem:∀e∈es,(∀x∈e.2,x∈al)/\e.2.length<=n
theorem wX (k:List Bool)(w:T):∀es:List WE,(JG k w es).map (·.1)=if k∈es.map (·.1) then es.map (·.1) else es.map (·.1)++[k]
 | []=>by simp[JG]
 | (k',ws) :: r=>by
  unfold JG
  by_cases h:k' =k
  ·subst h;simp
  ·rw[if_neg h,aq,wX k w r,aq];have h' :¬ k=k' :=λz=>h z.symm
   by_cases m:k∈r.map (·.1)
   ·rw[if_pos m,if_pos (a9 _ m)]
   ·rw[if_neg m,if_neg (by simpa[h'] using m)];rfl
theorem qO {al:List T}{n:Nat}{k:List Bool}{w:T}(hw:w∈al):∀es:List WE,(∀e∈es,(∀x∈e.2,x∈al)/\e.2.length<=n)->∀e∈JG k w es,(∀x∈e.2,x∈al)/\e.2.length<=n+1
 | [],_,e,he=>by
  simp only[JG,au]at he;subst he;exact⟨λx hx=>by rw[au.mp hx];exact hw,by show 1<=n+1;omega⟩
 | (k',ws) :: r,h,e,he=>by
  unfold JG at he;have h0:=h _ ab;have hr:∀e∈r,_:=λe he=>h e (a9 _ he);split at he
  ·rcases ao.mp he with rfl | he
   ·refine⟨λx hx=> ?_,by have:ws.length<=n:=h0.2;rw[aC,aG];omega⟩
    rcases bv.mp hx with z | z
    ·exact h0.1 x z
    ·rw[au.mp z];exact hw
   ·exact⟨(hr e he).1,iZ (hr e he).2⟩
  ·rcases ao.mp he with rfl | he
   ·exact⟨h0.1,iZ h0.2⟩
   ·exact qO hw r hr e he
theorem EOk.ins {al:List T}{n:Nat}{es:List WE}(h:EOk al n es){k:List Bool}{w:T}(hw:w∈al):EOk al (n+1) (JG k w es):=by
 have e:=wX k w es;have hl:(JG k w es).length<=es.length+1:=by
  have:=congrArg ll e;rw[ae]at this;rw[this];split
  ·rw[ae];omega
  ·rw[aC,ae,aG];exact ak _
 refine⟨?_,by have:=h.len;omega,qO hw es h.mem⟩
 rw[e];split
 ·exact h.nd
 ·rename_i hk;rw[fH];exact⟨h.nd,by simp,λa ha b hb z=>hk (by rw[au.mp hb]at z;rw[← z];exact ha)⟩
theorem qQ {al:List T}{kf:T->List Bool}:∀(ws:List T) (n:Nat) (es:List WE),EOk al n es->(∀w∈ws,w∈al)->EOk al (n+ws.length) (ZS kf ws es)
 | [],n,es,h,_=>h
 | w :: ws,n,es,h,hw=>by
  have:=qQ (kf:=kf) ws (n+1) _ (h.ins (k:=kf w) (hw w ab)) λv hv=>hw v (a9 _ hv);rw[ay,show n+(ws.length+1)=n+1+ws.length by omega]
  exact this
theorem GG {k:Kd}(hk:k.Ok 3)(h5:k.all.length<=500){rs:List Ru}(hr:∀r∈rs,jc 3 r)(hn:rs.length<=1000):zF [k.t,.lst (rs.map Ru.t)]= .ok (ZS (wy rs) k.all [])/\EOk k.all k.all.length (ZS (wy rs) k.all []):=by
 have hb:bnd=16777216:=rfl;refine⟨?_, ?_⟩
 ·show ((f_x [k.t]).bind λt=>match t with
   | .lst ws=>if ws.length<=bnd then jW (λw=>z0j [.lst (rs.map Ru.t),w]) ws [] else .bad
   | _=> .bad)=_
  rw[jw hk h5,bOk];dsimp only;rw[if_pos (by omega)]
  exact WT k.all [] λw hw=>qN hr hn (um hk hw)
 ·have:=qQ (al:=k.all) (kf:=wy rs) k.all 0 [] ⟨by simp,by simp,λe he=>by cases he⟩ λw hw=>hw
  rwa[hV]at this
def tl (k:Kd)(e:WE):T:= .tup [.tup (e.1.map T.bl),.int (e.2.length:Int),frT (Jc (e.2.map k.sh))]
theorem qR {k:Kd}{fe:En->R T}:∀(es:List WE) (x y:Sl),(∀e∈es,fe [.vl (.tup (e.1.map T.bl)),.vl (.lst e.2),.vl k.t]= .ok (tl k e))->zt (zK 0 1) zW fe (es.map weT) [x,y,.vl k.t]= .ok (es.map (tl k))
 | [],x,y,_=>rfl
 | e :: es,x,y,h=>by
  show ((zK 0 1 (weT e) [x,y,.vl k.t]).bind λρ1=>(zW ρ1).bind λc=>if c=true then (fe ρ1).bind λv=>(zt (zK 0 1) zW fe (es.map weT) ρ1).bind λvs=> .ok (v :: vs) else zt (zK 0 1) zW fe (es.map weT) ρ1)=_
  rw[show zK 0 1 (weT e) [x,y,.vl k.t]= .ok [.vl (.tup (e.1.map T.bl)),.vl (.lst e.2),.vl k.t] from rfl,bOk];unfold zW;rw[bOk,if_pos rfl,h e ab,bOk,show zt (zK 0 1) (λ_=>R.ok true) fe (es.map weT) _=_ from qR es _ _ λq hq=>h q (a9 _ hq)];rfl
theorem z2b (k:Kd)(e:WE):kW (tl k e)=e.1:=by
 show (Zp (e.1.map T.bl)).getD []=_;rw[Jf];rfl
theorem z2c (k:Kd)(e:WE):Pl 29 (tl k e):=λx hx=>by
 simp only[ao,be,or_false]at hx;rcases hx with rfl | rfl | rfl
 ·intro y hy;obtain⟨b,_,rfl⟩:=av.mp hy;trivial
 ·trivial
 ·intro y hy;simp only[ao,be,or_false]at hy;rcases hy with rfl | rfl <;> trivial
section
variable {k:Kd}(hk:k.Ok 3)(h4:k.all.length<=40){rs:List Ru}(hr:∀r∈rs,jc 3 r)(hn:rs.length<=1000)
include hk h4 hr hn
theorem Um:f_z [k.t,.lst (rs.map Ru.t)]= .ok (.lst (Yu ((ZS (wy rs) k.all []).map (tl k))))/\(((ZS (wy rs) k.all []).map (tl k)).map kW).Nodup/\Pl 30 (.lst (Yu ((ZS (wy rs) k.all []).map (tl k)))):=by
 have hb:bnd=16777216:=rfl;obtain⟨e1,eo⟩:=GG hk (by omega) hr hn
 generalize ZS (wy rs) k.all []=es at*;have hl:=eo.len;have hd:((es.map (tl k)).map kW).Nodup:=by rw[aJ,show (kW ∘ tl k)=λe:WE=>e.1 from funext λe=>z2b k e];exact eo.nd
 refine⟨?_,hd, ?_⟩
 ·show zh (b_z f_t f_u zF [.vl k.t,.vl (.lst (rs.map Ru.t)),.un])=_;unfold b_z;rw[zc (ZQ (t:= .non) (by rw[zA,v1,bOk,jQ .l hr hn]))]
  have hc:tlB (zK 0 1) zW (Z1 (za (vE 0) (za (ap1 Zo (vB 1)) (za (zb 2 f_t (za (vE 2) (za (vE 1) (ze)))) (ze))))) 2 [0] [.vl k.t,.vl (.lst (rs.map Ru.t)),.un] es= .ok (es.map (tl k)):=by
   unfold tlB;rw[if_pos (by omega)]
   show quiet (zt _ _ _ (es.map weT) [.un,.un,.vl k.t])=_;rw[qR es _ _ λe he=> ?_]
   ·rfl
   ·obtain⟨hm,hle⟩:=eo.mem e he;show Z1 _ [.vl (.tup (e.1.map T.bl)),.vl (.lst e.2),.vl k.t]=_;refine gZ rfl rfl ?_;rw[zw,v2,bOk,v1,bOk,GF hk (λx hx=>(Zm k x).mp (hm x hx)) (by omega)]
  have hs:Wx (.lst (es.map (tl k)))= .ok (.lst (Yu (es.map (tl k)))):=by
   show (if _ then _ else _)=_
   rw[if_pos];refine⟨aH.mpr λt ht=> ?_,hd,by rw[ae];omega⟩
   obtain⟨e,_,rfl⟩:=av.mp ht;show (Zp (e.1.map T.bl)).isSome=true;rw[Jf];rfl
  have hw:gz zF [k.t,.lst (rs.map Ru.t)]= .ok es:=by
   show (if 2=2 then quiet _ else _)=_
   rw[if_pos rfl,e1];rfl
  show zh (match gz zF [k.t,.lst (rs.map Ru.t)] with
   | .ok es=>(match tlB (zK 0 1) zW _ 2 [0] [.vl k.t,.vl (.lst (rs.map Ru.t)),.un] es with
    | .ok vs=>(match Wx (.lst vs) with
     | .ok (.lst ws)=>RS.rf ws
     | _=> .bad)
    | _=> .bad)
   | _=> .bad)=_
  rw[hw];dsimp only;rw[hc];dsimp only;rw[hs];rfl
 ·intro x hx;have hx' :x∈es.map (tl k):=(im _ _).mem_iff.mp hx;obtain⟨e,_,rfl⟩:=av.mp hx';exact z2c k e
end
theorem qS:∀xs ys:List T,lvs (xs++ys)=lvs xs++lvs ys
 | [],ys=>by rw[wR];rfl
 | x :: xs,ys=>by rw[dj,j0,j0,qS xs ys,bF]
theorem qT:∀xs:List T,(∀x∈xs,lv (mw x)=((lv x).map mw).reverse)->lvs (xs.map mw).reverse=((lvs xs).map mw).reverse
 | [],_=>by rw[wR];rfl
 | x :: xs,h=>by
  rw[aq,ba,qS,qT xs λy hy=>h y (a9 _ hy),j0,j0,wR,bJ,h x ab,cx,List.reverse_append]
theorem GH {d:Nat}{x:T}(h:W d x):lv (mw x)=((lv x).map mw).reverse:=by
 induction h with
 | int d i=>rw[qH,Vw,Vw];show _=[mw (.int i)];rw[qH]
 | str d i=>rw[Qc,Gk];show _=[mw (.str i)];rw[Qc]
 | tup hl r ih=>rw[qI,qf,qf];exact qT _ ih
theorem Uo:∀a b:List T,JI (a++b)=JI a++JI b
 | [],b=>rfl
 | x :: a,b=>by
  have ih:=Uo a b;cases x <;> simp only[dj,JI,ih]
theorem qU:∀ts:List T,(∀x∈ts,Lf x)->(JI (ts.map mw).reverse).sum= -(JI ts).sum
 | [],_=>rfl
 | x :: ts,h=>by
  have ih:=qU ts λy hy=>h y (a9 _ hy);rw[aq,ba,Uo,ly,ih];cases h x ab with
  | int i=>rw[qH];simp only[JI,eM,iW];omega
  | str s=>rw[Qc];simp only[JI,iW];omega
theorem vM {d:Nat}{x:T}(h:W d x):(wS (mw x)).length=(wS x).length:=by
 cases h with
 | int i=>rw[qH];rfl
 | str i=>rw[Qc]
 | tup hl r=>rw[qI];simp[wS]
theorem XQ {α:Type}(p:α->Bool)(l:List α):l.reverse.any p=l.any p:=List.any_reverse
theorem qV (w:Str):∀ts:List T,(∀x∈ts,Lf x)->(ts.map mw).any (Gr w)=ts.any (Gr w)
 | [],_=>rfl
 | x :: ts,h=>by
  rw[aq,eJ,eJ,qV w ts λy hy=>h y (a9 _ hy)];cases h x ab with
  | int i=>rw[qH];rfl
  | str s=>rw[Qc]
structure vN (p:Ru×Ru):Prop where
 ok:jc 3 p.1
 ok' :jc 3 p.2
 eq:∀x,W 2 x->kp p.2 (mw x)=kp p.1 x
theorem vO {a b:Int}(h: -50<=a/\a<=50)(h' : -50<=b/\b<=50):vN (.sum a b,.sum (-b) (-a)) where
 ok:= .sum h h'
 ok' := .sum (by omega) (by omega)
 eq:=λx hx=>by
  rw[kp,kp,GH hx,qU _ (Gm hx),dD];simp only[ah,decide_eq_true_eq];omega
theorem qW {a b:Int}(h: -50<=a/\a<=50)(h' : -50<=b/\b<=50):vN (.size a b,.size a b) where
 ok:= .size h h'
 ok' := .size h h'
 eq:=λx hx=>by rw[kp,kp,vM hx]
theorem qX {w:Str}(h:Z5 (.str w)=true):vN (.word w,.word w) where
 ok:= .word h
 ok' := .word h
 eq:=λx hx=>by rw[kp,kp,GH hx,XQ,qV w _ (Gm hx)]
def prT (p:Ru×Ru):T:= .tup [p.1.t,p.2.t]
theorem j1 {k:Kd}(hk:k.Ok 3):k.mir.all.Perm (k.all.map mw):=by
 refine(fB (Uj 3 _ (JD 3 k hk)) (bp.mpr ((Uj 3 k hk).imp λh e=>h (VF e)))).mpr λx=> ?_;rw[Zm,av];constructor
 ·intro h;refine⟨mw x,(Zm _ _).mpr ?_,UZ x⟩;rw[← uu hk,UZ];exact h
 ·rintro⟨y,hy,rfl⟩
  rw[uu hk];exact(Zm _ _).mp hy
theorem qY {a b:List Rat}(h:a.Perm b):Jc a=Jc b:=by
 induction h with
 | nil=>rfl
 | cons x _ ih=>rw[Jc,Jc,ih]
 | swap x y l=>rw[Jc,Jc,Jc,Jc,← io,← io,Rat.add_comm y x]
 | trans _ _ i j=>exact i.trans j
structure Gd (k:Kd) (ws ws' :List T):Prop where
 has:∀x∈ws,k.has x=true
 perm:ws'.Perm (ws.map mw)
 len:ws.length<=60
section
variable {k:Kd}{ws ws' :List T}
theorem Gd.len' (g:Gd k ws ws'):ws'.length=ws.length:=by rw[g.perm.length_eq,ae]
theorem Gd.has' (g:Gd k ws ws')(hk:k.Ok 3):∀x∈ws',k.mir.has x=true:=λx hx=>by
 obtain⟨y,hy,rfl⟩:=av.mp (g.perm.mem_iff.mp hx);rw[uu hk];exact g.has y hy
theorem Gd.w' (g:Gd k ws ws')(hk:k.Ok 3):∀x∈ws',W 2 x:=λx hx=>z0p 2 _ x (JD 3 k hk) (g.has' hk x hx)
theorem vP (hw:∀x∈ws,W 2 x)(h:ws'.Perm (ws.map mw)){p:Ru×Ru}(hp:vN p)(q:Bool->Bool):(ws'.filter λx=>q (kp p.2 x)).Perm ((ws.filter λx=>q (kp p.1 x)).map mw):=by
 refine(h.filter _).trans ?_;rw[lF];have:ws.filter ((λx=>q (kp p.2 x)) ∘ mw)=ws.filter λx=>q (kp p.1 x):=i_ λx hx=>by
  show q (kp p.2 (mw x))=_;rw[hp.eq x (hw x hx)]
 rw[this]
theorem Gd.sum (g:Gd k ws ws')(hk:k.Ok 3):Jc (ws'.map k.mir.sh)=Jc (ws.map k.sh):=by
 rw[qY (g.perm.map k.mir.sh),aJ];exact wk λx hx=>qL 3 k x hk (g.has x hx)
end
theorem W.up {d:Nat}{x:T}(h:W d x):W (d+1) x:=by
 induction h with
 | int d i=>exact .int _ i
 | str d s=>exact .str _ s
 | tup h _ ih=>exact .tup h ih
theorem mw_w {d:Nat}{x:T}(h:W d x):W d (mw x):=by
 induction h with
 | int d i=>rw[qH];exact .int _ _
 | str d s=>rw[Qc];exact .str _ s
 | tup h _ ih=>
  rw[qI];refine .tup (by rw[bo,ae];exact h) λy hy=> ?_
  obtain⟨z,hz,rfl⟩:=av.mp (dk.mp hy);exact ih z hz
theorem qZ {x:T}(hx:W 2 x){ys:List T}(hy:∀y∈ys,W 2 y):inB ys x=true↔x∈ys:=by
 obtain⟨b,e,h⟩:=qv hx ys hy;rw[← h,inB,e];rfl
theorem VL {ps:List T}(h:∀y∈ps,W 2 y):un ps=true↔ps.Nodup:=by
 unfold un;rw[iU,iE,List.Nodup,bN];constructor
 ·intro H i j hi hj hij e;exact H (ps[j],j) (eA.mpr (aj hj)) ((qZ (h _ (lh hj)) λy hy=>h y (eT hy)).mpr (dv.mpr ⟨i,by omega,e⟩))
 ·rintro H ⟨x,j⟩ hp hb
  have hx:=eA.mp hp;obtain⟨hj,rfl⟩:=aw.mp hx;obtain⟨i,hi,e⟩:=dv.mp ((qZ (h _ (lh hj)) λy hy=>h y (eT hy)).mp hb);exact H i j (by omega) hj (by omega) e
theorem ux:vN (.unlike,.unlike) where
 ok:= .unlike
 ok' := .unlike
 eq:=λx hx=>by
  rw[kp,kp];cases hx with
  | int i=>rw[qH];rfl
  | str i=>rw[Qc]
  | tup hl r=>
   rename_i xs;rw[qI];show un (xs.map mw).reverse=un xs;have hw:∀y∈(xs.map mw).reverse,W 2 y:=λy hy=>by
    obtain⟨z,hz,rfl⟩:=av.mp (dk.mp hy);exact(mw_w (r z hz)).up
   rw[dD,VL hw,VL λy hy=>(r y hy).up];exact⟨λh=>(bp.mp (eB.mp h)).imp λh e=>h (congrArg mw e.symm),λh=>eB.mpr (bp.mpr (h.imp λh e=>h (VF e.symm)))⟩
theorem Q0 {kf:T->List Bool}{pre:List T}{w:T}:∀es:List WE,(es.map (·.1)).Nodup->(∀e∈es,e.2=pre.filter λx=>kf x=e.1)->(kf w ∉ es.map (·.1)->pre.filter (λx=>kf x=kf w)=[])->∀e∈JG (kf w) w es,e.2=(pre++[w]).filter λx=>kf x=e.1
 | [],_,_,hn,e,he=>by
  simp only[JG,au]at he;subst he;show [w]=(pre++[w]).filter λx=>kf x=kf w;rw[dG,hn (by simp)]
  simp
 | (k',ws) :: r,nd,h,hn,e,he=>by
  rw[aq,cn]at nd;unfold JG at he;have h0:ws=pre.filter λx=>kf x=k' :=h _ ab
  by_cases hk:k' =kf w
  ·rw[if_pos hk]at he;rcases ao.mp he with rfl | he
   ·show ws++[w]=(pre++[w]).filter λx=>kf x=k';rw[dG,h0];simp[hk]
   ·rw[dG,h e (a9 _ he)];have:¬ kf w=e.1:=λz=>nd.1 (av.mpr ⟨e,he,by rw[hk];exact z.symm⟩)
    simp[this]
  ·rw[if_neg hk]at he;rcases ao.mp he with rfl | he
   ·show ws=(pre++[w]).filter λx=>kf x=k';rw[dG,h0];simp[show ¬ kf w=k' from λz=>hk z.symm]
   ·exact Q0 r nd.2 (λe he=>h e (a9 _ he)) (λhh=>hn (by
     rw[aq,ao,not_or];exact⟨λz=>hk z.symm,hh⟩)) e he
theorem Up {kf:T->List Bool}:∀(ws pre:List T) (es:List WE),(es.map (·.1)).Nodup->(∀e∈es,e.2=pre.filter λx=>kf x=e.1)->(∀k,k∈es.map (·.1)↔∃w∈pre,kf w=k)->(∀e∈ZS kf ws es,e.2=(pre++ws).filter λx=>kf x=e.1)/\∀k,k∈(ZS kf ws es).map (·.1)↔∃w∈pre++ws,kf w=k
 | [],pre,es,_,h,hk=>by rw[bJ];exact⟨h,hk⟩
 | w :: ws,pre,es,nd,h,hk=>by
  have ik:=wX (kf w) w es;have:=Up (kf:=kf) ws (pre++[w]) (JG (kf w) w es) (by
   rw[ik];split
   ·exact nd
   ·rename_i hm;rw[fH];exact⟨nd,by simp,λa ha b hb z=>hm (by rw[au.mp hb]at z;rw[← z];exact ha)⟩) (Q0 es nd h λhm=>by
    rw[hW];intro x hx z;exact hm ((hk _).mpr ⟨x,hx,by simpa using z⟩)) λk=>by
    have hk' :=hk k;rw[ik];simp only[bv,au];split
    ·rename_i hm;rw[hk'];constructor
     ·rintro⟨v,hv,e⟩
      exact⟨v,.inl hv,e⟩
     ·rintro⟨v,hv | rfl,e⟩
      ·exact⟨v,hv,e⟩
      ·exact hk'.mp (e ▸ hm)
    ·rw[bv,au,hk'];constructor
     ·rintro(⟨v,hv,e⟩ | e)
      ·exact⟨v,.inl hv,e⟩
      ·exact⟨w,.inr rfl,e.symm⟩
     ·rintro⟨v,hv | rfl,e⟩
      ·exact .inl ⟨v,hv,e⟩
      ·exact .inr e.symm
  rw[bF]at this;exact this
def ent (k:Kd)(rs:List Ru)(q:List Bool):T:=tl k (q,k.all.filter λx=>wy rs x=q)
theorem Uq {k:Kd}{rs:List Ru}{t:T}:t∈(ZS (wy rs) k.all []).map (tl k)↔∃q,(∃w∈k.all,wy rs w=q)/\t=ent k rs q:=by
 obtain⟨h1,h2⟩:=Up (kf:=wy rs) k.all [] [] (by simp) (by simp) (by simp)
 rw[cq]at h1 h2;constructor
 ·intro h;obtain⟨e,he,rfl⟩:=av.mp h;refine⟨e.1,(h2 _).mp (av.mpr ⟨e,he,rfl⟩), ?_⟩;rw[ent,← h1 e he]
 ·rintro⟨q,hq,rfl⟩
  obtain⟨e,he,rfl⟩:=av.mp ((h2 q).mpr hq);refine av.mpr ⟨e,he, ?_⟩;rw[ent,← h1 e he]
section
variable {k:Kd}(hk:k.Ok 3)(h4:k.all.length<=40){ps:List (Ru×Ru)}(hp:∀p∈ps,vN p)
include hk hp
theorem XR {x:T}(hx:W 2 x):wy (ps.map (·.2)) (mw x)=wy (ps.map (·.1)) x:=by
 unfold wy;rw[aJ,aJ];exact bc λp h=>(hp p h).eq x hx
theorem GI (h6:k.all.length<=60)(q:List Bool):Gd k (k.all.filter λx=>wy (ps.map (·.1)) x=q) (k.mir.all.filter λx=>wy (ps.map (·.2)) x=q) where
 has:=λx hx=>(Zm k x).mp (cU.mp hx).1
 perm:=by
  refine((j1 hk).filter _).trans ?_;rw[lF];have:k.all.filter ((λx=>decide (wy (ps.map (·.2)) x=q)) ∘ mw)=k.all.filter λx=>wy (ps.map (·.1)) x=q:=i_ λx hx=>by
   show decide (wy (ps.map (·.2)) (mw x)=q)=_;rw[XR hk hp (um hk hx)]
  rw[this]
 len:=ar (eC _ _) h6
theorem Q1 (h6:k.all.length<=60)(q:List Bool):ent k.mir (ps.map (·.2)) q=ent k (ps.map (·.1)) q:=by
 have g:=GI hk hp h6 q;unfold ent tl;dsimp only;rw[g.len',g.sum hk]
theorem Q2 (h6:k.all.length<=60)(n1:(((ZS (wy (ps.map (·.2))) k.mir.all []).map (tl k.mir)).map kW).Nodup)(n2:(((ZS (wy (ps.map (·.1))) k.all []).map (tl k)).map kW).Nodup):((ZS (wy (ps.map (·.2))) k.mir.all []).map (tl k.mir)).Perm ((ZS (wy (ps.map (·.1))) k.all []).map (tl k)):=by
 refine(fB ((bp.mp n1).imp λh e=>h (congrArg kW e)) ((bp.mp n2).imp λh e=>h (congrArg kW e))).mpr λt=> ?_;rw[Uq,Uq];have hx:∀q,(∃w∈k.mir.all,wy (ps.map (·.2)) w=q)↔∃w∈k.all,wy (ps.map (·.1)) w=q:=λq=>by
  constructor
  ·rintro⟨w,hw,e⟩
   obtain⟨y,hy,rfl⟩:=av.mp ((j1 hk).mem_iff.mp hw);exact⟨y,hy,by rw[← XR hk hp (um hk hy)];exact e⟩
  ·rintro⟨w,hw,e⟩
   exact⟨mw w,(j1 hk).mem_iff.mpr (av.mpr ⟨w,hw,rfl⟩),by rw[XR hk hp (um hk hw)];exact e⟩
 constructor
 ·rintro⟨q,hq,rfl⟩
  exact⟨q,(hx q).mp hq,Q1 hk hp h6 q⟩
 ·rintro⟨q,hq,rfl⟩
  exact⟨q,(hx q).mpr hq,(Q1 hk hp h6 q).symm⟩
end
theorem ZA {k:Kd}(hk:k.Ok 3)(h5:k.all.length<=500){r:Ru}(hr:jc 3 r):f_l [k.t,r.t]= .ok (.lst (k.all.filter λx=>kp r x)):=by
 have hb:bnd=16777216:=rfl;show zh (b_l f_x f_6 (f_b 8) (en2 k.t r.t))=_;unfold b_l;rw[zc (ZQ (t:= .non) (by rw[zA,v1,bOk,jP hr])),Zn]
 show zL _ _ _ _ _ _ (en2 k.t r.t)=_;rw[zT,jq,zA,v0,bOk,jw hk h5,bOk];show ((zu _ _ _ _ _ _ k.all).bind _)=_;rw[jE (p:=λx=>kp r x) k.all (by omega) λt ht=>⟨?_,rfl⟩,bOk]
 show jT _ (en2 t r.t)=_;rw[jp,zw,v1,bOk,v0,bOk,wg (um hk ht) hr];rfl
theorem ZF {k:Kd}(hk:k.Ok 3)(h5:k.all.length<=60){r:Ru}(hr:jc 3 r):f_w [k.t,r.t]= .ok (frT (Jc ((k.all.filter λx=>kp r x).map k.sh))):=by
 show zh (b_w f_t f_l (en2 k.t r.t))=_;unfold b_w;rw[Zn];show zb 2 _ _ (en2 k.t r.t)=_;rw[zw,v0,bOk,zw,v0,bOk,v1,bOk,ZA hk (by omega) hr,bOk]
 exact GF hk (λx hx=>(Zm k x).mp (cU.mp hx).1) (ar (eC _ _) h5)
theorem WU {k:Kd}(hk:k.Ok 3)(h5:k.all.length<=500){r s:Ru}(hr:jc 3 r)(hs:jc 3 s)(h:∀x,kp r x=kp s x):f_y [k.t,r.t,s.t]= .ok (.bl true):=by
 have hn:f_u [.tup [r.t,s.t]]= .ok .non:=jQ .t (rs:=[r,s]) (λq hq=>by
  simp only[ao,be,or_false]at hq;rcases hq with rfl | rfl <;> assumption) (show 2<=1000 by decide)
 show zh (b_y f_l f_u [.vl k.t,.vl r.t,.vl s.t])=_;unfold b_y;rw[zc (ZQ (t:= .non) (by rw[zA,WZ v1 v2,bOk,hn])),Zn]
 show ZV eqC _ _ [.vl k.t,.vl r.t,.vl s.t]=_;refine GC (t:= .lst (k.all.filter λx=>kp r x)) ?_ ?_ (GD hk λx hx=>(cU.mp hx).1)
 ·rw[zw,v0,bOk,v1,bOk,ZA hk h5 hr]
 ·rw[zw,v0,bOk,v2,bOk,ZA hk h5 hs];simp only[h]
theorem lx {f:En->R T}{ρ:En}{z:Int}(h:f ρ= .ok (.int z)):zd ixT (j4 (za (cE (.str "a")) (za (cE (.str "b")) (za (cE (.str "ab")) (za (cE (.str "zz")) (ze)))))) f ρ=ixT (.lst [.str "a",.str "b",.str "ab",.str "zz"]) (.int z):=by
 show (f ρ).bind (ixT (.lst [.str "a",.str "b",.str "ab",.str "zz"]))=_;rw[h,bOk]
abbrev rlB:En->RS:=(zn (zI 9 (zb 2 f_l (za (vE 1) (za (vE 7) (ze)))))
  (zn (zI 10 (zb 2 f_l (za (vE 2) (za (vE 8) (ze)))))
  (zn (zI 11 (zL (ZB (vE 9)) (zC 0) (zW) (zb 2 k8 (za (vE 1) (za (vE 0) (ze)))) 1 [1]))
  (zn (ifS (orT (zx neC (ap1 Zo (vB 9)) (ap1 Zo (vB 10))) (zx neC (zL (ZB (vE 11)) (zC 0) (zx uF (vB 0) (vB 1)) (vE 0) 1 [10]) (j4 (ze)))) (zq (cE (.bl false))) (nxS))
  (ifS (zx neC (zb 2 f_w (za (vE 1) (za (vE 7) (ze)))) (zb 2 f_w (za (vE 2) (za (vE 8) (ze))))) (zq (cE (.bl false))) (nxS))))))
abbrev eL (ns:List Int)(k:Kd)(x y:Int)(rs rs' :List T)(a b c d e:Sl):En:=[.vl (scr ns),.vl k.t,.vl k.mir.t,.vl (.int x),.vl (.int y),.vl (.lst rs),.vl (.lst rs'),a,b,c,d,e,.un,.un]
section
variable {ns:List Int}{k:Kd}(hk:k.Ok 3)(hl:k.all.length<=40){x y:Int}{rs rs' :List T}
include hk hl
theorem XS {p:Ru×Ru}(hp:vN p)(c d e:Sl):∃c' d' e',rlB (eL ns k x y rs rs' (.vl p.1.t) (.vl p.2.t) c d e)= .nx (eL ns k x y rs rs' (.vl p.1.t) (.vl p.2.t) c' d' e'):=by
 have hb:bnd=16777216:=rfl;have hm:=JD 3 k hk;have hml:k.mir.all.length=k.all.length:=by rw[(j1 hk).length_eq,ae]
 have g:Gd k (k.all.filter λx=>kp p.1 x) (k.mir.all.filter λx=>kp p.2 x):=⟨λx hx=>(Zm k x).mp (cU.mp hx).1,vP (λx hx=>um hk hx) (j1 hk) hp id,ar (eC _ _) (by omega)⟩
 have k1:=ZA hk (by omega) hp.ok
 have k2:=ZA hm (by omega) hp.ok'
 have s1:=ZF hk (by omega) hp.ok
 have s2:=ZF hm (by omega) hp.ok'
 rw[g.sum hk]at s2;generalize (k.all.filter λx=>kp p.1 x)=ws at*;generalize (k.mir.all.filter λx=>kp p.2 x)=ws' at*;have gl:=g.len;refine⟨.vl (.lst ws),.vl (.lst ws'),.vl (.lst (ws.map mw)), ?_⟩;have e1:zI 9 (zb 2 f_l (za (vE 1) (za (vE 7) (ze)))) (eL ns k x y rs rs' (.vl p.1.t) (.vl p.2.t) c d e)= .nx (eL ns k x y rs rs' (.vl p.1.t) (.vl p.2.t) (.vl (.lst ws)) d e):=by
  rw[zJ (t:= .lst ws)]
  ·rfl
  ·rw[zw,v1,bOk,show vE 7 (eL ns k x y rs rs' (.vl p.1.t) (.vl p.2.t) c d e)= .ok p.1.t from rfl,bOk,k1]
 have e2:zI 10 (zb 2 f_l (za (vE 2) (za (vE 8) (ze)))) (eL ns k x y rs rs' (.vl p.1.t) (.vl p.2.t) (.vl (.lst ws)) d e)= .nx (eL ns k x y rs rs' (.vl p.1.t) (.vl p.2.t) (.vl (.lst ws)) (.vl (.lst ws')) e):=by
  rw[zJ (t:= .lst ws')]
  ·rfl
  ·rw[zw,v2,bOk,show vE 8 (eL ns k x y rs rs' (.vl p.1.t) (.vl p.2.t) (.vl (.lst ws)) d e)= .ok p.2.t from rfl,bOk,k2]
 have e3:zI 11 (zL (ZB (vE 9)) (zC 0) (zW) (zb 2 k8 (za (vE 1) (za (vE 0) (ze)))) 1 [1]) (eL ns k x y rs rs' (.vl p.1.t) (.vl p.2.t) (.vl (.lst ws)) (.vl (.lst ws')) e)= .nx (eL ns k x y rs rs' (.vl p.1.t) (.vl p.2.t) (.vl (.lst ws)) (.vl (.lst ws')) (.vl (.lst (ws.map mw)))):=by
  rw[zJ (t:= .lst (ws.map mw))]
  ·rfl
  ·rw[zT];show ((zu _ _ _ _ _ _ ws).bind _)=_;rw[zG (h:=mw) ws (by omega) λt ht=> ?_,bOk]
   show zb 2 _ _ (en2 t k.t)=_;rw[zw,v1,bOk,v0,bOk,XO hk (g.has t ht)]
 have e4:orT (zx neC (ap1 Zo (vB 9)) (ap1 Zo (vB 10))) (zx neC (zL (ZB (vE 11)) (zC 0) (zx uF (vB 0) (vB 1)) (vE 0) 1 [10]) (j4 (ze))) (eL ns k x y rs rs' (.vl p.1.t) (.vl p.2.t) (.vl (.lst ws)) (.vl (.lst ws')) (.vl (.lst (ws.map mw))))= .ok false:=by
  rw[UP,zS];show ((neC (.int (ws.length:Int)) (.int (ws'.length:Int))).bind _)=_;rw[g.len',ul (t:= .int (ws.length:Int)) trivial,bOk,if_neg (by decide),zS,zT]
  show (((zu _ _ _ _ _ _ (ws.map mw)).bind _).bind _)=_;rw[jE (p:=λ_=>false) (ws.map mw) (by rw[ae];omega) λt ht=>⟨?_,rfl⟩,bOk,bOk]
  ·rw[hW.mpr λ_ _=>by decide]
   rfl
  ·have hm:=g.perm.mem_iff.mpr ht;show uF t (.lst ws')=_;exact z25 (g.w' hk t hm) (g.w' hk) (b:=true) ⟨λ_=>hm,λ_=>rfl⟩
 have e5:zx neC (zb 2 f_w (za (vE 1) (za (vE 7) (ze)))) (zb 2 f_w (za (vE 2) (za (vE 8) (ze)))) (eL ns k x y rs rs' (.vl p.1.t) (.vl p.2.t) (.vl (.lst ws)) (.vl (.lst ws')) (.vl (.lst (ws.map mw))))= .ok false:=by
  rw[zS,zw,v1,bOk,show vE 7 (eL ns k x y rs rs' (.vl p.1.t) (.vl p.2.t) (.vl (.lst ws)) (.vl (.lst ws')) (.vl (.lst (ws.map mw))))= .ok p.1.t from rfl,bOk,s1,bOk,zw,v2,bOk,show vE 8 (eL ns k x y rs rs' (.vl p.1.t) (.vl p.2.t) (.vl (.lst ws)) (.vl (.lst ws')) (.vl (.lst (ws.map mw))))= .ok p.2.t from rfl,bOk,s2,bOk];refine ul λy hy=> ?_;simp only[ao,be,or_false]at hy;rcases hy with rfl | rfl <;> trivial
 show rlB _=_;unfold rlB;rw[zc e1,zc e2,zc e3,zc (zo e4),zo e5]
theorem Q3:∀(ps:List (Ru×Ru)) (a b c d e:Sl),(∀p∈ps,vN p)->∃a' b' c' d' e',Zj (zK 7 8) rlB (ps.map prT) (eL ns k x y rs rs' a b c d e)= .nx (eL ns k x y rs rs' a' b' c' d' e')
 | [],a,b,c,d,e,_=>⟨a,b,c,d,e,rfl⟩
 | p :: ps,a,b,c,d,e,h=>by
  obtain⟨c1,d1,e1,h1⟩:=XS hk hl (ns:=ns) (x:=x) (y:=y) (rs:=rs) (rs' :=rs') (h p ab) c d e;obtain⟨a2,b2,c2,d2,e2,h2⟩:=Q3 ps (.vl p.1.t) (.vl p.2.t) c1 d1 e1 λq hq=>h q (a9 _ hq);exact⟨a2,b2,c2,d2,e2,by rw[aq,jt rfl h1,h2]⟩
end
theorem Q4:∀ps:List (Ru×Ru),y8 ((ps.map (·.1)).map Ru.t) ((ps.map (·.2)).map Ru.t)=ps.map prT
 | []=>rfl
 | p :: ps=>by
  show T.tup [p.1.t,p.2.t] :: y8 _ _=_;rw[Q4 ps];rfl
theorem z2d {f g h:En->R T}{ρ:En}{x y z:T}(hf:f ρ= .ok x)(hg:g ρ= .ok y)(hh:h ρ= .ok z):za f (za g (za h ze)) ρ= .ok [x,y,z]:=by
 show (f ρ).bind _=_;rw[hf,bOk,GB hg hh];rfl
theorem pk {ns:List Int}{j m q:Int}{ρ:En}(h0:vE 0 ρ= .ok (scr ns))(h:f_4 [scr ns,.int j,.int m]= .ok (.int q)):zb 3 f_4 (za (vE 0) (za (cE (.int j)) (za (cE (.int m)) (ze)))) ρ= .ok (.int q):=by
 rw[Zc,h0,bOk,Z3,bOk,Z3,bOk,h]
theorem law_ok (ns:List Int)(h:ns.length<=63):f_0 [.fz (ns.map T.int)]= .ok (.bl true):=by
 obtain⟨k,hk,hl,hs⟩:=vw ns 0 (by omega) 25 (by omega)
 obtain⟨p0,h0,a0,b0⟩:=zM ns 3000 13 (by decide) (by decide)
 obtain⟨p1,h1,a1,b1⟩:=zM ns 3001 6 (by decide) (by decide)
 obtain⟨p2,h2,a2,b2⟩:=zM ns 3002 3 (by decide) (by decide)
 obtain⟨p3,h3,a3,b3⟩:=zM ns 3003 3 (by decide) (by decide)
 obtain⟨p4,h4,a4,b4⟩:=zM ns 3004 4 (by decide) (by decide)
 have hm:=JD 3 k hk;have hb:bnd=16777216:=rfl;have hml:k.mir.all.length=k.all.length:=by rw[(j1 hk).length_eq,ae]
 obtain⟨w,hw,ew⟩:∃w:Str,Z5 (.str w)=true/\ixT (.lst [.str "a",.str "b",.str "ab",.str "zz"]) (.int p4)= .ok (.str w):=by
  have:p4=0\/p4=1\/p4=2\/p4=3:=by omega
  rcases this with rfl | rfl | rfl | rfl
  ·exact⟨"a",by decide+kernel,rfl⟩
  ·exact⟨"b",by decide+kernel,rfl⟩
  ·exact⟨"ab",by decide+kernel,rfl⟩
  ·exact⟨"zz",by decide+kernel,rfl⟩
 obtain⟨x,hx⟩:∃x,x=p0 - 6:=⟨_,rfl⟩;obtain⟨y,hy⟩:∃y,y=x+p1:=⟨_,rfl⟩;obtain⟨ps,hps⟩:∃ps:List (Ru×Ru),ps=[(.sum x y,.sum (-y) (-x)),(.size p2 (1+p3),.size p2 (1+p3)),(.unlike,.unlike),(.word w,.word w)]:=⟨_,rfl⟩;have hP:∀p∈ps,vN p:=λp hp=>by
  rw[hps]at hp;simp only[ao,be,or_false]at hp;rcases hp with rfl | rfl | rfl | rfl
  ·exact vO (by omega) (by omega)
  ·exact qW (by omega) (by omega)
  ·exact ux
  ·exact qX hw
 have hr:∀r∈ps.map (·.1),jc 3 r:=λr hr=>by
  obtain⟨p,hp,rfl⟩:=av.mp hr;exact(hP p hp).ok
 have hr' :∀r∈ps.map (·.2),jc 3 r:=λr hr=>by
  obtain⟨p,hp,rfl⟩:=av.mp hr;exact(hP p hp).ok'
 have hn:(ps.map (·.1)).length<=1000:=by rw[hps];show 4<=1000;decide
 have hn' :(ps.map (·.2)).length<=1000:=by rw[hps];show 4<=1000;decide
 obtain⟨t1,n1,l1⟩:=Um hk (by omega) hr hn
 obtain⟨t2,n2,_⟩:=Um hm (by omega) hr' hn'
 have hpm:=Wy ((Jt _).trans (Q2 hk hP (by omega) n2 n1)) n1 (Yv _)
 rw[hpm]at t2;generalize Yu ((ZS (wy (ps.map (·.1))) k.all []).map (tl k))=ts at*;obtain⟨a,b,c,d,e,hf⟩:=Q3 hk (by omega) (ns:=ns) (x:=x) (y:=y) (rs:=(ps.map (·.1)).map Ru.t) (rs' :=(ps.map (·.2)).map Ru.t) ps .un .un .un .un .un hP
 show zh (b_0 f_4 gE f_j k8 f_l f_w f_y f_z [.vl (scr ns),.un,.un,.un,.un,.un,.un,.un,.un,.un,.un,.un,.un,.un])=_;unfold b_0;rw[zc (ρ' :=[.vl (scr ns),.vl k.t,.un,.un,.un,.un,.un,.un,.un,.un,.un,.un,.un,.un]) ?e0]
 case e0=>
  rw[zJ (t:=k.t)]
  ·rfl
  ·rw[Zc,v0,bOk,Z3,bOk,Z3,bOk];exact hs
 rw[zc (ρ' :=[.vl (scr ns),.vl k.t,.vl k.mir.t,.vl (.int x),.un,.un,.un,.un,.un,.un,.un,.un,.un,.un]) ?e1]
 case e1=>
  unfold z1p;rw[GB (x:=k.mir.t) (y:= .int x) (by rw[zA,v1,bOk,uw hk]) (by rw[zk,pk rfl h0,bOk,hx];rfl)]
  rfl
 rw[zc (ρ' :=[.vl (scr ns),.vl k.t,.vl k.mir.t,.vl (.int x),.vl (.int y),.un,.un,.un,.un,.un,.un,.un,.un,.un]) ?e2]
 case e2=>
  rw[zJ (t:= .int y)]
  ·rfl
  ·rw[zk,v3,bOk,pk rfl h1,bOk,hy];rfl
 rw[zc (ρ' :=[.vl (scr ns),.vl k.t,.vl k.mir.t,.vl (.int x),.vl (.int y),.ow [(Ru.sum x y).t,(Ru.size p2 (1+p3)).t,Ru.unlike.t],.un,.un,.un,.un,.un,.un,.un,.un]) ?e3]
 case e3=>
  unfold uI;rw[z2d (x:=(Ru.sum x y).t) (y:=(Ru.size p2 (1+p3)).t) (z:=Ru.unlike.t) rfl (gZ rfl (pk rfl h2) (by rw[zk,Z3,bOk,pk rfl h3];rfl)) rfl]
  rfl
 rw[zc (ρ' :=[.vl (scr ns),.vl k.t,.vl k.mir.t,.vl (.int x),.vl (.int y),.ow [(Ru.sum x y).t,(Ru.size p2 (1+p3)).t,Ru.unlike.t,(Ru.word w).t],.un,.un,.un,.un,.un,.un,.un,.un]) ?e4]
 case e4=>
  rw[Vv (ts:=[(Ru.sum x y).t,(Ru.size p2 (1+p3)).t,Ru.unlike.t]) (t:=(Ru.word w).t) rfl (by rw[hb];show 3 < 16777216;decide) (WZ rfl (by rw[lx (pk rfl h4),ew]))]
  rfl
 rw[zc (ρ' :=eL ns k x y ((ps.map (·.1)).map Ru.t) ((ps.map (·.2)).map Ru.t) .un .un .un .un .un) ?e5]
 case e5=>
  show zI 6 _ [.vl (scr ns),.vl k.t,.vl k.mir.t,.vl (.int x),.vl (.int y),.vl (.lst [(Ru.sum x y).t,(Ru.size p2 (1+p3)).t,Ru.unlike.t,(Ru.word w).t]),.un,.un,.un,.un,.un,.un,.un,.un]=_;rw[zJ (t:= .lst [.tup [.str "sum",.int (0 - y),.int (0 - x)],(Ru.size p2 (1+p3)).t,Ru.unlike.t,(Ru.word w).t]) rfl,Int.zero_sub,Int.zero_sub,hps];rfl
 rw[zc (ρ' :=eL ns k x y ((ps.map (·.1)).map Ru.t) ((ps.map (·.2)).map Ru.t) a b c d e) ?e6]
 case e6=>
  unfold j3;rw[show Q8 (vE 5) (vE 6) (eL ns k x y ((ps.map (·.1)).map Ru.t) ((ps.map (·.2)).map Ru.t) .un .un .un .un .un)= .ok (ps.map prT) from congrArg R.ok (Q4 ps),Zt];exact hf
 rw[zc (zo ?e7)]
 case e7=>
  rw[zS,zw,v1,bOk,show vE 5 (eL ns k x y ((ps.map (·.1)).map Ru.t) ((ps.map (·.2)).map Ru.t) a b c d e)= .ok (.lst ((ps.map (·.1)).map Ru.t)) from rfl,bOk,t1,bOk,zw,v2,bOk,show vE 6 (eL ns k x y ((ps.map (·.1)).map Ru.t) ((ps.map (·.2)).map Ru.t) a b c d e)= .ok (.lst ((ps.map (·.2)).map Ru.t)) from rfl,bOk,t2,bOk];exact ul l1
 rw[zc (ρ' :=[.vl (scr ns),.vl k.t,.vl k.mir.t,.vl (.int x),.vl (.int y),.vl (.lst ((ps.map (·.1)).map Ru.t)),.vl (.lst ((ps.map (·.2)).map Ru.t)),a,b,c,d,e,.vl (Ru.sum (-50) 50).t,.vl (Ru.sum 1 0).t]) ?e9]
 case e9=>rfl
 rw[zc (zo ?e8),Zn]
 case e8=>
  rw[zS,Zc,v1,bOk,gZ (x:= .str "some") (y:=(Ru.sum (-50) 50).t) (z:=(Ru.sum 1 0).t) rfl rfl rfl,bOk];show ((f_y [k.t,(Ru.some (.sum (-50) 50) (.sum 1 0)).t,(Ru.sum (-50) 50).t]).bind _)=_;rw[WU hk (by omega) (.some (.sum (by decide) (by decide)) (.sum (by decide) (by decide))) (.sum (by decide) (by decide)) λz=> ?_,bOk]
  ·rfl
  ·simp only[kp];rw[dD];simp only[dC,ah,decide_eq_true_eq];omega
 show ZV Q5 _ _ [.vl (scr ns),.vl k.t,.vl k.mir.t,.vl (.int x),.vl (.int y),.vl (.lst ((ps.map (·.1)).map Ru.t)),.vl (.lst ((ps.map (·.2)).map Ru.t)),XX a,XX b,XX c,XX d,XX e,.vl (Ru.sum (-50) 50).t,.vl (Ru.sum 1 0).t]=_;rw[ZE,Zc,v1,bOk,hps];show ((f_y [k.t,(Ru.sum x y).t,(Ru.all (.sum x 50) (.sum (-50) y)).t]).bind _)=_;rw[WU hk (by omega) (.sum (by omega) (by omega)) (.all (.sum (by omega) (by decide)) (.sum (by decide) (by omega))) λz=> ?_,bOk]
 ·rfl
 ·simp only[kp];rw[dD];simp only[ah,decide_eq_true_eq];omega
end G
namespace G
open PySem PySem.Spec PyProof.Rows L2 PV
noncomputable def top (i:Nat):Stmt:=PySem.Challenge.pw_worthkinds_k45_whole_rules_about.main.body.getD i (.Pass ⟨0,0,0,0⟩)
set_option genInjectivity false in
set_option genSizeOf false in
structure Tx (K:ag) (mg:Str->Option Value):Prop where
 C_1h:FE K mg "_law_cell" (top 70) ["_law_script","_law_k"]
 C_4:FE K mg "_law_pick" (top 71) ["_law_script","_law_k","_law_many"]
 C_12:FE K mg "_law_word_of" (top 72) ["_law_script","_law_at"]
 C_15:FE K mg "_law_leaf_kind" (top 73) ["_law_script","_law_at"]
 C_h:FE K mg "_law_kind" (top 74) ["_law_script","_law_at","_law_deep"]
 C_i:FE K mg "_law_rows_of" (top 76) ["_law_lists"]
 C_5:FE K mg "_law_all" (top 75) ["_law_kind_here"]
 C_f:FE K mg "_law_size" (top 77) ["_law_kind_here"]
 C_18:FE K mg "_law_small" (top 78) ["_law_script","_law_at","_law_most"]
 C_a:FE K mg "is_whole" (top 12) ["thing"]
 C_1j:FE K mg "is_span" (top 15) ["low","high","least","most"]
 C_e:FE K mg "is_tuple_of" (top 13) ["thing","least","most"]
 C_v:FE K mg "is_word" (top 14) ["thing"]
 C_19:FE K mg "is_choice" (top 18) ["thing"]
 C_17:FE K mg "are_choices" (top 17) ["thing"]
 C_9:FE K mg "is_kind_within" (top 16) ["thing","levels"]
 C_1o:FE K mg "are_kinds_within" (top 19) ["thing","levels"]
 C_3:FE K mg "is_kind" (top 8) ["thing"]
 C_o:FE K mg "need_kind" (top 10) ["kind"]
 C_2:FE K mg "mirror_of" (top 67) ["kind"]
 C_j:FE K mg "mirrored" (top 65) ["kind"]
 C_1e:FE K mg "is_bound" (top 51) ["thing"]
 C_n:FE K mg "is_rule_within" (top 50) ["thing","levels"]
 C_8:FE K mg "is_rule" (top 45) ["thing"]
 C_6:FE K mg "need_rule" (top 48) ["rule"]
 C_1:FE K mg "count_of" (top 26) ["kind"]
 C_10:FE K mg "count_of_parts" (top 27) ["kinds"]
 C_r:FE K mg "count_shorter" (top 28) ["kind","length"]
 C_q:FE K mg "words_of_pick" (top 20) ["kind"]
 C_g:FE K mg "worth_at" (top 29) ["kind","number"]
 C_1n:FE K mg "many_at" (top 30) ["kind","number"]
 C_13:FE K mg "parts_at" (top 31) ["kinds","number"]
 C_x:FE K mg "all_worths" (top 25) ["kind"]
 C_k:FE K mg "leaves_of" (top 55) ["worth"]
 C_1d:FE K mg "numbers_in" (top 56) ["worth"]
 C_1i:FE K mg "parts_of" (top 54) ["worth"]
 C_1k:FE K mg "are_rising" (top 57) ["numbers"]
 C_1l:FE K mg "are_unlike" (top 58) ["parts"]
 C_16:FE K mg "is_single_kept" (top 53) ["rule","worth"]
 C_b:FE K mg "is_kept" (top 52) ["rule","worth"]
 C_l:FE K mg "keepers" (top 46) ["kind","rule"]
 C_d:FE K mg "has_worth" (top 21) ["kind","thing"]
 C_1m:FE K mg "have_parts" (top 22) ["kinds","parts"]
 C_1f:FE K mg "is_worth" (top 9) ["kind","thing"]
 C_1c:FE K mg "need_worth" (top 11) ["kind","worth"]
 C_m:FE K mg "mirror_of_worth" (top 68) ["worth"]
 C_11:FE K mg "mirrored_worth" (top 66) ["kind","worth"]
 C_14:FE K mg "greatest_divisor" (top 34) ["one","other"]
 C_p:FE K mg "fraction" (top 33) ["up","down"]
 C_1a:FE K mg "plus" (top 36) ["one","other"]
 C_7:FE K mg "together" (top 37) ["fractions"]
 C_1b:FE K mg "share_of_word" (top 40) ["kind","word"]
 C_s:FE K mg "times" (top 35) ["one","other"]
 C_c:FE K mg "share_within" (top 39) ["kind","worth"]
 C_1g:FE K mg "share_of_parts" (top 41) ["kinds","parts"]
 C_t:FE K mg "shares_together" (top 38) ["kind","worths"]
 C_w:FE K mg "share_keeping" (top 47) ["kind","rule"]
 C_u:FE K mg "need_rules" (top 49) ["rules"]
 C_1p:FE K mg "way_of" (top 63) ["rules","worth"]
 C_worths_by_ways:FE K mg "worths_by_ways" (top 62) ["kind","rules"]
 C_z:FE K mg "tally" (top 61) ["kind","rules"]
 C_y:FE K mg "alike_on" (top 60) ["kind","one","other"]
 C_0:FE K mg "law" (top 82) ["_law_script"]
 z:∀x,(["abs","all","any","bool","dict","enumerate","int","isinstance","len","list","min","range","reversed","set","sorted","str","sum","tuple","zip"]:List Str).contains x=true->mg x=none
 c_DEEPEST:∃u,mg "DEEPEST"=some u/\∃t,u=Value.int 3 t
 c_DEEPEST_RULE:∃u,mg "DEEPEST_RULE"=some u/\∃t,u=Value.int 3 t
 c_FARTHEST_BOUND:∃u,mg "FARTHEST_BOUND"=some u/\∃t,u=Value.int 50 t
 c_MOST_TOLD:∃u,mg "MOST_TOLD"=some u/\∃t,u=Value.int 500 t
section
variable {Z:Zz}(tx:Tx Z.K Z.mg)
include tx
set_option hygiene false
local macro_rules | `(tactic| gp_on)=> `(tactic| first
  | (show uE _ _ _ _;first
   | refine kZ ?_ ?_
   | exact z0S)
  | (show Snd _ _ (.Name ..) _;first
   | exact z0P _ (pv _)
   | exact tx.c_FARTHEST_BOUND.elim λ_ h=>wB (by rfl) h.1 h.2
   | exact tx.c_DEEPEST.elim λ_ h=>wB (by rfl) h.1 h.2
   | exact tx.c_DEEPEST_RULE.elim λ_ h=>wB (by rfl) h.1 h.2
   | exact tx.c_MOST_TOLD.elim λ_ h=>wB (by rfl) h.1 h.2)
  | (show Snd _ _ (.Constant ..) _;first
   | exact z0Q
   | exact z0R
   | exact s_bl)
  | (show WX _ _ _ _;first
   | refine Kc ?_ ?_
   | exact z1f
   | refine vi (by assumption) hr nd (by rfl) (.inl (by rfl)) ?_ (cr2 hy (by kernel_rfl) (by kernel_rfl) (by rfl) ?_ (λ_ hy _ _ _ _ _ _=> ?_) (λ_ hy _ _ _ _ _ _ _ hp=> ?_)) (pv _) (tx.z _ (by kernel_rfl))
   | refine z1g ?_)
  | (show jh _ _ _ _;first
   | exact kY _ (pv _)
   | refine Snd.b ?_)
  | (show JF _ _ _ _;first
   | refine z1h ?_
   | refine z1i ?_ ?_ ?_
   | refine Ke nd (by rfl) (.inl (by rfl)) ?_
   | refine z1l eX (by rfl) ?_ ?_ ?_
   | refine Kg ?_
   | refine Kf nd (by rfl) (.inl (by rfl)) ?_
   | exact z1t
   | refine Ke nd (by rfl) (.inr (by rfl)) ?_
   | refine z1j (pv _) ?_
   | refine Kt (cr1 hy (by kernel_rfl) (by kernel_rfl) (by rfl) ?_ (λ_ hy _ _ _ _ _ _=> ?_) (λ_ hy _ _ _ _ _ _ _ hp=> ?_)) nd (by rfl) (.inl (by rfl)) (by rfl)
   | refine z1k (pv _) ?_
   | exact s_mv (pv _) nd (by rfl) (.inl (by rfl))
   | refine yN (n:=_) eX ?_ ?_
   | refine KH (cr1 hy (by kernel_rfl) (by kernel_rfl) (by rfl) ?_ (λ_ hy _ _ _ _ _ _=> ?_) (λ_ hy _ _ _ _ _ _ _ hp=> ?_))
   | refine yN (n:=_ ^ _) eX ?_ ?_
   | refine z1q (by rfl) nd (by rfl) (by rfl) (by decide) (by rfl) (by rfl) ?_ (by rfl)
   | refine gB ?_
   | refine KU ?_ (V5 (by rfl) nd (by rfl) (by rfl) (.inl (by rfl)) (.inl (by rfl))))
  | (show Snd _ _ (.Call ..) _;first
   | refine z1b (by rfl) (tx.z _ (by kernel_rfl)) ?_
   | refine Qz (n:="tuple") (Wl _) (by rfl) (tx.z _ (by kernel_rfl)) (by rfl) (tx.z _ (by kernel_rfl)) PyProof.Rows.Boot.«tuple» ?_
   | refine xu (by rfl) (tx.z _ (by kernel_rfl)) ?_
   | refine z1e hr.hd (by rfl) (tx.z _ (by kernel_rfl)) ?_
   | refine KG (by rfl) (tx.z _ (by kernel_rfl)) ?_
   | refine Ka (by rfl) (by rfl) (tx.z _ (by kernel_rfl)) ?_ ?_
   | refine Qz (n:="str") (xw _) (by rfl) (tx.z _ (by kernel_rfl)) (by rfl) (tx.z _ (by kernel_rfl)) PyProof.Rows.Boot.«str» ?_
   | refine z1u hr.hd (by rfl) (tx.z _ (by kernel_rfl)) ?_
   | refine Kx ?_
   | refine xR hr.hd (by rfl) (tx.z _ (by kernel_rfl)) (by rfl) (tx.z _ (by kernel_rfl)) ?_ ?_
   | refine Qz (n:="int") (xv _) (by rfl) (tx.z _ (by kernel_rfl)) (by rfl) (tx.z _ (by kernel_rfl)) PyProof.Rows.Boot.«int» ?_
   | refine Qz (n:="bool") (Qx _) (by rfl) (tx.z _ (by kernel_rfl)) (by rfl) (tx.z _ (by kernel_rfl)) PyProof.Rows.Boot.«bool» ?_
   | refine Ky hr.hd (by rfl) (tx.z _ (by kernel_rfl)) (by rfl) (tx.z _ (by kernel_rfl)) ?_
   | refine X9 hr.hd (by rfl) (tx.z _ (by kernel_rfl)) (by rfl) (tx.z _ (by kernel_rfl)) ?_
   | refine KQ hr.hd (by rfl) (tx.z _ (by kernel_rfl)) (by rfl) (tx.z _ (by kernel_rfl)) ?_
   | refine z1z hr.hd (by rfl) (tx.z _ (by kernel_rfl)) ?_
   | refine z1B (by rfl) (tx.z _ (by kernel_rfl)) ?_
   | refine KS (n:="list") (m:="tuple") (Qy _) (Wl _) (by rfl) (tx.z _ (by kernel_rfl)) (by rfl) (tx.z _ (by kernel_rfl)) PyProof.Rows.Boot.«list» (by rfl) (tx.z _ (by kernel_rfl)) PyProof.Rows.Boot.«tuple» ?_
   | refine cZ hy (by assumption) hr ?_)
  | (show Snd _ _ (.Subscript ..) _;first
   | refine s_ix ?_ ?_
   | refine xz ?_ ?_ ?_)
  | (show u6 _ _ _ _;first
   | refine Wj K1 (vX hr.units) ?_ ?_ (je _)
   | refine z18 ?_
   | refine Wj z11 (K2 hr.units) ?_ ?_ (je _)
   | refine Wj z12 K3 ?_ ?_ (je _)
   | refine Wj z13 K4 ?_ ?_ (je _)
   | refine Wj ww ji ?_ ?_ (je _)
   | refine Wj K5 (xn hr.units) ?_ ?_ (by rfl)
   | refine Wj Qr (vY hr.units) ?_ ?_ (by rfl)
   | refine xr ww ww ji ji ?_ ?_ ?_
   | refine Wj K6 xp ?_ ?_ (je _)
   | refine z19 ?_
   | refine Qu.t ?_)
  | (show Snd _ _ (.BinOp ..) _;first
   | refine z0W ?_ ?_
   | refine z0Z ?_ ?_
   | refine z0X ?_ ?_
   | refine z0Y ?_ ?_
   | refine s_ml ?_ ?_
   | refine K0 ?_ ?_
   | refine z1C ?_ ?_)
  | (show Snd _ _ (.BoolOp ..) _;first
   | refine z15 ?_ ?_
   | refine s_or ?_ ?_
   | refine z14 ?_)
  | (show WY _ _ _ _ _;first
   | refine Km (by rfl) (tx.z _ (by kernel_rfl)) ?_
   | refine z1r (by rfl) (tx.z _ (by kernel_rfl)) ?_ ?_
   | refine z1x (by rfl) (tx.z _ (by kernel_rfl)) ?_
   | refine Kn (by rfl) (tx.z _ (by kernel_rfl)) ?_ ?_
   | refine Kv (by rfl) (tx.z _ (by kernel_rfl)) ?_
   | refine xV (by rfl) (tx.z _ (by kernel_rfl)) ?_
   | exact gy
   | refine z1o ?_)
  | (show Snd _ _ (.Tuple ..) _;first
   | refine z0T ?_)
  | (show Snd _ _ (.Compare ..) _;first
   | refine Qq K1 (vX hr.units) ?_ ?_ (je _)
   | refine xq ww ww ji ji ?_ ?_ ?_
   | refine Qq Qr (vY hr.units) ?_ ?_ (by rfl)
   | refine Qs ww ww ww ji ji ji ?_ ?_ ?_ ?_
   | refine Qq ww ji ?_ ?_ (je _)
   | refine Qq xo K7 ?_ ?_ (je _))
  | (show wz _ _ _ _;first
   | exact Kr
   | refine Ks ?_)
  | (show Snd _ _ (.ListComp ..) _;first
   | refine V7 (cr1 hy (by kernel_rfl) (by kernel_rfl) (by rfl) ?_ (λ_ hy _ _ _ _ _ _=> ?_) (λ_ hy _ _ _ _ _ _ _ hp=> ?_))
   | refine V7 (cr2 hy (by kernel_rfl) (by kernel_rfl) (by rfl) ?_ (λ_ hy _ _ _ _ _ _=> ?_) (λ_ hy _ _ _ _ _ _ _ hp=> ?_)))
  | (show Qu _ _ _ _;first
   | refine w_or ?_ ?_
   | refine z17 ?_)
  | (show Snd _ _ (.List ..) _;first
   | refine z0U ?_)
  | (show Ko _ _ _ _;first
   | exact V4 nd (by rfl) (.inl (by rfl))
   | exact V5 (by rfl) nd (by rfl) (by rfl) (.inl (by rfl)) (.inl (by rfl))
   | exact V4 nd (by rfl) (.inr (by rfl)))
  | (show Snd _ _ (.UnaryOp ..) _;first
   | refine z10 ?_
   | refine z16 ?_)
  | (show xx _ _ _ _;first
   | refine K9 ?_
   | exact K8)
  | (show Snd _ _ (.IfExp ..) _;first
   | refine s_if ?_ ?_ ?_)
  )
local macro_rules | `(tactic| kd_all)=> `(tactic| (intro cdv A outer s H E Y hy hE hr nd hp;repeat' gp_on))
theorem z2e:qP Z "_law_cell" 2 1 (oP 2 b_1h):=by
 refine okP tx.C_1h ["_law_script","_law_k"] λ_=> ?_
 kd_all
theorem ok_4 (_:qP Z "_law_cell" 2 1 c_1h):qP Z "_law_pick" 3 2 (oP 4 (b_4 c_1h)):=by
 refine okP tx.C_4 ["_law_script","_law_k","_law_many","_law_drawn"] λ_=> ?_
 kd_all
theorem z2f (_:qP Z "_law_pick" 3 2 c_4):qP Z "_law_word_of" 2 3 (oP 3 (GX c_4)):=by
 refine okP tx.C_12 ["_law_script","_law_at","_law_letters"] λ_=> ?_
 kd_all
theorem z2g (_:qP Z "_law_pick" 3 2 c_4)(_:qP Z "_law_word_of" 2 3 c_12):qP Z "_law_leaf_kind" 2 4 (oP 6 (GY c_4 c_12)):=by
 refine okP tx.C_15 ["_law_script","_law_at","_law_low","_law_words","_law_k","_law_word"] λ_=> ?_
 kd_all
theorem ok_h {j:Nat}(hj:4<=j)(_:qP Z "_law_pick" 3 2 c_4)(_:qP Z "_law_leaf_kind" 2 4 c_15)(_:qP Z "_law_kind" 3 j c_h):qP Z "_law_kind" 3 (j+1) (oP 6 (b_h c_4 c_15 c_h)):=by
 refine okP tx.C_h ["_law_script","_law_at","_law_deep","_law_way","_law_some","_law_low"] λ_=> ?_
 kd_all
theorem ok_i:qP Z "_law_rows_of" 1 1 (oP 5 b_i):=by
 refine okP tx.C_i ["_law_lists","_law_made","_law_some","_law_longer","_law_ahead"] λ_=> ?_
 kd_all
theorem ok_5 {j:Nat}(hj:1<=j)(_:qP Z "_law_all" 1 j c_5)(_:qP Z "_law_rows_of" 1 1 c_i):qP Z "_law_all" 1 (j+1) (oP 3 (b_5 c_5 c_i)):=by
 refine okP tx.C_5 ["_law_kind_here","_law_made","_law_size_here"] λ_=> ?_
 kd_all
theorem ok_f {j:Nat}(hj:9<=j)(_:qP Z "_law_all" 1 9 c_5)(_:qP Z "_law_size" 1 j c_f):qP Z "_law_size" 1 (j+1) (oP 5 (b_f c_5 c_f)):=by
 refine okP tx.C_f ["_law_kind_here","_law_sizes","_law_made","_law_size_here","_law_inner"] λ_=> ?_
 kd_all
theorem z2h (_:qP Z "_law_kind" 3 12 c_h)(_:qP Z "_law_size" 1 17 c_f):qP Z "_law_small" 3 18 (oP 5 (GZ c_h c_f)):=by
 refine okP tx.C_18 ["_law_script","_law_at","_law_most","_law_kind_here","_law_k"] λ_=> ?_
 kd_all
theorem ok_a:qP Z "is_whole" 1 1 (oP 1 b_a):=by
 refine okP tx.C_a ["thing"] λ_=> ?_
 kd_all
theorem z2i (_:qP Z "is_whole" 1 1 c_a):qP Z "is_span" 4 2 (oP 4 (b_1j c_a)):=by
 refine okP tx.C_1j ["low","high","least","most"] λ_=> ?_
 kd_all
theorem ok_e:qP Z "is_tuple_of" 3 1 (oP 3 b_e):=by
 refine okP tx.C_e ["thing","least","most"] λ_=> ?_
 kd_all
theorem ok_v:qP Z "is_word" 1 1 (oP 1 b_v):=by
 refine okP tx.C_v ["thing"] λ_=> ?_
 kd_all
theorem z2j (_:qP Z "is_whole" 1 1 c_a)(_:qP Z "is_tuple_of" 3 1 c_e)(_:qP Z "is_word" 1 1 c_v):qP Z "is_choice" 1 2 (oP 1 (z01 c_a c_e c_v)):=by
 refine okP tx.C_19 ["thing"] λ_=> ?_
 kd_all
theorem z2k (_:qP Z "is_tuple_of" 3 1 c_e)(_:qP Z "is_choice" 1 2 c_19):qP Z "are_choices" 1 3 (oP 2 (z02 c_e c_19)):=by
 refine okP tx.C_17 ["thing","words"] λ_=> ?_
 kd_all
theorem ok_9 {j:Nat}(hj:3<=j)(_:qP Z "is_span" 4 2 c_1j)(_:qP Z "is_kind_within" 2 j c_9)(_:qP Z "are_choices" 1 3 c_17)(_:qP Z "are_kinds_within" 2 j c_1o):qP Z "is_kind_within" 2 (j+1) (oP 2 (b_9 c_1j c_9 c_17 c_1o)):=by
 refine okP tx.C_9 ["thing","levels"] λ_=> ?_
 kd_all
theorem z2l {j:Nat}(hj:3<=j)(_:qP Z "is_tuple_of" 3 1 c_e)(_:qP Z "is_kind_within" 2 j c_9):qP Z "are_kinds_within" 2 (j+1) (oP 2 (z03 c_e c_9)):=by
 refine okP tx.C_1o ["thing","levels"] λ_=> ?_
 kd_all
theorem ok_3 (_:qP Z "is_kind_within" 2 23 c_9):qP Z "is_kind" 1 24 (oP 1 (b_3 c_9)):=by
 refine okP tx.C_3 ["thing"] λ_=> ?_
 kd_all
theorem ok_o (_:qP Z "is_kind" 1 24 c_3):qP Z "need_kind" 1 25 (oP 1 (b_o c_3)):=by
 refine okP tx.C_o ["kind"] λ_=> ?_
 kd_all
theorem ok_2 {j:Nat}(hj:0<=j)(_:qP Z "mirror_of" 1 j c_2):qP Z "mirror_of" 1 (j+1) (oP 1 (b_2 c_2)):=by
 refine okP tx.C_2 ["kind"] λ_=> ?_
 kd_all
theorem ok_j (_:qP Z "need_kind" 1 25 c_o)(_:qP Z "mirror_of" 1 8 c_2):qP Z "mirrored" 1 26 (oP 1 (b_j c_o c_2)):=by
 refine okP tx.C_j ["kind"] λ_=> ?_
 kd_all
theorem z2m (_:qP Z "is_whole" 1 1 c_a):qP Z "is_bound" 1 2 (oP 1 (z1P c_a)):=by
 refine okP tx.C_1e ["thing"] λ_=> ?_
 kd_all
theorem ok_n {j:Nat}(hj:2<=j)(_:qP Z "is_word" 1 1 c_v)(_:qP Z "is_rule_within" 2 j c_n)(_:qP Z "is_bound" 1 2 c_1e):qP Z "is_rule_within" 2 (j+1) (oP 2 (b_n c_v c_n c_1e)):=by
 refine okP tx.C_n ["thing","levels"] λ_=> ?_
 kd_all
theorem ok_8 (_:qP Z "is_rule_within" 2 10 c_n):qP Z "is_rule" 1 11 (oP 1 (b_8 c_n)):=by
 refine okP tx.C_8 ["thing"] λ_=> ?_
 kd_all
theorem ok_6 (_:qP Z "is_rule" 1 11 c_8):qP Z "need_rule" 1 12 (oP 1 (b_6 c_8)):=by
 refine okP tx.C_6 ["rule"] λ_=> ?_
 kd_all
theorem ok_1 {j:Nat}(hj:0<=j)(_:qP Z "count_of_parts" 1 j c_10)(_:qP Z "count_shorter" 2 j c_r):qP Z "count_of" 1 (j+1) (oP 1 (b_1 c_10 c_r)):=by
 refine okP tx.C_1 ["kind"] λ_=> ?_
 kd_all
theorem z2n {j:Nat}(hj:0<=j)(_:qP Z "count_of" 1 j c_1):qP Z "count_of_parts" 1 (j+1) (oP 3 (gH c_1)):=by
 refine okP tx.C_10 ["kinds","count","kind"] λ_=> ?_
 kd_all
theorem ok_r {j:Nat}(hj:0<=j)(_:qP Z "count_of_parts" 1 j c_10):qP Z "count_shorter" 2 (j+1) (oP 2 (b_r c_10)):=by
 refine okP tx.C_r ["kind","length"] λ_=> ?_
 kd_all
theorem ok_q:qP Z "words_of_pick" 1 1 (oP 1 b_q):=by
 refine okP tx.C_q ["kind"] λ_=> ?_
 kd_all
theorem ok_g {j:Nat}(hj:20<=j)(_:qP Z "words_of_pick" 1 1 c_q)(_:qP Z "many_at" 2 j c_1n)(_:qP Z "parts_at" 2 j c_13):qP Z "worth_at" 2 (j+1) (oP 2 (b_g c_q c_1n c_13)):=by
 refine okP tx.C_g ["kind","number"] λ_=> ?_
 kd_all
theorem z2o {j:Nat}(hj:20<=j)(_:qP Z "count_shorter" 2 20 c_r)(_:qP Z "parts_at" 2 j c_13):qP Z "many_at" 2 (j+1) (oP 3 (gJ c_r c_13)):=by
 refine okP tx.C_1n ["kind","number","length"] λ_=> ?_
 kd_all
theorem z2p {j:Nat}(hj:20<=j)(_:qP Z "count_of" 1 20 c_1)(_:qP Z "worth_at" 2 j c_g):qP Z "parts_at" 2 (j+1) (oP 6 (gK c_1 c_g)):=by
 refine okP tx.C_13 ["kinds","number","parts","rest","kind","count"] λ_=> ?_
 kd_all
theorem ok_x (_:qP Z "need_kind" 1 25 c_o)(_:qP Z "count_of" 1 20 c_1)(_:qP Z "worth_at" 2 40 c_g):qP Z "all_worths" 1 41 (oP 2 (b_x c_o c_1 c_g)):=by
 refine okP tx.C_x ["kind","count"] λ_=> ?_
 kd_all
theorem ok_k {j:Nat}(hj:0<=j)(_:qP Z "leaves_of" 1 j c_k):qP Z "leaves_of" 1 (j+1) (oP 3 (b_k c_k)):=by
 refine okP tx.C_k ["worth","leaves","part"] λ_=> ?_
 kd_all
theorem z2q (_:qP Z "is_whole" 1 1 c_a)(_:qP Z "leaves_of" 1 8 c_k):qP Z "numbers_in" 1 9 (oP 1 (z1Q c_a c_k)):=by
 refine okP tx.C_1d ["worth"] λ_=> ?_
 kd_all
theorem z2r:qP Z "parts_of" 1 1 (oP 1 b_1i):=by
 refine okP tx.C_1i ["worth"] λ_=> ?_
 kd_all
theorem z2s:qP Z "are_rising" 1 1 (oP 1 z1R):=by
 refine okP tx.C_1k ["numbers"] λ_=> ?_
 kd_all
theorem z2t:qP Z "are_unlike" 1 1 (oP 1 z1T):=by
 refine okP tx.C_1l ["parts"] λ_=> ?_
 kd_all
theorem z2u (_:qP Z "parts_of" 1 1 c_1i)(_:qP Z "leaves_of" 1 8 c_k)(_:qP Z "numbers_in" 1 9 c_1d)(_:qP Z "are_rising" 1 1 c_1k)(_:qP Z "are_unlike" 1 1 c_1l):qP Z "is_single_kept" 2 10 (oP 2 (z07 c_1i c_k c_1d c_1k c_1l)):=by
 refine okP tx.C_16 ["rule","worth"] λ_=> ?_
 kd_all
theorem ok_b {j:Nat}(hj:10<=j)(_:qP Z "is_kept" 2 j c_b)(_:qP Z "is_single_kept" 2 10 c_16):qP Z "is_kept" 2 (j+1) (oP 2 (b_b c_b c_16)):=by
 refine okP tx.C_b ["rule","worth"] λ_=> ?_
 kd_all
theorem ok_l (_:qP Z "all_worths" 1 41 c_x)(_:qP Z "need_rule" 1 12 c_6)(_:qP Z "is_kept" 2 18 c_b):qP Z "keepers" 2 42 (oP 2 (b_l c_x c_6 c_b)):=by
 refine okP tx.C_l ["kind","rule"] λ_=> ?_
 kd_all
theorem ok_d {j:Nat}(hj:1<=j)(_:qP Z "is_whole" 1 1 c_a)(_:qP Z "is_tuple_of" 3 1 c_e)(_:qP Z "words_of_pick" 1 1 c_q)(_:qP Z "have_parts" 2 j c_1m):qP Z "has_worth" 2 (j+1) (oP 2 (b_d c_a c_e c_q c_1m)):=by
 refine okP tx.C_d ["kind","thing"] λ_=> ?_
 kd_all
theorem z2v {j:Nat}(hj:1<=j)(_:qP Z "has_worth" 2 j c_d):qP Z "have_parts" 2 (j+1) (oP 2 (z08 c_d)):=by
 refine okP tx.C_1m ["kinds","parts"] λ_=> ?_
 kd_all
theorem z2w (_:qP Z "need_kind" 1 25 c_o)(_:qP Z "has_worth" 2 21 c_d):qP Z "is_worth" 2 26 (oP 2 (z09 c_o c_d)):=by
 refine okP tx.C_1f ["kind","thing"] λ_=> ?_
 kd_all
theorem z2x (_:qP Z "is_worth" 2 26 c_1f):qP Z "need_worth" 2 27 (oP 2 (z0b c_1f)):=by
 refine okP tx.C_1c ["kind","worth"] λ_=> ?_
 kd_all
theorem ok_m {j:Nat}(hj:0<=j)(_:qP Z "mirror_of_worth" 1 j c_m):qP Z "mirror_of_worth" 1 (j+1) (oP 1 (b_m c_m)):=by
 refine okP tx.C_m ["worth"] λ_=> ?_
 kd_all
theorem z2y (_:qP Z "need_worth" 2 27 c_1c)(_:qP Z "mirror_of_worth" 1 8 c_m):qP Z "mirrored_worth" 2 28 (oP 2 (z0d c_1c c_m)):=by
 refine okP tx.C_11 ["kind","worth"] λ_=> ?_
 kd_all
theorem z2z:qP Z "greatest_divisor" 2 1 (oP 3 z0e):=by
 refine okP tx.C_14 ["one","other","rest"] λ_=> ?_
 kd_all
theorem ok_p (_:qP Z "greatest_divisor" 2 1 c_14):qP Z "fraction" 2 2 (oP 3 (b_p c_14)):=by
 refine okP tx.C_p ["up","down","divisor"] λ_=> ?_
 kd_all
theorem z2A (_:qP Z "fraction" 2 2 c_p):qP Z "plus" 2 3 (oP 2 (z0f c_p)):=by
 refine okP tx.C_1a ["one","other"] λ_=> ?_
 kd_all
theorem ok_7 (_:qP Z "plus" 2 3 c_1a):qP Z "together" 1 4 (oP 3 (b_7 c_1a)):=by
 refine okP tx.C_7 ["fractions","total","each"] λ_=> ?_
 kd_all
theorem z2B (_:qP Z "fraction" 2 2 c_p):qP Z "share_of_word" 2 3 (oP 3 (z0g c_p)):=by
 refine okP tx.C_1b ["kind","word","weights"] λ_=> ?_
 kd_all
 refine QQ.go (by assumption) λ_ _ _ _ C F=>X4 (i:=2) (j:=1) (by decide) hy F hr (by omega) (by rfl) C.m C.F.kp C.b nd (by rfl) (.inl (by rfl)) (by rfl) (tx.z _ (by kernel_rfl)) (by rfl) (tx.z _ (by kernel_rfl)) (pv 2) (pv 1) ?_ (pi' :=pv 2)
 repeat' gp_on
theorem ok_s (_:qP Z "fraction" 2 2 c_p):qP Z "times" 2 3 (oP 2 (b_s c_p)):=by
 refine okP tx.C_s ["one","other"] λ_=> ?_
 kd_all
theorem ok_c {j:Nat}(hj:20<=j)(_:qP Z "count_of" 1 20 c_1)(_:qP Z "times" 2 3 c_s)(_:qP Z "share_of_word" 2 3 c_1b)(_:qP Z "share_of_parts" 2 j c_1g):qP Z "share_within" 2 (j+1) (oP 3 (b_c c_1 c_s c_1b c_1g)):=by
 refine okP tx.C_c ["kind","worth","one_length"] λ_=> ?_
 kd_all
theorem z2C {j:Nat}(hj:20<=j)(_:qP Z "times" 2 3 c_s)(_:qP Z "share_within" 2 j c_c):qP Z "share_of_parts" 2 (j+1) (oP 5 (gP c_s c_c)):=by
 refine okP tx.C_1g ["kinds","parts","share","kind","part"] λ_=> ?_
 kd_all
theorem ok_t (_:qP Z "together" 1 4 c_7)(_:qP Z "share_within" 2 40 c_c):qP Z "shares_together" 2 41 (oP 2 (b_t c_7 c_c)):=by
 refine okP tx.C_t ["kind","worths"] λ_=> ?_
 kd_all
theorem ok_w (_:qP Z "shares_together" 2 41 c_t)(_:qP Z "keepers" 2 42 c_l):qP Z "share_keeping" 2 43 (oP 2 (b_w c_t c_l)):=by
 refine okP tx.C_w ["kind","rule"] λ_=> ?_
 kd_all
theorem ok_u (_:qP Z "need_rule" 1 12 c_6):qP Z "need_rules" 1 13 (oP 2 (b_u c_6)):=by
 refine okP tx.C_u ["rules","rule"] λ_=> ?_
 kd_all
theorem z2D (_:qP Z "is_kept" 2 18 c_b):qP Z "way_of" 2 19 (oP 2 (z0i c_b)):=by
 refine okP tx.C_1p ["rules","worth"] λ_=> ?_
 kd_all
theorem ok_z (_:qP Z "shares_together" 2 41 c_t)(_:qP Z "need_rules" 1 13 c_u)(_:QQ "worths_by_ways" CX0 42 (GW c_worths_by_ways) Z ):qP Z "tally" 2 43 (oP 3 (b_z c_t c_u c_worths_by_ways)):=by
 refine okP tx.C_z ["kind","rules","ways"] λ_=> ?_
 kd_all
theorem ok_y (_:qP Z "keepers" 2 42 c_l)(_:qP Z "need_rules" 1 13 c_u):qP Z "alike_on" 3 43 (oP 3 (b_y c_l c_u)):=by
 refine okP tx.C_y ["kind","one","other"] λ_=> ?_
 kd_all
theorem ok_0 {f:Addr}{fd:FuncData}(C:Fn Z.K Z.mg "law" (top 82) ["_law_script"] f fd)(_:qP Z "_law_pick" 3 2 c_4)(_:qP Z "_law_small" 3 18 c_18)(_:qP Z "mirrored" 1 26 c_j)(_:qP Z "mirrored_worth" 2 28 c_11)(_:qP Z "keepers" 2 42 c_l)(_:qP Z "share_keeping" 2 43 c_w)(_:qP Z "alike_on" 3 43 c_y)(_:qP Z "tally" 2 43 c_z):W7 Z.P Z.w Z.K Z.mg Z.base CX0 44 f fd ["_law_script"] (spP Z.cl 1 (oP 14 (b_0 c_4 c_18 c_j c_11 c_l c_w c_y c_z))):=by
 refine okLP C ["_law_script","_law_kind_here","_law_made","_law_low","_law_high","_law_rules","_law_turned","_law_rule_here","_law_other","_law_some","_law_there","_law_about","_law_wide","_law_none_at_all"] ?_
 kd_all
end
section
variable {Z:Zz}(tx:Tx Z.K Z.mg)
include tx
theorem GJ {f:Addr}{fd:FuncData}(C:Fn Z.K Z.mg "law" (top 82) ["_law_script"] f fd):W7 Z.P Z.w Z.K Z.mg Z.base CX0 44 f fd ["_law_script"] (spP Z.cl 1 f_0):=by
 have O_1h:qP Z "_law_cell" 2 1 gC:=z2e tx;have O_4:qP Z "_law_pick" 3 2 f_4:=ok_4 tx O_1h;have O_12:qP Z "_law_word_of" 2 3 k7:=z2f tx O_4;have O_15:qP Z "_law_leaf_kind" 2 4 gD:=z2g tx O_4 O_12;have R_h:∀n:Nat,qP Z "_law_kind" 3 (4+n) (S_h n 0):=by
  intro n
  induction n with
  | zero=>exact okB tx.C_h
  | succ n ih=>exact ok_h tx (aF _ _) O_4 O_15 ih
 have O_h:qP Z "_law_kind" 3 12 (f_h 8):=(R_h 8);have O_i:qP Z "_law_rows_of" 1 1 f_i:=ok_i tx;have R_5:∀n:Nat,qP Z "_law_all" 1 (1+n) (S_5 n 0):=by
  intro n
  induction n with
  | zero=>exact okB tx.C_5
  | succ n ih=>exact ok_5 tx (aF _ _) ih O_i
 have O_5:qP Z "_law_all" 1 9 (f_5 8):=(R_5 8);have R_f:∀n:Nat,qP Z "_law_size" 1 (9+n) (S_f n 0):=by
  intro n
  induction n with
  | zero=>exact okB tx.C_f
  | succ n ih=>exact ok_f tx (aF _ _) O_5 ih
 have O_f:qP Z "_law_size" 1 17 (f_f 8):=(R_f 8);have O_18:qP Z "_law_small" 3 18 gE:=z2h tx O_h O_f;have O_a:qP Z "is_whole" 1 1 f_a:=ok_a tx;have O_1j:qP Z "is_span" 4 2 z00:=z2i tx O_a;have O_e:qP Z "is_tuple_of" 3 1 f_e:=ok_e tx;have O_v:qP Z "is_word" 1 1 f_v:=ok_v tx;have O_19:qP Z "is_choice" 1 2 gF:=z2j tx O_a O_e O_v;have O_17:qP Z "are_choices" 1 3 gG:=z2k tx O_e O_19;have R_9:∀n:Nat,qP Z "is_kind_within" 2 (3+n) (S_9 n 0)/\qP Z "are_kinds_within" 2 (3+n) (S_9 n 1):=by
  intro n
  induction n with
  | zero=>exact⟨okB tx.C_9,okB tx.C_1o⟩
  | succ n ih=>exact⟨ok_9 tx (aF _ _) O_1j ih.1 O_17 ih.2,z2l tx (aF _ _) O_e ih.1⟩
 have O_9:qP Z "is_kind_within" 2 23 (f_9 20):=(R_9 20).1;have O_1o:qP Z "are_kinds_within" 2 23 (f_1o 20):=(R_9 20).2;have O_3:qP Z "is_kind" 1 24 f_3:=ok_3 tx O_9;have O_o:qP Z "need_kind" 1 25 f_o:=ok_o tx O_3;have R_2:∀n:Nat,qP Z "mirror_of" 1 (0+n) (S_2 n 0):=by
  intro n
  induction n with
  | zero=>exact okB tx.C_2
  | succ n ih=>exact ok_2 tx (aF _ _) ih
 have O_2:qP Z "mirror_of" 1 8 (f_2 8):=(R_2 8);have O_j:qP Z "mirrored" 1 26 f_j:=ok_j tx O_o O_2;have O_1e:qP Z "is_bound" 1 2 z04:=z2m tx O_a;have R_n:∀n:Nat,qP Z "is_rule_within" 2 (2+n) (S_n n 0):=by
  intro n
  induction n with
  | zero=>exact okB tx.C_n
  | succ n ih=>exact ok_n tx (aF _ _) O_v ih O_1e
 have O_n:qP Z "is_rule_within" 2 10 (f_n 8):=(R_n 8);have O_8:qP Z "is_rule" 1 11 f_8:=ok_8 tx O_n;have O_6:qP Z "need_rule" 1 12 f_6:=ok_6 tx O_8;have R_1:∀n:Nat,qP Z "count_of" 1 (0+n) (S_1 n 0)/\qP Z "count_of_parts" 1 (0+n) (S_1 n 1)/\qP Z "count_shorter" 2 (0+n) (S_1 n 2):=by
  intro n
  induction n with
  | zero=>exact⟨okB tx.C_1,okB tx.C_10,okB tx.C_r⟩
  | succ n ih=>exact⟨ok_1 tx (aF _ _) ih.2.1 ih.2.2,z2n tx (aF _ _) ih.1,ok_r tx (aF _ _) ih.2.1⟩
 have O_1:qP Z "count_of" 1 20 (f_1 20):=(R_1 20).1;have O_10:qP Z "count_of_parts" 1 20 (f_10 20):=(R_1 20).2.1;have O_r:qP Z "count_shorter" 2 20 (f_r 20):=(R_1 20).2.2;have O_q:qP Z "words_of_pick" 1 1 f_q:=ok_q tx;have R_g:∀n:Nat,qP Z "worth_at" 2 (20+n) (S_g n 0)/\qP Z "many_at" 2 (20+n) (S_g n 1)/\qP Z "parts_at" 2 (20+n) (S_g n 2):=by
  intro n
  induction n with
  | zero=>exact⟨okB tx.C_g,okB tx.C_1n,okB tx.C_13⟩
  | succ n ih=>exact⟨ok_g tx (aF _ _) O_q ih.2.1 ih.2.2,z2o tx (aF _ _) O_r ih.2.2,z2p tx (aF _ _) O_1 ih.1⟩
 have O_g:qP Z "worth_at" 2 40 (f_g 20):=(R_g 20).1;have O_1n:qP Z "many_at" 2 40 (f_1n 20):=(R_g 20).2.1;have O_13:qP Z "parts_at" 2 40 (f_13 20):=(R_g 20).2.2;have O_x:qP Z "all_worths" 1 41 f_x:=ok_x tx O_o O_1 O_g;have R_k:∀n:Nat,qP Z "leaves_of" 1 (0+n) (S_k n 0):=by
  intro n
  induction n with
  | zero=>exact okB tx.C_k
  | succ n ih=>exact ok_k tx (aF _ _) ih
 have O_k:qP Z "leaves_of" 1 8 (f_k 8):=(R_k 8);have O_1d:qP Z "numbers_in" 1 9 z05:=z2q tx O_a O_k;have O_1i:qP Z "parts_of" 1 1 z06:=z2r tx;have O_1k:qP Z "are_rising" 1 1 z1S:=z2s tx;have O_1l:qP Z "are_unlike" 1 1 z1U:=z2t tx;have O_16:qP Z "is_single_kept" 2 10 gM:=z2u tx O_1i O_k O_1d O_1k O_1l;have R_b:∀n:Nat,qP Z "is_kept" 2 (10+n) (S_b n 0):=by
  intro n
  induction n with
  | zero=>exact okB tx.C_b
  | succ n ih=>exact ok_b tx (aF _ _) ih O_16
 have O_b:qP Z "is_kept" 2 18 (f_b 8):=(R_b 8);have O_l:qP Z "keepers" 2 42 f_l:=ok_l tx O_x O_6 O_b;have R_d:∀n:Nat,qP Z "has_worth" 2 (1+n) (S_d n 0)/\qP Z "have_parts" 2 (1+n) (S_d n 1):=by
  intro n
  induction n with
  | zero=>exact⟨okB tx.C_d,okB tx.C_1m⟩
  | succ n ih=>exact⟨ok_d tx (aF _ _) O_a O_e O_q ih.2,z2v tx (aF _ _) ih.1⟩
 have O_d:qP Z "has_worth" 2 21 (f_d 20):=(R_d 20).1;have O_1m:qP Z "have_parts" 2 21 (f_1m 20):=(R_d 20).2;have O_1f:qP Z "is_worth" 2 26 z0a:=z2w tx O_o O_d;have O_1c:qP Z "need_worth" 2 27 z0c:=z2x tx O_1f;have R_m:∀n:Nat,qP Z "mirror_of_worth" 1 (0+n) (S_m n 0):=by
  intro n
  induction n with
  | zero=>exact okB tx.C_m
  | succ n ih=>exact ok_m tx (aF _ _) ih
 have O_m:qP Z "mirror_of_worth" 1 8 (f_m 8):=(R_m 8);have O_11:qP Z "mirrored_worth" 2 28 k8:=z2y tx O_1c O_m;have O_14:qP Z "greatest_divisor" 2 1 gN:=z2z tx;have O_p:qP Z "fraction" 2 2 f_p:=ok_p tx O_14;have O_1a:qP Z "plus" 2 3 gO:=z2A tx O_p;have O_7:qP Z "together" 1 4 f_7:=ok_7 tx O_1a;have O_1b:qP Z "share_of_word" 2 3 z0h:=z2B tx O_p;have O_s:qP Z "times" 2 3 f_s:=ok_s tx O_p;have R_c:∀n:Nat,qP Z "share_within" 2 (20+n) (S_c n 0)/\qP Z "share_of_parts" 2 (20+n) (S_c n 1):=by
  intro n
  induction n with
  | zero=>exact⟨okB tx.C_c,okB tx.C_1g⟩
  | succ n ih=>exact⟨ok_c tx (aF _ _) O_1 O_s O_1b ih.2,z2C tx (aF _ _) O_s ih.1⟩
 have O_c:qP Z "share_within" 2 40 (f_c 20):=(R_c 20).1;have O_1g:qP Z "share_of_parts" 2 40 (f_1g 20):=(R_c 20).2;have O_t:qP Z "shares_together" 2 41 f_t:=ok_t tx O_7 O_c;have O_w:qP Z "share_keeping" 2 43 f_w:=ok_w tx O_t O_l;have O_u:qP Z "need_rules" 1 13 f_u:=ok_u tx O_6;have O_1p:qP Z "way_of" 2 19 z0j:=z2D tx O_b;have O_worths_by_ways:QQ "worths_by_ways" CX0 42 (GW zF) Z:=okWW tx.C_worths_by_ways O_x O_1p (by refine⟨rfl,rfl,rfl, ?_,rfl, ?_, ?_⟩ <;> decide+kernel) rfl rfl rfl rfl rfl rfl rfl (by rfl) (by rfl)
 have O_z:qP Z "tally" 2 43 f_z:=ok_z tx O_t O_u O_worths_by_ways;have O_y:qP Z "alike_on" 3 43 f_y:=ok_y tx O_l O_u;exact ok_0 tx C O_4 O_18 O_j O_11 O_l O_w O_y O_z
end
theorem lz1 {fd:FuncData}{p0:Str}(us:List Value)(hl:us.length=1)(h:∀a0,bindArgs fd ⟨[a0],[]⟩=pure ([p0].zip [a0])):bindArgs fd ⟨us,[]⟩=pure ([p0].zip us):=match us,hl with | [a0],_=>h a0
theorem lz2 {fd:FuncData}{p0 p1:Str}(us:List Value)(hl:us.length=2)(h:∀a0 a1,bindArgs fd ⟨[a0,a1],[]⟩=pure ([p0,p1].zip [a0,a1])):bindArgs fd ⟨us,[]⟩=pure ([p0,p1].zip us):=match us,hl with | [a0,a1],_=>h a0 a1
theorem lz3 {fd:FuncData}{p0 p1 p2:Str}(us:List Value)(hl:us.length=3)(h:∀a0 a1 a2,bindArgs fd ⟨[a0,a1,a2],[]⟩=pure ([p0,p1,p2].zip [a0,a1,a2])):bindArgs fd ⟨us,[]⟩=pure ([p0,p1,p2].zip us):=match us,hl with | [a0,a1,a2],_=>h a0 a1 a2
theorem lz4 {fd:FuncData}{p0 p1 p2 p3:Str}(us:List Value)(hl:us.length=4)(h:∀a0 a1 a2 a3,bindArgs fd ⟨[a0,a1,a2,a3],[]⟩=pure ([p0,p1,p2,p3].zip [a0,a1,a2,a3])):bindArgs fd ⟨us,[]⟩=pure ([p0,p1,p2,p3].zip us):=match us,hl with | [a0,a1,a2,a3],_=>h a0 a1 a2 a3
theorem fn1 {K:ag}{h:Heap}{mg:Str->Option Value}{f:Addr}{od an:Option Addr}{sl:Array (Option Value)}{oc kV dc pm cd ct:Value}{x:Str}{st:Stmt}{ps:List Str}(X:K.In h)(G:h.Ns mainGlobals mg)(e:PySem.W.nsIn K mainGlobals x=some (some (.ref f)))(l:K.lookup f=some ⟨oc,od,.func (c7 x x (ZJ st) (Z6 st) (zg st) .none kV dc pm an cd ct),sl⟩)(g:fj K cd x=true)(k:cJ K (.ref f)=true)
  (hb:∀F:Fun K x x st f (c7 x x (ZJ st) (Z6 st) (zg st) .none kV dc pm an cd ct),L2.Binds K (c7 x x (ZJ st) (Z6 st) (zg st) .none kV dc pm an cd ct) ps []):Fn K mg x st ps f (c7 x x (ZJ st) (Z6 st) (zg st) .none kV dc pm an cd ct):=
 have F:=kU (st:=st) l g k
 ⟨F,hb F,PySem.W.mg_of X G e⟩
theorem zs_of {K:ag}{h:Heap}{mg:Str->Option Value}{zs:List Str}(X:K.In h)(G:h.Ns mainGlobals mg)(hz:(zs.all λx=>PySem.W.nsIn K mainGlobals x == some none)=true):∀x,zs.contains x=true->mg x=none:=λx hx=>PySem.W.mg_none_of X G (beq_iff_eq.mp (aH.mp hz x (List.contains_iff_mem.mp hx)))
noncomputable abbrev Tx' {K:ag}{h:Heap}(_:K.In h)(mg:Str->Option Value):Prop:=Tx K mg
theorem fin_ {l:PySem.W.OpenLaw}{w:World}{K:ag}{h:Heap}{mg:Str->Option Value}{fa:Addr}(X:K.In h)(G:h.Ns mainGlobals mg)(hfa:mg "law"=some (.ref fa))(tx:Tx K mg):∃fd:FuncData,(∀(s:Shared) (v:Value),BindsTo s fd ⟨[v],[]⟩ [("_law_script",v)])/\∀base:Heap,K.In base->base.Ns mainGlobals mg->W7 l.prog w K mg base CX0 44 fa fd ["_law_script"] (spP (λ_=> .none) 1 f_0):=by
 obtain⟨f,fd,C⟩:=tx.C_0;have e:=hfa.symm.trans C.m;cases e;obtain⟨oc,od,kV,doc,pm,an,cdv,ct,osl,rfl,lk,hcd⟩:=C.F.ex;exact⟨_,λs v=> .of_eq rfl,λbase KB _=>GJ (Z:=⟨l.prog,w,K,mg,base,(λ_=> .none)⟩) tx C⟩
def uy (K:ag):Bool:=K.all λp=> !(p.2.cls == Value.type "list")
theorem XT {K:ag}(h:uy K=true){a:Addr}{o:Obj}(e:K.lookup a=some o)(c:o.cls=Value.type "list"):False:=by
 have hm:(a,o)∈K:=by
  clear h
  induction K with
  | nil=>cases e
  | cons p r ih=>
   obtain⟨b,u⟩:=p
   by_cases hb:a=b
   ·subst hb;have e' :some u=some o:=by simpa[aO] using e
    cases e';exact ab
   ·have e' :r.lookup a=some o:=by rw[aO,(beq_eq_false_iff_ne.mpr hb)]at e;exact e
    exact a9 _ (ih e')
 have:=aH.mp h _ hm;rw[c]at this;simp at this
theorem GK {cl:Nat->Value}{K:ag}{H:Hp}{a:Addr}{ns:List Int}(hL:f_0 [.fz (ns.map T.int)]= .ok (.bl true))(hK:uy K=true)(hO:GO H)(hS:SqL K H a (ns.map V.int)):spP cl 1 f_0 [.ref a] H (λv _=>v= .bl true) λ_ _ _=>False:=by
 have scrR:∀ns:List Int,zr H (ns.map V.int) (ns.map T.int):=λns=>by
  induction ns with
  | nil=>exact .nil
  | cons n r ih=>exact .cons (.int n) ih
 rcases hS with (h | ⟨o,h⟩) | ⟨o,its,n,e,c,_⟩
 ·rcases hO a with z | ⟨ob,xs,z⟩ <;> (rw[h]at z;cases z)
 ·refine⟨H,[.fz (ns.map T.int)],rfl,zm.refl H,.cons (.fz h (scrR ns)) .nil, ?_⟩;rw[hL];intro v H' _ r;cases r;rfl
 ·exact(XT hK e c).elim
theorem walk {l:PySem.W.OpenLaw}{q:Program}{loose:List Str}{XP:(Str->Option Value)->Heap->Prop}{YP:World->Heap->Prop}{d:DefRec}{K:Params->ag}(hn:l.most=some 63)(hdf:d.params.defaults=[])
  (hL:∀ns:List Int,ns.length<=63->f_0 [.fz (ns.map T.int)]= .ok (.bl true)) (hK:∀p,uy (K p)=true)
  (hY:∀(w:World) (h:Heap),YP w h->(K w.params).In h)
  (F:∀(w:World) (mg:Str->Option Value) (fa:Addr) (h:Heap),(K w.params).In h->h.Ns mainGlobals mg->mg d.name=some (.ref fa)->
   ∃fd:FuncData,(∀(s:Shared) (u:Value),BindsTo s fd ⟨[u],[]⟩ [("_law_script",u)])/\∀base:Heap,(K w.params).In base->base.Ns mainGlobals mg->W7 l.prog w (K w.params) mg base CX0 44 fa fd ["_law_script"] (spP (λ_=> .none) 1 f_0)):
  PySem.W.WalkO q loose XP YP l.row.toRowW d [] (λf vs=>lG f vs):=
 L2.walk_of (n:=63) (k:=44) (x:="_law_script") (CX:=λw=>CX0) (sp:=λw=>spP (λ_=> .none) 1 f_0) hn (by decide) hdf ⟨rfl,by decide,by decide,rfl⟩ hY F (λw H a ns hl hO hS=>GK (hL ns hl) (hK w.params) hO hS) λ_ _ _ _ _ z=>z
end G
namespace PySem.W.Fast
noncomputable def tw16266661212496466406:=0
noncomputable def tw867883580812239310:=0
noncomputable def tw7089562836601364954:=0
noncomputable def tw9034072706540690459:=0
noncomputable def tw14289271987833559475:=0
noncomputable def tw14910453633535076401:=0
noncomputable def tw12790351330418811186:=0
noncomputable def tw7519464633042967403:=0
noncomputable def tw1502850278239040664:=0
noncomputable def tw17331300613640260047:=0
noncomputable def tw11174188003555970819:=0
noncomputable def tw684409812799922415:=0
noncomputable def tw17212109847386316068:=0
noncomputable def tw14038044713861868034:=0
noncomputable def tw16865044522043457379:=0
noncomputable def tw8222951651627688859:=0
noncomputable def tw17920740791223820381:=0
noncomputable def tw603083779742739413:=0
noncomputable def tw18028874739594807231:=0
noncomputable def tw10248433797779379092:=0
noncomputable def tw3348739371106236316:=0
noncomputable def tw1236896666930142041:=0
noncomputable def tw11361070870954606316:=0
noncomputable def tw16832483137895687590:=0
noncomputable def tw17077369477348628507:=0
noncomputable def tw15871324528993579877:=0
noncomputable def tw3210781994516456520:=0
noncomputable def tw13134600130516375821:=0
noncomputable def tw4989562851303318014:=0
noncomputable def tw14585691231812959664:=0
noncomputable def tw15056348985693868974:=0
noncomputable def tw1296796464294910910:=0
noncomputable def tw6958273090925433269:=0
noncomputable def tw12960283042956449373:=0
noncomputable def tw10019672053481524219:=0
noncomputable def tw10163555948858900430:=0
noncomputable def tw17001855252824992101:=0
noncomputable def tw3801343876388463406:=0
noncomputable def tw10816296678304950560:=0
noncomputable def tw3066452340535620570:=0
noncomputable def tw293547207718470982:=0
noncomputable def tw10807140098539523555:=0
noncomputable def tw17920955990999533924:=0
noncomputable def tw10107295030046907019:=0
noncomputable def tw16343052921463512463:=0
noncomputable def tw7741381958555424940:=0
noncomputable def tw10266197092860458636:=0
noncomputable def tw5664893524918683588:=0
noncomputable def tw10063217276022677649:=0
noncomputable def tw11917302637912570320:=0
noncomputable def tw3877494186122114428:=0
noncomputable def tw6671797218724670533:=0
noncomputable def tw17115617240618180931:=0
noncomputable def tw3233629502680704129:=0
noncomputable def tw3139135279469988943:=0
noncomputable def tw4881365929616302961:=0
noncomputable def tw2381244517114918355:=0
noncomputable def tw11254273871318003837:=0
noncomputable def tw1677554662023726224:=0
noncomputable def tw15461662702618516229:=0
noncomputable def tw2382103182283148123:=0
noncomputable def tw10787653979893502480:=0
noncomputable def tw1248519885458960212:=0
noncomputable def tw72241321647007580:=0
noncomputable def tw10647557127583339313:=0
noncomputable def tw17141497180689696576:=0
noncomputable def tw4036487296976145728:=0
noncomputable def tw10133433068332093393:=0
noncomputable def tw9995761265647991800:=0
noncomputable def tw7082522351027617242:=0
noncomputable def tw179701332496431218:=0
noncomputable def tw5027478294937740956:=0
noncomputable def tw16759663667011696830:=0
noncomputable def tw2293074587161918078:=0
noncomputable def tw14962639009795164378:=0
noncomputable def tw2556325781460891910:=0
noncomputable def tw17708943303208193265:=0
noncomputable def tw2384577809983911338:=0
noncomputable def tw13476664069078092659:=0
noncomputable def tw11813541208132157053:=0
noncomputable def tw16176159436145850068:=0
noncomputable def tw4993189204330791298:=0
noncomputable def tw7878144007822616345:=0
noncomputable def tw5796027728252433913:=0
noncomputable def tw14907683041827331029:=0
noncomputable def tw11520603527606037179:=0
noncomputable def tw14356644092083997067:=0
noncomputable def tw18263616030276278258:=0
noncomputable def tw11882590771279138275:=0
noncomputable def tw6117209896929631419:=0
noncomputable def tw9137543362070900261:=0
noncomputable def tw14399110002424332442:=0
noncomputable def tw2280242986174390843:=0
noncomputable def tw13655430658833872659:=0
noncomputable def tw15224964670222174698:=0
noncomputable def tw7392231528231543359:=0
noncomputable def tw10784922498595511802:=0
noncomputable def tw6542231706413316746:=0
noncomputable def tw17933705895735130610:=0
noncomputable def tw15836240567712371766:=0
noncomputable def tw16927287137327983445:=0
noncomputable def tw16558196319330995887:=0
noncomputable def tw6118661914531115920:=0
noncomputable def tw7174935234874695453:=0
noncomputable def tw15786608794371603870:=0
noncomputable def tw9720990731483563213:=0
noncomputable def tw11108200272684316195:=0
noncomputable def tw16115835154251261896:=0
noncomputable def tw9488593418904998336:=0
noncomputable def tw8825096546947951153:=0
noncomputable def tw17331359420604696931:=0
noncomputable def tw7185378148110739449:=0
noncomputable def tw18036016822485310378:=0
noncomputable def tw1260258158962772001:=0
noncomputable def tw11392125121157704180:=0
noncomputable def tw1215718375879331153:=0
noncomputable def tw9116870254056859188:=0
noncomputable def tw10957862537041584009:=0
noncomputable def tw3230471815340681297:=0
noncomputable def tw3900268890082542494:=0
noncomputable def tw12150357249576408804:=0
noncomputable def tw762878227649992591:=0
noncomputable def tw6150640265958570836:=0
noncomputable def tw13814508931549224934:=0
noncomputable def tw10447205433294370227:=0
noncomputable def tw14383053896522671749:=0
noncomputable def tw3762421257366822627:=0
noncomputable def tw13773097932231741757:=0
noncomputable def tw15357416450216974976:=0
noncomputable def tw12515496764295404355:=0
noncomputable def tw8619459709004913118:=0
noncomputable def tw12790483620356537970:=0
noncomputable def tw9864438537658326828:=0
noncomputable def tw1696442523729336720:=0
noncomputable def tw13094565314520912113:=0
noncomputable def tw7545087405587561395:=0
noncomputable def tw5000032484184415959:=0
noncomputable def tw10257471104491630961:=0
noncomputable def tw3962733786569668955:=0
noncomputable def tw7495411228809216493:=0
noncomputable def tw15833820561164191486:=0
noncomputable def tw16873890447331059151:=0
noncomputable def tw13593355454643359093:=0
noncomputable def tw1423219433957868991:=0
noncomputable def tw4859610504556369588:=0
noncomputable def tw6878873595385161145:=0
noncomputable def tw17695753807335440250:=0
noncomputable def tw11390531129079570548:=0
noncomputable def tw16022695372933581793:=0
noncomputable def tw5095897137349311010:=0
noncomputable def tw1976135516983031326:=0
noncomputable def tw3467045296242734291:=0
noncomputable def tw3961599977401375906:=0
noncomputable def tw11468558857150195207:=0
noncomputable def tw6738309293167587190:=0
noncomputable def tw14201799708752505527:=0
noncomputable def tw15303688931539245496:=0
noncomputable def tw11699305408159217122:=0
noncomputable def tw10285666553826206923:=0
noncomputable def tw1945909833250097603:=0
noncomputable def tw3475054910209080289:=0
noncomputable def tw9523284915123317933:=0
noncomputable def tw7104706072650987668:=0
noncomputable def tw14241061929329221972:=0
noncomputable def tw11919321286639276144:=0
noncomputable def tw2103515012935611248:=0
noncomputable def tw8229719391186006207:=0
noncomputable def tw13197149249315680766:=0
noncomputable def tw1205904409932780547:=0
noncomputable def tw7799403722035353290:=0
noncomputable def tw1994072714685400399:=0
noncomputable def tw9946791634860479326:=0
noncomputable def tw4467211395975631404:=0
noncomputable def tw13915421567411097910:=0
noncomputable def tw6589719103656742888:=0
noncomputable def tw13666540928850812612:=0
noncomputable def tw5465439198339568378:=0
noncomputable def tw8522470182995354902:=0
end PySem.W.Fast
open PySem PySem.W PyProof.Rows
set_option maxRecDepth 100000 in
set_option maxHeartbeats 0 in
theorem PySem.Challenge.cw_worthkinds_k45_whole_rules_about_holds : PySem.Challenge.rw_worthkinds_k45_whole_rules_about.Holds := by
 w_on; o_law; k_head; (case hw=>w_witness2)
 k_fill
 refine G.walk (l:=PySem.Challenge.rw_worthkinds_k45_whole_rules_about) rfl rfl G.law_ok ?nl (fun w h Y=>PySem.W.kIn_of Y) ?F
 case nl=>intro p; kernel_rfl
 case F=>
  intro w mg fa h KX G0 hmg
  have tx:G.Tx' KX mg:=by
   constructor
   all_goals first
    | (refine' ⟨_,_,G.fn1 KX G0 ?e ?l ?g ?k (fun F=>F.binds fun _ _ _ _ _ _ us hl=>by first | exact G.lz1 us hl fun _=>rfl | exact G.lz2 us hl fun _ _=>rfl | exact G.lz3 us hl fun _ _ _=>rfl | exact G.lz4 us hl fun _ _ _ _=>rfl)⟩; (case e | l | g | k=>k_is))
    | exact ⟨_,PySem.W.mg_of KX G0 (by k_is),_,rfl⟩
    | exact G.zs_of KX G0 (by kernel_rfl)
  refine' G.fin_ KX G0 hmg tx
