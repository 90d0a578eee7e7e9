import PyProof.Rows.All
import Wide.All
import OpenK.AllK
import Wide.FinOn
import Lean
import PyProof.EqAt
import PyProof.EqKinds
import PyProof.TupleCall
import PyProof.NeKinds
import PyProof.WalksEnum
import PyProof.StrWalks
import PyProof.ExcAttrAll.ValueError
import PyProof.ZipIter
import KE.KRevIter
import PyProof.ListNew
import PyProof.WalksMore
import PyProof.ReprLoop
import PyProof.FactsAll.list
import PyProof.CollectIter
import PyProof.TupleOfGen
import PyProof.Draws
import PyProof.EnumMake
import PyProof.SeqI3
import KE.KMinBuiltin
import PyProof.SetRoads
import PyProof.CollectWalk
import KE.KDictSum
import PyProof.AttrMiss
import PyProof.IsiH_tuple
import KE.KDictOf
import PyProof.FitsBits
import PyProof.SliceList
import PyProof.InstFacts
import PyProof.Rows.StrNews2
import PyProof.StrBlockH
import PyProof.CallStr
import KE.KIntText
import PyProof.Rows.RuleB_pow
import KE.KSortTup
import PyProof.ReprRoads
import KE.KLam
import PyProof.MaxThree
import PyProof.DictRoadsH
import PyProof.FactsAll.dict
import PyProof.DictItems
import PyProof.DictValues
import PyProof.StrLawsRepr
import PyProof.StrLawsTight
import PyProof.StrLawsLast
import PyProof.StrLawsNeg
import PyProof.Rows.StrItems
import PySem.Challenge.RW_worthkinds_k85_whole_sieve_texts
open PySem renaming wpAny_bind->aa,wpAny_pure->aB,wpAny_truthy_bool->ba,wpAny_field->bb,wpAny_newObj_type->bh,wpAny_callSpecial?_slot->bo,wpAny_setField_rec->bq,sizeLine_eq->bz,wpAny_call_entry->bG,mem_of_lookup->bR,wpAny_Call_Name_kw->bU,call_meets->bV,wpAny_seqItems->bX,wpAny_specialOf->b_,wpAny_passesOwn->c8,wpAny_pyIter_enum->ce,wpAny_of_eq->cF,typeIs_str->cH,codeAny_builtin->cO,wpAny_mono->di,codeAny_mono->dm,wpAny_rule->dQ,Within->eV,seqSlot_of->ii,call->iL
open List renaming length_cons->ac,length_append->ae,length_map->ah,mem_cons_of_mem->ai,mem_cons_self->aj,mem_cons->am,length_nil->ao,replicate->av,getElem?_eq_getElem->aw,mem_singleton->ax,getElem?_append_right->az,getElem?_map->aA,getElem?_append_left->aD,size_toArray->aE,mem_map->aF,getElem?_eq_some_iff->aH,map_cons->aK,length_singleton->aL,lookup_cons->aM,getElem?_set_ne->aO,append_assoc->aQ,getElem?_replicate->aR,map_map->aS,mem_append->aT,all_eq_true->aU,length_replicate->aW,length_set->aX,append_nil->aY,not_mem_nil->a_,range->b6,cons_ne_nil->b7,mem_append_right->b8,getElem?_eq_none->b9,map_replicate->be,mem_range->bg,length_range->bi,getElem?_set_self->bn,flatMap_cons->bB,map_append->bF,length_eq_zero_iff->bH,take_of_length_le->bK,nil_append->bL,mem_append_left->bM,getElem?_cons_succ->bP,replicate_succ->bS,length_reverse->bT,mem_of_getElem?->cb,reverse_cons->cf,eq_of_mem_replicate->cj,map_congr_left->ck,map_eq_nil_iff->cn,prefix_refl->cu,drop_zero->cy,cons_append->cB,range_succ_eq_map->cI,map_nil->cJ,pairwise_cons->cM,drop_left->cW,take_left->cX,mem_flatMap->d5,drop_eq_getElem_cons->d8,filterMap_cons->d9,getElem?_range->da,all_cons->df,sum_cons->dg,nodup_cons->dh,lookup->dj,drop_drop->dA,take_append_of_le_length->dE,foldl->dW,flatten_cons->eB,ext_getElem?->eC,length_take->eN,length_drop->eO,mem_filter->ff,of_mem_zip->fj,getElem?_reverse->fq,eq_nil_or_concat->fx,contains_iff_mem->fy,length->fA,getElem?_zipIdx->fB,reverse_reverse->fH,drop_succ_cons->fL,any_cons->fM,mem_filterMap->fO,length_zipIdx->fT,any_eq_false->fV,all_map->g_,getElem_inj->i9,drop_length->ij,any_eq_true->ip,map_reverse->iq,filter_cons->ir,drop->ix,range'->iz,forIn_cons->iF,range_succ->iH
open PySem.W renaming Frag->ag,findIn->bp,kia_one->bu,fnOf->bv,keepIn->bE,kitOne->cq,instObj->cN,emptyDict->cS,codeIn->dn,methodCall_KW->dB,plainGet->dD,plainGet_of->dL,lookIn->dR,callWith_K->dS,hasDictIn->eA,isFn->eY,cellsFrom_some->eZ,nsIn->f9,takerIn->fg,plainOver->fW,kitx_list->fX,kitx_dict->fY,handedIn->ia,makesIn->iB
open PySem.Heap renaming get?_push_of_some->ak,get?_push_size->aq,lt_size->aC,size_push->bI,SameBut->c9,ExtBut->fD
open Bool renaming and_eq_true->ar,false_ne_true->ay,false_eq_true->aZ,or_eq_false_iff->dF,not_true->eI,eq_iff_iff->fk,and_eq_false_iff->fv,true_and->fN
open Nat renaming le_refl->au,le_trans->aG,le_add_right->aI,ne_of_lt->aN,lt_of_lt_of_le->aP,zero_le->bj,lt_irrefl->bC,lt_of_le_of_lt->bW,mul_le_mul->bY,one_mul->cg,le_mul_of_pos_right->cD,mul_assoc->cQ,lt_succ_of_lt->cT,le_succ->cU,pow_le_pow_right->cV,lt_succ_self->c_,mul_comm->d3,sub_self->dz,mul_le_mul_right->dG,not_lt_zero->dI,add_le_add_left->dM,mul_pos->eF,succ_ne_self->eQ,add_sub_cancel_left->eU,le_of_lt->eW,ne_of_gt->eX,succ_mul->f6,add_mul->fG,pow_succ->hW,lt_succ_of_le->hZ,zero_add->h_,sub_zero->i5,lt_trichotomy->i6,succ_ne_zero->im,min_eq_left->iI
open Option.some renaming inj->aJ
open PyProof.Rows renaming callWith_type1->aV,slot_tuple_getitem->bf
open PySem.Txt renaming partition->bc,rpartition->br,slice->bO,startswith->cA,startswith3->cP,split->d4,endswith->dv
open PySem.F renaming plainAttrs_str->bw,plainAttrs_list->cx,called_set->cL,slot_zip_next->cR,args_tuple_add_2->db,entry_tuple_add->dk,slot_tuple_add->dq,slot_tuple_iterator_next->du,slot_bool_hash->dC,slot_int_rmul->dH,slot_str_startswith->dN,type_str_startswith->dO,args_str_split_2->dY,entry_str_split->eD,slot_list_append->eG,type_list_append->eH,slot_tuple_mul->eP,args_zip_next_1->eS,slot_str_split->eT,entry_zip_next->f8,called_tuple->fE,args_object_init_2->fF,args_int_rmul_2->g7,slot_tuple_rmul->h9,plain_tuple_new->hJ,slot_int_index->ie,entry_int_rmul->ig,fills_int_mul->iC
open Ne renaming symm->bx
open Int renaming toNat_natCast->bA,eq_ofNat_of_zero_le->cC,emod_lt_of_pos->fS,zero_add->hV,natCast_mul->iE,emod_nonneg->iG
open PySem.Str renaming ofString->bJ,empty->cY,empty_append->il,length->iK
open PySem.Builtin.Str renaming occurrences->bN,strSub->bZ,strKind->fJ
open False renaming elim->bQ
open PyProof.Rows.KeyOrd renaming klt_of_klt_of_kle->ci,kle_of_klt->dy
open PySem.AutoSeq1 renaming wpAny_loadPart'->cz
open PySem.SeqAt renaming EqAt->cG,RcNeAt->dr,RcAt->f7
open Array renaming getElem?_eq_none->cK,length_toList->dJ,perm_iff_toList_perm->dZ,getElem?_toList->fo,getD->iN
open PySem.StrLaws renaming subAt_eq->d6,sliceText_neg_hi->eL,occ_length_le->fu,At->fU,found_one->i7,occ_head->iu
open PySem.Builtin.Slice renaming slicePlaces->d7,sliceAdjust->d_
open PySem.Builtin.List renaming listTooLong->de,listSameRef->eJ
open PySem.Calls renaming Name_function_global->dP,callWith_builtin->e_,spliced_cons->fP,spliced_nil->f_
open PySem.Builtin.Tuple renaming tupleItemsOf->dU,tupleTooMany->dX,tupleExact->eK
open PySem.Builtin.Range renaming rangeSize->eM
open PyProof.Rows.F renaming entry_set_update_loop->eR
open PySem.Heap.SameBut renaming update->fI
open Option renaming some_ne_none->fK,getD_none->ic,map->iO
open PySem.SeqAt.EqAt renaming of_refs->fQ,same->iD
open PySem.Obj renaming data_mapFields->fR
open PySem.Code renaming isFrame->fZ
open PySem.WalksT renaming enumerateD->hU,enumerate->ik
open PySem.PassesOwn renaming leaving->i8,never->iJ
open Classical renaming skolem->io
open PySem.Shared renaming heap->iA
open PySem.Walks renaming list->iM
open Eq renaming trans->iP
noncomputable section
set_option maxHeartbeats 4000000
set_option Elab.async false
set_option linter.all false
set_option compiler.extract_closed false
set_option maxRecDepth 100000
namespace L2
open PySem PySem.Spec PyProof.Rows
noncomputable abbrev l5:=Sum Bool Str
def Kn:l5->Value->Bool
 |.inl k,.bool b=>b==k
 |.inl _,_=>false
 |.inr x,v=>Value.isStrOf x v
def Aa (w:World):l5->Int
 |.inl k=>hashInt (if k then 1 else 0)
 |.inr x=>hashStr w x
theorem Z3:∀{k:l5} {v:Value},Kn k v=true->(∃(i:Bool) (t:Tok),k=Sum.inl i/\v=Value.bool i)\/(∃x t,k=Sum.inr x/\v=Value.str x t)
 |.inl i,v,h=>by
  cases v<;>first|exact .inl ⟨i,0,rfl,congrArg _ (eq_of_beq h)⟩|cases h
 |.inr x,v,h=>by
  obtain⟨t,e⟩:=Value.isStrOf_shape h;exact .inr ⟨x,t,rfl,e⟩
theorem Ko (a b:Bool):decide ((Sum.inl a:l5)=Sum.inl b)=(a==b):=by
 by_cases e:a=b
 ·subst e;simp
 ·have h:¬(Sum.inl a:l5)=Sum.inl b:=λq=>e (Sum.inl.inj q);rw[decide_eq_false h];exact(beq_eq_false_iff_ne.mpr e).symm
theorem Kp (a b:Str):decide ((Sum.inr a:l5)=Sum.inr b)=decide (a=b):=by
 by_cases e:a=b
 ·simp
 ·have h:¬(Sum.inr a:l5)=Sum.inr b:=λq=>e (Sum.inr.inj q);rw[decide_eq_false h,decide_eq_false e]
theorem Kq (a:Bool)(b:Str):decide ((Sum.inl a:l5)=Sum.inr b)=false:=decide_eq_false (λq=>nomatch q)
theorem Kr (a:Str)(b:Bool):decide ((Sum.inr a:l5)=Sum.inl b)=false:=decide_eq_false (λq=>nomatch q)
theorem yX {prog:Program}{w:World}{A:Around}{E:Value->Shared->Prop}{s:Shared}{b:Bool}{Q:Int->Shared->Prop}(h:Q (hashInt (if b then 1 else 0)) {s with toks:=s.toks+1}):wpAny (model prog w) A (pyHash (.bool b)) Q E s:=by
 have a:s.TypeIs (.bool b) "bool":=rfl;unfold pyHash;have d:[Value.bool b].any Value.onHeap=false:=rfl;refine aa ?_;rw[cRoomFor,if_neg (by rw[d];exact ay)];refine aB ?_
 refine aa (b_ a dC.lookup ?_);show wpAny _ _ (if (some (Value.builtin "int.__hash__")==some Value.none)=true then _ else _) Q E s
 rw[if_neg (by rw[beq_builtin_none];exact ay)]
 refine aa (b_ a dC.lookup ?_);show wpAny _ _ (callSpecialIfBoundUnlessNone? (.bool b) "__hash__" _>>=_) Q E s;refine aa (wpAny_callSpecialIfBoundUnlessNone?_slot a dC
  (bG dC a F.entry_int_hash
   (show wpAny _ _ (do ret (←mkInt (rawHash (if b then 1 else 0)))) _ _ s from by cases b<;>refine wpAny_ret_mkInt ?_<;>exact aB h) (F.args_int_hash_1 _)))
def yY (prog:Program)(w:World):PySem.KeyKind prog w l5 where
 is:=Kn
 hash:=Aa w
 inj:=λv a b o f=>by
  rcases Z3 o with ⟨i,t,rfl,rfl⟩|⟨x,t,rfl,rfl⟩
  ·rcases Z3 f with ⟨j,u,rfl,e⟩|⟨y,u,rfl,e⟩
   ·injection e with e1;rw[e1]
   ·exact nomatch e
  ·rcases Z3 f with ⟨j,u,rfl,e⟩|⟨y,u,rfl,e⟩
   ·exact nomatch e
   ·injection e with e1 _;rw[e1]
 byValue:=λk v h=>by
  rcases Z3 h with ⟨i,t,rfl,rfl⟩|⟨x,t,rfl,rfl⟩<;>rfl
 pyHash:=λd h=>by
  rcases Z3 d with ⟨i,t,rfl,rfl⟩|⟨x,t,rfl,rfl⟩
  ·exact yX h
  ·exact wpAny_pyHash_str h
 eqBool:=λl d h=>by
  rcases Z3 l with ⟨i,t,rfl,rfl⟩|⟨x,t,rfl,rfl⟩
  ·rcases Z3 d with ⟨j,u,rfl,rfl⟩|⟨y,u,rfl,rfl⟩
   ·rw[Ko]at h;exact cG.bool_bool i j _ _ _ _ h
   ·rw[Kq]at h;exact cG.bool_str i y u _ _ _ _ h
  ·rcases Z3 d with ⟨j,u,rfl,rfl⟩|⟨y,u,rfl,rfl⟩
   ·rw[Kr]at h;exact cG.str_bool x t j _ _ _ _ h
   ·rw[Kp]at h;exact wpAny_eqBool_str h
 «strs»:=λk x t v h=>by
  rcases Z3 h with ⟨i,u,rfl,e⟩|⟨y,u,rfl,e⟩
  ·exact nomatch e
  ·injection e with e1 _;subst e1;cases v<;>rfl
end L2
namespace L2
open PySem PySem.Spec PyProof.Rows
inductive V where
 |non|bl (b:Bool)|int (i:Int)|str (x:Str)|byt (b:Array UInt8)|flt (b:UInt64)|ref (a:Addr)|ty (n:String)
 deriving DecidableEq
noncomputable def Zh:V->Value->Prop
 |.non,u=>u=Value.none
 |.bl b,u=>u=Value.bool b
 |.int i,u=>∃t,u=Value.int i t
 |.str x,u=>∃t,u=Value.str x t
 |.byt b,u=>∃t,u=Value.bytes b t
 |.flt b,u=>∃t,u=Value.float b t
 |.ref a,u=>u=Value.ref a
 |.ty n,u=>u=Value.type n
abbrev Z0:List V->List Value->Prop:=Paired Zh
theorem Z0.length {xs:List V}{us:List Value}(r:Z0 xs us):xs.length=us.length:=Paired.length r
theorem Z0.get:∀{xs:List V} {us:List Value} {i:Nat} {x:V},Z0 xs us->xs[i]?=some x->∃u,us[i]?=some u/\Zh x u
 |_,_,_,_,.nil,e=>by simp at e
 |_,_,0,_,.cons r _,e=>by simp at e;subst e;exact⟨_,rfl,r⟩
 |_,_,i+1,x,.cons _ t,e=>by
  obtain⟨u,d,a⟩:=Z0.get t (by simpa using e)
  exact⟨u,by simpa using d,a⟩
theorem Z0.append:∀{xs a:List V} {us ws:List Value},Z0 xs us->Z0 a ws->Z0 (xs++a) (us++ws)
 |_,_,_,_,.nil,s=>s
 |_,_,_,_,.cons r t,s=>.cons r (Z0.append t s)
theorem Z0.take:∀{xs:List V} {us:List Value} (n:Nat),Z0 xs us->Z0 (xs.take n) (us.take n)
 |_,_,0,_=>.nil
 |_,_,_+1,.nil=>.nil
 |_,_,n+1,.cons r t=>.cons r (Z0.take n t)
theorem Z0.drop:∀{xs:List V} {us:List Value} (n:Nat),Z0 xs us->Z0 (xs.drop n) (us.drop n)
 |_,_,0,r=>r
 |_,_,_+1,.nil=>.nil
 |_,_,n+1,.cons _ t=>Z0.drop n t
def v7:Option V->Option Value->Prop
 |some v,some u=>Zh v u
 |none,none=>True
 |_,_=>False
def KV {a:Type}:List (a×V)->List (a×Value)->Prop:=Paired λ(p:a×V) (q:a×Value)=>p.1=q.1/\Zh p.2 q.2
def kV:l5->V
 |.inl i=>.bl i
 |.inr x=>.str x
inductive HO where
 |lst (xs:List V)
 |tup (xs:List V)
 |dK (kvs:List (l5×V))|dT (kvs:List (List l5×Addr×V))
 |set (S:Int->Bool) (n:Nat)
 |ins (C dx:Addr) (fs:List (Str×V))
 |own (x:Addr)
 |xd (fs:List (Str×V))
 |met (f x:Addr)
 |rng (lo hi:Int)
 |frz (o:Obj) (u:HO)
 |tbl (ps:Array Value) (q:Str)
 |ext (φ:Heap->Prop)
noncomputable abbrev Hp:=Addr->Option HO
def iV (H:Hp)(a:Addr)(o:HO):Hp:=λb=>if b=a then some o else H b
theorem zO {H:Hp}{a:Addr}{o:HO}:iV H a o a=some o:=by unfold iV;rw[if_pos rfl]
theorem zA {H:Hp}{a b:Addr}{o:HO}(h:b≠a):iV H a o b=H b:=by unfold iV;rw[if_neg h]
theorem zM {H:Hp}{a b:Addr}{o:HO}(h:H a=some o)(h':H b=none):a≠b:=by
 intro e;subst e;rw[h]at h';cases h'
noncomputable def ITN (h:Heap)(a:Addr)(d:Array Value):Prop:=IsTup h a d/\((∃i t,d[0]?=some (Value.int i t))\/∃o,h.get? a=some o/\o.dict=none)
theorem ITN.new (h:Heap)(a:Array Value):ITN (h.push {cls:=.type "tuple",data:=.seq a}) h.objs.size a:=⟨IsTup.new h a,.inr ⟨_,aq _ rfl,rfl⟩⟩
section
variable (P:Program)(w:World)
def Zw (H:Hp)(h:Heap)(a:Addr):HO->Prop
 |.lst xs=>xs.length<=sizeLine/\∃(j:List Value) (n:Nat),Z0 xs j/\h.get? a=some {cls:=.type "list",data:=.seq j.toArray n}
 |.tup xs=>xs.length<=sizeLine/\∃j:List Value,Z0 xs j/\ITN h a j.toArray
 |.dK i=>i.length<=sizeLine/\(a==sysModules)=false/\∃vs,KV i vs/\h.DictOf (yY P w) a vs
 |.dT i=>i.length<=sizeLine/\(a==sysModules)=false/\∃xs:List (List l5×Addr×Value),
   Paired (λ(p:List l5×Addr×V) (q:List l5×Addr×Value)=>p.1=q.1/\H q.2.1=some (.tup (p.1.map kV))/\Zh p.2.2 q.2.2/\p.2.1=q.2.1) i xs/\
   ∃o L N,h.get? a=some o/\o.ExactDict/\o.data=.dict L N/\L.toList=xs.map (entryOfKey (tupleKind (yY P w)))/\(xs.map (·.1)).Nodup
 |.set S n=>h.SetOf (intKind P w) a S n
 |.ins C l fs=>H l=some (.own a)/\fs.length<=1000/\l≠a/\h.get? a=some (cN C l)/\
   ∃k,h.Ns1 l k/\(∀f,v7 (fs.lookup f) (k f))/\eV k (fs.map (·.1))
 |.own _=>∃o,h.get? a=some o
 |.xd fs=>∃k,h.Ns1 a k/\∀f,v7 (fs.lookup f) (k f)
 |.rng lo hi=>∃t u v,h.get? a=some {cls:=.type "range",data:=.fields #[.int lo t,.int hi u,.int 1 v]}
 |.frz o u=>h.get? a=some o/\Zw H h a u
 |.tbl y q=>∃d:Array Value,h.get? a=some {cls:=.none,data:=.fields (y++d)}/\TriplesOk (y++d).toList/\∀p G,codeAmong p (y++d).toList=some G->∃c J vs t,G=.ref c/\H c=some (.frz J (.own c))/\J.data=.fields vs/\vs[1]?=some (.str q t)
 |.met f x=>h.get? a=some (PySem.W.methodObj (.ref f) (.ref x))
 |.ext r=>r h/\(∃o,h.get? a=some o)/\∀B I:Heap,r B->(∀o,B.get? a=some o->I.get? a=some o)->r I
def HOk (H:Hp)(h:Heap):Prop:=∀a o,H a=some o->Zw P w H h a o
end
section
variable {P:Program}{w:World}{H H':Hp}{h h':Heap}{a:Addr}{o:HO}
theorem Zw.lt (x:Zw P w H h a o):a<h.objs.size:=by
 cases o with
 |lst xs=>obtain⟨_,_,_,_,e⟩:=x;exact aC e
 |tup xs=>obtain⟨_,_,_,p,_⟩:=x;exact p.lt
 |dK d=>obtain⟨_,_,_,_,o,_,_,e,_⟩:=x;exact aC e
 |dT d=>obtain⟨_,_,_,_,o,_,_,e,_⟩:=x;exact aC e
 |set S n=>obtain⟨o,_,_,_,e,_⟩:=x;exact aC e
 |ins C j fs=>obtain⟨_,_,_,e,_⟩:=x;exact aC e
 |own y=>obtain⟨_,e⟩:=x;exact aC e
 |xd fs=>obtain⟨_,⟨_,_,_,e,_⟩,_⟩:=x;exact aC e
 |rng lo hi=>obtain⟨_,_,_,e⟩:=x;exact aC e
 |frz ob u=>obtain⟨e,_⟩:=x;exact aC e
 |tbl i q=>obtain⟨_,e,_⟩:=x;exact aC e
 |met f y=>exact aC (x)
 |ext k=>obtain⟨_,⟨_,e⟩,_⟩:=x;exact aC e
theorem Paired.mapP {k j:Type}{F G:k->j->Prop}:∀{d:List k} {i:List j},Paired F d i->(∀a b,F a b->G a b)->Paired G d i
 |_,_,.nil,_=>.nil
 |_,_,.cons r t,f=>.cons (f _ _ r) (Paired.mapP t f)
theorem Zw.stay (x:Zw P w H h a o)(k:∀b u,(b=a\/H b=some (.own a))->h.get? b=some u->h'.get? b=some u)
  (N:∀b,H b=some (.own a)->H' b=some (.own a)) (L:∀b xs,H b=some (.tup xs)->H' b=some (.tup xs)) (U:∀b o u,H b=some (.frz o u)->H' b=some (.frz o u):=by exact λ_ _ _ q=>q):Zw P w H' h' a o:=by
 induction o with
 |lst xs=>obtain⟨z,l,n,r,e⟩:=x;exact⟨z,l,n,r,k _ _ (.inl rfl) e⟩
 |tup xs=>obtain⟨z,l,r,⟨ob,e,c⟩,q⟩:=x;exact⟨z,l,r,⟨ob,k _ _ (.inl rfl) e,c⟩,q.imp id λ⟨o2,B,Z⟩=>⟨o2,k _ _ (.inl rfl) B,Z⟩⟩
 |dK J=>obtain⟨z,y,vs,r,ob,j,i,e,c⟩:=x;exact⟨z,y,vs,r,ob,j,i,k _ _ (.inl rfl) e,c⟩
 |dT J=>
  obtain⟨z,y,xs,r,ob,j,i,e,c⟩:=x;exact⟨z,y,xs,Paired.mapP r λp q z=>⟨z.1,L _ _ z.2.1,z.2.2⟩,ob,j,i,k _ _ (.inl rfl) e,c⟩
 |set S n=>obtain⟨ob,j,i,t,e,c⟩:=x;exact⟨ob,j,i,t,k _ _ (.inl rfl) e,c⟩
 |ins C dx fs=>
  obtain⟨d,z,ne,e,I,⟨G,j,i,B,c⟩,r⟩:=x;exact⟨N _ d,z,ne,k _ _ (.inl rfl) e,I,⟨G,j,i,k _ _ (.inr d) B,c⟩,r⟩
 |own y=>obtain⟨ob,e⟩:=x;exact⟨ob,k _ _ (.inl rfl) e⟩
 |xd fs=>obtain⟨I,⟨G,j,i,e,c⟩,r⟩:=x;exact⟨I,⟨G,j,i,k _ _ (.inl rfl) e,c⟩,r⟩
 |rng lo hi=>obtain⟨t,u,v,e⟩:=x;exact⟨t,u,v,k _ _ (.inl rfl) e⟩
 |frz ob u ih=>obtain⟨e,q⟩:=x;exact⟨k _ _ (.inl rfl) e,ih q⟩
 |tbl ps q=>
  obtain⟨m,e,tr,X⟩:=x;exact⟨m,k a _ (.inl rfl) e,tr,λp Q z=>let ⟨c,oc,vs,t,e1,B,e3⟩:=X p Q z;⟨c,oc,vs,t,e1,U _ _ _ B,e3⟩⟩
 |met f y=>
  have e:=x;exact k a _ (.inl rfl) e
 |ext φ=>obtain⟨p,⟨o,e⟩,st⟩:=x;exact⟨st _ _ p λo q=>k _ _ (.inl rfl) q,⟨o,k _ _ (.inl rfl) e⟩,st⟩
theorem HOk.lt (x:HOk P w H h)(e:H a=some o):a<h.objs.size:=(x a o e).lt
theorem HOk.fresh (x:HOk P w H h)(e:h.objs.size<=a):H a=none:=by
 cases q:H a with
 |none=>rfl
 |some u=>exact absurd (aP (x.lt q) e) (bC _)
theorem HOk.kept (x:HOk P w H h)(k:∀b u,h.get? b=some u->h'.get? b=some u):HOk P w H h':=λa o e=>
 (x a o e).stay (λb u _ q=>k b u q) (λ_ q=>q) λ_ _ q=>q
theorem HOk.laid (x:HOk P w H h)(k:∀b u,h.get? b=some u->h'.get? b=some u)(hp:h.objs.size<=a)(new:Zw P w (iV H a o) h' a o):HOk P w (iV H a o) h':=λb u e=>by
 have hn:=x.fresh hp
 by_cases d:b=a
 ·subst d;rw[zO]at e;cases e;exact new
 ·rw[zA d]at e;exact(x b u e).stay (λc v _ q=>k c v q) (λc q=>by rw[zA (zM q hn)];exact q) (λc xs q=>by rw[zA (zM q hn)];exact q) λc o u q=>by rw[zA (zM q hn)];exact q
end
def Rd (H:Hp)(a:Addr)(u:HO):Prop:=H a=some u\/∃o,H a=some (.frz o u)
theorem Rd.ok {P:Program}{w:World}{H:Hp}{h:Heap}{a:Addr}{u:HO}(r:Rd H a u)(x:HOk P w H h):Zw P w H h a u:=by
 rcases r with r|⟨o,r⟩
 ·exact x a u r
 ·obtain⟨_,q⟩:=x a _ r;exact q
noncomputable def tJ:Option HO->Prop
 |some (.lst _)=>True
 |some (.dK _)=>True
 |some (.dT _)=>True
 |some (.set _ _)=>True
 |some (.ins _ _ _)=>True
 |some (.ext _)=>True
 |_=>False
section
variable {P:Program}{w:World}{H:Hp}{h h':Heap}{x e:Addr}{o':HO}
theorem HOk.write (ok:HOk P w H h)(f:tJ (H x))(G:e=x\/H e=some (.own x))(k:∀b u,b≠e->h.get? b=some u->h'.get? b=some u)(p:∃u,h'.get? e=some u)
  (new:Zw P w (iV H x o') h' x o'):HOk P w (iV H x o') h':=λb u q=>by
 have d:∀c y,H c=some (.own y)->c≠x:=λc y r z=>by subst z;rw[r]at f;exact f
 have i:∀c xs,H c=some (.tup xs)->c≠x:=λc xs r z=>by subst z;rw[r]at f;exact f
 by_cases l:b=x
 ·subst l;rw[zO]at q;cases q;exact new
 ·rw[zA l]at q
  by_cases a:b=e
  ·have B:H b=some (.own x):=by
    rcases G with z|z
    ·exact absurd (a.trans z) l
    ·rw[a];exact z
   rw[q]at B;cases B;obtain⟨v,I⟩:=p;exact⟨v,by rw[a];exact I⟩
  ·refine(ok b u q).stay (λc v j r=>k c v ?_ r) (λc r=>by rw[zA (d c b r)];exact r) (λc xs r=>by rw[zA (i c xs r)];exact r) λc o u r=>by rw[zA (λz=>by subst z;rw[r]at f;exact f)];exact r
   rcases j with rfl|j
   ·exact a
   ·rintro rfl
    rcases G with z|z
    ·exact d c b j z
    ·rw[j]at z;cases z;exact l rfl
end
structure Un (fs ex:List Addr) (H H':Hp) (h h':Heap):Prop where
 keep:∀b o,h.get? b=some o->H b=none->b∉fs->b∉ex->h'.get? b=some o
 slot:∀b o,h.get? b=some o->H b=none->b∈fs->b∉ex->∃sl,h'.get? b=some {o with slots:=sl}
 free:∀b o,h.get? b=some o->H b=none->b∉ex->H' b=none
 there:∀b o,h.get? b=some o->b∉ex->∃o',h'.get? b=some o'
 tups:∀b xs,H b=some (.tup xs)->H' b=some (.tup xs)
 frzs:∀b o u,H b=some (.frz o u)->H' b=some (.frz o u)
 tbls:∀b ps q,H b=some (.tbl ps q)->H' b=some (.tbl ps q)
section
variable {fs fs' ex ex':List Addr}{H H1 H2:Hp}{h h1 h2 h':Heap}{a x e:Addr}{o:HO}
theorem Un.any (u:Un fs ex H H1 h h1){b:Addr}{ob:Obj}(q:h.get? b=some ob)(n:H b=none)(d:b∉ex):∃i,h1.get? b=some {ob with slots:=i}:=by
 by_cases f:b∈fs
 ·exact u.slot b ob q n f d
 ·exact⟨ob.slots,u.keep b ob q n f d⟩
theorem Un.kept (k:∀b u,h.get? b=some u->h'.get? b=some u):Un fs ex H H h h':=
 ⟨λb ob q _ _ _=>k b ob q,λb ob q _ _ _=>⟨ob.slots,k b ob q⟩,λ_ _ _ n _=>n,λb ob q _=>⟨ob,k b ob q⟩,λ_ _ q=>q,λ_ _ _ q=>q,λ_ _ _ q=>q⟩
theorem Un.refl:Un fs ex H H h h:=Un.kept λ_ _ q=>q
theorem Un.laid (k:∀b u,h.get? b=some u->h'.get? b=some u)(hp:h.objs.size<=a)(hn:H a=none):Un fs ex H (iV H a o) h h' where
 keep:=λb u q _ _ _=>k b u q
 slot:=λb u q _ _ _=>⟨u.slots,k b u q⟩
 free:=λb u q n _=>by rw[zA (aN (aP (aC q) hp))];exact n
 there:=λb u q _=>⟨u,k b u q⟩
 tups:=λb xs q=>by rw[zA (zM q hn)];exact q
 frzs:=λb u xs q=>by rw[zA (zM q hn)];exact q
 tbls:=λb d q e=>by rw[zA (zM e hn)];exact e
theorem Un.write (f:tJ (H x))(y:e=x\/H e=some (.own x))(k:∀b u,b≠e->h.get? b=some u->h'.get? b=some u)(j:∃u,h'.get? e=some u):Un fs ex H (iV H x o) h h':=by
 have l:∀b,H b=none->b≠x:=λb n z=>by subst z;rw[n]at f;exact f
 have p:∀b,H b=none->b≠e:=λb n z=>by
  subst z;rcases y with r|r
  ·exact l b n r
  ·rw[n]at r;cases r
 have i:∀b u,H b=some u->¬tJ (some u)->b≠x:=λb u q v z=>by subst z;rw[q]at f;exact v f
 refine⟨λb u q n _ _=>k b u (p b n) q,λb u q n _ _=>⟨u.slots,k b u (p b n) q⟩,λb u q n _=>by rw[zA (l b n)];exact n,λb u q _=>?_,
  λb xs q=>by rw[zA (i b _ q λz=>z)];exact q,λb u xs q=>by rw[zA (i b _ q λz=>z)];exact q,λb B q e=>by rw[zA (i b _ e λz=>z)];exact e⟩
 by_cases d:b=e
 ·subst d;exact j
 ·exact⟨u,k b u d q⟩
end
def Dw (h:Heap)(H:Hp):List Addr:=(b6 h.objs.size).filter λa=>(H a).isSome
def K4 (h:Heap)(H:Hp):Heap:=PySem.W.hideAll h (Dw h H)
theorem yZ (h:Heap)(H:Hp):(K4 h H).objs.size=h.objs.size:=PySem.W.hideAll_size _ _
theorem v8 {h:Heap}{H:Hp}{b:Addr}{o:Obj}(e:h.get? b=some o)(n:H b=none):(K4 h H).get? b=some o:=
 PySem.W.hideAll_get _ e λa=>by
  have q:=(ff.mp a).2;rw[n]at q;simp at q
theorem xE {h:Heap}{H:Hp}{b:Addr}{o:Obj}(e:(K4 h H).get? b=some o):h.get? b=some o/\H b=none:=by
 have a:=PySem.W.of_hideAll _ e;refine⟨a,?_⟩;cases q:H b with
 |none=>rfl
 |some x=>
  have d:b∈Dw h H:=ff.mpr ⟨bg.mpr (aC a),by simp[q]⟩
  have z:(K4 h H).get? b=none:=PySem.W.hideAll_none _ d;rw[z]at e;cases e
end L2
namespace L2
open PySem PySem.Spec PyProof.Rows
structure Mod (K:ag) (mg:Str->Option Value) (base:Heap):Prop where
 kin:K.In base
 glob:base.Ns mainGlobals mg
 blt:∃mb,base.Ns builtinsNs mb/\∀x:Str,x≠"__name__"->mb x=bootBuiltins x
 nolimit:base.NoLimit
structure Cx where
 prog:Program
 w:World
 K:ag
 mg:Str->Option Value
 base:Heap
 A:Around
 N:List Str
 s₀:Shared
 H₀:Hp
 env:Env
 outer:List Env
 stack:List Env
 ex:List Addr
 fn:Str->Bool
 calm:Bool
 pn:List (Addr×Obj)
 xe:Value->Shared->Prop
noncomputable def lK (l:List Env):List Addr:=l.filterMap (·.frame)
abbrev Cx.fs (X:Cx):List Addr:=lK X.outer
noncomputable def pV (sc:Scope)(x:Str):Prop:=sc.names.lookup x=some .local\/sc.names.lookup x=some .cell\/sc.names.lookup x=some .free
noncomputable def Loc (sc:Scope)(x:Str):Prop:=sc.names.lookup x=some .local\/sc.names.lookup x=some .cell
noncomputable def Bi (env:Env)(h:Heap)(m:Str->Option Value)(x:Str)(u:Value):Prop:=
 (env.kindOf x=some .local/\m x=some u)\/((env.kindOf x=some .cell\/env.kindOf x=some .free)/\∃c,env.cells.lookup x=some c/\h.IsCell c (some u))
structure Cx.Ok (X:Cx):Prop where
 mod:Mod X.K X.mg X.base
 kind:X.env.scope.kind=.function
 glob:X.env.globals=mainGlobals
 blt:X.env.builtins=builtinsNs
 above:X.s₀.1.1.size<=X.env.locals
 inj:∀x y c,X.env.cells.lookup x=some c->X.env.cells.lookup y=some c->x=y
 has:∀x,(X.env.kindOf x=some .cell\/X.env.kindOf x=some .free)->∃c,X.env.cells.lookup x=some c
 cab:∀x c,X.fn x=true->X.env.cells.lookup x=some c->X.s₀.1.1.size<=c
 hd:X.calm=true->X.A.handled=none
 frames:X.A.frames=some X.stack
 stk:X.stack=X.outer\/(X.stack=X.env::X.outer/\X.env.frame=some X.env.locals)
 exf:∀b∈X.ex,b≠X.env.locals/\∀x c,X.env.cells.lookup x=some c->c≠b
 bs:∀b o,X.base.get? b=some o->X.s₀.heap.get? b=some o/\X.H₀ b=none
 bsz:X.base.objs.size<=X.s₀.1.1.size
 noex:∀b o,X.base.get? b=some o->b∉X.ex
 exfs:∀b∈X.ex,b∉X.fs
 funs:X.s₀.heap.FunFrames X.base X.outer
 frf:∀b∈X.fs,X.H₀ b=none
structure Inv (X:Cx) (pins:List (Addr×Obj)) (σ:List (Option V)) (H:Hp) (s:Shared):Prop where
 ok:X.Ok
 os:s.os=X.s₀.os
 bare:AllBare s.gens
 base:Un X.fs X.ex X.H₀ H X.s₀.heap s.heap
 loc:∃m,s.heap.Ns X.env.locals m/\∀(i:Nat) (x:Str) (v:V),X.N[i]?=some x->σ[i]?=some (some v)->pV X.env.scope x->∃u,Zh v u/\Bi X.env s.heap m x u
 cell:∀x c,X.env.cells.lookup x=some c->∃v,s.heap.IsCell c v
 free:H X.env.locals=none
 freeC:∀x c,X.env.cells.lookup x=some c->H c=none
 pin:∀p∈X.pn++pins,s.heap.get? p.1=some p.2/\H p.1=none/\p.1≠X.env.locals/\p.1∉X.fs/\∀v,p.2.data≠.cell v
 hok:HOk X.prog X.w H s.heap
 len:σ.length=X.N.length
section
variable {X:Cx}{pins:List (Addr×Obj)}{σ:List (Option V)}{H H':Hp}{s:Shared}{h':Heap}
theorem Cx.Ok.nofr (ok:X.Ok){b:Addr}{o:Obj}(e:X.base.get? b=some o):b∉X.fs:=λa=>by
 have:=(ok.funs.mem a).1;rw[e]at this;cases this
theorem Inv.bs (I:Inv X pins σ H s):∀b o,X.base.get? b=some o->s.heap.get? b=some o/\H b=none:=λb o e=>
 ⟨I.base.keep b o (I.ok.bs b o e).1 (I.ok.bs b o e).2 (I.ok.nofr e) (I.ok.noex b o e),I.base.free b o (I.ok.bs b o e).1 (I.ok.bs b o e).2 (I.ok.noex b o e)⟩
theorem Inv.bk (I:Inv X pins σ H s):∀b o,X.base.get? b=some o->s.heap.get? b=some o:=λb o e=>(I.bs b o e).1
theorem Inv.mod (I:Inv X pins σ H s):Mod X.K X.mg X.base:=I.ok.mod
theorem Inv.kIn (I:Inv X pins σ H s):X.K.In s.heap:=I.ok.mod.kin.keeps I.bk
theorem Inv.lt (I:Inv X pins σ H s):X.env.locals<s.1.1.size:=let ⟨_,hn,_⟩:=I.loc;hn.lt
theorem Inv.sz (I:Inv X pins σ H s):X.s₀.1.1.size<=s.1.1.size:=aG I.ok.above (eW I.lt)
theorem Inv.nofs (I:Inv X pins σ H s){a:Addr}(h:s.1.1.size<=a):a∉X.fs:=λd=>by
 obtain⟨_,o,f,_⟩:=I.ok.funs.mem d;exact absurd (aP (aC f) (aG I.sz h)) (bC _)
theorem Inv.cne (I:Inv X pins σ H s):∀x c,X.env.cells.lookup x=some c->c≠X.env.locals:=λx c e z=>by
 obtain⟨v,o,f,hd⟩:=I.cell x c e;obtain⟨m,⟨i,j,k,d,a,_⟩,_⟩:=I.loc;rw[z,d]at f;cases f;rw[a]at hd;cases hd
theorem Inv.funs (I:Inv X pins σ H s):s.heap.FunFrames X.base X.outer:=by
 have all:∀(l:List Env),(∀b∈lK l,b∈X.fs)->X.s₀.heap.FunFrames X.base l->s.heap.FunFrames X.base l:=by
  intro l
  induction l with
  |nil=>intro _ _;trivial
  |cons env r k=>
   intro i q;obtain⟨p,⟨L,o,d,hn,j,hd⟩,hr⟩:=q;have f:=i L (by unfold lK;rw[d9,d];exact aj)
   obtain⟨u,e⟩:=I.base.slot L o j (I.ok.frf L f) f λz=>I.ok.exfs L z f;exact⟨p,⟨L,_,d,hn,e,hd⟩,k (λb a=>i b (by unfold lK;rw[d9,d];exact ai _ a)) hr⟩
 exact all _ (λ_ a=>a) I.ok.funs
theorem Inv.stack (I:Inv X pins σ H s):s.heap.FunFrames X.base X.stack:=by
 rcases I.ok.stk with e|⟨e,a⟩
 ·rw[e];exact I.funs
 ·rw[e];obtain⟨m,hn,_⟩:=I.loc;refine .cons (by rw[I.ok.kind];decide) a hn ?_ I.funs
  exact Heap.get?_none_of_le (aG I.ok.bsz I.ok.above)
theorem Inv.stkSub (I:Inv X pins σ H s):∀b∈lK X.stack,b∈X.env.locals::X.fs:=λb a=>by
 rcases I.ok.stk with e|⟨e,d⟩
 ·rw[e]at a;exact ai _ a
 ·rw[e]at a;unfold lK at a;rw[d9,d]at a;exact a
theorem Inv.stkFree (I:Inv X pins σ H s):∀b∈lK X.stack,H b=none:=λb a=>by
 rcases am.mp (I.stkSub b a)with e|a
 ·rw[e];exact I.free
 ·obtain⟨_,o,d,_⟩:=I.ok.funs.mem a;exact I.base.free b o d (I.ok.frf b a) λz=>I.ok.exfs b z a
theorem Inv.step {g':Array GenState}{t':Nat}{d':Drawn}{ch:List Addr}(I:Inv X pins σ H s)
  (j:∀b∈ch,(b∈X.ex\/X.s₀.1.1.size<=b)/\b≠X.env.locals/\(∀x c,X.env.cells.lookup x=some c->c≠b)/\∀p∈X.pn++pins,p.1≠b)
  (y:∀b o,b≠X.env.locals->b∉X.fs->b∉ch->s.heap.get? b=some o->H b=none->h'.get? b=some o)
  (G:∀b o,b≠X.env.locals->b∈X.fs->b∉ch->s.heap.get? b=some o->H b=none->∃sl,h'.get? b=some {o with slots:=sl}) (free:∀b o,b∉ch->s.heap.get? b=some o->H b=none->H' b=none)
  (N:∀b o,b∉ch->s.heap.get? b=some o->∃Q,h'.get? b=some Q)
  (tups:∀b xs,H b=some (.tup xs)->H' b=some (.tup xs)) (Z:∀b o u,H b=some (.frz o u)->H' b=some (.frz o u)) (tbls:∀b U q,H b=some (.tbl U q)->H' b=some (.tbl U q))
  (ns:∀m,s.heap.Ns X.env.locals m->h'.Ns X.env.locals m) (hok:HOk X.prog X.w H' h') (hg:AllBare g'):
  Inv X pins σ H' {s with heap:=h',gens:=g',drawn:=d',toks:=t'}:=by
 have neL:∀b o,X.s₀.heap.get? b=some o->b≠X.env.locals:=λb o e=>aN (aP (aC e) I.ok.above);have lj:∀b o,X.s₀.heap.get? b=some o->b∉X.ex->b∉ch:=λb o e a L=>by
  rcases(j b L).1 with z|z
  ·exact a z
  ·exact absurd (aP (aC e) z) (bC _)
 have B:∀x c,X.env.cells.lookup x=some c->∀v,s.heap.IsCell c v->h'.IsCell c v:=λx c e v ⟨o,P,hd⟩=>by
  have f:=λz=>(j c z).2.2.1 x c e rfl
  by_cases hc:c∈X.fs
  ·obtain⟨sl,q⟩:=G c o (I.cne x c e) hc f P (I.freeC x c e);exact⟨_,q,hd⟩
  ·exact⟨o,y c o (I.cne x c e) hc f P (I.freeC x c e),hd⟩
 refine⟨I.ok,I.os,hg,⟨λb o e n L a=>?_,λb o e n L a=>?_,λb o e n a=>?_,λb o e a=>?_,λb xs e=>tups b xs (I.base.tups b xs e),λb o xs e=>Z b o xs (I.base.frzs b o xs e),λb U q e=>tbls b U q (I.base.tbls b U q e)⟩,?_,λx c e=>?_,?_,λx c e=>?_,λp hp=>?_,hok,I.len⟩
 ·exact y b o (neL b o e) L (lj b o e a) (I.base.keep b o e n L a) (I.base.free b o e n a)
 ·obtain⟨sl,J⟩:=I.base.slot b o e n L a;obtain⟨sl',e2⟩:=G b _ (neL b o e) L (lj b o e a) J (I.base.free b o e n a);exact⟨sl',e2⟩
 ·obtain⟨Q,J⟩:=I.base.there b o e a;exact free b Q (lj b o e a) J (I.base.free b o e n a)
 ·obtain⟨Q,J⟩:=I.base.there b o e a;exact N b Q (lj b o e a) J
 ·obtain⟨m,hn,hl⟩:=I.loc;refine⟨m,ns m hn,λi x v J e2 e3=>?_⟩;obtain⟨u,r,l⟩:=hl i x v J e2 e3;refine⟨u,r,?_⟩;rcases l with l|⟨k,c,e,z⟩
  ·exact .inl l
  ·exact .inr ⟨k,c,e,B x c e _ z⟩
 ·obtain⟨v,z⟩:=I.cell x c e;exact⟨v,B x c e v z⟩
 ·obtain⟨m,⟨o,_,_,P,_⟩,_⟩:=I.loc;exact free _ o (λz=>(j _ z).2.1 rfl) P I.free
 ·obtain⟨v,o,P,hd⟩:=I.cell x c e;exact free c o (λz=>(j c z).2.2.1 x c e rfl) P (I.freeC x c e)
 ·obtain⟨e,n,ne,nf,d⟩:=I.pin p hp;have f:=λz=>(j p.1 z).2.2.2 p hp rfl;exact⟨y p.1 p.2 ne nf f e n,free p.1 p.2 f e n,ne,nf,d⟩
theorem Inv.un {t':Nat}(I:Inv X pins σ H s)(u:Un X.fs [] H H' s.heap h')(d:HOk X.prog X.w H' h'):Inv X pins σ H' {s with heap:=h',toks:=t'}:=by
 obtain⟨m,⟨o,B,J,k,r⟩,_⟩:=id I.loc;obtain⟨y,q⟩:=u.any k I.free (by simp)
 exact I.step (ch:=[]) (λ_ z=>nomatch z) (λb o _ f _ e n=>u.keep b o e n f (by simp)) (λb o _ f _ e n=>u.slot b o e n f (by simp)) (λb o _ e n=>u.free b o e n (by simp)) (λb o _ e=>u.there b o e (by simp)) u.tups u.frzs u.tbls (λG p=>by
  obtain⟨v,j,i,a,l⟩:=p;rw[k]at a;cases a;exact⟨_,j,i,q,l⟩) d I.bare
theorem Inv.call {v:Array GenState}{t':Nat}{J:Drawn}{ch:List Addr}(I:Inv X pins σ H s)(u:Un (lK X.stack) ch H H' s.heap h')(i:HOk X.prog X.w H' h')(B:AllBare v)
  (d:∀b∈ch,(b∈X.ex\/X.s₀.1.1.size<=b)/\b≠X.env.locals/\(∀x c,X.env.cells.lookup x=some c->c≠b)/\∀p∈X.pn++pins,p.1≠b):
  Inv X pins σ H' {s with heap:=h',gens:=v,drawn:=J,toks:=t'}:=by
 obtain⟨m,⟨o,Z,Q,q,r⟩,_⟩:=id I.loc;obtain⟨U,l⟩:=u.any q I.free λz=>(d _ z).2.1 rfl;exact I.step d (λb o l G a e n=>u.keep b o e n (λz=>(am.mp (I.stkSub b z)).elim l G) a) (λb o _ _ a e n=>u.any e n a) (λb o a e n=>u.free b o e n a) (λb o a e=>u.there b o e a) u.tups u.frzs u.tbls (λP L=>by
  obtain⟨N,k,j,f,y⟩:=L;rw[q]at f;cases f;exact⟨_,k,j,l,y⟩) i B
theorem Inv.turned {t':Nat}{it:Addr}(I:Inv X pins σ H s)(k:∀b o,b≠it->s.heap.get? b=some o->h'.get? b=some o)(hn:H it=none)(f:it≠X.env.locals)
  (B:it∈X.ex\/X.s₀.1.1.size<=it) (y:∀x c,X.env.cells.lookup x=some c->c≠it) (J:∀p∈X.pn++pins,p.1≠it):Inv X pins σ H {s with heap:=h',toks:=t'}:=by
 have d:∀b u,H b=some u->b≠it:=λb u e z=>by rw[z,hn]at e;cases e
 refine I.step (ch:=[it]) (λb l=>?_) (λb o _ _ a e _=>k b o (λz=>a (by simp[z])) e) (λb o _ _ a e _=>⟨o.slots,k b o (λz=>a (by simp[z])) e⟩) (λ_ _ _ _ n=>n)
  (λb o a e=>⟨o,k b o (λz=>a (by simp[z])) e⟩) (λ_ _ e=>e) (λ_ _ _ e=>e) (λ_ _ _ e=>e) (λm j=>?_) (λb u e=>?_) I.bare
 ·have e:=by simpa using l
  subst e;exact⟨B,f,y,J⟩
 ·obtain⟨o,G,L,i,r⟩:=j;exact⟨o,G,L,k _ o (bx f) i,r⟩
 ·refine(I.hok b u e).stay (λc v a q=>k c v ?_ q) (λ_ q=>q) λ_ _ q=>q;rcases a with z|z
  ·rw[z];exact d b u e
  ·exact d c _ z
theorem Inv.tok (I:Inv X pins σ H s)(t:Nat):Inv X pins σ H {s with toks:=t}:=I.un Un.refl I.hok
theorem Inv.kept {t':Nat}(I:Inv X pins σ H s)(k:∀b u,s.heap.get? b=some u->h'.get? b=some u):Inv X pins σ H {s with heap:=h',toks:=t'}:=I.un (Un.kept k) (I.hok.kept k)
theorem Inv.laid {a:Addr}{o:HO}{t':Nat}(I:Inv X pins σ H s)(k:∀b u,s.heap.get? b=some u->h'.get? b=some u)(hp:s.1.1.size<=a)(new:Zw X.prog X.w (iV H a o) h' a o):
  Inv X pins σ (iV H a o) {s with heap:=h',toks:=t'}:=I.un (Un.laid k hp (I.hok.fresh hp)) (I.hok.laid k hp new)
theorem Inv.write {x e:Addr}{o:HO}{t':Nat}(I:Inv X pins σ H s)(d:tJ (H x))(f:e=x\/H e=some (.own x))(k:∀b u,b≠e->s.heap.get? b=some u->h'.get? b=some u)(a:∃u,h'.get? e=some u)
  (new:Zw X.prog X.w (iV H x o) h' x o):Inv X pins σ (iV H x o) {s with heap:=h',toks:=t'}:=I.un (Un.write d f k a) (I.hok.write d f k a new)
theorem Inv.pins_of {a:List (Addr×Obj)}(I:Inv X pins σ H s)(h:∀p∈a,s.heap.get? p.1=some p.2/\H p.1=none/\p.1≠X.env.locals/\p.1∉X.fs/\∀v,p.2.data≠.cell v):Inv X a σ H s:=
 ⟨I.ok,I.os,I.bare,I.base,I.loc,I.cell,I.free,I.freeC,λp hp=>(aT.mp hp).elim (λz=>I.pin p (bM _ z)) (h p),I.hok,I.len⟩
theorem Ud {N:List Str}(d:N.Nodup){i j:Nat}{x:Str}(a:N[i]?=some x)(b:N[j]?=some x):i=j:=by
 obtain⟨o,f⟩:=aH.mp a;obtain⟨l,k⟩:=aH.mp b;exact(i9 d).mp (f.trans k.symm)
theorem WG {M:Model}{A:Around}{E:Value->Shared->Prop}{i:Nat}{x:Str}{v:V}{u:Value}{Q:Unit->Shared->Prop}(I:Inv X pins σ H s)(hN:X.N.Nodup)(hi:X.N[i]?=some x)(J:Loc X.env.scope x)(r:Zh v u)
  (h:∀s',Inv X pins (σ.set i (some v)) H s'->(∃a,c9 a s.heap s'.heap/\(a=X.env.locals\/X.env.cells.lookup x=some a))->Q () s') (hf:X.fn x=true\/X.env.scope.names.lookup x=some .local:=by first|exact .inl rfl|exact .inr rfl|assumption):wpAny M A (storeName X.env x u) Q E s:=by
 obtain⟨m,hn,hl⟩:=id I.loc;have hcls:(X.env.scope.kind==.class||(X.env.scope.kind==.module&&X.env.locals !=X.env.globals))=false:=by rw[I.ok.kind];rfl
 have U:i<σ.length:=by rw[I.len];exact(aH.mp hi).1
 have cne:=I.cne;have B:∀{a:Addr} {h':Heap},(∃o,s.heap.get? a=some o/\H a=none)->c9 a _ h'->HOk _ X.w H h':=λ{a h'} ha f b ob e=>by
  obtain⟨_,_,L⟩:=ha;refine(I.hok b ob e).stay (λc w' G q=>(f.2 c ?_).trans q) (λ_ q=>q) λ_ _ q=>q
  rintro rfl
  rcases G with rfl|G
  ·rw[L]at e;cases e
  ·rw[L]at G;cases G
 rcases J with Z|Z
 ·refine wpAny_storeName_local Z hn (λh' hn' f=>?_) hcls;obtain⟨oL,_,_,hoL,_⟩:=id hn;refine h _ ⟨I.ok,I.os,I.bare,⟨λb o e n hb J=>?_,λb o e n hb J=>?_,I.base.free,λb o e J=>?_,I.base.tups,I.base.frzs,I.base.tbls⟩,⟨_,hn',λj y v' l P e3=>?_⟩,λy c e=>?_,I.free,I.freeC,λp hp=>?_,B ⟨oL,hoL,I.free⟩ f,by simpa using I.len⟩ ⟨_,f,.inl rfl⟩
  ·exact(f.2 b (aN (aP (aC e) I.ok.above))).trans (I.base.keep b o e n hb J)
  ·obtain⟨sl,l⟩:=I.base.slot b o e n hb J;exact⟨sl,(f.2 b (aN (aP (aC e) I.ok.above))).trans l⟩
  ·obtain⟨o',l⟩:=I.base.there b o e J;exact⟨o',(f.2 b (aN (aP (aC e) I.ok.above))).trans l⟩
  ·by_cases hj:j=i
   ·subst hj;rw[hi]at l;cases l;rw[bn U]at P;cases P;exact⟨u,r,.inl ⟨Z,by simp⟩⟩
   ·rw[aO (bx hj)]at P;obtain⟨u',r',q⟩:=hl j y v' l P e3;refine⟨u',r',?_⟩;rcases q with ⟨k,e⟩|⟨k,c,e,z⟩
    ·refine .inl ⟨k,?_⟩;have:y≠x:=λe=>hj (Ud hN l (e▸hi));simp[this,e]
    ·exact .inr ⟨k,c,e,z.sameBut f (cne y c e)⟩
  ·obtain⟨w',z⟩:=I.cell y c e;exact⟨w',z.sameBut f (cne y c e)⟩
  ·obtain⟨e,n,ne,nf,d⟩:=I.pin p hp;exact⟨(f.2 p.1 ne).trans e,n,ne,nf,d⟩
 ·have hfn:X.fn x=true:=by
   rcases hf with z|z
   ·exact z
   ·rw[z]at Z;cases Z
  obtain⟨c,G⟩:=I.ok.has x (.inl Z);obtain⟨w',z⟩:=I.cell x c G;refine wpAny_storeName_cell I.ok.kind Z G z (λh' hc' f=>?_);obtain⟨oc,hoc,hocd⟩:=id z;refine h _ ⟨I.ok,I.os,I.bare,⟨λb o e n hb J=>?_,λb o e n hb J=>?_,I.base.free,λb o e J=>?_,I.base.tups,I.base.frzs,I.base.tbls⟩,⟨m,hn.sameBut f (bx (cne x c G)),λj y v' l P e3=>?_⟩,λy c' e=>?_,I.free,I.freeC,λp hp=>?_,B ⟨oc,hoc,I.freeC x c G⟩ f,by simpa using I.len⟩ ⟨c,f,.inr G⟩
  ·exact(f.2 b (aN (aP (aC e) (I.ok.cab x c hfn G)))).trans (I.base.keep b o e n hb J)
  ·obtain⟨sl,l⟩:=I.base.slot b o e n hb J;exact⟨sl,(f.2 b (aN (aP (aC e) (I.ok.cab x c hfn G)))).trans l⟩
  ·obtain⟨o',l⟩:=I.base.there b o e J;exact⟨o',(f.2 b (aN (aP (aC e) (I.ok.cab x c hfn G)))).trans l⟩
  ·by_cases hj:j=i
   ·subst hj;rw[hi]at l;cases l;rw[bn U]at P;cases P;exact⟨u,r,.inr ⟨.inl Z,c,G,hc'⟩⟩
   ·rw[aO (bx hj)]at P;obtain⟨u',r',q⟩:=hl j y v' l P e3;refine⟨u',r',?_⟩;rcases q with q|⟨k,c',e,z'⟩
    ·exact .inl q
    ·refine .inr ⟨k,c',e,z'.sameBut f ?_⟩
     rintro rfl
     exact hj (Ud hN l (I.ok.inj _ _ _ e G▸hi))
  ·by_cases hcc:c'=c
   ·subst hcc;exact⟨_,hc'⟩
   ·obtain⟨w2,z2⟩:=I.cell y c' e;exact⟨w2,z2.sameBut f hcc⟩
  ·obtain⟨e,n,ne,nf,d⟩:=I.pin p hp;refine⟨(f.2 p.1 ?_).trans e,n,ne,nf,d⟩;intro q;rw[q,hoc]at e;have q':=aJ e;exact d w' (by rw[←q'];exact hocd)
theorem Jo {M:Model}{A:Around}{E:Value->Shared->Prop}{i:Nat}{x:Str}{v:V}{u:Value}{Q:Unit->Shared->Prop}(I:Inv X pins σ H s)(k:X.N.Nodup)(hi:X.N[i]?=some x)(d:Loc X.env.scope x)(r:Zh v u)
  (h:∀a,Inv X pins (σ.set i (some v)) H a->Q () a) (j:X.fn x=true\/X.env.scope.names.lookup x=some .local:=by first|exact .inl rfl|exact .inr rfl|assumption):wpAny M A (storeName X.env x u) Q E s:=
 WG I k hi d r (λa f _=>h a f) j
theorem Inv.call' {a:Shared}{ch:List Addr}(I:Inv X pins σ H s)(i:a.os=s.os)(u:Un (lK X.stack) ch H H' s.heap a.heap)(d:HOk X.prog X.w H' a.heap)(j:AllBare a.gens)
  (f:∀b∈ch,(b∈X.ex\/X.s₀.1.1.size<=b)/\b≠X.env.locals/\(∀x c,X.env.cells.lookup x=some c->c≠b)/\∀p∈X.pn++pins,p.1≠b):Inv X pins σ H' a:=by
 obtain⟨h',o,l,t',k⟩:=a;have e:=i;subst e;exact I.call u d j f
end
abbrev XK:=Value->Option Addr->Hp->Prop
noncomputable abbrev St:=List (Option V)
abbrev VK:=V->Hp->Prop
abbrev TE:=St->Hp->VK->Prop
abbrev TT:=St->Hp->(Bool->Hp->Prop)->Prop
abbrev TA:=St->Hp->(List V->Hp->Prop)->Prop
structure yg where
 nx:St->Hp->Prop
 rt:VK
 bk:St->Hp->Prop:=λ_ _=>False
 ct:St->Hp->Prop:=λ_ _=>False
abbrev TS:=yg->St->Hp->Prop
def EP (X:Cx)(a:List (Addr×Obj))(i:St)(Q:VK)(u:Value)(f:Shared):Prop:=∃v d,Inv X a i d f/\Zh v u/\Q v d
def TP (X:Cx)(a:List (Addr×Obj))(i:St)(Q:Bool->Hp->Prop)(b:Bool)(f:Shared):Prop:=∃d,Inv X a i d f/\Q b d
def AP (X:Cx)(a:List (Addr×Obj))(i:St)(Q:List V->Hp->Prop)(us:List Value)(f:Shared):Prop:=∃vs d,Inv X a i d f/\Z0 vs us/\Q vs d
def SP (X:Cx)(a:List (Addr×Obj))(D:yg)(f:Flow)(i:Shared):Prop:=
 match f with
 |.next=>∃σ' d,Inv X a σ' d i/\D.nx σ' d
 |.brk=>∃σ' d,Inv X a σ' d i/\D.bk σ' d
 |.cont=>∃σ' d,Inv X a σ' d i/\D.ct σ' d
 |.ret u=>∃v σ' d,Inv X a σ' d i/\Zh v u/\D.rt v d
def PE (X:Cx)(e:Expr)(t:TE):Prop:=
 ∀(a:List (Addr×Obj)) (s:Shared) (d:St) (H:Hp) (Q:VK),Inv X a d H s->t d H Q->wpAny (model X.prog X.w) X.A (eval e X.env) (EP X a d Q) X.xe s
def PT (X:Cx)(e:Expr)(t:TT):Prop:=
 ∀(a:List (Addr×Obj)) (s:Shared) (d:St) (H:Hp) (Q:Bool->Hp->Prop),Inv X a d H s->t d H Q->wpAny (model X.prog X.w) X.A (isTrue e X.env (eval e X.env)) (TP X a d Q) X.xe s
def PW (X:Cx)(e:Expr)(t:TT):Prop:=
 ∀(d:Sem Value) (a:List (Addr×Obj)) (s:Shared) (f:St) (H:Hp) (Q:Bool->Hp->Prop),Inv X a f H s->t f H Q->wpAny (model X.prog X.w) X.A (isTrue e X.env d) (TP X a f Q) X.xe s
theorem PW.pt {X:Cx}{e:Expr}{t:TT}(h:PW X e t):PT X e t:=h _
def PA (X:Cx)(f:List Expr)(t:TA):Prop:=
 ∀(pos:Pos) (a:List _) (s:Shared) (d:St) (H:Hp) (Q:List V->Hp->Prop),Inv X a d H s->t d H Q->wpAny (model X.prog X.w) X.A (spliced (backTo pos (starEach f X.env))) (AP X a d Q) X.xe s
def PS (X:Cx)(st:Stmt)(t:TS):Prop:=
 ∀(a:List (Addr×Obj)) (s:Shared) (d:St) (H:Hp) (D:yg),Inv X a d H s->t D d H->wpAny (model X.prog X.w) X.A (exec st X.env) (SP X a D) X.xe s
def PSs (X:Cx)(st:List Stmt)(t:TS):Prop:=
 ∀(a:List (Addr×Obj)) (s:Shared) (d:St) (H:Hp) (D:yg),Inv X a d H s->t D d H->wpAny (model X.prog X.w) X.A (execs st X.env) (SP X a D) X.xe s
theorem iU {f:Type}{t:Sem f}{Q d:f->Shared->Prop}{M:Model}{A:Around}{E:Value->Shared->Prop}{s:Shared}(h:wpAny M A t Q E s)(i:∀a s,Q a s->d a s):wpAny M A t d E s:=di h i λ_ _ x=>x
end L2
namespace L2
open PySem PySem.Spec PyProof.Rows
section
variable {X:Cx}
theorem bin {a b:Expr}{r tb:TE}(Z:PE X a r)(J:PE X b tb){d:List (Addr×Obj)}{s:Shared}{j:St}{H:Hp}{R:V->V->Hp->Prop}(I:Inv X d j H s)(h:r j H λx p=>tb j p λy i=>R x y i)
  {q:Type} {Q:q->Shared->Prop} {f:Value->Value->Sem q}
  (P:∀v u o x y i,Inv X d j i o->Zh x v->Zh y u->R x y i->wpAny (model X.prog X.w) X.A (f v u) Q X.xe o):
  wpAny (model X.prog X.w) X.A (eval a X.env) (λv k=>wpAny (model X.prog X.w) X.A (eval b X.env) (λu l=>wpAny (model X.prog X.w) X.A (f v u) Q X.xe l) X.xe k) X.xe s:=by
 refine iU (Z _ s j H _ I h) λv G ⟨x,p,I1,B,U⟩=>?_;refine iU (J _ G j p _ I1 U) λu o ⟨y,i,N,r2,L⟩=>?_;exact P v u o x y i N B r2 L
def Jp (i:Nat):TE:=λa H Q=>∃v,a[i]?=some (some v)/\Q v H
def tC (v:V):TE:=λ_ H Q=>Q v H
theorem Ks {i:Nat}{x:Str}{pos:Pos}(B:X.N[i]?=some x)(y:pV X.env.scope x)(hd:(x==("__debug__":Str))=false:=by decide)(j:(x==("__classdict__":Str))=false:=by decide):PE X (.Name x pos) (Jp i):=by
 intro k s q H Q I h;obtain⟨v,e,h⟩:=h;obtain⟨m,hn,G⟩:=I.loc;obtain⟨u,r,l⟩:=G i x v B e y;have d:EP X _ q Q u s:=⟨v,H,I,r,h⟩;rcases l with ⟨f,p⟩|⟨f,c,o,a⟩
 ·exact wpAny_Name (wpAny_loadName_local I.ok.kind f hn p d) hd
 ·rcases f with f|f
  ·exact wpAny_Name (wpAny_loadName_cell I.ok.kind f o a d) hd
  ·exact wpAny_Name (wpAny_loadName_free I.ok.kind f o a d j) hd
theorem Kt {i j pos}:PE X (.Constant (.int i) j pos) (tC (.int i)):=λ_ _ _ H _ I h=>wpAny_Constant_int ⟨.int i,H,I.tok _,⟨_,rfl⟩,h⟩
theorem HS {b j pos}:PE X (.Constant (.bool b) j pos) (tC (.bl b)):=λ_ _ _ H _ I h=>Constant_bool ⟨.bl b,H,I,rfl,h⟩
theorem Y0 {x j pos}:PE X (.Constant (.str x) j pos) (tC (.str x)):=λ_ _ _ H _ I h=>Calls.Constant_str ⟨.str x,H,I.tok _,⟨_,rfl⟩,h⟩
noncomputable def Gl (X:Cx)(x:Str):Prop:=X.env.kindOf x=some .globalImplicit
theorem uK {E:Value->Shared->Prop}{a:List (Addr×Obj)}{s:Shared}{i:St}{H:Hp}{x:Str}{u:Value}{pos:Pos}{Q:Value->Shared->Prop}(I:Inv X a i H s)(f:Gl X x)(d:X.mg x=some u)(h:Q u s)
  (hd:(x==("__debug__":Str))=false:=by decide):wpAny (model X.prog X.w) X.A (eval (.Name x pos) X.env) Q E s:=
 dP I.ok.kind f (Calls.loadGlobal_global (by rw[I.ok.glob];exact I.mod.glob.keeps I.bk) d h) hd
theorem j9 {E:Value->Shared->Prop}{a:List (Addr×Obj)}{s:Shared}{j:St}{H:Hp}{x:Str}{u:Value}{pos:Pos}{Q:Value->Shared->Prop}(I:Inv X a j H s)(f:Gl X x)(d:X.mg x=none)(l:bootBuiltins x=some u)(h:Q u s)
  (hn:x≠"__name__":=by decide) (hd:(x==("__debug__":Str))=false:=by decide):wpAny (model X.prog X.w) X.A (eval (.Name x pos) X.env) Q E s:=by
 obtain⟨o,k,i⟩:=I.mod.blt;exact dP I.ok.kind f (Calls.loadGlobal_builtin (by rw[I.ok.glob];exact I.mod.glob.keeps I.bk) d (by rw[I.ok.blt];exact k.keeps I.bk) ((i x hn).trans l) h) hd
theorem xF {x:Str}{v:V}{u:Value}{pos:Pos}(d:Gl X x)(a:X.mg x=some u)(r:Zh v u)(hd:(x==("__debug__":Str))=false:=by decide):PE X (.Name x pos) (tC v):=
 λ_ _ _ H _ I h=>uK I d a ⟨v,H,I,r,h⟩ hd
theorem xG {x:Str}{v:V}{u:Value}{pos:Pos}(f:Gl X x)(d:X.mg x=none)(a:bootBuiltins x=some u)(r:Zh v u)(hn:x≠"__name__":=by decide)(hd:(x==("__debug__":Str))=false:=by decide):PE X (.Name x pos) (tC v):=
 λ_ _ _ H _ I h=>j9 I f d a ⟨v,H,I,r,h⟩ hn hd
variable {a b:Expr}{ta tb:TE}{pos:Pos}
variable {tA tB':TT}{rest:List Expr}
def Bt (t u:TT):TT:=λf H Q=>t f H λc d=>if c=true then u f d Q else Q false d
def Ec (t u:TT):TT:=λf H Q=>t f H λc d=>if c=true then Q true d else u f d Q
def As (t:TT):TT:=λf H Q=>t f H λc d=>Q (!c) d
theorem xH (i:PT X a tA):PW X (.BoolOp .And [a] pos) tA:=by
 intro j d s f H Q I h;refine isTrue_and (iU (i _ s f H Q I h) λc k e=>?_);cases c with
 |true=>exact isTrue_and_nil e
 |false=>exact e
theorem Ku (i:PT X a tA):PW X (.BoolOp .Or [a] pos) tA:=by
 intro j d s f H Q I h;refine isTrue_or (iU (i _ s f H Q I h) λc k e=>?_);cases c with
 |false=>exact isTrue_or_nil e
 |true=>exact e
theorem Kv (q:PT X a tA)(o:PW X (.BoolOp .And (b::rest) pos) tB'):PW X (.BoolOp .And (a::b::rest) pos) (Bt tA tB'):=by
 intro p i s f H Q I h;refine isTrue_and (iU (q _ s f H _ I h) λc l ⟨d,j,k⟩=>?_);cases c with
 |true=>exact o p _ l f d Q j k
 |false=>exact⟨d,j,k⟩
theorem Hv (q:PT X a tA)(o:PW X (.BoolOp .Or (b::rest) pos) tB'):PW X (.BoolOp .Or (a::b::rest) pos) (Ec tA tB'):=by
 intro p i s f H Q I h;refine isTrue_or (iU (q _ s f H _ I h) λc l ⟨d,j,k⟩=>?_);cases c with
 |true=>exact⟨d,j,k⟩
 |false=>exact o p _ l f d Q j k
theorem Kw (j:PT X a tA):PT X (.UnaryOp .Not a pos) (As tA):=by
 intro d s i H Q I h;exact isTrue_not (j _ s i H (λc f=>Q _ f) I h)
def HD (ta tb:TE):TE:=λf H Q=>ta f H λx d=>∃c,x=.bl c/\if c=true then tb f d Q else Q (.bl false) d
def AW (ta tb:TE):TE:=λf H Q=>ta f H λx d=>∃c,x=.bl c/\if c=true then Q (.bl true) d else tb f d Q
def FA (ta:TE):TE:=λf H Q=>ta f H λx d=>∃c,x=.bl c/\Q (.bl (!c)) d
theorem Kx {op}{t:TE}(h:PE X a t):PE X (.BoolOp op [a] pos) t:=λd s i H Q I f=>BoolOp_one (h _ s i H Q I f)
theorem Ky (q:PE X a ta)(p:PE X (.BoolOp .And (b::rest) pos) tb):PE X (.BoolOp .And (a::b::rest) pos) (HD ta tb):=by
 intro j s i H Q I h;refine BoolOp_and (iU (q _ s i H _ I h) λv o ⟨x,f,k,l,d⟩=>?_);obtain⟨c,rfl,d⟩:=d;cases l;refine ba ?_;cases c with
 |true=>exact p _ o i f Q k d
 |false=>exact⟨.bl _,f,k,rfl,d⟩
theorem FC (q:PE X a ta)(p:PE X (.BoolOp .Or (b::rest) pos) tb):PE X (.BoolOp .Or (a::b::rest) pos) (AW ta tb):=by
 intro j s i H Q I h;refine BoolOp_or (iU (q _ s i H _ I h) λv o ⟨x,f,k,l,d⟩=>?_);obtain⟨c,rfl,d⟩:=d;cases l;refine ba ?_;cases c with
 |false=>exact p _ o i f Q k d
 |true=>exact⟨.bl _,f,k,rfl,d⟩
theorem Kz (o:PE X a ta):PE X (.UnaryOp .Not a pos) (FA ta):=by
 intro f s k H Q I h;refine UnaryOp_ (iU (o _ s k H _ I h) λv p ⟨x,j,l,i,d⟩=>?_);obtain⟨c,rfl,d⟩:=d;cases i;exact not_of (ba ⟨.bl _,j,l,rfl,d⟩)
def Ep (t:TT)(ta tb:TE):TE:=λd H Q=>t d H λc f=>if c=true then ta d f Q else tb d f Q
theorem Ue {c:Expr}(r:PT X c tA)(q:PE X a ta)(p:PE X b tb):PE X (.IfExp c a b pos) (Ep tA ta tb):=by
 intro k s f H Q I h;refine wpAny_IfExp (iU (r _ s f H _ I h) λd j ⟨i,l,o⟩=>?_);cases d with
 |true=>exact q _ j f i Q l o
 |false=>exact p _ j f i Q l o
end
end L2
namespace L2
open PySem PySem.Spec PyProof.Rows
def SqL (K:ag)(H:Hp)(a:Addr)(xs:List V):Prop:=
 Rd H a (.lst xs)\/
  ∃(o:Obj) (d:Array Value) (n:Nat),K.lookup a=some o/\o.cls=.type "list"/\o.dict=none/\o.data=.seq d n/\d.size<=sizeLine/\Z0 xs d.toList
def SqT (K:ag)(H:Hp)(a:Addr)(xs:List V):Prop:=
 Rd H a (.tup xs)\/
  ∃(o:Obj) (d:Array Value) (n:Nat),K.lookup a=some o/\o.cls=.type "tuple"/\o.data=.seq d n/\d.size<=sizeLine/\Z0 xs d.toList
noncomputable def Bm:Value->Option V
 |.none=>some .non
 |.bool b=>some (.bl b)
 |.int i _=>some (.int i)
 |.str x _=>some (.str x)
 |.bytes b _=>some (.byt b)
 |.float b _=>some (.flt b)
 |.ref a=>some (.ref a)
 |.type n=>some (.ty n)
 |_=>none
theorem Zh.abs {x:V}{u:Value}(r:Zh x u):Bm u=some x:=by
 cases x with
 |non=>cases r;rfl
 |bl _=>cases r;rfl
 |int _=>obtain⟨t,rfl⟩:=r;rfl
 |str _=>obtain⟨t,rfl⟩:=r;rfl
 |byt _=>obtain⟨t,rfl⟩:=r;rfl
 |flt _=>obtain⟨t,rfl⟩:=r;rfl
 |ref _=>cases r;rfl
 |ty _=>cases r;rfl
theorem Zh.inj {x y:V}{u:Value}(r:Zh x u)(q:Zh y u):x=y:=aJ (r.abs.symm.trans q.abs)
theorem Z0.inj:∀{xs a:List V} {us:List Value},Z0 xs us->Z0 a us->xs=a
 |_,_,_,.nil,.nil=>rfl
 |_,_,_,.cons r t,.cons d t'=>by rw[r.inj d,Z0.inj t t']
section
variable {X:Cx}{pins:List (Addr×Obj)}{σ:St}{H:Hp}{s:Shared}{a:Addr}{xs ys:List V}
theorem SqL.of {K:ag}(h:H a=some (.lst xs)):SqL K H a xs:=.inl (.inl h)
theorem SqT.of {K:ag}(h:H a=some (.tup xs)):SqT K H a xs:=.inl (.inl h)
theorem Inv.list (I:Inv X pins σ H s)(h:SqL X.K H a xs):∃d:List Value,Z0 xs d/\PlainL s.heap a d.toArray/\xs.length<=sizeLine:=by
 rcases h with h|⟨o,d,n,i,f,hd,j,k,r⟩
 ·obtain⟨z,d,n,r,e⟩:=h.ok I.hok;exact⟨d,r,⟨_,n,e,rfl,rfl,rfl⟩,z⟩
 ·refine⟨d.toList,r,⟨o,n,I.kIn a o i,f,hd,by simpa using j⟩,?_⟩
  have e:=r.length;simp only[dJ]at e;omega
theorem Inv.tuple (I:Inv X pins σ H s)(h:SqT X.K H a xs):∃d:List Value,Z0 xs d/\IsTup s.heap a d.toArray/\xs.length<=sizeLine:=by
 rcases h with h|⟨o,d,n,i,f,j,k,r⟩
 ·obtain⟨z,d,r,p,_⟩:=h.ok I.hok;exact⟨d,r,p,z⟩
 ·refine⟨d.toList,r,⟨o,I.kIn a o i,f,n,by simpa using j⟩,?_⟩
  have e:=r.length;simp only[dJ]at e;omega
theorem Inv.list_inj (I:Inv X pins σ H s)(h:SqL X.K H a xs)(h':SqL X.K H a ys):xs=ys:=by
 obtain⟨l,r,⟨o,n,e,_,_,d⟩,_⟩:=I.list h;obtain⟨i,k,⟨p,q,j,_,_,f⟩,_⟩:=I.list h';rw[e]at j;cases j;rw[d]at f;injection f with d1 _;have:=by simpa using congrArg Array.toList d1
 subst this;exact r.inj k
theorem Inv.tuple_inj (I:Inv X pins σ H s)(h:SqT X.K H a xs)(h':SqT X.K H a ys):xs=ys:=by
 obtain⟨l,r,⟨o,e,_,n,d⟩,_⟩:=I.tuple h;obtain⟨i,k,⟨p,j,_,q,f⟩,_⟩:=I.tuple h';rw[e]at j;cases j;rw[d]at f;injection f with d1 _;have:=by simpa using congrArg Array.toList d1
 subst this;exact r.inj k
end
noncomputable abbrev Cx.wish (X:Cx)(E:Value->Shared->Prop):Cx:={X with xe:=E}
abbrev Cx.nox (X:Cx):Cx:=X.wish λ_ _=>False
theorem Cx.Ok.wish {X:Cx}(ok:X.Ok)(E:Value->Shared->Prop):(X.wish E).Ok:=
 ⟨ok.mod,ok.kind,ok.glob,ok.blt,ok.above,ok.inj,ok.has,ok.cab,ok.hd,ok.frames,ok.stk,ok.exf,ok.bs,ok.bsz,ok.noex,ok.exfs,ok.funs,ok.frf⟩
theorem Cx.Ok.unwish {X:Cx}{E:Value->Shared->Prop}(ok:(X.wish E).Ok):X.Ok:=
 ⟨ok.mod,ok.kind,ok.glob,ok.blt,ok.above,ok.inj,ok.has,ok.cab,ok.hd,ok.frames,ok.stk,ok.exf,ok.bs,ok.bsz,ok.noex,ok.exfs,ok.funs,ok.frf⟩
section
variable {X:Cx}{pins:List (Addr×Obj)}{σ:St}{H:Hp}{s:Shared}{E:Value->Shared->Prop}
theorem Inv.wish (I:Inv X pins σ H s)(E:Value->Shared->Prop):Inv (X.wish E) pins σ H s:=⟨I.ok.wish E,I.os,I.bare,I.base,I.loc,I.cell,I.free,I.freeC,I.pin,I.hok,I.len⟩
theorem Inv.unwish (I:Inv (X.wish E) pins σ H s):Inv X pins σ H s:=⟨I.ok.unwish,I.os,I.bare,I.base,I.loc,I.cell,I.free,I.freeC,I.pin,I.hok,I.len⟩
theorem SP.unwish {D:yg}{f:Flow}{d:Shared}(h:SP (X.wish E) pins D f d):SP X pins D f d:=by
 cases f with
 |next=>obtain⟨σ',a,I,q⟩:=h;exact⟨σ',a,I.unwish,q⟩
 |brk=>obtain⟨σ',a,I,q⟩:=h;exact⟨σ',a,I.unwish,q⟩
 |cont=>obtain⟨σ',a,I,q⟩:=h;exact⟨σ',a,I.unwish,q⟩
 |ret u=>obtain⟨v,σ',a,I,r,q⟩:=h;exact⟨v,σ',a,I.unwish,r,q⟩
theorem PSs.nox {st:List Stmt}{t:TS}(h:PSs X.nox st t):PSs X st t:=λpins s σ H D I a=>
 di (h _ s σ H D (I.wish _) a) (λ_ _ q=>q.unwish) λ_ _ z=>bQ z
end
section
variable {X:Cx}{st:Stmt}{rest:List Stmt}{t u:TS}{e:Expr}{te:TE}{pos:Pos}
def Hk:TS:=λD a H=>D.nx a H
def AS (t u:TS):TS:=λD a H=>t {D with nx:=u D} a H
theorem Y1:PSs X [] Hk:=λ_ _ a H _ I h=>wpAny_execs_nil ⟨a,H,I,h⟩
theorem wN (o:PS X st t)(j:PSs X rest u):PSs X (st::rest) (AS t u):=by
 intro a s k H D I h;refine wpAny_execs_cons (iU (o _ s k H _ I h) λf i q=>?_);cases f with
 |next=>
  obtain⟨σ',l,d,q⟩:=q;exact j _ i σ' l D d q
 |ret v=>exact q
 |brk=>exact q
 |cont=>exact q
theorem uL (i:PS X st t):PSs X [st] t:=by
 intro a s d H D I h;refine wpAny_execs_cons (iU (i _ s d H D I h) λf j q=>?_);cases f with
 |next=>exact wpAny_execs_nil q
 |ret v=>exact q
 |brk=>exact q
 |cont=>exact q
theorem Inv.quiet {a:List (Addr×Obj)}{d:St}{H:Hp}{s:Shared}(I:Inv X a d H s):interactive X.env=false:=by simp[interactive,I.ok.kind]
def FF (te:TE):TS:=λD a H=>te a H λ_ d=>D.nx a d
theorem JC (l:PE X e te)(k:swapsWith e none pos.line X.env=pure false:=by rfl):PS X (.Expr e pos) (FF te):=by
 intro d s a H D I h;exact wpAny_Expr_any (iU (l _ s a H _ I h) λv p ⟨x,f,j,o,i⟩=>⟨a,f,j,i⟩) I.quiet k
def BJ (te:TE):TS:=λD a H=>te a H D.rt
theorem WH (l:PE X e te):PS X (.Return (some e) pos) (BJ te):=by
 intro a s d H D I h;exact wpAny_Return_some (iU (l _ s d H _ I h) λv o ⟨x,i,j,f,k⟩=>⟨x,d,i,j,f,k⟩)
def A9 (c:TT)(t u:TS):TS:=λD a H=>c a H λb d=>if b=true then t D a d else u D a d
theorem KA {c:Expr}{a b:List Stmt}{tc:TT}(p:PT X c tc)(r:PSs X a t)(q:PSs X b u):PS X (.If c a b pos) (A9 tc t u):=by
 intro k s f H D I h;refine wpAny_If (iU (p _ s f H _ I h) λd j ⟨i,l,o⟩=>?_);cases d with
 |true=>exact r _ j f i D l o
 |false=>exact q _ j f i D l o
end
abbrev TG:=V->St->Hp->(St->Hp->Prop)->Prop
abbrev nR:=List V->St->Hp->(St->Hp->Prop)->Prop
def PG (X:Cx)(a:Expr)(t:TG):Prop:=
 ∀(d:List (Addr×Obj)) (s:Shared) (f:St) (H:Hp) (v:V) (u:Value) (Q:St->Hp->Prop),Inv X d f H s->Zh v u->t v f H Q->
  wpAny (model X.prog X.w) X.A (assign a X.env u) (λ_ j=>∃σ' i,Inv X d σ' i j/\Q σ' i) X.xe s
def tf (X:Cx)(ts:List Expr)(t:nR):Prop:=
 ∀(a:List (Addr×Obj)) (s:Shared) (d:St) (H:Hp) (vs:List V) (us:List Value) (Q:St->Hp->Prop),Inv X a d H s->Z0 vs us->t vs d H Q->
  wpAny (model X.prog X.w) X.A (assignInOrder ((assignEach ts X.env).map (·.2)) us) (λ_ i=>∃σ' f,Inv X a σ' f i/\Q σ' f) X.xe s
section
variable {X:Cx}{pos:Pos}
def wO (i:Nat):TG:=λv a H Q=>Q (a.set i (some v)) H
theorem jZ {i:Nat}{x:Str}(k:X.N.Nodup)(hi:X.N[i]?=some x)(d:Loc X.env.scope x)(j:X.fn x=true\/X.env.scope.names.lookup x=some .local:=by first|exact .inl rfl|exact .inr rfl|assumption):PG X (.Name x pos) (wO i):=by
 intro a s o H v u Q I r h;exact wpAny_assign_Name (Jo I k hi d r (λl f=>⟨_,H,f,h⟩) j)
def A2:nR:=λvs a H Q=>vs=[]/\Q a H
def Y2 (t:TG)(u:nR):nR:=λvs a H Q=>∃v r,vs=v::r/\t v a H λσ' d=>u r σ' d Q
theorem Y3:tf X [] A2:=by
 intro a s d H vs us Q I r h;obtain⟨e,h⟩:=h;exact assignInOrder_nil ⟨d,H,I,h⟩
theorem Jq {e:Expr}{a:List Expr}{t:TG}{u:nR}(y:PG X e t)(o:tf X a u)
  (G:(assignEach (e::a) X.env).map (·.2)=assign e X.env::(assignEach a X.env).map (·.2):=by rfl):tf X (e::a) (Y2 t u):=by
 intro f s p H vs us Q I r h;obtain⟨v,J,i,h⟩:=h;subst i;cases r with
 |cons r l=>
  rw[G];refine assignInOrder_cons (iU (y _ s p H _ _ _ I r h) λ_ k ⟨d,j,B,q⟩=>?_);exact o _ k d j _ _ Q B l q
def rl (K:ag)(n:Nat)(t:nR):TG:=λv d H Q=>∃a xs,v=.ref a/\SqT K H a xs/\xs.length=n/\t xs d H Q
theorem VB {d:List Expr}{k:Nat}{t:nR}{n:Nat}(J:X.calm=true)(h:tf X d t)
  (hn:(assignEach d X.env).length=n:=by rfl) (i:(assignEach d X.env).findIdx? (·.1)=none:=by rfl):PG X (.Tuple d k pos) (rl X.K n t):=by
 intro l s p H v u Q I r f;obtain⟨a,xs,y,B,P,f⟩:=f;subst y;cases r;obtain⟨G,j,q,U⟩:=I.tuple B;refine assign_Tuple_tuple (I.ok.hd J) q (by simp[hn,←P,j.length]) i λh' L=>?_
 have N:Inv X _ p H {s with heap:=h'}:=I.kept λb o e=>L b o (aN (aC e)) e;exact h _ _ p H xs _ Q N (by simpa using j) f
def BE (te:TE)(g:TG):TS:=λD a H=>te a H λx d=>g x a d D.nx
theorem wu {i:Nat}{x:Str}{e:Expr}{te:TE}{a:Pos}(u:X.N.Nodup)(hi:X.N[i]?=some x)(j:Loc X.env.scope x)(G:PE X e te)(r:swapsWith e (some (.Name x a)) pos.line X.env=pure false:=by rfl)(p:X.fn x=true\/X.env.scope.names.lookup x=some .local:=by first|exact .inl rfl|exact .inr rfl|assumption):
  PS X (.Assign [.Name x a] e pos) (BE te (wO i)):=by
 intro d s l H D I h;refine wpAny_Assign_Name (iU (G _ s l H _ I h) λv L ⟨y,k,q,f,B⟩=>?_) r;exact Jo q u hi j f (λJ o=>⟨_,k,o,B⟩) p
def CH (i j:Nat)(d:TA):TS:=λD a H=>d a H λvs f=>∃v w,vs=[v,w]/\D.nx ((a.set i (some v)).set j (some w)) f
theorem KC {i j:Nat}{x y:Str}{a b:Expr}{ta:TA}{u k pt:Pos}{kt k2 pt2}(hc:X.calm=true)(Q:X.N.Nodup)(hi:X.N[i]?=some x)(hj:X.N[j]?=some y)(r:i≠j)
  (U:X.env.scope.names.lookup x=some .local) (hy:X.env.scope.names.lookup y=some .local) (ha:PA X [a,b] ta)
  (hw:swappedStores [.Tuple [.Name x u,.Name y k] kt pt] (.Tuple [a,b] k2 pt2) X.env=pure (some [x,y]))
  (hs:swapsWithSole [.Tuple [.Name x u,.Name y k] kt pt] (.Tuple [a,b] k2 pt2) pos.line X.env=pure false:=by rfl):
  PS X (.Assign [.Tuple [.Name x u,.Name y k] kt pt] (.Tuple [a,b] k2 pt2) pos) (CH i j ta):=by
 intro P s σ H D I h;refine aa (wpAny_standAt ?_);refine aa (aB ?_);refine aa (Tuple_ (iU (ha _ _ s σ H _ I h) λus l ⟨vs,Z,I1,r1,G⟩=>?_));obtain⟨v,w,e1,G⟩:=G;subst e1;obtain⟨d,f,rfl,rv,J⟩:∃d f,us=[d,f]/\Zh v d/\Zh w f:=by
  cases r1 with
  |cons p q=>
   cases q with
   |cons p' q'=>
    cases q';exact⟨_,_,rfl,p,p'⟩
 refine bh ?_ (by show 2<=sizeLine;decide)
 have I2:Inv X _ σ Z {l with heap:=l.heap.push {cls:=.type "tuple",data:=.seq [d,f].toArray} }:=I1.kept λb o e=>ak _ e;rw[hw];refine aa (aB ?_);refine aa (dQ (aa (unpackItems_tuple (items:=#[d,f]) (I.ok.hd hc) (IsTup.new _ _) λh' B=>?_)));have I3:=I2.kept (t':=l.toks) λb o e=>B b o (aN (aC e)) e;refine aa (assignInOrder_cons (wpAny_bindName (Jo I3 Q hj (.inl hy) J (λs2 I4=>?_) (.inr hy))));refine assignInOrder_cons (wpAny_bindName (Jo I4 Q hi (.inl U) rv (λs3 L=>assignInOrder_nil (aB ?_)) (.inr U)));rw[List.set_comm _ _ (bx r)]at L;exact⟨_,Z,L,G⟩
end
section
variable {X:Cx}{pos:Pos}
def KD (c:TT)(tb:TS):TS:=λD a H=>∃W:Nat->St->Hp->Prop,(∃m,W m a H)/\∀m a H,W m a H->
 c a H λb f=>if b=true then ∃N:St->Hp->Prop,(∀σ' i,N σ' i->∃d,d<m/\W d σ' i)/\tb {D with nx:=N,ct:=N,bk:=D.nx} a f else D.nx a f
theorem v9 {c:Expr}{i:List Stmt}{tc:TT}{tb:TS}(hp:PassesOwn (model X.prog X.w) X.A X.env X.xe)(hc:PT X c tc)(Z:PSs X i tb):PS X (.While c i [] pos) (KD tc tb):=by
 intro u s σ H D I h;obtain⟨W,⟨m0,w0⟩,j⟩:=h;refine wpAny_While (codeAny_whileLoop (λn Q=>∃σ' J,Inv X _ σ' J Q/\W n σ' J) ?_ m0 ⟨σ,H,I,w0⟩)
 rintro n U ⟨d,L,I1,w1⟩
 refine c8 hp (iU (hc _ U d L _ I1 (j n d L w1)) λb P ⟨y,B,k⟩=>?_);cases b with
 |true=>
  obtain⟨N,G,k⟩:=k;refine c8 hp (iU (Z _ P d y _ B k) λf s3 l=>?_);cases f with
  |next=>
   obtain⟨a,H3,p,r⟩:=l;obtain⟨o,q,w3⟩:=G a H3 r;exact⟨o,q,a,H3,p,w3⟩
  |cont=>
   obtain⟨a,H3,p,r⟩:=l;obtain⟨o,q,w3⟩:=G a H3 r;exact⟨o,q,a,H3,p,w3⟩
  |brk=>exact l
  |ret v=>exact l
 |false=>
  exact wpAny_execs_nil ⟨d,y,B,k⟩
end
structure It where
 go:Nat->Hp->Prop
 yld:Nat->Hp->V->Hp->Prop
 stop:Nat->Hp->Prop
def Wz (X:Cx)(a:List (Addr×Obj))(H:Hp)(b:Addr):Prop:=
 H b=none/\b≠X.env.locals/\b∉X.fs/\(b∈X.ex\/X.s₀.1.1.size<=b)/\(∀x c,X.env.cells.lookup x=some c->c≠b)/\∀p∈X.pn++a,p.1≠b
theorem Inv.fpOk {X:Cx}{a:List (Addr×Obj)}{i:St}{H f:Hp}{s:Shared}{b:Addr}(I:Inv X a i H s)(d:s.1.1.size<=b)(hn:f b=none):Wz X a f b:=by
 refine⟨hn,eX (aP I.lt d),I.nofs d,.inr (aG I.sz d),λx c e z=>?_,λp hp z=>?_⟩
 ·obtain⟨v,q⟩:=I.cell x c e;exact absurd (aP q.lt (by rw[z];exact d)) (bC _)
 ·exact absurd (aP (aC (I.pin p hp).1) (by rw[z];exact d)) (bC _)
structure yh (P:Program) (w:World) (K:ag) (tg:Expr) (J:It) (fp:List Addr) (it:Addr) (tn:Nat->Heap->Prop):Prop where
 mem:it∈fp
 obj:∀i h,tn i h->∀b∈fp,∃o,h.get? b=some o/\∀v,o.data≠.cell v
 keep:∀i h h',tn i h->(∀b∈fp,∀o,h.get? b=some o->h'.get? b=some o)->tn i h'
 item:∀(X:Cx),X.prog=P->X.w=w->X.K=K->X.calm=true->∀(i:Nat) (pins:List (Addr×Obj)) (s:Shared) (σ:St) (H:Hp) (E:Value->Shared->Prop),Inv X pins σ H s->(∀b∈fp,Wz X pins H b)->tn i s.heap->J.go i H->
  wpAny (model P w) X.A (pyNext (.ref it)) (λr s1=>∃u,r=some u/\
   wpAny (model P w) X.A (letOwnedTupleGo tg (.ref it) u) (λ_ s2=>∃x H',Inv X pins σ H' s2/\Zh x u/\J.yld i H x H'/\tn (i+1) s2.heap/\∀b∈fp,H' b=none) E s1) E s
 done:∀(X:Cx),X.prog=P->X.w=w->X.K=K->X.calm=true->∀(i:Nat) (pins:List (Addr×Obj)) (s:Shared) (σ:St) (H:Hp) (E:Value->Shared->Prop),Inv X pins σ H s->(∀b∈fp,Wz X pins H b)->tn i s.heap->J.stop i H->
  wpAny (model P w) X.A (pyNext (.ref it)) (λr s1=>r=none/\Inv X pins σ H s1) E s
 self:∀(A:Around) (i:Nat) (s:Shared) (Q:Value->Shared->Prop) (E:Value->Shared->Prop),tn i s.heap->Q (.ref it) s->wpAny (model P w) A (pyIter (.ref it)) Q E s
abbrev TI:=St->Hp->(It->Hp->Prop)->Prop
def Dh (X:Cx)(a:List (Addr×Obj))(l:St)(k:Expr)(R:It->Hp->Prop)(d:Value)(i:Shared):Prop:=
 ∃(it:Addr) (fp:List Addr) (j:Nat->Heap->Prop) (J:It) (f:Hp),d=.ref it/\Inv X a l f i/\yh X.prog X.w X.K k J fp it j/\j 0 i.heap/\(∀b∈fp,Wz X a f b)/\R J f
def PI (X:Cx)(i iter:Expr)(f:TI):Prop:=
 ∀(a:List (Addr×Obj)) (s:Shared) (d:St) (H:Hp) (R:It->Hp->Prop),Inv X a d H s->f d H R->
  wpAny (model X.prog X.w) X.A (eval iter X.env) (λv j=>wpAny (model X.prog X.w) X.A (pyIter v) (Dh X a d i R) X.xe j) X.xe s
theorem yi {M:Model}{A:Around}{E:Value->Shared->Prop}{s:Shared}{d:Expr}{it:Addr}{u:Value}{o:Obj}{n:String}{vs:Array Value}{Q:Unit->Shared->Prop}(f:s.heap.get? it=some o)(i:o.cls=.type n)(hd:o.data=.fields vs)
  (hn:["enumerate","zip","dict_itemiterator","dict_reverseitemiterator","odict_iterator","itertools.zip_longest","itertools.pairwise"].contains n=false) (a:Q () s):wpAny M A (letOwnedTupleGo d (.ref it) u) Q E s:=by
 cases d<;>first
  |exact aB a
  |(cases u<;>first
    |exact aB a
    |(refine aa (wpAny_load f ?_);rw[i,hd];show wpAny M A (if (["enumerate","zip","dict_itemiterator","dict_reverseitemiterator","odict_iterator","itertools.zip_longest","itertools.pairwise"].contains n&&vs[0]?==some _)=true then _ else _) Q E s;rw[if_neg (by intro h;rw[hn]at h;cases h)];exact aB a))
def Bq (K:ag)(a:Addr):It:=
 ⟨λi H=>∃xs x,SqL K H a xs/\xs[i]?=some x,λi H x d=>d=H/\∀xs,SqL K H a xs->xs[i]?=some x,λi H=>∃xs,SqL K H a xs/\xs.length<=i⟩
def AK (K:ag)(a:Addr):It:=
 ⟨λi H=>∃xs x,SqT K H a xs/\xs[i]?=some x,λi H x d=>d=H/\∀xs,SqT K H a xs->xs[i]?=some x,λi H=>∃xs,SqT K H a xs/\xs.length<=i⟩
noncomputable def pC (lo:Int)(n:Nat):It:=⟨λi _=>i<n,λi H x a=>a=H/\x=.int (lo+i),λi _=>n<=i⟩
theorem Y4 {P:Program}{w:World}{K:ag}{tg:Expr}(a it:Addr):yh P w K tg (Bq K a) [it] it (λi h=>h.IsListIter it a i) where
 mem:=by simp
 obj:=λi h st b j=>by
  have e:b=it:=by simpa using j
  subst e;obtain⟨o,e,c,d⟩:=st;exact⟨o,e,λv z=>by rw[d]at z;cases z⟩
 keep:=λi h h' st k=>st.at λo e=>k it (by simp) o e
 item:=by
  intro X Q G L hc i f s σ H E I r st J;subst Q G L;obtain⟨xs,x,q,hx⟩:=J;obtain⟨U,y,p,hz⟩:=I.list q;obtain⟨u,hu,ru⟩:=y.get hx;obtain⟨Z,f1,f2,N,B,f5⟩:=r it (by simp)
  refine wpAny_pyNext_list_item st p.isList (x:=u) (by simpa using hu) λh' l sb=>?_
  have I1:Inv X f σ H {s with heap:=h'}:=I.turned (t':=s.toks) (λb o j e=>(sb.2 b j).trans e) Z f1 N B f5;obtain⟨o,e,c,d⟩:=id l;exact⟨u,rfl,yi (s:={s with heap:=h'}) e c d (by decide) ⟨x,H,I1,ru,⟨rfl,λys hy=>by rw[I.list_inj hy q];exact hx⟩,l,λb j=>(r b j).1⟩⟩
 done:=by
  intro X Q G L hc i f s σ H E I r st J;subst Q G L;obtain⟨xs,q,hx⟩:=J;obtain⟨U,y,p,hz⟩:=I.list q;obtain⟨Z,f1,f2,N,B,f5⟩:=r it (by simp)
  have hl:=y.length;exact wpAny_pyNext_list_end (I.ok.hd hc) st p.isList (by simp;omega) λh' eb=>⟨rfl,I.turned (t':=s.toks) (λb o j e=>eb b o j e) Z f1 N B f5⟩
 self:=λ_ _ _ _ _ st h=>wpAny_pyIter_listiter st h
theorem yj {P:Program}{w:World}{K:ag}{tg:Expr}(a it:Addr):yh P w K tg (AK K a) [it] it (λi h=>h.IsTupleIter it a i) where
 mem:=by simp
 obj:=λi h st b j=>by
  have e:b=it:=by simpa using j
  subst e;obtain⟨o,e,c,d⟩:=st;exact⟨o,e,λv z=>by rw[d]at z;cases z⟩
 keep:=λi h h' st k=>st.at λo e=>k it (by simp) o e
 item:=by
  intro X U J N hc i f s σ H E I y st L;subst U J N;obtain⟨xs,x,r,hx⟩:=L;obtain⟨l,B,p,hz⟩:=I.tuple r;obtain⟨u,hu,ru⟩:=B.get hx;obtain⟨Z,f1,f2,Q,G,f5⟩:=y it (by simp)
  refine wpAny_pyNext_tuple_item st (show s.heap.IsTuple a l.toArray from p) (x:=u) (by simpa using hu) λh' q sb=>?_
  have I1:Inv X f σ H {s with heap:=h'}:=I.turned (t':=s.toks) (λb o j e=>(sb.2 b j).trans e) Z f1 Q G f5;obtain⟨o,e,c,d⟩:=id q;exact⟨u,rfl,yi (s:={s with heap:=h'}) e c d (by decide) ⟨x,H,I1,ru,⟨rfl,λys hy=>by rw[I.tuple_inj hy r];exact hx⟩,q,λb j=>(y b j).1⟩⟩
 done:=by
  intro X U J N hc i f s σ H E I y st L;subst U J N;obtain⟨xs,r,hx⟩:=L;obtain⟨l,B,p,hz⟩:=I.tuple r;obtain⟨Z,f1,f2,Q,G,f5⟩:=y it (by simp)
  have hl:=B.length;exact wpAny_pyNext_tuple_end (I.ok.hd hc) st (show s.heap.IsTuple a l.toArray from p) (by simp;omega) λh' eb=>⟨rfl,I.turned (t':=s.toks) (λb o j e=>eb b o j e) Z f1 Q G f5⟩
 self:=λ_ _ _ _ _ st h=>wpAny_pyIter_tupleiter st h
theorem yk {P:Program}{w:World}{K:ag}{tg:Expr}(it:Addr)(lo:Int)(n:Nat):yh P w K tg (pC lo n) [it] it (λi h=>IsRangeIter h it (lo+(i:Nat)*1) ((n:Int)-(i:Nat)) 1) where
 mem:=by simp
 obj:=λi h st b d=>by
  have e:b=it:=by simpa using d
  subst e;exact⟨_,st,λv z=>by
   have U:Data.fields _=Data.cell v:=z;cases U⟩
 keep:=λi h h' st k=>k it (by simp) _ st
 item:=by
  intro X y p r B i a s N H E I j st q;subst y p r;obtain⟨G,L,Q,u,l,J⟩:=j it (by simp)
  have W:=Walks.range (prog:=X.prog) (w:=X.w) (I.ok.hd B) it lo 1 n;refine W.item i s _ _ q st λv h' tk hv f kk=>?_;obtain⟨t,rfl⟩:=hv;have I1:Inv X a N H {s with heap:=h',toks:=tk}:=I.turned (λb o d e=>kk b o (by simpa using d) e) G L u l J
  refine⟨_,rfl,yi (s:={s with heap:=h',toks:=tk}) (n:="range_iterator") f rfl rfl (by decide) ⟨.int (lo+i),H,I1,⟨t,?_⟩,⟨rfl,rfl⟩,f,λb d=>(j b d).1⟩⟩
  rw[Int.mul_one]
 done:=by
  intro X y p r B i a s N H E I j st q;subst y p r;obtain⟨G,L,Q,u,l,J⟩:=j it (by simp)
  exact wpAny_pyNext_range_end (I.ok.hd B) st (by have:n<=i:=q;omega) λh' Z=>⟨rfl,I.turned (t':=s.toks) (λb o d e=>Z b o d e) G L u l J⟩
 self:=λ_ _ _ _ _ st h=>wpAny_pyIter_rangeiter st h
end L2
namespace L2
open PySem PySem.Spec PyProof.Rows
section
variable {X:Cx}{tg:Expr}
theorem Uf {a:List (Addr×Obj)}{d:St}{H:Hp}{s:Shared}{R:It->Hp->Prop}{E:Value->Shared->Prop}{lo hi:Int}{t u v:Tok}{tk:Nat}(I:Inv X a d H s)(r: -(2^62)<=lo)(p:lo<2^62)(y: -(2^62)<=hi)(j:hi<2^62)
  (q:R (pC lo (hi-lo).toNat) H):wpAny (model X.prog X.w) X.A (pyIter (.ref s.1.1.size)) (Dh X a d tg R) E {s with heap:=s.heap.push {cls:=.type "range",data:=.fields #[.int lo t,.int hi u,.int 1 v]},toks:=tk}:=by
 refine wpAny_pyIter_range (IsRange.new ..) (small_one r p y j) ?_;have f:Inv X _ d H {s with heap:=s.heap.push {cls:=.type "range",data:=.fields #[.int lo t,.int hi u,.int 1 v]},toks:=tk}:=I.kept λb o e=>ak _ e;refine⟨(s.heap.push _).objs.size,[(s.heap.push _).objs.size],_,_,H,rfl,
  f.kept λb o e=>ak _ e,yk _ lo _,?_,λb k=>?_,q⟩
 ·have i:lo+((0:Nat))*1=lo:=by simp
  have l:(((hi-lo).toNat):Int)-((0:Nat))=eM lo hi 1:=by rw[rangeSize_one];split<;>omega
  rw[i,l];exact aq _ rfl
 ·have e:b=(s.heap.push {cls:=.type "range",data:=.fields #[.int lo t,.int hi u,.int 1 v]}).objs.size:=by simpa using k
  subst e;exact f.fpOk (au _) (f.hok.fresh (au _))
def HU (a:TA):TI:=λf H R=>a f H λvs d=>∃j:Int,vs=[.int j]/\ -(2^62)<=j/\j<2^62/\R (pC 0 j.toNat) d
def F1 (d:TA):TI:=λf H R=>d f H λvs a=>∃i j:Int,vs=[.int i,.int j]/\(-(2^62)<=i/\i<2^62/\ -(2^62)<=j/\j<2^62)/\R (pC i (j-i).toNat) a
theorem Y5 {a:Expr}{i:TA}{p pos:Pos}(o:Gl X "range")(l:X.mg "range"=none)(J:PA X [a] i)(G:starEach [a] X.env=[(false,eval a X.env)]:=by rfl):PI X tg (.Call (.Name "range" p) [a] [] pos) (HU i):=by
 intro f s y H R I h;refine Call_ (j9 I o l boot_range (aV (iU (J pos _ s y H _ I h) λus N ⟨vs,L,B,k,d⟩=>?_) G rfl));obtain⟨j,e,d,u,q⟩:=d;subst e;cases k with
 |cons r v=>
  cases v;obtain⟨t,rfl⟩:=r;exact call_range_1 (Uf B (by omega) (by omega) d u (by simpa using q))
theorem Y6 {a b:Expr}{o:TA}{p pos:Pos}(y:Gl X "range")(L:X.mg "range"=none)(J:PA X [a,b] o)(U:starEach [a,b] X.env=[(false,eval a X.env),(false,eval b X.env)]:=by rfl)(d:starEach [b] X.env=[(false,eval b X.env)]:=by rfl):
  PI X tg (.Call (.Name "range" p) [a,b] [] pos) (F1 o):=by
 intro l s N H R I h;refine Call_ (j9 I y L boot_range (aV (iU (J pos _ s N H _ I h) λus Z ⟨vs,H1,P,v,k⟩=>?_) (by rw[U,d]) (by rw[d];rfl)))
 obtain⟨i,j,e,⟨k,B,Q,G⟩,q⟩:=k;subst e;cases v with
 |cons r f=>
  cases f with
  |cons u f=>
   cases f;obtain⟨t,rfl⟩:=r;obtain⟨t',rfl⟩:=u;exact call_range_2 (Uf P k B Q G q)
def A5 (l:TI)(g:TG)(tb:TS):TS:=λD a H=>l a H λJ k=>∃W:Nat->Nat->St->Hp->Prop,(∃m,W 0 m a k)/\∀i m a H,W i m a H->
 (J.stop i H/\D.nx a H)\/(J.go i H/\∃N:St->Hp->Prop,(∀σ' d,N σ' d->∃j,j<m/\W (i+1) j σ' d)/\∀x d,J.yld i H x d->g x a d λf o=>tb {D with nx:=N,ct:=N,bk:=D.nx} f o)
noncomputable def Ug (fp:List Addr)(h:Heap):List (Addr×Obj):=fp.filterMap λb=>(h.get? b).map λo=>(b,o)
theorem jt {fp:List Addr}{h:Heap}{b:Addr}{o:Obj}(a:b∈fp)(e:h.get? b=some o):(b,o)∈Ug fp h:=fO.mpr ⟨b,a,by rw[e];rfl⟩
theorem Y7 {fp:List Addr}{h:Heap}{p:Addr×Obj}(hp:p∈Ug fp h):p.1∈fp/\h.get? p.1=some p.2:=by
 obtain⟨b,a,e⟩:=fO.mp hp;cases q:h.get? b with
 |none=>rw[q]at e;cases e
 |some o=>
  rw[q]at e;have d:=aJ e;subst d;exact⟨a,q⟩
theorem Inv.pinned {a:List (Addr×Obj)}{i:St}{H:Hp}{s:Shared}{fp:List Addr}(I:Inv X a i H s)(u:∀b∈fp,Wz X a H b)(l:∀b∈fp,∃o,s.heap.get? b=some o/\∀v,o.data≠.cell v):Inv X (a++Ug fp s.heap) i H s:=
 I.pins_of λp hp=>(aT.mp hp).elim (λz=>I.pin p (b8 _ z)) λz=>by
  obtain⟨f,e⟩:=Y7 z;obtain⟨k,q,r,_⟩:=u p.1 f;obtain⟨o,j,d⟩:=l p.1 f;rw[e]at j;cases j;exact⟨e,k,q,r,d⟩
theorem Inv.unpinned {a pl:List (Addr×Obj)}{d:St}{H:Hp}{s:Shared}(I:Inv X (a++pl) d H s):Inv X a d H s:=I.pins_of λp hp=>I.pin p (b8 _ (bM _ hp))
theorem KF {iter:Expr}{B:List Stmt}{wi:TI}{g:TG}{tb:TS}{pos:Pos}(hp:PassesOwn (model X.prog X.w) X.A X.env X.xe)(hc:X.calm=true)(hi:PI X tg iter wi)(hg:PG X tg g)(l:PSs X B tb)
  (hs:∀x,foldedSetIterable iter X.env x=pure x:=by intro _;rfl):PS X (.For tg iter B [] pos) (A5 wi g tb):=by
 intro U s σ H D I h;refine wpAny_For (iU (hi _ s σ H _ I h) λv s1 h1=>iU h1 λitv s2 h2=>?_) hs;obtain⟨it,fp,tn,J,H2,e,I2,T,mz,f2,W,⟨m0,w0⟩,turn⟩:=h2;subst e;have j:∀{y:Hp},(∀b∈fp,y b=none)->∀b∈fp,Wz X _ y b:=λhn b l=>⟨hn b l,(f2 b l).2⟩;refine codeAny_forLoop_any (λn s'=>∃i σ' y,Inv X _ σ' y s'/\tn i s'.heap/\(∀b∈fp,y b=none)/\W i n σ' y) ?_ m0 ⟨0,σ,H2,I2,mz,λb l=>(f2 b l).1,w0⟩
 rintro n s3 ⟨i,k,H3,I3,P,fr3,w3⟩
 rcases turn i n k H3 w3 with ⟨Q,qn⟩|⟨go,N,hN,step⟩
 ·refine c8 hp (iU (T.done X rfl rfl rfl hc i _ s3 k H3 _ I3 (j fr3) P Q) λr s4 ⟨hr,I4⟩=>?_);subst hr;exact wpAny_execs_nil ⟨k,H3,I4,qn⟩
 ·refine c8 hp (iU (T.item X rfl rfl rfl hc i _ s3 k H3 _ I3 (j fr3) P go) λr s4 ⟨u,hr,h4⟩=>?_);subst hr;refine c8 hp (iU h4 λ_ s5 ⟨x,H5,I5,r5,y5,L,fr5⟩=>?_);have I5':=I5.pinned (j fr5) (T.obj _ _ L);refine c8 hp (iU (hg _ s5 k H5 x u _ I5' r5 (step x H5 y5)) λ_ s6 ⟨σ6,H6,I6,q6⟩=>?_);refine c8 hp (iU (l _ s6 σ6 H6 _ I6 q6) λf s7 G=>?_);have again:∀{a:St} {p:Hp},Inv X (U++Ug fp _) a p s7->N a p->∃m,m<n/\∃i σ' y,Inv X _ σ' y s7/\tn i _/\(∀b∈fp,y b=none)/\W i m σ' y:=λ{a p} q Z=>by
   obtain⟨m',hm,w7⟩:=hN a p Z;refine⟨m',hm,i+1,a,p,q.unpinned,T.keep _ _ _ L λb l o e=>(q.pin _ (b8 _ (b8 _ (jt l e)))).1,λb l=>?_,w7⟩;obtain⟨o,e,d⟩:=T.obj _ _ L b l;exact(q.pin _ (b8 _ (b8 _ (jt l e)))).2.1
  cases f with
  |next=>obtain⟨a,p,q,Z⟩:=G;exact again q Z
  |cont=>obtain⟨a,p,q,Z⟩:=G;exact again q Z
  |brk=>obtain⟨a,p,q,G⟩:=G;exact⟨a,p,q.unpinned,G⟩
  |ret v=>obtain⟨x7,a,p,q,r7,G⟩:=G;exact⟨x7,a,p,q.unpinned,r7,G⟩
end
end L2
namespace L2
open PySem PySem.Spec PyProof.Rows
abbrev R2:=V->V->Hp->VK->Prop
def lc (X:Cx)(f:Value->Value->Sem Value)(r:R2):Prop:=
 ∀(a:List (Addr×Obj)) (s:Shared) (d:St) (H:Hp) (x y:V) (v u:Value) (Q:VK),Inv X a d H s->Zh x v->Zh y u->r x y H Q->
  wpAny (model X.prog X.w) X.A (f v u) (EP X a d Q) X.xe s
def BP (X:Cx)(f:Value->Sem Value)(r:V->Hp->VK->Prop):Prop:=
 ∀(a:List (Addr×Obj)) (s:Shared) (d:St) (H:Hp) (x:V) (v:Value) (Q:VK),Inv X a d H s->Zh x v->r x H Q->
  wpAny (model X.prog X.w) X.A (f v) (EP X a d Q) X.xe s
def ZB (X:Cx)(f:Value)(r:List V->Hp->VK->Prop):Prop:=
 ∀(a:List (Addr×Obj)) (s:Shared) (d:St) (H:Hp) (xs:List V) (us:List Value) (Q:VK),Inv X a d H s->Z0 xs us->r xs H Q->
  wpAny (model X.prog X.w) X.A (call f us) (EP X a d Q) X.xe s
def Av (X:Cx)(r:V->Hp->(Bool->Hp->Prop)->Prop):Prop:=
 ∀(a:List _) (s:Shared) (d:St) (H:Hp) (x:V) (v:Value) (Q:Bool->Hp->Prop),Inv X a d H s->Zh x v->r x H Q->
  wpAny (model X.prog X.w) X.A (truthy v) (TP X a d Q) X.xe s
def si (r:R2)(i tb:TE):TE:=λa H Q=>i a H λx d=>tb a d λy f=>r x y f Q
def Hj (r:V->Hp->VK->Prop)(a:TE):TE:=λf H Q=>a f H λx d=>r x d Q
def rI (C:Int->Int->Prop)(g:Int->Int->V):R2:=λx y H Q=>∃i j,x=.int i/\y=.int j/\C i j/\Q (g i j) H
def nr (g:Int->Int->V):R2:=λx y H Q=>∃i j,x=.int i/\y=.int j/\Q (g i j) H
def rU (g:Int->V):V->Hp->VK->Prop:=λx H Q=>∃i,x=.int i/\Q (g i) H
section
variable {X:Cx}{a b c:Expr}{ta tb tc:TE}{pos:Pos}
theorem BN (Z:PE X a ta)(B:PE X b tb){d:List (Addr×Obj)}{s:Shared}{i:St}{H:Hp}{R:V->V->Hp->Prop}(I:Inv X d i H s)
  (h:ta i H λx p=>tb i p λy j=>R x y j) {Q:Value->Shared->Prop} {f:Value->Value->Sem Value}
  (N:∀v u o x y j,Inv X d i j o->Zh x v->Zh y u->R x y j->wpAny (model X.prog X.w) X.A (f v u) Q X.xe o):
  wpAny (model X.prog X.w) X.A (eval a X.env) (λv k=>wpAny (model X.prog X.w) X.A (eval b X.env) (λu l=>wpAny (model X.prog X.w) X.A (f v u) Q X.xe l) X.xe k) X.xe s:=by
 refine iU (Z _ s i H _ I h) λv r ⟨x,p,P,q,U⟩=>?_;refine iU (B _ r i p _ P U) λu o ⟨y,j,L,J,G⟩=>?_;exact N v u o x y j L q J G
theorem FV {d:Operator}{r:R2}(j:lc X (binaryOp d) r)(J:PE X a ta)(l:PE X b tb):PE X (.BinOp a d b pos) (si r ta tb):=by
 intro f s o H Q I h;exact wpAny_BinOp (BN J l I h λv u k x y B G p i q=>j _ k o B x y v u Q G p i q)
theorem HE {f:UnaryOp}{r:V->Hp->VK->Prop}(k:BP X (unaryOp f) r)(u:PE X a ta):PE X (.UnaryOp f a pos) (Hj r ta):=by
 intro i s d H Q I h;exact UnaryOp_ (iU (u _ s d H _ I h) λv o ⟨x,l,q,j,p⟩=>k _ o d l x v Q q j p)
theorem Cn {f:Value->Value->Sem Value}{C:Int->Int->Prop}{g:Int->Int->Int}
  (rule:∀(i j:Int) (t u:Tok) (s:Shared) (Q:Value->Shared->Prop) (E:Value->Shared->Prop),C i j->Q (.int (g i j) s.toks) {s with toks:=s.toks+1}->wpAny (model X.prog X.w) X.A (f (.int i t) (.int j u)) Q E s):
  lc X f (rI C λi j=>.int (g i j)):=by
 intro d s p H x y v u Q I l k h;obtain⟨i,j,rfl,rfl,o,q⟩:=h;obtain⟨t,rfl⟩:=l;obtain⟨t',rfl⟩:=k;exact rule i j t t' s _ _ o ⟨.int _,H,I.tok _,⟨_,rfl⟩,q⟩
theorem pA {f:Value->Value->Sem Value}{g:Int->Int->Int}
  (rule:∀(i j:Int) (t u:Tok) (s:Shared) (Q:Value->Shared->Prop) (E:Value->Shared->Prop),Q (.int (g i j) s.toks) {s with toks:=s.toks+1}->wpAny (model X.prog X.w) X.A (f (.int i t) (.int j u)) Q E s):
  lc X f (nr λi j=>.int (g i j)):=by
 intro d s o H x y v u Q I l k h;obtain⟨i,j,rfl,rfl,q⟩:=h;obtain⟨t,rfl⟩:=l;obtain⟨t',rfl⟩:=k;exact rule i j t t' s _ _ ⟨.int _,H,I.tok _,⟨_,rfl⟩,q⟩
theorem tp {f:Value->Value->Sem Value}{g:Int->Int->Bool}
  (rule:∀(i j:Int) (t u:Tok) (s:Shared) (Q:Value->Shared->Prop) (E:Value->Shared->Prop),Q (.bool (g i j)) s->wpAny (model X.prog X.w) X.A (f (.int i t) (.int j u)) Q E s):
  lc X f (nr λi j=>.bl (g i j)):=by
 intro d s o H x y v u Q I l k h;obtain⟨i,j,rfl,rfl,q⟩:=h;obtain⟨t,rfl⟩:=l;obtain⟨t',rfl⟩:=k;exact rule i j t t' s _ _ ⟨.bl _,H,I,rfl,q⟩
noncomputable def Cv (i j:Int):Prop:=0<j/\j<1073741824
noncomputable def uG (i j:Int):Prop:=(-(2^64)<i/\i<2^64)\/(-(2^64)<j/\j<2^64)
theorem uG.ok {i j:Int}(h:uG i j):IntMulOk i j:=by
 rcases h with ⟨d,f⟩|⟨d,f⟩
 ·exact .of_left (intBits_le_64 d f)
 ·exact .of_right (intBits_le_64 d f)
theorem KG:lc X (binaryOp .Add) (nr λi j=>.int (i+j)):=pA λ_ _ _ _ _ _ _ q=>add_int q
theorem KH:lc X (binaryOp .Sub) (nr λi j=>.int (i-j)):=pA λ_ _ _ _ _ _ _ q=>sub_int q
theorem KI:lc X (binaryOp .Mult) (rI uG λi j=>.int (i*j)):=Cn λ_ _ _ _ _ _ _ d q=>mul_int q d.ok
theorem xI:lc X (binaryOp .FloorDiv) (rI Cv λi j=>.int (i/j)):=Cn λi j _ _ _ _ _ d q=>by
 have k:=d.1;have f:=d.2;exact floordiv_int (by omega) (by rw[Int.fdiv_eq_ediv_of_nonneg i (by omega)];exact q) (.inl (PyProof.noPylong_small (by omega)))
theorem KJ:lc X (binaryOp .Mod) (rI (λ_ j=>0<j) λi j=>.int (i%j)):=Cn λi j _ _ _ _ _ d q=>by
 exact mod_int' (by omega) (by rw[Int.fmod_eq_emod_of_nonneg i (by omega)];exact q)
theorem Fy {f:Value->Sem Value}{g:Int->Int}
  (rule:∀(i:Int) (t:Tok) (s:Shared) (Q:Value->Shared->Prop) (E:Value->Shared->Prop),Q (.int (g i) s.toks) {s with toks:=s.toks+1}->wpAny (model X.prog X.w) X.A (f (.int i t)) Q E s):
  BP X f (rU λi=>.int (g i)):=by
 intro d s k H x v Q I j h;obtain⟨i,rfl,q⟩:=h;obtain⟨t,rfl⟩:=j;exact rule i t s _ _ ⟨.int _,H,I.tok _,⟨_,rfl⟩,q⟩
theorem KK:BP X (unaryOp .USub) (rU λi=>.int (-i)):=Fy λ_ _ _ _ _ q=>neg_int q
theorem Y8:lc X (binaryOp .Add) (λx y H Q=>∃i k,x=.int i/\y=.bl k/\Q (.int (i+b2i k)) H):=by
 intro d s l H x y v u Q I j f h;obtain⟨i,k,rfl,rfl,q⟩:=h;obtain⟨t,rfl⟩:=j;cases f;exact add_int_bool ⟨.int _,H,I.tok _,⟨_,rfl⟩,q⟩
end
section
variable {X:Cx}{a b c:Expr}{ta tb tc:TE}{pos:Pos}
theorem FY:lc X (compareOp .Lt) (nr λi j=>.bl (decide (i<j))):=tp λ_ _ _ _ _ _ _ q=>lt_int q
theorem Eo:lc X (compareOp .LtE) (nr λi j=>.bl (decide (i<=j))):=tp λ_ _ _ _ _ _ _ q=>le_int q
theorem FJ:lc X (compareOp .Gt) (nr λi j=>.bl (decide (j<i))):=tp λ_ _ _ _ _ _ _ q=>gt_int q
theorem EF:lc X (compareOp .GtE) (nr λi j=>.bl (decide (j<=i))):=tp λ_ _ _ _ _ _ _ q=>ge_int q
theorem jB (b:Expr){d:CmpOp}(h:d≠.In:=by decide)(j:d≠.NotIn:=by decide):behindInMarks d b=false:=by
 have i:(d==CmpOp.In)=false:=by cases d<;>first|rfl|exact absurd rfl h
 have f:(d==CmpOp.NotIn)=false:=by cases d<;>first|rfl|exact absurd rfl j
 cases b<;>simp[behindInMarks,i,f]
theorem xJ {d:CmpOp}{r:R2}(j:lc X (compareOp d) r)(L:PE X a ta)(o:PE X b tb)(l:behindInMarks d b=false):PE X (.Compare a [d] [b] pos) (si r ta tb):=by
 intro f s p H Q I h;exact wpAny_Compare1 (BN L o I h λv u k x y G J B i q=>j _ k p G x y v u Q J B i q) l
def KL (t:TE):TT:=λd H Q=>t d H λx f=>∃k,x=.bl k/\Q k f
theorem Y9 {f:CmpOp}{r:R2}(l:lc X (compareOp f) r)(N:PE X a ta)(q:PE X b tb)(Z:behindInMarks f b=false):PT X (.Compare a [f] [b] pos) (KL (si r ta tb)):=by
 intro i s d H Q I h;refine wpAny_isTrue_Compare1 (iU (N _ s d H _ I h) λv p ⟨x,U,I1,j,L⟩=>iU (q _ p d U _ I1 L) λu o ⟨y,G,J,r2,B⟩=>
  iU (l _ o d G x y v u _ J j r2 B) λc s3 ⟨z,H3,P,r3,k,e,q3⟩=>?_) Z
 subst e;cases r3;exact ba ⟨H3,P,q3⟩
def VC (r f:R2)(ta tb tc:TE):TE:=λd H Q=>ta d H λx i=>tb d i λy o=>r x y o λz H3=>∃k,z=.bl k/\
 (if k=true then tc d H3 λj l=>f y j l Q else Q (.bl false) H3)
theorem va {j f:CmpOp}{r o:R2}(L:lc X (compareOp j) r)(l:lc X (compareOp f) o)(ha:PE X a ta)(U:PE X b tb)(hc:PE X c tc)
  (hm:lastMarks [j,f] [b,c]=false:=by with_unfolding_all rfl):PE X (.Compare a [j,f] [b,c] pos) (VC r o ta tb tc):=by
 intro p s i H Q I h;refine Compare_chain (iU (ha _ s i H _ I h) λv P ⟨x,H1,I1,J,q1⟩=>chain_link (iU (U _ P i H1 _ I1 q1) λu N ⟨y,H2,I2,B,Z⟩=>
  iU (L _ N i H2 x y v u _ I2 J B Z) λd s3 ⟨z,H3,q,r3,k,e,G⟩=>?_)) hm
 subst e;cases r3;refine ba ?_;cases k with
 |false=>exact ite_ff ⟨.bl _,H3,q,rfl,G⟩
 |true=>exact ite_tt (chain_last (iU (hc _ s3 i H3 _ q G) λw' s4 ⟨z',H4,I4,r4,q4⟩=>l _ s4 i H4 y z' u w' Q I4 B r4 q4))
theorem vb {j f:CmpOp}{r o:R2}(N:lc X (compareOp j) r)(l:lc X (compareOp f) o)(ha:PE X a ta)(Z:PE X b tb)(hc:PE X c tc)
  (hm:lastMarks [j,f] [b,c]=false:=by with_unfolding_all rfl):PT X (.Compare a [j,f] [b,c] pos) (KL (VC r o ta tb tc)):=by
 intro p s i H Q I h;refine isTrue_chain (iU (ha _ s i H _ I h) λv U ⟨x,H1,I1,L,q1⟩=>test_link (iU (Z _ U i H1 _ I1 q1) λu P ⟨y,H2,I2,B,q2⟩=>
  iU (N _ P i H2 x y v u _ I2 L B q2) λd s3 ⟨z,H3,q,r3,k,e,G⟩=>?_)) hm
 subst e;cases r3;refine ba ?_;cases k with
 |false=>
  obtain⟨k',e',q'⟩:=G;cases e';exact ite_ff ⟨H3,q,q'⟩
 |true=>
  refine ite_tt (test_last (iU (hc _ s3 i H3 _ q G) λw' s4 ⟨z',H4,I4,r4,q4⟩=>iU (l _ s4 i H4 y z' u w' _ I4 B r4 q4) λd' s5 ⟨z2,H5,J,r5,k2,e2,q5⟩=>?_));subst e2;cases r5;exact ba ⟨H5,J,q5⟩
def pL (K:ag)(x:V)(H:Hp)(k:Bool):Prop:=
 match x with
 |.non=>k=false
 |.bl b=>k=b
 |.int i=>k=(i !=0)
 |.str y=>y.length<=sizeLine/\k=((y.length:Int) !=0)
 |.byt y=>y.size<=sizeLine/\k=((y.size:Int) !=0)
 |.ref p=>(∃xs,SqL K H p xs/\k= !xs.isEmpty)\/(∃xs,SqT K H p xs/\k= !xs.isEmpty)\/∃d,H p=some (.dK d)/\k= !d.isEmpty
 |_=>False
theorem yl {f:Type}{d:List (f×V)}{vs:List (f×Value)}(r:KV d vs):(!vs.isEmpty)= !d.isEmpty:=by
 cases r<;>rfl
theorem wv {xs:List V}{d:List Value}(r:Z0 xs d):(!d.toArray.isEmpty)= !xs.isEmpty:=by
 cases r<;>simp
theorem WI:(sizeLine:Nat)<2^63:=by decide
theorem KM:Av X (λx H Q=>∃k,pL X.K x H k/\Q k H):=by
 intro B s L H x v Q I j h;obtain⟨k,e,q⟩:=h;have N:=bz;cases x with
 |non=>
  cases j;have d:k=false:=e;subst d;exact truthy_none ⟨H,I,q⟩
 |bl b=>
  cases j;have d:k=b:=e;subst d;exact ba ⟨H,I,q⟩
 |int i=>
  obtain⟨t,rfl⟩:=j;have d:k=(i !=0):=e;subst d;exact PySem.P.truthy_int ⟨H,I,q⟩
 |str y=>
  obtain⟨t,rfl⟩:=j;obtain⟨hy,d⟩:y.length<=sizeLine/\k=((y.length:Int) !=0):=e;subst d;exact PySem.P.truthy_str (by omega) ⟨H,I.tok _,q⟩
 |byt y=>
  obtain⟨t,rfl⟩:=j;obtain⟨hy,d⟩:y.size<=sizeLine/\k=((y.size:Int) !=0):=e;subst d;exact PySem.W.truthy_bytes (by omega) ⟨H,I.tok _,q⟩
 |ref p=>
  cases j;have d:=e;rcases d with ⟨xs,o,d⟩|⟨xs,o,d⟩|⟨l,o,d⟩
  ·subst d;obtain⟨u,r,pl,G⟩:=I.list o;have f:=r.length;exact wpAny_truthy_list pl.isList (by simp only[aE];omega) ⟨H,I.tok _,by rw[wv r];exact q⟩
  ·subst d;obtain⟨u,r,pl,G⟩:=I.tuple o;have f:=r.length;exact truthy_tuple pl (by simp only[aE];omega) ⟨H,I.tok _,by rw[wv r];exact q⟩
  ·subst d;obtain⟨G,J,vs,r,m⟩:l.length<=sizeLine/\(p==sysModules)=false/\∃vs,KV l vs/\s.heap.DictOf _ p vs:=I.hok p _ o;have f:=Paired.length r;exact wpAny_truthy_dict J m (by omega) ⟨H,I.tok _,by rw[yl r];exact q⟩
 |_=>exact(e).elim
theorem vc (y:PE X a ta)(p:∀d,isTrue a X.env d=(do let v ←d;standAt a.pos;holding [v] (truthy v))):
  PT X a (λf H Q=>ta f H λx j=>∃k,pL X.K x j k/\Q k j):=by
 intro i s f H Q I h;exact isTrue_plain (iU (y _ s f H _ I h) λv q ⟨x,o,r,l,u⟩=>KM _ q f o x v Q r l u) (p _)
theorem ym:lc X (binaryOp .Add) (λx y H Q=>∃i j,x=.str i/\y=.str j/\i.length+j.length<=sizeLine/\Q (.str (i++j)) H):=by
 intro d s o H x y v u Q I k f h;obtain⟨i,j,rfl,rfl,l,q⟩:=h;obtain⟨t,rfl⟩:=k;obtain⟨t',rfl⟩:=f;exact add_str (λt' tk=>⟨.str _,H,I.tok _,⟨_,rfl⟩,q⟩) l
theorem Zx {x:V}{us:List Value}(r:Z0 [x] us):∃u,us=[u]/\Zh x u:=by
 cases r with
 |cons d f=>cases f;exact⟨_,rfl,d⟩
theorem Ya {x y:V}{us:List Value}(r:Z0 [x,y] us):∃u d,us=[u,d]/\Zh x u/\Zh y d:=by
 cases r with
 |cons f i=>
  cases i with
  |cons k j=>cases j;exact⟨_,_,rfl,f,k⟩
theorem Yb (l:X.calm=true):ZB X (.builtin "min") (λxs H Q=>∃i j,xs=[.int i,.int j]/\Q (.int (if j<i then j else i)) H):=by
 intro f s p H xs us Q I r h;obtain⟨i,j,rfl,q⟩:=h;obtain⟨u,o,rfl,⟨t,rfl⟩,⟨t',rfl⟩⟩:=Ya r;refine min_two_ints (I.ok.hd l) λh' tk k=>⟨_,H,I.kept k,?_,q⟩
 by_cases d:j<i
 ·rw[if_pos d,if_pos d];exact⟨_,rfl⟩
 ·rw[if_neg d,if_neg d];exact⟨_,rfl⟩
theorem Yc:ZB X (.type "int") (λxs H Q=>(∃i,xs=[.int i]/\Q (.int i) H)\/∃k,xs=[.bl k]/\Q (.int (if k then 1 else 0)) H):=by
 intro d s j H xs us Q I r h;rcases h with ⟨i,rfl,q⟩|⟨k,rfl,q⟩
 ·obtain⟨u,rfl,t,rfl⟩:=Zx r;exact call_int_int ⟨.int i,H,I,⟨_,rfl⟩,q⟩
 ·obtain⟨u,rfl,f⟩:=Zx r;cases f;exact call_int_bool ⟨.int _,H,I.tok _,⟨_,rfl⟩,q⟩
end
end L2
namespace L2
open PySem PySem.Spec PyProof.Rows
structure xK (h:Heap) (x dx C:Addr) (mA:Str->Option Value):Prop where
 obj:h.get? x=some (cN C dx)
 ns:h.Ns1 dx mA
 ne:dx≠x
theorem Yd {h:Heap}{f:Addr}{j:Str->Option Value}(n:h.Ns1 f j):∃i,h.get? f=some i/\∀name,dR name i=some (j name):=by
 obtain⟨o,k,v,l,hd,u,_,r⟩:=n;refine⟨o,l,λname=>?_⟩;have e:=r name;unfold nsFind findBy at e;rw[←Array.find?_toList]at e;unfold dR;rw[hd];dsimp only;split
 ·rename_i y q;rw[q]at e;exact congrArg _ e
 ·rename_i q;rw[q]at e;have a:k.toList.any (·.refKey)=false:=by
   rw[fV];intro y hy;obtain⟨z,t,d⟩:=u y (Array.mem_toList_iff.mp hy);simp[DictEntry.refKey,d]
  have p:¬k.toList.any (·.refKey)=true:=by rw[a];exact ay
  rw[if_neg p];exact congrArg _ e
theorem xK.look {h:Heap}{x d C:Addr}{f:Str->Option Value}(I:xK h x d C f):∃a,PySem.W.InstAt h x (cN C d) C (some a)/\∀name,dR name a=some (f name):=
 let ⟨a,ho,hl⟩:=Yd I.ns
 ⟨a,⟨I.obj,rfl,rfl,ho⟩,hl⟩
section
variable {prog:Program}{w:World}{A:Around}{E:Value->Shared->Prop}{s:Shared}{K:ag}{x dx C f:Addr}{mA:Str->Option Value}{name:Str}{v:Value}
theorem xL {a:Bool}{Q:Value->Shared->Prop}(X:K.In s.heap)(I:xK s.heap x dx C mA)(l:dD K C name=true)(k:eA K C=true)
  (o:bp K (.ref C) name=some none) (i:mA name=some v) (d:ia v=true) (h:Q v {s with toks:=s.toks+1}):
  wpAny (model prog w) A (getAttr (.ref x) name a) Q E s:=by
 obtain⟨p,J,j⟩:=I.look;exact PySem.W.get_value X J (dL l).1 (PySem.W.findObj_own k o rfl (by rw[j,i])) d h
theorem vd {pl:Sem Bool}{Q:Value×List Value->Shared->Prop}(X:K.In s.heap)(I:xK s.heap x dx C mA)(a:dD K C name=true)
  (k:bp K (.ref C) name=some (some (.ref f))) (i:eY K (.ref f)=true) (d:mA name=none) (h:Q (.ref f,[.ref x]) s):
  wpAny (model prog w) A (getMethod (.ref x) name pl) Q E s:=by
 obtain⟨j,J,l⟩:=I.look;exact PySem.W.method_fn X J (dL a).1 (dL a).2 k (beq_iff_eq.mp i) (by show (dR _ j).map _=some _;rw[l,d];rfl) h
theorem xM {ns:List Str}{Q:Unit->Shared->Prop}(X:K.In s.heap)(I:xK s.heap x dx C mA)
  (G:bp K (.ref C) "__setattr__"=some (some (.builtin "object.__setattr__"))) (hp:fW K C=true) (p:fg K C name=some none) (u:eA K C=true)
  (r:eV mA ns) (hsz:ns.length<=sizeLine)
  (h:∀h',xK h' x dx C (λy=>if y=name then some v else mA y)->c9 dx s.heap h'->Q () {s with heap:=h',toks:=s.toks+2}):
  wpAny (model prog w) A (setAttr (.ref x) name v) Q E s:=by
 obtain⟨N,J,P⟩:=I.look;refine PySem.W.set_plain X J G (PySem.W.osa_open X J hp p λb=>?_);obtain⟨U,L,i⟩:=PySem.W.any_some u;have q:=I.obj;refine aa (aB (aa (aa (wpAny_loadPart q (aa (PySem.W.Looks.here (PySem.W.looks_clsIn X L) ?_))))));rw[i];refine aB (aa (aB (aa ?_)));refine wpAny_nsSet1 I.ns λh' d a=>?_;obtain⟨Z,o,B,l,j,k⟩:=d.count (eV.cons _ v r);refine aa (wpAny_lookBehind l (by rw[j];exact pastItsLine_dict (aG k (by rw[ac];omega))) ?_)
 exact aB (h _ ⟨(a.2 _ (bx I.ne)).trans I.obj,d,I.ne⟩ a)
theorem ve {R:Result->Shared->Prop}{vs:List Value}{kw:List (Str×Value)}(X:K.In s.heap)(a:iB K C=true)
  (hi:bp K (.ref C) "__init__"=some (some (.ref f))) (d:PySem.W.typeIn K (.ref f)=some (.type "function"))
  (h:codeAny (model prog w) (A.under (.builtin "type.__call__" ⟨.ref C::vs,kw⟩)) (.call (.ref f) ⟨.ref (s.1.1.size+1)::vs,kw⟩) (PySem.W.InitBack (s.1.1.size+1) R)
   {s with heap:=(s.heap.push cS).push (cN C s.1.1.size)}):
  codeAny (model prog w) A (.call (.ref C) ⟨vs,kw⟩) R s:=by
 exact PySem.W.make_core (PySem.W.makes_of X a) (PySem.W.looks_findIn X hi) (λself=>PySem.W.bind_fn X _ d) (.inl rfl) h
end
noncomputable def putF (f:Str)(v:V):List (Str×V)->List (Str×V)
 |[]=>[(f,v)]
 |(g,x)::r=>if g=f then (g,v)::r else (g,x)::putF f v r
theorem lookup_putF (f g:Str)(v:V):∀fs:List (Str×V),(putF f v fs).lookup g=if g=f then some v else fs.lookup g
 |[]=>by
  show dj g [(f,v)]=_
  by_cases h:g=f
  ·have a:=beq_iff_eq.mpr h;simp only[dj,a,if_pos h]
  ·have a:=beq_eq_false_iff_ne.mpr h;simp only[dj,a,if_neg h]
 |(k,x)::r=>by
  have i:=lookup_putF f g v r;rw[show putF f v _=(if k=f then (k,v)::r else (k,x)::putF f v r) from rfl]
  by_cases d:k=f
  ·rw[if_pos d]
   by_cases h:g=k
   ·have a:=beq_iff_eq.mpr h;simp only[dj,a,if_pos (h.trans d)]
   ·have a:=beq_eq_false_iff_ne.mpr h;simp only[dj,a,if_neg (λe:g=f=>h (e.trans d.symm))]
  ·rw[if_neg d]
   by_cases h:g=k
   ·have a:=beq_iff_eq.mpr h;simp only[dj,a,if_neg (λe=>d (h.symm.trans e))]
   ·have a:=beq_eq_false_iff_ne.mpr h;simp only[dj,a];exact i
theorem JD (f:Str)(v:V):∀fs:List (Str×V),f∈(putF f v fs).map (·.1)/\∀g,g∈fs.map (·.1)->g∈(putF f v fs).map (·.1)
 |[]=>⟨by simp[putF],λg h=>by simp at h⟩
 |(k,x)::r=>by
  obtain⟨i,d⟩:=JD f v r;rw[show putF f v _=(if k=f then (k,v)::r else (k,x)::putF f v r) from rfl]
  by_cases a:k=f
  ·subst a;exact⟨by simp,λg h=>by simpa using h⟩
  ·rw[if_neg a];refine⟨?_,λg h=>?_⟩
   ·exact ai _ i
   ·rcases am.mp h with e|e
    ·exact am.mpr (.inl e)
    ·exact ai _ (d g e)
theorem JE (f:Str)(v:V):∀fs:List (Str×V),(putF f v fs).length<=fs.length+1
 |[]=>by simp[putF]
 |(k,x)::r=>by
  have d:=JE f v r;rw[show putF f v _=(if k=f then (k,v)::r else (k,x)::putF f v r) from rfl]
  by_cases a:k=f
  ·rw[if_pos a,ac,ac];omega
  ·rw[if_neg a,ac,ac];omega
theorem v7.some_of {v:V}{o:Option Value}(r:v7 (some v) o):∃u,o=some u/\Zh v u:=by
 cases o with
 |none=>exact(r).elim
 |some u=>exact⟨u,rfl,r⟩
theorem v7.none_of {o:Option Value}(r:v7 none o):o=none:=by
 cases o with
 |none=>rfl
 |some u=>exact(r).elim
theorem Ye {v:V}{u:Value}(r:Zh v u):ia u=true:=by
 cases v with
 |non=>cases (r);rfl
 |bl b=>cases (r);rfl
 |int i=>obtain⟨t,e⟩:=(r);cases e;rfl
 |str x=>obtain⟨t,e⟩:=(r);cases e;rfl
 |byt b=>obtain⟨t,e⟩:=(r);cases e;rfl
 |flt b=>obtain⟨t,e⟩:=(r);cases e;rfl
 |ref a=>cases (r);rfl
 |ty n=>cases (r);rfl
section
variable {P:Program}{w:World}{H H':Hp}{h h':Heap}{a C dx:Addr}{fs fs':List (Str×V)}
theorem wP (j:HOk P w H h)(e:H a=some (.ins C dx fs)):∃i,xK h a dx C i/\(∀f,v7 (fs.lookup f) (i f))/\eV i (fs.map (·.1))/\fs.length<=1000/\H dx=some (.own a):=by
 obtain⟨d,z,k,ob,i,n,r,q⟩:=(show Zw P w H h a _ from j a _ e);exact⟨i,⟨ob,n,k⟩,r,q,z,d⟩
end
structure Cls (K:ag) (C:Addr):Prop where
 pg:dD K C cY=true
 hd:eA K C=true
 po:fW K C=true
 sa:bp K (.ref C) "__setattr__"=some (some (.builtin "object.__setattr__"))
theorem Cls.get {K:ag}{C:Addr}(c:Cls K C)(f:Str):dD K C f=true:=c.pg
noncomputable def NoAttr (K:ag)(C:Addr)(f:Str):Prop:=bp K (.ref C) f=some none
theorem NoAttr.taker {K:ag}{C:Addr}{f:Str}(n:NoAttr K C f):fg K C f=some none:=by
 unfold fg;rw[show bp K _ f=some _ from n];rfl
structure Meth (K:ag) (C:Addr) (m:Str) (f:Addr):Prop where
 at_:bp K (.ref C) m=some (some (.ref f))
 fn:eY K (.ref f)=true
 kp:bE K (.ref f)=true
section
variable {X:Cx}{pins:List (Addr×Obj)}{σ:St}{H:Hp}{s:Shared}{a C dx:Addr}{fs:List (Str×V)}{f:Str}{v:V}{A:Around}{E:Value->Shared->Prop}
theorem yn {b:Bool}{Q:Value->Shared->Prop}(I:Inv X pins σ H s)(e:H a=some (.ins C dx fs))(c:Cls X.K C)(n:NoAttr X.K C f)(l:fs.lookup f=some v)
  (h:∀u i,Inv X pins σ H i->Zh v u->Q u i):wpAny (model X.prog X.w) A (getAttr (.ref a) f b) Q E s:=by
 obtain⟨k,O,r,_,_,_⟩:=wP I.hok e;obtain⟨u,j,d⟩:=v7.some_of (by rw[←l];exact r f)
 exact xL I.kIn O (c.get f) c.hd n j (Ye d) (h u _ (I.tok _) d)
theorem J0 {m:Str}{g:Addr}{pl:Sem Bool}{Q:Value×List Value->Shared->Prop}(I:Inv X pins σ H s)(e:H a=some (.ins C dx fs))(c:Cls X.K C)(k:Meth X.K C m g)(l:fs.lookup m=none)
  (h:Q (.ref g,[.ref a]) s):wpAny (model X.prog X.w) A (getMethod (.ref a) m pl) Q E s:=by
 obtain⟨d,O,r,_,_,_⟩:=wP I.hok e;have hn:=v7.none_of (by rw[←l];exact r m)
 exact vd I.kIn O (c.get m) k.at_ k.fn hn h
theorem yo {y:V}{u:Value}{Q:Unit->Shared->Prop}(I:Inv X pins σ H s)(e:H a=some (.ins C dx fs))(c:Cls X.K C)(n:NoAttr X.K C f)(N:fs.length<1000)(l:Zh y u)
  (h:∀k,Inv X pins σ (iV H a (.ins C dx (putF f y fs))) k->Q () k):wpAny (model X.prog X.w) A (setAttr (.ref a) f u) Q E s:=by
 obtain⟨B,O,r,j,_,i⟩:=wP I.hok e;have L:(fs.map (·.1)).length<=sizeLine:=by rw[ah,bz];omega
 refine xM I.kIn O c.sa c.po n.taker c.hd j L λh' d p=>h _ ?_;have hd:∃o,h'.get? dx=some o:=let ⟨o,_,_,e',_⟩:=d.ns;⟨o,e'⟩;refine I.write (by rw[e];exact True.intro) (.inr i) (λb q G z=>(p.2 b G).trans z) hd ?_
 refine⟨by rw[zA O.ne];exact i,?_,O.ne,d.obj,_,d.ns,λg=>?_,λg J=>?_⟩
 ·have:=JE f y fs;omega
 ·rw[lookup_putF]
  by_cases q:g=f
  ·rw[if_pos q,if_pos q];exact l
  ·rw[if_neg q,if_neg q];exact r g
 ·by_cases q:g=f
  ·rw[q];exact(JD f y fs).1
  ·refine(JD f y fs).2 g (j g λz=>J ?_);show (if g=f then some u else B g)=none
   rw[if_neg q];exact z
theorem Inv.made (I:Inv X pins σ H s):Inv X pins σ (iV (iV H s.1.1.size (.own (s.1.1.size+1))) (s.1.1.size+1) (.ins C s.1.1.size []))
  {s with heap:=(s.heap.push cS).push (cN C s.1.1.size)}:=by
 have d:(s.heap.push cS).get? _=some _:=aq _ rfl;have l:=by
  have:=aq (s.heap.push cS) (o:=cN C s.1.1.size) rfl;rwa[bI]at this
 have k:(s.heap.push _).Ns _ (λ_=>none):=⟨cS,#[],_,d,rfl,(λe p=>absurd p (by simp)),λ_=>rfl⟩
 have j:=I.laid (o:=.own (s.1.1.size+1)) (t':=s.toks) (λb u q=>ak _ q) (au _) ⟨_,d⟩;refine j.laid (λb u q=>ak _ q) (Nat.le_of_eq (bI _ _)) ?_;have i:s.1.1.size≠s.1.1.size+1:=aN (c_ _);refine⟨by rw[zA i,zO],bj _,i,l,λ_=>none,(Heap.Ns1.of_empty k).at λo q=>ak _ q,λ_=>True.intro,λy hy=>absurd rfl hy⟩
theorem xN {prog:Program}{w:World}{env:Env}{e:Expr}{f:Str}{pos:Pos}{s:Shared}{Q:Value->Shared->Prop}(i:attributeBase e f env (eval e env)=eval e env)
  (h:wpAny (model prog w) A (eval e env) (λo d=>wpAny (model prog w) A (getAttr o f true) Q E d) E s):wpAny (model prog w) A (eval (.Attribute e f pos) env) Q E s:=
 Attribute_any_ h (by rw[arm_eval_Attribute,i])
end
def B7 (K:ag)(j:TE)(f:Str):TE:=λk H Q=>j k H λx d=>∃a C i fs v,x=.ref a/\d a=some (.ins C i fs)/\Cls K C/\NoAttr K C f/\fs.lookup f=some v/\Q v d
def CF (K:ag)(l o:TE)(f:Str):TS:=λD d H=>o d H λy k=>l d k λx j=>∃a C i fs,x=.ref a/\j a=some (.ins C i fs)/\Cls K C/\NoAttr K C f/\fs.length<1000/\
 D.nx d (iV j a (.ins C i (putF f y fs)))
section
variable {X:Cx}{o e value:Expr}{f:Str}{pos pos' tpos:Pos}{ta tv:TE}
theorem Je (J:PE X e ta)(k:attributeBase e f X.env (eval e X.env)=eval e X.env):PE X (.Attribute e f pos) (B7 X.K ta f):=by
 intro d s p H Q I h;refine xN k (iU (J _ s p H _ I h) λu P ⟨x,i,G,r,a,C,L,fs,v,ex,y,c,n,l,q⟩=>?_);subst ex;obtain rfl:u=Value.ref a:=r;exact yn G y c n l λU N B j=>⟨v,i,B,j,q⟩
theorem VD (v:PE X o ta)(L:PE X value tv)(U:swapsWith value (some (.Attribute o f pos')) pos.line X.env=pure false):PS X (.Assign [.Attribute o f pos'] value pos) (CF X.K ta tv f):=by
 intro i s d H D I h;refine plainObj_wpAny_Assign_Attribute (iU (L _ s d H _ I h) λu k ⟨y,J,Q,j,q⟩=>iU (v _ k d J _ Q q) λB Z ⟨x,H2,r,N,a,C,dx,fs,ex,P,c,n,l,p⟩=>?_) U;subst ex;obtain rfl:B=Value.ref a:=N;exact yo r P c n l j λs3 G=>⟨d,_,G,p⟩
theorem xO {pl:Sem Bool}{m:Str}{d:Pos}{args:List Expr}{i:List (Addr×Obj)}{s:Shared}{p:St}{H:Hp}{Q:Value->Shared->Prop}{te:TE}(L:PE X e te)(I:Inv X i p H s)
  (h:te p H λx r=>∃a C v fs g,x=.ref a/\r a=some (.ins C v fs)/\Cls X.K C/\Meth X.K C m g/\fs.lookup m=none/\
   ∀j,Inv X i p r j->wpAny (model X.prog X.w) X.A (callWith pos (.ref g) [.ref a] (backTo pos (starEach args X.env)) (backToKw pos (keywordEach [] X.env))) Q X.xe j)
  (B:eval (.Call (.Attribute e m d) args [] pos) X.env=(do
   let ov ←eval e X.env
   standAt d.atName
   let (f,first) ←holding [ov] (getMethod ov m pl)
   callWith pos f first (backTo pos (starEach args X.env)) (backToKw pos (keywordEach [] X.env)))):
  wpAny (model X.prog X.w) X.A (eval (.Call (.Attribute e m d) args [] pos) X.env) Q X.xe s:=by
 refine dB (iU (L _ s p H _ I h) λu j ⟨x,r,y,G,a,C,v,fs,g,ex,J,c,k,l,q⟩=>?_) B;subst ex;obtain rfl:u=Value.ref a:=G;exact J0 y J c k l (q j y)
end
section
variable {X:Cx}{pins:List (Addr×Obj)}{σ:St}{H:Hp}{s:Shared}{A:Around}{E:Value->Shared->Prop}{Q:Value->Shared->Prop}{c:Value}{b:Bool}
inductive yq (K:ag) (H:Hp):V->Value->Prop where
 |non:yq K H .non (.type "NoneType")
 |bl (x:Bool):yq K H (.bl x) (.type "bool")
 |int (i:Int):yq K H (.int i) (.type "int")
 |str (x:Str):yq K H (.str x) (.type "str")
 |flt (x:UInt64):yq K H (.flt x) (.type "float")
 |lst {a:Addr} {xs:List V} (e:H a=some (.lst xs)):yq K H (.ref a) (.type "list")
 |frz {a:Addr} {o:Obj} {xs:List V} (e:H a=some (.frz o (.lst xs))):yq K H (.ref a) (.type "list")
 |tup {a:Addr} {xs:List V} (e:H a=some (.tup xs)):yq K H (.ref a) (.type "tuple")
 |dK {a:Addr} {kvs:List (l5×V)} (e:H a=some (.dK kvs)):yq K H (.ref a) (.type "dict")
 |dT {a:Addr} {kvs:List (List l5×Addr×V)} (e:H a=some (.dT kvs)):yq K H (.ref a) (.type "dict")
 |ins {a C dx:Addr} {fs:List (Str×V)} (e:H a=some (.ins C dx fs)) (cl:Cls K C) (ha:bp K (.ref C) "__class__"=some (some (.builtin "object.__class__")))
   (hn:PySem.W.specialIn K (.builtin "object.__class__") "__get__"=some (some (.builtin "getset_descriptor.__get__"))) (htk:PySem.W.takesIn K (.builtin "object.__class__")=some true)
   (hm:PySem.W.mroIn K C (.type "object")=some true):yq K H (.ref a) (.ref C)
theorem Yf {x:V}{u t:Value}(I:Inv X pins σ H s)(d:Zh x u)(L:yq X.K H x t)(e:cq X.K t c=some b)(h:∀tk,Q (.bool b) {s with toks:=tk}):
  wpAny (model X.prog X.w) A (call (.builtin "isinstance") [u,c]) Q E s:=by
 cases L with
 |non=>cases (d);exact bu PySem.W.kitx_none I.kIn True.intro e (λz=>nomatch z) h
 |bl y=>cases (d);exact bu PySem.W.kitx_bool I.kIn True.intro e (λz=>nomatch z) h
 |int i=>obtain⟨t,q⟩:=(d);cases q;exact bu PySem.W.kitx_int I.kIn True.intro e (λz=>nomatch z) h
 |str y=>obtain⟨t,q⟩:=(d);cases q;exact bu PySem.W.kitx_str I.kIn True.intro e (λz=>nomatch z) h
 |flt y=>obtain⟨t,q⟩:=(d);cases q;exact bu PySem.W.kitx_float I.kIn True.intro e (λz=>nomatch z) h
 |@lst a xs f=>
  cases (d);obtain⟨_,_,n,_,j⟩:=(show Zw _ X.w H _ a _ from I.hok a _ f);exact bu fX I.kIn ⟨_,j,rfl⟩ e (λz=>nomatch z) h
 |@frz a ob xs f=>
  cases (d);obtain⟨_,_,_,n,_,j⟩:=(show Zw _ X.w H _ a _ from I.hok a _ f);exact bu fX I.kIn ⟨_,j,rfl⟩ e (λz=>nomatch z) h
 |@tup a xs f=>
  cases (d);obtain⟨_,_,_,p,_⟩:=(show Zw _ X.w H _ a _ from I.hok a _ f);obtain⟨o,j,k,_⟩:=p;exact bu PySem.W.kitx_tuple I.kIn ⟨o,j,k⟩ e (λz=>nomatch z) h
 |@dK a r f=>
  cases (d);obtain⟨_,_,vs,_,p⟩:=(show Zw _ X.w H _ a _ from I.hok a _ f);obtain⟨o,N,v,j,k,_⟩:=p;exact bu fY I.kIn ⟨o,j,k.1⟩ e (λz=>nomatch z) h
 |@dT a r f=>
  cases (d);obtain⟨_,_,xs,_,o,N,v,j,k,_⟩:=(show Zw _ X.w H _ a _ from I.hok a _ f);exact bu fY I.kIn ⟨o,j,k.1⟩ e (λz=>nomatch z) h
 |@ins a C Z fs f cl B hn l G=>
  cases (d);obtain⟨U,O,_⟩:=wP I.hok f;obtain⟨P,J,_⟩:=O.look;exact bu (PySem.W.kitx_own (cl.get _) cl.hd B hn l G) I.kIn J e (λz=>nomatch z) h
end
end L2
namespace L2
open PySem PySem.Spec PyProof.Rows
structure ZN (k:Nat) (A:Around):Prop where
 hd:A.handled=none
 dp:A.depth+3*k+5<recursionLimit
 un:A.units+16*k+200<cLine
 gd:A.guards=some []
theorem ZN.mono {j k:Nat}{A:Around}(r:ZN k A)(h:j<=k):ZN j A:=⟨r.hd,by have:=r.dp;omega,by have:=r.un;omega,r.gd⟩
theorem ZN.deeper {k:Nat}{A:Around}(r:ZN (k+1) A)(env:Env):ZN k (A.deeper env):=
 ⟨r.hd,by have:=r.dp;show A.depth+1+3*k+5<_;omega,by have:=r.un;show A.units+3+16*k+200<_;omega,r.gd⟩
theorem yr {A:Around}{C:Addr}{us:List Value}{kw:List (Str×Value)}:(A.under (.builtin "type.__call__" ⟨.ref C::us,kw⟩)).depth=A.depth+1:=by
 first|rfl|simp[Around.under,Code.weight,Code.isCreation,Code.isGuard,Code.isCaller,Code.frames,fZ,guardIds]
theorem yt {A:Around}{C:Addr}{us:List Value}{kw:List (Str×Value)}:(A.under (.builtin "type.__call__" ⟨.ref C::us,kw⟩)).units=A.units+1:=by
 first|rfl|simp[Around.under,Code.cUnits,Code.frames,fZ]
theorem ZN.make {k:Nat}{A:Around}(r:ZN (k+1) A)(C:Addr)(us:List Value)(kw:List (Str×Value)):ZN k (A.under (.builtin "type.__call__" ⟨.ref C::us,kw⟩)):=
 ⟨r.hd,by have:=r.dp;rw[yr];omega,by have:=r.un;rw[yt];omega,by first|exact r.gd|simpa[pushGuards]using r.gd⟩
theorem ZN.depth {k:Nat}{A:Around}(r:ZN k A):A.depth<recursionLimit:=by have:=r.dp;omega
theorem ZN.units {k:Nat}{A:Around}(r:ZN k A):A.units+64<cLine:=by have:=r.un;omega
def pD:TA:=λ_ H Q=>Q [] H
def Fs (i:TE)(tr:TA):TA:=λa H Q=>i a H λx d=>tr a d λxs f=>Q (x::xs) f
section
variable {X:Cx}{e:Expr}{es:List Expr}{te:TE}{t:TA}{pos:Pos}
theorem zZ:PA X [] pD:=λ_ _ _ _ H Q I h=>f_ ⟨[],H,I,.nil,h⟩
theorem zF (y:PE X e te)(hr:PA X es t)(r:starEach (e::es) X.env=(false,eval e X.env)::starEach es X.env:=by rfl):PA X (e::es) (Fs te t):=by
 intro pos d s a H Q I h;rw[r];refine fP (iU (y _ s a H _ I h) λu j ⟨x,i,q,f,v⟩=>?_);exact iU (hr pos _ j a i _ q v) λus B ⟨xs,l,p,o,k⟩=>⟨x::xs,l,p,.cons f o,k⟩
def Bb (t:TA):TE:=λd H Q=>t d H λxs a=>xs.length<=sizeLine/\∀p,a p=none->Q (.ref p) (iV a p (.tup xs))
def BO (t:TA):TE:=λd H Q=>t d H λxs a=>xs.length<=sizeLine/\∀p,a p=none->Q (.ref p) (iV a p (.lst xs))
theorem KN {x1}(h:PA X es t):PE X (.Tuple es x1 pos) (Bb t):=by
 intro a s j H Q I i;refine wpAny_Tuple_spliced (iU (h pos _ s j H _ I i) λus l ⟨xs,f,d,r,z,q⟩=>⟨by rw[←r.length];exact z,?_⟩)
 have k:=d.hok.fresh (au _);refine⟨.ref _,iV f _ _,d.laid (λb u e=>ak _ e) (au _) ?_,rfl,q _ k⟩;exact⟨z,us,r,⟨_,aq _ rfl,rfl,_,rfl⟩,.inr ⟨_,aq _ rfl,rfl⟩⟩
theorem Yg (h:PA X es t):PE X (.List es pos) (BO t):=by
 intro a s j H Q I i;refine wpAny_List_spliced (iU (h pos _ s j H _ I i) λus l ⟨xs,f,d,r,z,q⟩=>⟨by rw[←r.length];exact z,?_⟩)
 have k:=d.hok.fresh (au _);refine⟨.ref _,iV f _ _,d.laid (λb u e=>ak _ e) (au _) ?_,rfl,q _ k⟩;exact⟨z,us,0,r,aq _ rfl⟩
end
abbrev Sp:=List V->Hp->VK->XK->Prop
abbrev l8:=List Env->Hp->Shared->XK->Value->Shared->Prop
structure xP (P:Program) (w:World) (K:ag) (mg:Str->Option Value) (base:Heap) (A:Around) (outer:List Env) (s:Shared) (H:Hp):Prop where
 frames:A.frames=some outer
 mod:Mod K mg base
 bs:∀b o,base.get? b=some o->s.heap.get? b=some o/\H b=none
 bsz:base.objs.size<=s.1.1.size
 funs:s.heap.FunFrames base outer
 frf:∀b∈lK outer,H b=none
 hok:HOk P w H s.heap
 bare:AllBare s.gens
def CE (outer:List Env)(P:Program)(w:World)(H:Hp)(s:Shared)(Q:VK)(u:Value)(a:Shared):Prop:=
 ∃v d,a.os=s.os/\AllBare a.gens/\Un (lK outer) [] H d s.heap a.heap/\HOk P w d a.heap/\Zh v u/\Q v d
def CR (CX:l8)(outer:List Env)(P:Program)(w:World)(H:Hp)(s:Shared)(Q:VK)(E:XK)(r:Result)(a:Shared):Prop:=
 match r with
 |.ok (.ret u)=>CE outer P w H s Q u a
 |.ok _=>False
 |.error e=>CX outer H s E e a
structure je (P:Program) (w:World) (K:ag) (mg:Str->Option Value) (base:Heap) (CX:l8) (k:Nat) (f:Addr) (fd:FuncData) (ps:List Str) (sp:Sp):Prop where
 len:∀vs H Q E,sp vs H Q E->vs.length=ps.length
 run:∀(A:Around) (outer:List Env) (s:Shared) (H:Hp) (args:Args) (us:List Value) (vs:List V) (Q:VK) (E:XK),ZN k A->xP P w K mg base A outer s H->BindsTo s fd args (ps.zip us)->Z0 vs us->sp vs H Q E->
  codeAny (model P w) A (.call (.ref f) args) (CR CX outer P w H s Q E) s
theorem xP.make {P:Program}{w:World}{K:ag}{d:Str->Option Value}{a:Heap}{A:Around}{outer:List Env}{s:Shared}{H:Hp}(e:xP P w K d a A outer s H)(C:Addr)(us:List Value)(kw:List (Str×Value)):
  xP P w K d a (A.under (.builtin "type.__call__" ⟨.ref C::us,kw⟩)) outer s H:=⟨by first|exact e.frames|(simpa[fZ]using e.frames),e.mod,e.bs,e.bsz,e.funs,e.frf,e.hok,e.bare⟩
section
variable {X:Cx}{pins:List (Addr×Obj)}{σ:St}{H:Hp}{s s':Shared}
theorem Inv.env0 (I:Inv X pins σ H s):xP X.prog X.w X.K X.mg X.base X.A X.stack s H:=
 ⟨I.ok.frames,I.ok.mod,I.bs,aG I.ok.bsz I.sz,I.stack,I.stkFree,I.hok,I.bare⟩
theorem Inv.after {Q:VK}{u:Value}(I:Inv X pins σ H s)(h:CE X.stack X.prog X.w H s Q u s'):EP X pins σ Q u s':=by
 obtain⟨v,j,os,a,un,f,r,q⟩:=h;obtain⟨k,g,d,t,i⟩:=s';obtain rfl:i=s.os:=os;exact⟨v,j,I.call un f a (λb z=>absurd z (by simp)),r,q⟩
end
def EN (sp:Sp)(a:List V)(E:XK)(t:TA):TE:=λf H Q=>t f H λvs d=>sp (vs++a) d Q E
def KO (C:Addr)(m:Str)(sp:Sp)(d:List V)(E:XK)(l:TE)(t:TA):TE:=λi H Q=>l i H λx f=>∃a j fs,x=.ref a/\f a=some (.ins C j fs)/\fs.lookup m=none/\
 t i f λvs k=>sp (x::(vs++d)) k Q E
def DT (C:Addr)(sp:Sp)(f:List V)(E:XK)(t:TA):TE:=λj H Q=>t j H λvs d=>∀x a,d x=none->d a=none->a≠x->
 sp (.ref x::(vs++f)) (iV (iV d a (.own x)) x (.ins C a [])) (λv i=>v=.non/\Q (.ref x) i) E
noncomputable def Binds (K:ag)(d:FuncData)(a:List Str)(ds:List Value):Prop:=
 ∀(s:Shared) (us:List Value),K.In s.heap->(us++ds).length=a.length->BindsTo s d ⟨us,[]⟩ (a.zip (us++ds))
theorem Binds.all {K:ag}{d:FuncData}{a:List Str}(h:∀us:List Value,us.length=a.length->bindArgs d ⟨us,[]⟩=pure (a.zip us)):Binds K d a []:=λs us _ f=>by
 rw[aY]at f⊢;exact .of_eq (h us f)
def Zc (CX:l8)(X:Cx)(E:XK):Prop:=∀(a:List (Addr×Obj)) (f:St) (H:Hp) (s:Shared) (e:Value) (d:Shared),Inv X a f H s->CX X.stack H s E e d->X.xe e d
section
variable {X:Cx}{CX:l8}{k:Nat}{f C:Addr}{fd:FuncData}{ps:List Str}{sp:Sp}{dvs:List V}{ds:List Value}{E:XK}{x m:Str}{p pos apos:Pos}{e o:Expr}{es:List Expr}{ta:TE}{t:TA}
theorem Yh {a:List (Addr×Obj)}{i:St}{H:Hp}{s:Shared}{Q:VK}{us:List Value}{vs:List V}(F:je X.prog X.w X.K X.mg X.base CX k f fd ps sp)(hr:ZN k X.A)(l:Binds X.K fd ps ds)(hd:Z0 dvs ds)(q:Zc CX X E)
  (I:Inv X a i H s) (r:Z0 vs us) (h:sp (vs++dvs) H Q E):wpAny (model X.prog X.w) X.A (call (.ref f) us) (EP X a i Q) X.xe s:=by
 have j:=r.append hd;have v:(us++ds).length=ps.length:=by rw[←j.length];exact F.len _ _ _ _ h
 refine wpAny_call (dm (F.run X.A _ s H _ _ _ Q E hr I.env0 (l s us I.kIn v) j h) λr y d=>?_);cases r with
 |error e=>exact q _ i H s e y I d
 |ok B=>
  cases B with
  |ret u=>exact I.after d
  |next=>exact bQ d
  |brk=>exact bQ d
  |cont=>exact bQ d
theorem wQ (F:je X.prog X.w X.K X.mg X.base CX k f fd ps sp)(hr:ZN k X.A)(y:Gl X x)(u:X.mg x=some (.ref f))(J:bE X.K (.ref f)=true)(B:Binds X.K fd ps ds)(hd:Z0 dvs ds)(l:Zc CX X E)
  (L:PA X (e::es) t) (d:(x==("__debug__":Str))=false:=by decide) (v:starEach (e::es) X.env=(false,eval e X.env)::starEach es X.env:=by rfl) (a:(backTo pos (starEach es X.env)).any (·.1)=false:=by rfl):
  PE X (.Call (.Name x p) (e::es) [] pos) (EN sp dvs E t):=by
 intro i s G H Q I h;refine bU (uK I y u ?_ d);refine dS I.ok.mod.kin J (iU (L pos _ s G H _ I h) λus P ⟨vs,N,j,r,q⟩=>⟨j.kIn,?_⟩) v a;exact Yh F hr B hd l j r q
theorem Yi {pl:Sem Bool}(he:PE X o ta)(c:Cls X.K C)(y:Meth X.K C m f)(F:je X.prog X.w X.K X.mg X.base CX k f fd ps sp)(hr:ZN k X.A)(N:Binds X.K fd ps ds)(hd:Z0 dvs ds)(Z:Zc CX X E)(U:PA X (e::es) t)
  (d:starEach (e::es) X.env=(false,eval e X.env)::starEach es X.env:=by rfl) (i:(backTo pos (starEach es X.env)).any (·.1)=false:=by rfl)
  (J:eval (.Call (.Attribute o m apos) (e::es) [] pos) X.env=(do
   let ov ←eval o X.env
   standAt apos.atName
   let (f,first) ←holding [ov] (getMethod ov m pl)
   callWith pos f first (backTo pos (starEach (e::es) X.env)) (backToKw pos (keywordEach [] X.env))):=by rfl):
  PE X (.Call (.Attribute o m apos) (e::es) [] pos) (KO C m sp dvs E ta t):=by
 intro j s B H Q I h;refine dB (iU (he _ s B H _ I h) λu L ⟨x,H1,G,rx,a,dx,fs,ex,ea,l,q⟩=>?_) J;subst ex;obtain rfl:u=Value.ref a:=rx;refine J0 G ea c y l ?_;refine dS I.ok.mod.kin y.kp (iU (U pos _ L B H1 _ G q) λus s2 ⟨vs,H2,v,r,P⟩=>⟨v.kIn,?_⟩) d i;exact Yh (vs:=.ref a::vs) F hr N hd Z v (.cons rfl r) P
theorem Uh {pl:Sem Bool}(L:PE X o ta)(c:Cls X.K C)(i:Meth X.K C m f)(F:je X.prog X.w X.K X.mg X.base CX k f fd ps sp)(hr:ZN k X.A)(y:Binds X.K fd ps ds)(hd:Z0 dvs ds)(v:Zc CX X E)
  (r:eval (.Call (.Attribute o m apos) [] [] pos) X.env=(do
   let ov ←eval o X.env
   standAt apos.atName
   let (f,first) ←holding [ov] (getMethod ov m pl)
   callWith pos f first (backTo pos (starEach [] X.env)) (backToKw pos (keywordEach [] X.env))):=by rfl):
  PE X (.Call (.Attribute o m apos) [] [] pos) (KO C m sp dvs E ta pD):=by
 intro j s B H Q I h;refine dB (iU (L _ s B H _ I h) λu U ⟨x,P,d,G,a,N,fs,ex,J,l,q⟩=>?_) r;subst ex;obtain rfl:u=Value.ref a:=G;refine J0 d J c i l ?_;exact PySem.W.callWith_K0 d.kIn i.kp (Yh (vs:=[.ref a]) F hr y hd v d (.cons rfl .nil) q)
structure Mk (K:ag) (C f:Addr):Prop where
 makes:iB K C=true
 init:bp K (.ref C) "__init__"=some (some (.ref f))
 fn:eY K (.ref f)=true
 kp:bE K (.ref C)=true
theorem vf {d:List (Addr×Obj)}{l:St}{H:Hp}{s:Shared}{Q:VK}{us:List Value}{vs:List V}(M:Mk X.K C f)(F:je X.prog X.w X.K X.mg X.base CX k f fd ps sp)(hr:ZN (k+1) X.A)(J:Binds X.K fd ps ds)(hd:Z0 dvs ds)
  (U:Zc CX X E) (I:Inv X d l H s) (r:Z0 vs us)
  (h:∀x j,H x=none->H j=none->j≠x->sp (.ref x::(vs++dvs)) (iV (iV H j (.own x)) x (.ins C j [])) (λv L=>v=.non/\Q (.ref x) L) E):
  wpAny (model X.prog X.w) X.A (call (.ref C) us) (EP X d l Q) X.xe s:=by
 have q:=h _ _ (I.hok.fresh (cU _)) (I.hok.fresh (au _)) (aN (c_ _));have i:=Inv.made (C:=C) I;have y:Z0 (V.ref (s.1.1.size+1)::(vs++dvs)) _:=.cons rfl (r.append hd);have hl:=by
  have e:=y.length;rw[F.len _ _ _ _ q]at e;exact e.symm
 refine wpAny_call (ve I.kIn M.makes M.init (beq_iff_eq.mp M.fn) (dm (F.run _ _ _ _ _ _ _ _ E (hr.make C us [])
  (i.env0.make C us []) (J _ _ i.kIn hl) y q) λr G a=>?_))
 cases r with
 |error e=>exact U _ l _ _ e G i a
 |ok fl=>
  cases fl with
  |ret u=>
   obtain⟨v,P,Z,B,N,q3⟩:=i.after a;subst N;exact⟨B,⟨V.ref _,P,Z,rfl,q3⟩⟩
  |next=>exact bQ a
  |brk=>exact bQ a
  |cont=>exact bQ a
theorem xQ (M:Mk X.K C f)(F:je X.prog X.w X.K X.mg X.base CX k f fd ps sp)(hr:ZN (k+1) X.A)(y:Gl X x)(u:X.mg x=some (.ref C))(B:Binds X.K fd ps ds)(hd:Z0 dvs ds)(l:Zc CX X E)
  (J:PA X (e::es) t) (d:(x==("__debug__":Str))=false:=by decide) (v:starEach (e::es) X.env=(false,eval e X.env)::starEach es X.env:=by rfl) (a:(backTo pos (starEach es X.env)).any (·.1)=false:=by rfl):
  PE X (.Call (.Name x p) (e::es) [] pos) (DT C sp dvs E t):=by
 intro i s G H Q I h;refine bU (uK I y u ?_ d);refine dS I.ok.mod.kin M.kp (iU (J pos _ s G H _ I h) λus N ⟨vs,L,j,r,q⟩=>⟨j.kIn,?_⟩) v a;exact vf M F hr B hd l j r q
end
section
variable {X:Cx}{CX:l8}{k:Nat}{f C:Addr}{fd:FuncData}{ps ks:List Str}{sp:Sp}{E:XK}{x m:Str}{p pos apos kpos:Pos}{e o:Expr}{es:List Expr}{kws:List Keyword}{te ta:TE}{t tk:TA}{nm:Option Str}
variable {g:List Value->List Value->List Value}{gV:List V->List V->List V}
end
structure j5 (N P:List Str) (sc:Scope):Prop where
 kind:sc.kind=.function
 co:sc.isCoroutine=false
 gen:sc.isGenerator=false
 nd:N.Nodup
 pre:N.take P.length=P
 par:∀x∈P,sc.names.lookup x=some .local\/sc.names.lookup x=some .cell
 nofree:∀y∈sc.names,y.2≠.free
theorem WJ {kindOf:Str->Option NameKind}{x:Str}:∀{binds:List (Str×Value)} {m:Str->Option Value},(∀v,(x,v)∉binds)->bindL kindOf binds m x=m x
 |[],_,_=>rfl
 |(n,v)::r,m,h=>by
  unfold bindL;rw[WJ λw a=>h w (ai _ a)];split
  ·have:x≠n:=by rintro rfl;exact h v aj
   simp[this]
  ·rfl
theorem WK {kindOf:Str->Option NameKind}{x:Str}:∀{binds:List (Str×Value)} {m:Str->Option Value},(∀v,(x,v)∉binds)->bindC kindOf binds m x=m x
 |[],_,_=>rfl
 |(n,v)::r,m,h=>by
  unfold bindC;rw[WK λw a=>h w (ai _ a)];split
  ·rfl
  ·have:x≠n:=by rintro rfl;exact h v aj
   simp[this]
theorem WL {kindOf:Str->Option NameKind}{x:Str}{v:Value}:∀{P:List Str} {vs:List Value} {i:Nat} {m:Str->Option Value},P.Nodup->P[i]?=some x->vs[i]?=some v->kindOf x=some .local->
  bindL kindOf (P.zip vs) m x=some v
 |[],_,_,_,_,h,_,_=>by simp at h
 |_::_,[],_,_,_,_,h,_=>by simp at h
 |p::P,w::vs,0,m,nd,d,a,f=>by
  simp at d a;subst d;subst a;show bindL _ ((p,w)::P.zip vs) m p=_;unfold bindL;rw[WJ λv j=>(dh.mp nd).1 (fj j).1,if_pos f];simp
 |p::P,w::vs,i+1,m,nd,d,a,f=>by
  show bindL _ ((p,w)::P.zip vs) m x=_;exact WL (dh.mp nd).2 (by simpa using d) (by simpa using a) f
theorem WM {kindOf:Str->Option NameKind}{x:Str}{v:Value}:∀{P:List Str} {vs:List Value} {i:Nat} {m:Str->Option Value},P.Nodup->P[i]?=some x->vs[i]?=some v->kindOf x≠some .local->
  bindC kindOf (P.zip vs) m x=some v
 |[],_,_,_,_,h,_,_=>by simp at h
 |_::_,[],_,_,_,_,h,_=>by simp at h
 |p::P,w::vs,0,m,nd,d,a,f=>by
  simp at d a;subst d;subst a;show bindC _ ((p,w)::P.zip vs) m p=_;unfold bindC;rw[WK λv j=>(dh.mp nd).1 (fj j).1,if_neg f];simp
 |p::P,w::vs,i+1,m,nd,d,a,f=>by
  show bindC _ ((p,w)::P.zip vs) m x=_;exact WM (dh.mp nd).2 (by simpa using d) (by simpa using a) f
def start (N:List Str)(vs:List V):St:=vs.map some++av (N.length-vs.length) none
def WN (CX:l8)(P:Program)(w:World)(K:ag)(mg:Str->Option Value)(base:Heap)(N:List Str)(a:Str)(scope:Scope)(f:Addr)(i:Value)(A:Around)(outer:List Env)(s:Shared)(H:Hp)(E:XK):Cx where
 prog:=P
 w:=w
 K:=K
 mg:=mg
 base:=base
 A:=A.deeper (envOfC a scope s.1.1.size f i)
 N:=N
 s₀:=s
 H₀:=H
 env:=envOfC a scope s.1.1.size f i
 outer:=outer
 stack:=envOfC a scope s.1.1.size f i::outer
 ex:=[]
 calm:=true
 fn:=λ_=>true
 pn:=[]
 xe:=λe j=>wpAny (model P w) (A.deeper (envOfC a scope s.1.1.size f i)) (leaving (envOfC a scope s.1.1.size f i) e) (λ_ d=>CX outer H s E e d) (λk d=>CX outer H s E k d) j
theorem Ui {sc:Scope}{n:Nat}{x:Str}(h:sc.names.lookup x=some .cell):∃c,(cellsFrom n sc.names []).lookup x=some c:=by
 have q:=eZ _ n [] (.inl h);exact Option.isSome_iff_exists.mp q
theorem Yj {CX:l8}{P:Program}{w:World}{K:ag}{Q:Str->Option Value}{l:Heap}{N G:List Str}{d:Str}{scope:Scope}{f:Addr}{L:Value}{A:Around}{outer:List Env}{s U:Shared}{H:Hp}{E:XK}{us:List Value}{vs:List V}
  (S:j5 N G scope) (hd:A.handled=none) (o:xP P w K Q l A outer s H) (hl:vs.length=G.length) (r:Z0 vs us)
  (x:InCallC s s.1.1.size (bindL (envOfC d scope s.1.1.size f L).kindOf (G.zip us) λ_=>none) (cellsFrom (s.1.1.size+1) scope.names []) (bindC (envOfC d scope s.1.1.size f L).kindOf (G.zip us) λ_=>none) U):
  Inv (WN CX P w K Q l N d scope f L A outer s H E) [] (start N vs) H U:=by
 have hpl:=by have:=congrArg fA S.pre;rw[eN]at this;omega
 obtain⟨J,tk,rfl,X⟩:=x.done;have B:∀b,b∉(WN CX P w K Q l N d scope f L A outer s H E).ex:=λb z=>absurd (show b∈([]:List _) from z) (by simp)
 refine⟨⟨o.mod,S.kind,rfl,rfl,au _,λy z c J j=>?_,λy hy=>?_,λy c _ h=>?_,λ_=>hd,Around.frames_deeper o.frames,.inr ⟨rfl,rfl⟩,λb z=>absurd z (B b),o.bs,o.bsz,λb _ _=>B b,λb z=>absurd z (B b),o.funs,o.frf⟩,
  rfl,o.bare,Un.kept X,⟨_,x.toInCall.ns,λi y v J j h3=>?_⟩,λy c h=>⟨_,x.cell y c h⟩,o.hok.fresh (au _),λy c h=>?_,λp hp=>absurd (show p∈([]:List _) from hp) (by simp),o.hok.kept X,?_⟩
 ·exact name_of_addr x.apart (bR J) (bR j)
 ·rcases hy with hy|hy
  ·exact Ui hy
  ·exact absurd rfl (S.nofree _ (bR hy))
 ·exact eW (x.above y c (bR h))
 ·have hi:i<vs.length:=by
   unfold start at j
   by_cases hi:i<vs.length
   ·exact hi
   ·rw[az (by simpa using hi)]at j
    rw[aR]at j;split at j<;>cases j
  have ha:vs[i]?=some v:=by
   unfold start at j;rw[aD (by simpa using hi),aA]at j
   cases e:vs[i]? with
   |none=>rw[e]at j;cases j
   |some a=>rw[e]at j;cases j;rfl
  obtain⟨u,Z,rv⟩:=r.get ha;have hp:G[i]?=some y:=by
   rw[←S.pre,List.getElem?_take_of_lt (by omega)];exact J
  have I:G.Nodup:=by rw[←S.pre];exact S.nd.sublist (List.take_sublist _ _)
  refine⟨u,rv,?_⟩;rcases S.par y (cb hp)with k|k
  ·exact .inl ⟨k,WL I hp Z k⟩
  ·obtain⟨c,e⟩:=Ui k;refine .inr ⟨.inl k,c,e,?_⟩;have q:=x.cell y c e;rw[WM I hp Z (by show scope.names.lookup y≠_;rw[k];decide)]at q
   exact q
 ·exact o.hok.fresh (eW (x.above y c (bR h)))
 ·unfold start;show _=N.length;rw[ae,ah,aW];omega
theorem KP {CX:l8}{P:Program}{w:World}{K:ag}{mg:Str->Option Value}{i:Heap}{k:Nat}{f:Addr}{name a:Str}{d:Arguments}{j:List Stmt}{scope:Scope}{dV kV Z pm cdv ct oc:Value}{an od:Option Addr}
  {osl:Array (Option Value)} {N ps:List Str} {sp:Sp} (lk:K.lookup f=some ⟨oc,od,.func (bv name a d j scope dV kV Z pm an cdv ct),osl⟩) (hcd:dn K cdv a=true) (S:j5 N ps scope)
  (len:∀vs H Q E,sp vs H Q E->vs.length=ps.length)
  (B:∀(A:Around) (outer:List Env) (s:Shared) (H:Hp) (vs:List V) (Q:VK) (E:XK),ZN k (A.deeper (envOfC a scope s.1.1.size f cdv))->sp vs H Q E->
   ∃t,PSs (WN CX P w K mg i N a scope f cdv A outer s H E) j t/\t {nx:=λ_ l=>Q .non l,rt:=Q} (start N vs) H):
  je P w K mg i CX (k+1) f (bv name a d j scope dV kV Z pm an cdv ct) ps sp:=by
 refine⟨len,λA outer s H args us vs Q E hr L hb r X=>?_⟩;have hl:=len _ _ _ _ X;have KX:=L.mod.kin.keeps λb o e=>(L.bs b o e).1;have lim:=L.mod.nolimit.keeps λb o e=>(L.bs b o e).1;have p:∀y∈ps.zip us,scope.names.lookup y.1=some _\/(scope.names.lookup y.1=some _/\((cellsFrom (s.1.1.size+1) _ []).lookup y.1).isSome=true):=λ⟨n,v⟩ hy=>by
  rcases S.par n (fj hy).1 with q|q
  ·exact .inl q
  ·exact .inr ⟨q,eZ _ _ _ (.inl q)⟩
 refine codeAny_call_function hr.depth (KX _ _ lk) rfl S.co S.gen rfl (PySem.W.codeRec_of KX hcd) (hb _ _ _ _ ?_);refine wpAny_newFunctionEnv_cells S.kind p λenv he s1 x=>?_;subst he;refine⟨lim.keeps x.toInCall.keep,codeAny_func ?_⟩;obtain⟨t,ht,hq⟩:=B A _ s H vs Q E (hr.deeper _) X;have I:Inv (WN CX P w K mg _ N _ _ f cdv A _ s H E) [] _ H s1:=Yj S hr.hd L hl r x;refine di (ht [] s1 _ H _ I hq) (λfl s' G=>?_) λe s' G=>G;have U:∀{σ':St} {l:Hp} {v:V} {u:Value},Inv (WN CX P w K mg i N a scope f cdv A outer s H E) [] σ' l s'->Zh v u->Q v l->CE _ P w H s Q u s':=
  λ{σ' l v u} J rv q=>⟨v,l,J.os,J.bare,J.base,J.hok,rv,q⟩
 cases fl with
 |ret u=>
  obtain⟨v,σ',l,J,rv,q⟩:=G;exact U J rv q
 |next=>
  obtain⟨σ',l,J,q⟩:=G;exact U (v:=V.non) J rfl q
 |brk=>
  obtain⟨_,_,_,q⟩:=G;exact bQ q
 |cont=>
  obtain⟨_,_,_,q⟩:=G;exact bQ q
end L2
namespace L2
open PySem PySem.Spec PyProof.Rows
section
variable {X:Cx}{x:Str}{p pos:Pos}{e:Expr}{es:List Expr}{t:TA}{id T:String}{r:List V->Hp->VK->Prop}
def CZ (r:List V->Hp->VK->Prop)(t:TA):TE:=λd H Q=>t d H λvs a=>r vs a Q
theorem Jr (J:ZB X (.builtin id) r)(u:Gl X x)(l:X.mg x=none)(v:bootBuiltins x=some (.builtin id))(y:PA X (e::es) t)(hn:x≠"__name__":=by decide)(d:(x==("__debug__":Str))=false:=by decide)
  (o:starEach (e::es) X.env=(false,eval e X.env)::starEach es X.env:=by rfl) (a:(backTo pos (starEach es X.env)).any (·.1)=false:=by rfl):PE X (.Call (.Name x p) (e::es) [] pos) (CZ r t):=by
 intro i s f H Q I h;refine bU (j9 I u l v ?_ hn d);exact PyProof.Rows.callWith_builtin1 (iU (y pos _ s f H _ I h) λus q ⟨vs,k,B,j,G⟩=>J _ q f k vs us Q B j G) o a
theorem jg (J:ZB X (.type T) r)(u:Gl X x)(l:X.mg x=none)(v:bootBuiltins x=some (.type T))(y:PA X (e::es) t)(hn:x≠"__name__":=by decide)(d:(x==("__debug__":Str))=false:=by decide)
  (o:starEach (e::es) X.env=(false,eval e X.env)::starEach es X.env:=by rfl) (a:(backTo pos (starEach es X.env)).any (·.1)=false:=by rfl):PE X (.Call (.Name x p) (e::es) [] pos) (CZ r t):=by
 intro i s f H Q I h;refine bU (j9 I u l v ?_ hn d);exact aV (iU (y pos _ s f H _ I h) λus q ⟨vs,k,B,j,G⟩=>J _ q f k vs us Q B j G) o a
end
end L2
namespace HT
open PySem PyProof.Rows
section
open PySem.SeqAt
open PySem.AutoSeq1 (wpAny_loadPart')
open PySem.MeetsSeq PySem.MeetsSeq2 PySem.MeetsSeq3
end
section
variable {prog:Program}{w:World}{A:Around}{E:Value->Shared->Prop}{s:Shared}
theorem cat_tup {t b:Addr}{vs ws:List Value}{Q:Value->Shared->Prop}(u:IsTup s.heap t vs.toArray)(v:IsTup s.heap b ws.toArray)(q:vs≠[])
  (B:ws=[]->Q (.ref t) s) (y:ws≠[]->Q (.ref s.1.1.size) {s with heap:=s.heap.push {cls:=.type "tuple",data:=.seq (vs++ws).toArray} })
  (hsz:vs.length+ws.length<=sizeLine):wpAny (model prog w) A (binaryOp .Add (.ref t) (.ref b)) Q E s:=by
 obtain⟨⟨cls,dd,data,r⟩,i,G,n,hd⟩:=id u;obtain⟨⟨o,f,data2,d⟩,a,k,p,l⟩:=id v;subst G hd k l;have e:vs.toArray++ws.toArray=(vs++ws).toArray:=by simp
 by_cases j:ws=[]
 ·exact concat_meets ⟨_,i,rfl⟩ ⟨_,a,rfl⟩ noFill_tuple_add seq_tuple_add dq dk (db _ _)
   (tuple_addW1 t b _ _ n p dd f r d (by simpa using q) (by simp[j])) ⟨i,a,B j⟩
 ·refine concat_meets ⟨_,i,rfl⟩ ⟨_,a,rfl⟩ noFill_tuple_add seq_tuple_add dq dk (db _ _)
   (tuple_addW2 t b _ _ n p dd f r d (by simpa using q) (by simpa using j) (by exact hsz)) ⟨i,a,?_⟩
  rw[e];exact y j
noncomputable def sIx (n d:Nat):Option Int->Nat
 |none=>d
 |some v=>if v<0 then (v+(n:Int)).toNat else min v.toNat n
theorem sIx_none (n d:Nat):sIx n d none=d:=rfl
theorem sIx_nat (n d k:Nat):sIx n d (some (k:Int))=min k n:=by
 show (if (k)<0 then ((k:Int)+(n)).toNat else min _ n)=min k n
 rw[if_neg (by omega),bA]
theorem Yk (v:Int)(n d:Nat):(if v<0 then max (v+(n:Int)) 0 else min v (n:Int))=((sIx n d (some v):Nat):Int):=by
 show (if v<0 then max _ 0 else min v (n))=(((if v<0 then (v+(n)).toNat else min _ n):Nat):Int)
 by_cases a:v<0
 ·simp only[if_pos a];omega
 ·simp only[if_neg a];omega
theorem yu (lo hi:Option Int)(n:Nat):d_ lo hi 1 (n:Int)=(((sIx n 0 lo:Nat):Int),((sIx n n hi:Nat):Int)):=by
 refine Prod.ext ?_ ?_
 ·cases lo with
  |none=>rfl
  |some v=>exact Yk v n 0
 ·cases hi with
  |none=>rfl
  |some v=>exact Yk v n n
theorem yv (i j:Nat):d7 (i:Int) (j:Int) 1=j-i:=by
 unfold d7;split<;>omega
theorem ww {v:Value}{o:Option Int}{Q:Option Int->Shared->Prop}(p:IsPart v o)(h:Q o s):wpAny (model prog w) A (Builtin.Slice.slicePartIndex v) Q E s:=by
 cases p with
 |none=>exact slicePart_none h
 |int i t=>exact slicePart_int h
theorem sliceApplied_gen {f:Addr}{vl i:Value}{lo hi:Option Int}{n:Nat}{Q:Int×Int×Nat->Shared->Prop}(k:s.heap.IsSliceOf f vl i .none)(pl:IsPart vl lo)(l:IsPart i hi)
  (h:Q (((sIx n 0 lo:Nat):Int),1,sIx n n hi-sIx n 0 lo) s):wpAny (model prog w) A (Builtin.Slice.sliceApplied (.ref f) (pure (n:Int))) Q E s:=by
 obtain⟨os,a,j,d⟩:=id k;refine aa (aa (bb a d rfl (aa (bb a d rfl (aa (bb a d rfl (aB ?_)))))));refine aa (slicePart_none ?_);refine aa (ww pl (aa (ww l (aa (aB ?_)))));show wpAny _ _ (match d_ lo hi 1 _ with|(lo,hi)=>pure (lo,(1:Int),d7 lo hi 1)) _ _ s
 rw[yu lo hi n];show wpAny _ _ (pure _) _ _ s;rw[yv];exact aB h
theorem vg (xs:Array Value)(i k:Nat):((b6 k).filterMap λ(m:Nat)=>xs[((i:Int)+(m:Int)*1).toNat]?).toArray=((xs.toList.drop i).take k).toArray:=by
 have e:(λ(m:Nat)=>xs[((i:Int)+(m)*1).toNat]?)=λm=>xs[i+m]?:=by
  funext m
  have:((i:Int)+(m)*1).toNat=i+m:=by omega
  rw[this]
 rw[e];have:=pick_run xs i k;rw[List.filterMap_map]at this;have a:((λx=>xs[x]?) ∘λx=>i+x)=λm=>xs[i+m]?:=rfl;rw[a]at this;rw[this]
theorem getItem_tuple_cut {t j:Addr}{items:Array Value}{vl o:Value}{lo hi:Option Int}{Q:Value->Shared->Prop}(d:IsTup s.heap t items)(p:s.heap.IsSliceOf j vl o .none)(pl:IsPart vl lo)(v:IsPart o hi)
  (u:¬(sIx items.size 0 lo=0/\sIx items.size items.size hi=items.size))
  (h:Q (.ref s.1.1.size) {s with heap:=s.heap.push {cls:=.type "tuple",data:=.seq ((items.toList.drop (sIx items.size 0 lo)).take (sIx items.size items.size hi-sIx items.size 0 lo)).toArray} })
  (hsz:items.size<=sizeLine):wpAny (model prog w) A (getItem (.ref t) (.ref j)) Q E s:=by
 have a:sizeOk (.seq ((items.toList.drop (sIx items.size 0 lo)).take (sIx items.size items.size hi-sIx items.size 0 lo)).toArray):=by
  show ((items.toList.drop _).take _).toArray.size<=sizeLine;rw[aE,eN,eO,dJ];omega
 obtain⟨os,l,f,r⟩:=id p;have i:s.TypeIs (.ref j) _:=⟨os,l,f⟩;unfold getItem
 try with_reducible refine wpAny_holding ?_
 refine aa (wpAny_sequenceKey d.typeIs (by decide) ?_)
 refine aa (bo d.typeIs bf
  (bG bf d.typeIs entry_tuple_getitem ?_ (args_tuple_getitem _ _)))
 show wpAny _ _ (dU _>>=_) _ _ s;refine aa (tupleItemsOf_ d ?_);refine aa (wpAny_typeOf i ?_);refine aa (sliceApplied_gen p pl v ?_);have k:¬((((sIx items.size 0 lo):Int)==0&&(1:Int)==1&&(sIx items.size items.size hi-sIx items.size 0 lo)==items.size)=true):=by
  intro q;rw[ar,ar]at q;have B:=eq_of_beq q.1.1;have y:=eq_of_beq q.2;exact u ⟨by omega,by omega⟩
 show wpAny _ _ (if (((sIx _ 0 lo:Nat):Int)==0&&(1)==1&&(sIx _ _ hi-sIx _ 0 lo)==items.size)=true then _ else _) _ _ s
 rw[if_neg k,vg]
 first
  |exact aa (bh (aB ⟨_,rfl,aB h⟩) a)
  |exact aa _
  |exact aa _
  |exact aa _
end
end HT
namespace L2
open PySem PySem.Spec PyProof.Rows
abbrev TO:=St->Hp->(Option Int->Hp->Prop)->Prop
def PO (X:Cx)(e:Option Expr)(t:TO):Prop:=
 ∀(a:List (Addr×Obj)) (s:Shared) (d:St) (H:Hp) (Q:Option Int->Hp->Prop),Inv X a d H s->t d H Q->
  wpAny (model X.prog X.w) X.A (evalPart e X.env) (λu i=>∃o f,Inv X a d f i/\IsPart u o/\Q o f) X.xe s
def xR:TO:=λ_ H Q=>Q none H
def EA (t:TE):TO:=λd H Q=>t d H λx a=>∃i,x=.int i/\Q (some i) a
section
variable {X:Cx}{e:Expr}{te:TE}{lo hi:Option Expr}{tl th:TO}{pos p2:Pos}
theorem xS:PO X none xR:=by
 intro a s d H Q I h;exact aB ⟨none,H,I,.none,h⟩
theorem xT (h:PE X e te):PO X (some e) (EA te):=by
 intro a s k H Q I j;refine iU (h _ s k H _ I j) λu p ⟨x,f,l,d,o⟩=>?_;obtain⟨i,rfl,q⟩:=o;obtain⟨t,rfl⟩:=d;exact⟨some i,f,l,.int i t,q⟩
def SlR (X:Cx)(r:V->Option Int->Option Int->Hp->VK->Prop):Prop:=
 ∀(a:List (Addr×Obj)) (s:Shared) (d:St) (H:Hp) (x:V) (v vl i:Value) (lo hi:Option Int) (f:Addr) (Q:VK),Inv X a d H s->Zh x v->s.heap.IsSliceOf f vl i .none->IsPart vl lo->IsPart i hi->r x lo hi H Q->
  ∃T id,typeLookup (.type T) "__getitem__"=pure (some (.builtin id))/\s.TypeIs v T/\wpAny (model X.prog X.w) X.A (getItem v (.ref f)) (EP X a d Q) X.xe s
theorem SlR.or {r a:V->Option Int->Option Int->Hp->VK->Prop}(h:SlR X r)(h':SlR X a):SlR X (λx lo hi H Q=>r x lo hi H Q\/a x lo hi H Q):=by
 intro i s d H x v vl k lo hi f Q I j l pl o q;rcases q with q|q
 ·exact h _ s d H x v vl k lo hi f Q I j l pl o q
 ·exact h' _ s d H x v vl k lo hi f Q I j l pl o q
def HP (r:V->Option Int->Option Int->Hp->VK->Prop)(te:TE)(tl th:TO):TE:=λa H Q=>te a H λx d=>tl a d λl f=>th a f λu H3=>r x l u H3 Q
theorem Uj {r:V->Option Int->Option Int->Hp->VK->Prop}(hr:SlR X r)(he:PE X e te)(hl:PO X lo tl)(hu:PO X hi th):PE X (.Subscript e (.Slice lo hi none p2) pos) (HP r te tl th):=by
 intro d s a H Q I h;refine Subscript_ (iU (he _ s a H _ I h) λv o ⟨x,P,I1,j,J⟩=>?_);refine wpAny_Slice (iU (hl _ o a P _ I1 J) λvl k ⟨l,B,G,pl,y⟩=>iU (hu _ k a B _ G y) λf s3 ⟨u,H3,N,L,q3⟩=>?_);refine aB ?_;have Z:Inv X _ a H3 {s3 with heap:=s3.heap.push {cls:=.type "slice",data:=.fields #[vl,f,.none]} }:=N.kept λb ob q=>ak _ q;obtain⟨T,id,U,i,p⟩:=hr _ _ a H3 x v vl f l u _ Q Z j (Heap.IsSliceOf.new ..) pl L q3;exact tail_any i U p (by with_unfolding_all rfl)
noncomputable def K5 (xs:List V)(lo hi:Option Int):List V:=(xs.drop (HT.sIx xs.length 0 lo)).take (HT.sIx xs.length xs.length hi-HT.sIx xs.length 0 lo)
theorem JF (xs:List V)(lo hi:Option Int):(K5 xs lo hi).length<=xs.length:=by
 unfold K5;rw[eN,eO];omega
def CJ (K:ag):V->Option Int->Option Int->Hp->VK->Prop:=λx lo hi H Q=>∃a xs,x=.ref a/\SqT K H a xs/\
 ¬(HT.sIx xs.length 0 lo=0/\HT.sIx xs.length xs.length hi=xs.length)/\∀p,H p=none->Q (.ref p) (iV H p (.tup (K5 xs lo hi)))
theorem KQ:SlR X (CJ X.K):=by
 intro j s B H x v vl J lo hi G Q I u l pl y h;obtain⟨a,xs,rfl,o,p,q⟩:=h;cases u;obtain⟨f,r,i,k⟩:=I.tuple o;have d:f.toArray.size=xs.length:=by exact r.length.symm
 refine⟨"tuple",_,bf.lookup,i.typeIs,?_⟩;refine HT.getItem_tuple_cut i l pl y (by rw[d];exact p) ?_ (by rw[d];exact k)
 rw[d];refine⟨.ref _,_,I.laid (λb ob q=>ak _ q) (au _) ?_,rfl,q _ (I.hok.fresh (au _))⟩;exact⟨aG (JF xs lo hi) k,_,(r.drop _).take _,ITN.new _ _⟩
def D1 (K:ag):R2:=λx y H Q=>∃a b xs d,x=.ref a/\y=.ref b/\SqT K H a xs/\SqT K H b d/\xs≠[]/\xs.length+d.length<=sizeLine/\
 (d=[]->Q (.ref a) H)/\(d≠[]->∀p,H p=none->Q (.ref p) (iV H p (.tup (xs++d))))
theorem Z0.nil_iff {xs:List V}{us:List Value}(r:Z0 xs us):us=[]↔xs=[]:=by
 cases r with
 |nil=>simp
 |cons _ _=>simp
theorem xU:lc X (binaryOp .Add) (D1 X.K):=by
 intro j s P H x y v u Q I N l h;obtain⟨a,b,xs,U,rfl,rfl,G,o,J,k,B,p⟩:=h;cases N;cases l;obtain⟨r,f,L,_⟩:=I.tuple G;obtain⟨i,d,p2,_⟩:=I.tuple o;refine HT.cat_tup L p2 (λz=>J (f.nil_iff.mp z)) (λz=>⟨.ref a,H,I,rfl,B (d.nil_iff.mp z)⟩) (λz=>?_) (by rw[←f.length,←d.length];exact k)
 refine⟨.ref _,_,I.laid (λb ob q=>ak _ q) (au _) ?_,rfl,p (λw=>z (d.nil_iff.mpr w)) _ (I.hok.fresh (au _))⟩;exact⟨by rw[ae];exact k,_,f.append d,ITN.new _ _⟩
end
end L2
namespace L2
open PySem PySem.Spec PyProof.Rows
noncomputable def nw (n:Nat)(i:Int):Option Nat:=if 0<=i then (if i<n then some i.toNat else none)else if -(n:Int)<=i then some (i+n).toNat else none
def lQ {a:Type}(xs:List a)(i:Int):Option a:=(nw xs.length i).bind λj=>xs[j]?
theorem xV {n:Nat}{i:Int}{j:Nat}(h:nw n i=some j):seqIndex? i n=some j/\j<n/\ -(n:Int)<=i/\i<n:=by
 unfold nw at h
 by_cases d:0<=i
 ·rw[if_pos d]at h
  by_cases a:i<n
  ·rw[if_pos a]at h;have e:=aJ h;exact⟨by rw[seqIndex_of d a,e],by omega,by omega,a⟩
  ·rw[if_neg a]at h;cases h
 ·rw[if_neg d]at h
  by_cases a: -(n)<=i
  ·rw[if_pos a]at h;have e:=aJ h;exact⟨by rw[seqIndex_neg (by omega) a,e],by omega,a,by omega⟩
  ·rw[if_neg a]at h;cases h
theorem uM {a:Type}{xs:List a}{i:Int}{v:a}(h:lQ xs i=some v):∃j,seqIndex? i xs.length=some j/\xs[j]?=some v/\j<xs.length/\ -(xs.length:Int)<=i/\i<xs.length:=by
 unfold lQ at h;cases e:nw _ i with
 |none=>rw[e]at h;cases h
 |some j=>
  rw[e]at h;obtain⟨l,k,d,f⟩:=xV e;exact⟨j,l,h,k,d,f⟩
theorem jh {a:Type}{xs:List a}{j:Nat}{v:a}(h:xs[j]?=some v):lQ xs (j:Int)=some v:=by
 have d:=(aH.mp h).1;have e:nw xs.length (j)=some j:=by
  unfold nw;rw[if_pos (by omega),if_pos (by omega)];simp
 unfold lQ;rw[e];exact h
noncomputable def wR (b:Expr):Prop:=∀o i,subscripted b false o i=operate [o,i] (getItem o i)
def IxR (X:Cx)(r:R2):Prop:=
 ∀(f a:Expr) (d:List (Addr×Obj)) (s:Shared) (i:St) (H:Hp) (x y:V) (v u:Value) (Q:VK),Inv X d i H s->Zh x v->Zh y u->r x y H Q->
  subscripted a false v u=operate [v,u] (getItem v u)->wpAny (model X.prog X.w) X.A (subscriptTail f a v u) (EP X d i Q) X.xe s
def m8 (X:Cx)(id:String)(r:V->List V->Hp->VK->Prop):Prop:=
 ∀(a:List (Addr×Obj)) (s:Shared) (d:St) (H:Hp) (x:V) (xs:List V) (v:Value) (us:List Value) (Q:VK),Inv X a d H s->Zh x v->Z0 xs us->r x xs H Q->
  wpAny (model X.prog X.w) X.A (call (.builtin id) (v::us)) (EP X a d Q) X.xe s
section
variable {X:Cx}{a b:Expr}{ta tb:TE}{pos:Pos}
theorem IxR.or {r i:R2}(h:IxR X r)(h':IxR X i):IxR X (λx y H Q=>r x y H Q\/i x y H Q):=by
 intro f d l s k H x y v u Q I o j q p;rcases q with q|q
 ·exact h _ _ _ s k H x y v u Q I o j q p
 ·exact h' _ _ _ s k H x y v u Q I o j q p
theorem xW {r:R2}(hr:IxR X r)(G:PE X a ta)(j:PE X b tb)(B:wR b):PE X (.Subscript a b pos) (si r ta tb):=by
 intro d s k H Q I h;exact Subscript_ (BN G j I h λv u i x y o p l f q=>hr a b _ i k o x y v u Q p l f q (B _ _))
def pK (K:ag):R2:=λx y H Q=>∃p xs i v,x=.ref p/\y=.int i/\SqL K H p xs/\lQ xs i=some v/\Q v H
def oN (K:ag):R2:=λx y H Q=>∃p xs i v,x=.ref p/\y=.int i/\SqT K H p xs/\lQ xs i=some v/\Q v H
def pJ:R2:=λx y H Q=>∃z i c,x=.str z/\y=.int i/\z.length<=sizeLine/\lQ z.cps.toList i=some c/\Q (.str ⟨#[c]⟩) H
theorem xX:IxR X (pK X.K):=by
 intro o k L s σ H x y v u Q I rx U h P;obtain⟨p,xs,i,z,rfl,rfl,Z,he,q⟩:=h;cases rx;obtain⟨t,rfl⟩:=U;obtain⟨B,r,pl,hz⟩:=I.list Z;obtain⟨j,f,h2,h3,h4,h5⟩:=uM he;obtain⟨w,N,G⟩:=r.get h2;have hl:=r.length;have hn:=WI;have d:EP X _ σ Q w s:=⟨z,H,I,G,q⟩
 by_cases J:0<=i
 ·have l:=by
   rw[seqIndex_of J h5]at f;exact aJ f
  exact item_listR pl.isList J (by omega) (by rw[l];simpa using N) d P
 ·have l:(i+(B.toArray.size)).toNat=j:=by
   rw[seqIndex_neg (by omega) h4]at f
   rw[aE,←hl];exact aJ f
  exact subscriptTail_builtinR pl.isList.typeIs slot_list_getitem.lookup
   (wpAny_getItem_list_neg pl.isList (by omega) (by rw[aE]<;>omega) (by omega) (by rw[l];simpa using N) ⟨rfl,d⟩) P
theorem KR:IxR X (oN X.K):=by
 intro k d o s U H x y v u Q I Z B h hs;obtain⟨p,xs,i,z,rfl,rfl,G,he,q⟩:=h;cases Z;obtain⟨t,rfl⟩:=B;obtain⟨L,r,pl,hz⟩:=I.tuple G;obtain⟨j,J,P,h3,h4,h5⟩:=uM he;obtain⟨w,N,l⟩:=r.get P;have hl:=r.length;have hn:=WI;have f:EP X _ U Q w s:=⟨z,H,I,l,q⟩;exact subscriptTail_builtinR pl.typeIs slot_tuple_getitem.lookup
  (getItem_tuple pl (by omega) (by omega) (by rw[aE,←hl];exact J) (by simpa using N) ⟨rfl,f⟩) hs
theorem KS:IxR X pJ:=by
 intro f d l s σ H x y v u Q I L o h N;obtain⟨z,i,c,rfl,rfl,Z,U,q⟩:=h;obtain⟨t,rfl⟩:=L;obtain⟨t',rfl⟩:=o;obtain⟨j,k,J,h3,B,r⟩:=uM U;have P:z.cps.toList.length=z.length:=by simp[iK]
 rw[P]at k B r;have hn:=WI;exact tail_any (cH s z t) slot_str_getitem.lookup (getItem_str (by
  have p:decide (i< -(2^63))=false:=decide_eq_false (by omega)
  have G:decide (i≥2^63)=false:=decide_eq_false (by omega)
  rw[p,G,Bool.or_false]) (by rw[k];simpa using J) ⟨.str _,H,I.tok _,⟨_,rfl⟩,q⟩) N
def Eg (K:ag):R2:=λx y H Q=>pK K x y H Q\/oN K x y H Q\/pJ x y H Q
theorem Yl:IxR X (Eg X.K):=xX.or (KR.or KS)
theorem WO (lo hi:Option Int)(n:Nat):(sliceBounds lo hi none n).1=((HT.sIx n 0 lo:Nat):Int)/\(sliceBounds lo hi none n).2.1=((HT.sIx n n hi:Nat):Int)/\(sliceBounds lo hi none n).2.2=1:=by
 refine⟨?_,?_,rfl⟩
 ·cases lo with
  |none=>simp[sliceBounds,HT.sIx]
  |some i=>
   simp only[sliceBounds,HT.sIx,ic,show (1)>0 by decide,if_true]
   by_cases h:i<0
   ·simp only[h,if_true]<;>omega
   ·simp only[h,if_false]<;>omega
 ·cases hi with
  |none=>simp[sliceBounds,HT.sIx]
  |some i=>
   simp only[sliceBounds,HT.sIx,ic,show (1)>0 by decide,if_true]
   by_cases h:i<0
   ·simp only[h,if_true]<;>omega
   ·simp only[h,if_false]<;>omega
theorem wS (d:List Value)(lo hi:Option Int):slicePick d.toArray lo hi none=((d.drop (HT.sIx d.length 0 lo)).take (HT.sIx d.length d.length hi-HT.sIx d.length 0 lo)).toArray:=by
 obtain⟨j,f,i⟩:=WO lo hi _;unfold slicePick;rw[j,f,i];simp only[sliceRange_one,pick_run,aE]<;>rfl
def Aq (K:ag):V->Option Int->Option Int->Hp->VK->Prop:=λx lo hi H Q=>∃a xs,x=.ref a/\SqL K H a xs/\∀p,H p=none->Q (.ref p) (iV H p (.lst (K5 xs lo hi)))
theorem xY:SlR X (Aq X.K):=by
 intro i s y H x v vl G lo hi B Q I l j pl u h;obtain⟨a,xs,rfl,k,q⟩:=h;cases l;obtain⟨p,r,f,o⟩:=I.list k;have d:=r.length;refine⟨"list",_,slot_list_getitem.lookup,f.isList.typeIs,?_⟩;refine wpAny_getItem_list_slice f.isList j pl u .none (by simp) ?_ (by rw[aE]<;>omega)
 rw[wS,←d];refine⟨.ref _,_,I.laid (λb ob q=>ak _ q) (au _) ?_,rfl,q _ (I.hok.fresh (au _))⟩;exact⟨aG (JF xs lo hi) o,_,0,(r.drop _).take _,aq _ rfl⟩
theorem WP:ZB X (.builtin "len") (λxs H Q=>∃p i,xs=[.ref p]/\(SqL X.K H p i\/SqT X.K H p i)/\Q (.int i.length) H):=by
 intro l s y H xs us Q I r h;obtain⟨p,i,rfl,f,q⟩:=h;obtain⟨u,rfl,o⟩:=Zx r;cases o;have hn:=WI;rcases f with f|f
 ·obtain⟨k,j,pl,v⟩:=I.list f;have d:=j.length;exact Calls.call_len_list pl.isList (by simp only[aE]<;>omega) ⟨.int _,H,I.tok _,⟨s.toks+1,by rw[aE,d]⟩,q⟩
 ·obtain⟨k,j,pl,v⟩:=I.tuple f;have d:=j.length;exact len_tuple pl (by simp only[aE]<;>omega) ⟨.int _,H,I.tok _,⟨s.toks+1,by rw[aE,d]⟩,q⟩
theorem WQ:ZB X (.builtin "len") (λxs H Q=>∃z,xs=[.str z]/\z.length<=sizeLine/\Q (.int z.length) H):=by
 intro d s f H xs us Q I r h;obtain⟨z,rfl,i,q⟩:=h;obtain⟨u,rfl,t,rfl⟩:=Zx r;have hn:=WI;exact len_str (by omega) ⟨.int _,H,I.tok _,⟨_,rfl⟩,q⟩
theorem ZB.or {f:Value}{r d:List V->Hp->VK->Prop}(h:ZB X f r)(h':ZB X f d):ZB X f (λxs H Q=>r xs H Q\/d xs H Q):=by
 intro j s i H xs us Q I rs q;rcases q with q|q
 ·exact h _ s i H xs us Q I rs q
 ·exact h' _ s i H xs us Q I rs q
theorem Jf:ZB X (.type "list") (λxs H Q=>∃p i,xs=[.ref p]/\(SqL X.K H p i\/SqT X.K H p i)/\∀l,H l=none->Q (.ref l) (iV H l (.lst i))):=by
 intro N s P H xs us Q I r h;obtain⟨p,i,rfl,k,q⟩:=h;obtain⟨u,rfl,U⟩:=Zx r;cases U;have v:∀(d:List _),Z0 i d->i.length<=sizeLine->∀(h':Heap) (j:Nat),(∀b L,s.heap.get? b=some L->h'.get? b=some L)->
   h'.get? _=some _->EP X _ P Q _ {s with heap:=h'}:=λd f y h' j kp e=>
  ⟨.ref _,_,I.laid kp (au _) (show Zw _ X.w _ h' _ (.lst i) from ⟨y,d,j,f,e⟩),rfl,q _ (I.hok.fresh (au _))⟩
 rcases k with k|k
 ·obtain⟨d,f,pl,y⟩:=I.list k;have B:=f.length;obtain⟨o,G,J,n,hd⟩:=pl.isList;exact call_list_seq p (.inl rfl) G J hd (λh' j kp e=>v d f y h' j kp e) (by simp only[aE]<;>omega)
 ·obtain⟨d,f,pl,y⟩:=I.tuple k;have B:=f.length;obtain⟨o,G,J,n,hd⟩:=pl;exact call_list_seq p (.inr rfl) G J hd (λh' j kp e=>v d f y h' j kp e) (by simp only[aE]<;>omega)
theorem wT:ZB X (.type "tuple") (λxs H Q=>∃p d,xs=[.ref p]/\((SqL X.K H p d/\∀l,H l=none->Q (.ref l) (iV H l (.tup d)))\/(SqT X.K H p d/\Q (.ref p) H))):=by
 intro y s v H xs us Q I r h;obtain⟨p,d,rfl,h⟩:=h;obtain⟨u,rfl,J⟩:=Zx r;cases J;rcases h with ⟨j,q⟩|⟨j,q⟩
 ·obtain⟨f,i,pl,G⟩:=I.list j;have k:=i.length;refine call_tuple_list pl.isList (λh' kp=>?_) (by simp only[aE]<;>omega)
  have B:Inv X _ v H {s with heap:=h'}:=I.kept kp;have L:Inv X _ v (iV H _ (.tup d)) {s with heap:=h'.push _}:=
   B.laid (λb o e=>ak _ e) (au _) (show Zw _ X.w _ _ _ _ from ⟨G,f,i,ITN.new _ _⟩)
  exact⟨.ref _,_,L,rfl,q _ (B.hok.fresh (au _))⟩
 ·obtain⟨f,i,pl,G⟩:=I.tuple j;exact call_tuple_same pl ⟨.ref p,H,I,rfl,q⟩
def Bz (K:ag)(T:String)(x:V)(H:Hp):Prop:=match x with
 |.str _=>T="str"
 |.int _=>T="int"
 |.ref p=>(T="list"/\∃xs,SqL K H p xs)\/(T="tuple"/\∃o,K.lookup p=some o/\o.cls=.type "tuple"/\o.dict=none)\/
   (T="dict"/\((∃d,H p=some (.dK d))\/∃d,H p=some (.dT d)))\/(T="set"/\∃S n,H p=some (.set S n))
 |_=>False
theorem VE {f:List (Addr×Obj)}{B:St}{H:Hp}{s:Shared}{T:String}{x:V}{v:Value}(I:Inv X f B H s)(r:Zh x v)(j:Bz X.K T x H):
  s.TypeIs v T/\∀a,v=.ref a->∃ob,s.heap.get? a=some ob/\ob.dict=none:=by
 cases x with
 |str z=>
  obtain⟨t,rfl⟩:=r;cases (j);exact⟨cH s z t,λ_ e=>nomatch e⟩
 |int i=>
  obtain⟨t,rfl⟩:=r;cases (j);exact⟨typeIs_int s i t,λ_ e=>nomatch e⟩
 |ref p=>
  cases r;rcases j with ⟨rfl,xs,q⟩|⟨rfl,o,d,y,hd⟩|⟨rfl,d⟩|⟨rfl,S,n,d⟩
  ·obtain⟨u,_,pl,_⟩:=I.list q;refine⟨pl.isList.typeIs,λa e=>?_⟩;cases e;obtain⟨o,n,e,c,hd,_⟩:=pl;exact⟨o,e,hd⟩
  ·refine⟨⟨o,I.kIn p o d,y⟩,λa e=>?_⟩;cases e;exact⟨o,I.kIn _ o d,hd⟩
  ·have z:∃o,s.heap.get? p=some o/\o.ExactDict:=by
    rcases d with ⟨k,d⟩|⟨k,d⟩
    ·obtain⟨_,_,_,_,o,_,_,e,ex,_⟩:=I.hok p _ d;exact⟨o,e,ex⟩
    ·obtain⟨_,_,_,_,o,_,_,e,ex,_⟩:=I.hok p _ d;exact⟨o,e,ex⟩
   obtain⟨o,e,ex⟩:=z;refine⟨⟨o,e,ex.1⟩,λa l=>?_⟩;cases l;exact⟨o,e,ex.2.1⟩
  ·obtain⟨o,_,_,_,e,ex,_⟩:=I.hok p _ d;refine⟨⟨o,e,ex.1⟩,λa l=>?_⟩;cases l;exact⟨o,e,ex.2.1⟩
 |_=>exact bQ j
def Bw (K:ag)(T:String)(r:V->List V->Hp->VK->Prop)(f:TE):TE:=λi H Q=>f i H λx d=>Bz K T x d/\r x [] d Q
def Hh (K:ag)(T:String)(r:V->List V->Hp->VK->Prop)(i:TE)(t:TA):TE:=λf H Q=>i f H λx d=>Bz K T x d/\t f d λxs j=>r x xs j Q
variable {o e:Expr}{es:List Expr}{to:TE}{t:TA}{name:Str}{apos cpos:Pos}{T id:String}{r:V->List V->Hp->VK->Prop}
theorem KT (G:PlainAttrs T)(i:Slot T name id)(j:typeOf (.builtin id)=pure (.type "method_descriptor"))(B:m8 X id r)(u:PE X o to)
  (d:attributeBase o name X.env (eval o X.env)=eval o X.env:=by rfl) (f:(apos.endLine==cpos.line)=true:=by rfl):PE X (.Call (.Attribute o name apos) [] [] cpos) (Bw X.K T r to):=by
 intro p s l H Q I h;refine wpAny_Call_method0_late d f (iU (u _ s l H _ I h) λv J ⟨x,y,q,k,L,P⟩=>?_);obtain⟨U,N⟩:=VE q k L;exact⟨T,id,G,i,j,U,N,e_ rfl (PySem.evalArgs_none (B _ J l y x [] v [] Q q k .nil P))⟩
theorem wk (L:PlainAttrs T)(k:Slot T name id)(l:typeOf (.builtin id)=pure (.type "method_descriptor"))(hm:m8 X id r)(G:PE X o to)(ha:PA X (e::es) t)
  (i:attributeBase o name X.env (eval o X.env)=eval o X.env:=by rfl)
  (j:((backTo cpos (starEach (e::es) X.env)).all (λx=> !x.1)&&(backToKw cpos (keywordEach [] X.env)).all (λx=>x.1.isSome)
   &&decide ((e::es).length+([]:List Keyword).length+(if ([]:List Keyword).isEmpty then 0 else 1)<30))=true:=by rfl)
  (f:(apos.endLine==cpos.line)=true:=by rfl) (hs:starEach (e::es) X.env=(false,eval e X.env)::starEach es X.env:=by rfl) (d:(backTo cpos (starEach es X.env)).any (·.1)=false:=by rfl):
  PE X (.Call (.Attribute o name apos) (e::es) [] cpos) (Hh X.K T r to t):=by
 intro u s p H Q I h;refine wpAny_Call_method_late i j f rfl (iU (G _ s p H _ I h) λv N ⟨x,H1,B,q,ty,q1⟩=>?_);obtain⟨U,h2⟩:=VE B q ty;refine⟨T,id,L,k,l,U,h2,?_⟩;have y:=ha cpos _ N p H1 _ B q1;rw[hs]at y⊢;refine e_ (by show (false||(backTo _ _).any _)=false;rw[d]<;>rfl) (Calls.evalArgs_plain ?_)
 exact iU y λus J ⟨vs,Z,I2,r2,P⟩=>hm _ J p Z x vs v us Q I2 q r2 P
end
end L2
namespace L2
open PySem PySem.Spec PyProof.Rows
def Bn (X:Cx)(id:String)(r:V->List V->Hp->VK->Prop):Prop:=
 ∀(a:List (Addr×Obj)) (s:Shared) (d:St) (H:Hp) (x:V) (xs:List V) (v:Value) (us:List Value) (Q:VK),Inv X a d H s->Zh x v->Z0 xs us->r x xs H Q->
  wpAny (model X.prog X.w) X.A (call (.builtin id) (v::us)) (EP X a d Q) X.xe s
theorem Z0.one:∀{x:V} {us:List Value},Z0 [x] us->∃u,us=[u]/\Zh x u
 |_,_,.cons r .nil=>⟨_,rfl,r⟩
theorem Z0.zero:∀{us:List Value},Z0 [] us->us=[]
 |_,.nil=>rfl
theorem Z0.dropLast {xs:List V}{us:List Value}(h:Z0 xs us):Z0 xs.dropLast us.dropLast:=by
 induction h with
 |nil=>exact .nil
 |cons r t a=>
  cases t with
  |nil=>exact .nil
  |cons q t'=>exact .cons r a
theorem Z0.rep {xs:List V}{us:List Value}(h:Z0 xs us):∀k:Nat,Z0 (av k xs).flatten (av k us).flatten
 |0=>.nil
 |k+1=>by
  exact Z0.append h (Z0.rep h k)
theorem yw {d:Type}(l:List d):l.eraseIdx (l.length-1)=l.dropLast:=by
 induction l with
 |nil=>rfl
 |cons a r f=>
  cases r with
  |nil=>rfl
  |cons b r=>
   have e:(a::b::r).length-1=((b::r).length-1)+1:=by
    have j:(a::b::r).length=r.length+2:=rfl;have i:(b::r).length=r.length+1:=rfl;omega
   rw[e,List.eraseIdx_cons_succ,f]
   all_goals rfl
theorem jL (a:List Value):∀(k:Nat) (acc:List Value),
  dW (λd f=>d++f) acc.toArray (av k a.toArray)=(acc++(av k a).flatten).toArray
 |0,acc=>by simp
 |k+1,acc=>by
  have e:acc.toArray++a.toArray=(acc++a).toArray:=by simp
  have i:(acc++a)++(av k a).flatten=acc++(av (k+1) a).flatten:=by
   rw[bS,eB,aQ]
  rw[←i,←jL a k _,←e,bS,List.foldl_cons]
section
variable {X:Cx}{pins:List (Addr×Obj)}{σ:St}{H:Hp}{s:Shared}{l b:Addr}{xs ys zs:List V}
theorem Inv.lset {d a:List Value}{n:Nat}{f:Array Value->Array Value}{t':Nat}(I:Inv X pins σ H s)(k:H l=some (.lst xs))
  (e:s.heap.get? l=some {cls:=.type "list",data:=.seq d.toArray n}) (o:f d.toArray=a.toArray) (j:Z0 ys a) (p:ys.length<=sizeLine):
  Inv X pins σ (iV H l (.lst ys)) {s with heap:=s.heap.update l (Obj.mapSeq f),toks:=t'}:=by
 have q:=PySem.IsL.update e f;rw[o]at q;refine I.write (by rw[k];exact trivial) (.inl rfl) (λv u i r=>(Heap.get?_update_other _ _ (bx i)).trans r) ⟨_,q⟩ ?_
 exact⟨p,a,_,j,q⟩
theorem Inv.lnew {a:List Value}{t':Nat}(I:Inv X pins σ H s)(d:Z0 ys a)(f:ys.length<=sizeLine):
  Inv X pins σ (iV H s.1.1.size (.lst ys)) {s with heap:=s.heap.push {cls:=.type "list",data:=.seq a.toArray},toks:=t'}:=
 I.laid (λ_ _ q=>ak _ q) (au _) ⟨f,a,0,d,aq _ rfl⟩
theorem Inv.fresh (I:Inv X pins σ H s):H s.1.1.size=none:=I.hok.fresh (au _)
theorem Inv.lstM (I:Inv X pins σ H s)(d:H l=some (.lst xs)):xs.length<=sizeLine/\∃(a:List Value) (n:Nat),Z0 xs a/\xs.length=a.length/\s.heap.get? l=some {cls:=.type "list",data:=.seq a.toArray n}:=by
 obtain⟨z,a,n,r,e⟩:=I.hok l _ d;exact⟨z,a,n,r,r.length,e⟩
theorem Uk {n:Nat}(h:n<=sizeLine):de n=false:=by
 exact decide_eq_false (by omega)
end
section
variable {X:Cx}
def xZ:V->List V->Hp->VK->Prop:=λx vs H Q=>∃l xs y,x=.ref l/\vs=[y]/\H l=some (.lst xs)/\xs.length<sizeLine/\Q .non (iV H l (.lst (xs++[y])))
theorem JG:Bn X "list.append" xZ:=by
 intro a s o H x vs v us Q I j f h;obtain⟨l,xs,y,rfl,rfl,d,p,q⟩:=h;cases j;obtain⟨u,rfl,i⟩:=f.one;obtain⟨z,k,n,r,B,e⟩:=I.lstM d;refine bV F.slot_list_append ⟨_,e,rfl⟩ F.entry_list_append (F.args_list_append_2 _ _) (PySem.list_append l _ n u (by rw[aE];omega)) ⟨e,?_⟩
 refine⟨.non,_,I.lset d e (by simp) (r.append (.cons i .nil)) ?_,rfl,q⟩
 rw[ae,aL];omega
def X0:V->List V->Hp->VK->Prop:=λx vs H Q=>∃l b xs a,x=.ref l/\vs=[.ref b]/\H l=some (.lst xs)/\H b=some (.lst a)/\xs.length+a.length<=sizeLine/\Q .non (iV H l (.lst (xs++a)))
theorem Ym:Bn X "list.extend" X0:=by
 intro i s Z H x vs v us Q I J k h;obtain⟨l,b,xs,P,rfl,rfl,j,y,N,q⟩:=h;cases J;obtain⟨u,rfl,o⟩:=k.one;cases o;obtain⟨z,d,n,r,hl,e⟩:=I.lstM j;obtain⟨U,a,p,L,B,G⟩:=I.lstM y;have hsz:d.toArray.size+a.toArray.size<=sizeLine:=by rw[aE,aE];omega
 have f:¬(!d.toArray.isEmpty&&de (d.toArray.size+a.toArray.size))=true:=by
  rw[Uk hsz,Bool.and_false];exact ay
 refine bV F.slot_list_extend ⟨_,e,rfl⟩ F.entry_list_extend (F.args_list_extend_2 _ _)
  (AutoSeq1.list_extend_list_list_0 l _ n b _ p f (by omega) (by omega)) ⟨e,G,?_⟩
 refine⟨.non,_,I.lset j e (by simp) (r.append L) ?_,rfl,q⟩
 rw[ae];omega
def Ag:V->List V->Hp->VK->Prop:=λx vs H Q=>∃l xs y,x=.ref l/\vs=[]/\H l=some (.lst xs)/\xs[xs.length-1]?=some y/\Q y (iV H l (.lst xs.dropLast))
theorem KU:Bn X "list.pop" Ag:=by
 intro i s J H x vs v us Q I p k h;obtain⟨l,xs,y,rfl,rfl,j,hy,q⟩:=h;cases p;have f:=k.zero;subst f;obtain⟨z,a,n,r,G,e⟩:=I.lstM j;obtain⟨u,B,o⟩:=r.get hy;have d:=by
  show a.toArray[a.length-1]?=some u;rw[←fo,←G];exact B
 refine bV F.slot_list_pop ⟨_,e,rfl⟩ F.entry_list_pop (F.args_list_pop_1 _) (MeetsSeq.list_pop_last l _ n u d (by rw[aE];omega)) ⟨e,?_⟩
 refine⟨y,_,I.lset j e ?_ r.dropLast ?_,o,q⟩
 ·rw[aE,List.eraseIdxIfInBounds_toArray,yw]
 ·rw[List.length_dropLast];omega
def AF:R2:=λx y H Q=>∃l b xs a,x=.ref l/\y=.ref b/\H l=some (.lst xs)/\H b=some (.lst a)/\xs.length+a.length<=sizeLine/\∀p,H p=none->Q (.ref p) (iV H p (.lst (xs++a)))
theorem KW:lc X (binaryOp .Add) AF:=by
 intro f s σ H x y v u Q I B i h;obtain⟨l,b,xs,U,rfl,rfl,k,j,N,q⟩:=h;cases B;cases i;obtain⟨z,d,n,r,hl,e⟩:=I.lstM k;obtain⟨Z,a,L,G,o,p⟩:=I.lstM j;refine PySem.P.add_list e p ?_ (by rw[aE,aE];omega)
 have J:d.toArray++a.toArray=(d++a).toArray:=by simp
 rw[J];exact⟨.ref _,_,I.lnew (r.append G) (by rw[ae];omega),rfl,q _ I.fresh⟩
def AX:R2:=λx y H Q=>∃l k xs,x=.ref l/\y=.int k/\H l=some (.lst xs)/\ -(2^63)<=k/\k<2^63/\xs.length*k.toNat<=sizeLine/\
 ∀p,H p=none->Q (.ref p) (iV H p (.lst (av k.toNat xs).flatten))
theorem J4 {d:Type}(xs:List d)(k:Nat):(av k xs).flatten.length=k*xs.length:=by
 induction k with
 |zero=>simp
 |succ k a=>rw[bS,eB,ae,a,f6,Nat.add_comm]
theorem KY:lc X (binaryOp .Mult) AX:=by
 intro J s σ H x y v u Q I rx N h;obtain⟨l,k,xs,rfl,rfl,Z,U,h2,L,q⟩:=h;cases rx;obtain⟨t,rfl⟩:=N;obtain⟨z,d,n,r,hl,e⟩:=I.lstM Z;have p:d.toArray.size*k.toNat<=sizeLine:=by rw[aE,←hl];exact L
 have i:¬d.toArray.size*k.toNat>(2^63-1)/8:=by
  have:(sizeLine)<=(2^63-1)/8:=by decide
  omega
 have j:¬(!Builtin.List.listFitsIndex k)=true:=by
  rw[fitsIndex_both U h2];exact ay
 have f:¬de (d.toArray.size*k.toNat)=true:=by
  rw[Uk p];exact ay
 have o:dW (λB G=>B++G) #[] (av (if d.toArray.isEmpty=true then 0 else k.toNat) d.toArray)=(av k.toNat d).flatten.toArray:=by
  have f0:∀m,dW (λB G=>B++G) #[] _=(av m d).flatten.toArray:=λm=>by
   have:=jL d m [];exact this
  rw[f0];cases d with
  |nil=>simp
  |cons a r'=>rw[if_neg (by simp)]
 refine wpAny_binaryOp_repeat_ref (by decide) ⟨_,e,rfl⟩ (λP=>typeIs_int P k t) noFill_list_mul iC dH repeat_list ie.lookup
  (bV dH (typeIs_int s k t) ig (g7 _ _) (int___rmul___int_list k t l _ n)
   ⟨e,rfl,⟨_,e,rfl⟩,bV F.slot_list_mul ⟨_,e,rfl⟩ F.entry_list_mul (F.args_list_mul_2 _ _) (AutoListH.list___mul___list_int_3 l _ n k t j i f) ⟨e,?_⟩⟩)
 rw[o];exact⟨.ref _,_,I.lnew (r.rep _) (by rw[J4,d3];exact L),rfl,q _ I.fresh⟩
end
end L2
namespace Att
open PySem PySem.W PySem.Calls PyProof.Rows
theorem JH {P:Params}{h:Heap}:∀(ns:List Int) (vs:List Value),WellAll P h vs (ns.map WData.int)->IntsAre vs ns:=by
 intro ns
 induction ns with
 |nil=>
  intro vs w;cases w;exact .nil
 |cons n ns d=>
  intro vs w;cases w with
  |cons a b=>
   cases a;exact .cons _ _ (d _ b)
theorem Yn {l:OpenLaw}{n:Nat}(hn:l.most=some n){P:Params}{h:Heap}{args:List WData}{f:List Value}
  (i:l.row.toRowW.claim.pre args=true) (v:WellAll P h f args):
  ∃a vs ns,f=[Value.ref a]/\args=[WData.list (ns.map WData.int)]/\h.get? a=some {cls:=.type "list",data:=.seq vs.toArray}/\IntsAre vs ns/\ns.length<=n:=by
 have u:=(pre_splitW i).1;have L:=(pre_splitW i).2;obtain⟨d,r,rfl,G,B⟩:=hasAllW_cons u;obtain rfl:=hasAllW_nil B;obtain⟨xs,rfl,I⟩:=hasW_list G;obtain⟨ns,rfl⟩:=items_int I;have j:ns.length<=n:=by
  have p:=by
   have p:=(holds_andW L).1;rw[hn]at p;exact p
  have o:=condW_of p (w_not (w_lt w_lit (w_len_list (w_arg rfl))));rw[ah]at o;refine Nat.le_of_not_lt λq=>?_;have J:(n)<((ns.length):Int):=by omega
  first
   |(rw[decide_eq_true J]at o;exact absurd o (by decide))
   |(simp at o)
 cases v with
 |cons w1 w2=>
  cases w2;cases w1 with
  |list y k=>exact⟨_,_,ns,rfl,rfl,y,JH ns _ k,j⟩
theorem Yo (l:OpenLaw)(args:List WData):l.row.toRowW.claim.post args (.bool true) args=true:=
 postW_of
  (show WShape.has [] _ _=true by first|rfl|decide|simp[WShape.has,WShape.arms,WShape.armsAll])
  (show (WTm.eq _ _).value [] _=some _ from w_eq_bool (w_res rfl) w_lit) rfl
theorem attach_call {l:OpenLaw}{n:Nat}{q:Program}{j:List Str}{XP:(Str->Option Value)->Heap->Prop}{YP:World->Heap->Prop}{d:DefRec}
  (hn:l.most=some n) (P:d.params.defaults=[])
  (call:∀(w:World) (s₀ i:Shared) (I X:Str->Option Value) (fa:Addr) (o:Obj) (Q B p:Value) (a:Addr) (vs:List Value) (ns:List Int),
   Ground q j [] XP w s₀ I X i.heap->YP w i.heap->
   i.heap.get? fa=some o->o.data=.func (docDef d.name d.params d.body d.scope Q B p)->i.heap.CodeRec B d.name->I d.name=some (.ref fa)->
   i.heap.get? a=some {cls:=.type "list",data:=.seq vs.toArray}->IntsAre vs ns->ns.length<=n->i.gens=#[]->
   codeAny (model l.prog w) callerA (.call (.ref fa) ⟨[.ref a],[]⟩) (λr J=>r=.ok (.ret (.bool true))/\OldK i.heap J.heap/\J.os=i.os/\AllBare J.gens) i):
  WalkO q j XP YP l.row.toRowW d [] (λf vs=>iL f vs):=by
 intro w s₀ i I X G Y fa o Q B p dV kV ho hd N hD L hg args Z as v hlay hrd U hlo;obtain rfl:dV=.none:=Dflts.none hD P;obtain rfl:kV=.none:=Dflts.noKw hD;obtain⟨a,vs,ns,rfl,rfl,y,k,u⟩:=Yn hn v U;refine enter_call (dm (call w _ _ I X fa o Q B p a vs ns G Y ho (fd_plain hd) N L y k u hg) λr J hq=>?_);obtain⟨rfl,h2,h3,h4⟩:=hq;exact⟨.inl ⟨.bool _,.bool _,[],rfl,λ_=>rfl,.bool _,Yo l _,λ_=>⟨List.Pairwise.nil,λ_ hm=>(nomatch hm)⟩⟩,h2,h3,h4⟩
end Att
namespace L2
open PySem PySem.Spec PyProof.Rows
theorem jM:∀{vs:List Value} {ns:List Int},IntsAre vs ns->Z0 (ns.map V.int) vs
 |_,_,.nil=>.nil
 |_,_,.cons n t h=>.cons ⟨t,rfl⟩ (jM h)
def rV (H:Hp):Prop:=∀b,H b=none\/∃o xs,H b=some (.frz o (.lst xs))
theorem vh {P:Program}{w:World}{K:ag}{U mb:Str->Option Value}{CX:l8}{k:Nat}{fa a:Addr}{fd:FuncData}{x:Str}{sp:Sp}{f:Shared}{vs:List Value}{ns:List Int}
  (KX:K.In f.heap) (hns:f.heap.Ns mainGlobals U) (j:f.heap.Ns builtinsNs mb) (hbb:∀x:Str,x≠"__name__"->mb x=bootBuiltins x) (Q:f.heap.NoLimit) (hg:f.gens=#[])
  (ha:f.heap.get? a=some {cls:=.type "list",data:=.seq vs.toArray}) (hi:IntsAre vs ns) (hl:ns.length<=sizeLine) (hr:ZN k callerA)
  (F:∀l:Heap,K.In l->l.Ns mainGlobals U->je P w K U l CX k fa fd [x] sp) (G:∀(s:Shared) (u:Value),BindsTo s fd ⟨[u],[]⟩ [(x,u)])
  (hsp:∀H:Hp,rV H->SqL K H a (ns.map V.int)->sp [.ref a] H (λv _=>v=.bl true) λ_ _ _=>False)
  (hCX:∀H e p,CX [] H f (λ_ _ _=>False) e p->False):
  codeAny (model P w) callerA (.call (.ref fa) ⟨[.ref a],[]⟩) (λr p=>r=.ok (.ret (.bool true))/\OldK f.heap p.heap/\p.os=f.os/\AllBare p.gens) f:=by
 have rv:=jM hi;have L:=hi.length;have B:∀H,rV H->SqL K H a (ns.map V.int)->HOk P w H f.heap->(∀b,H b≠none->b=a)->(H a≠none->K.lookup a=none)->
   codeAny (model P w) callerA (.call (.ref fa) ⟨[.ref a],[]⟩) (λr p=>r=.ok (.ret (.bool true))/\OldK f.heap p.heap/\p.os=f.os/\AllBare p.gens) f:=by
  intro H hO hS I hA hK;have i:∀{b:Addr} {o:Obj},f.heap.get? b=some o->H b=none->(K4 _ H).get? b=some o:=λe n=>v8 e n;have noA:∀{b:Addr} {o:Obj} {es:Array _} {ep:Nat},f.heap.get? b=some o->o.data=.dict es ep->H b=none:=λ{b o es ep} e d=>by
   cases q:H b with
   |none=>rfl
   |some u=>
    have e':=hA b (by rw[q];simp)
    subst e';rw[ha]at e;cases e;have d':=d;cases d'
  have y:∀{b:Addr} {m:Str->Option _},f.heap.Ns b m->(K4 _ H).Ns b m:=λ{b m} ⟨o,es,ep,e,d,r⟩=>⟨o,es,ep,i e (noA e d),d,r⟩;have N:=λb o e=>i (KX b o e) (by
   cases q:H b with
   |none=>rfl
   |some u=>
    have e':=hA b (by rw[q];simp)
    subst e';rw[hK (by rw[q];simp)]at e;cases e)
  have hM:Mod K U _:=⟨N,y hns,⟨mb,y j,hbb⟩,let ⟨mc,h1,h2⟩:=Q;⟨mc,y h1,h2⟩⟩;have e0:xP P w K U _ callerA [] _ H:=⟨rfl,hM,λb o e=>xE e,Nat.le_of_eq (yZ _ _),trivial,λb j=>absurd (show b∈([]:List _) from j) (by simp),I,.of_eq hg⟩
  refine dm ((F _ N (y hns)).run _ [] _ H _ _ [.ref a] _ _ hr e0 (G _ _) (.cons rfl .nil) (hsp H hO hS)) λr p h=>?_;cases r with
  |error e=>exact(hCX H e p h).elim
  |ok fl=>
   cases fl with
   |next=>exact bQ h
   |brk=>exact bQ h
   |cont=>exact bQ h
   |ret u=>
    obtain⟨v,H',os,X,un,Z,r',q⟩:=h;have q':=q;subst q';obtain rfl:u=Value.bool _:=r';refine⟨rfl,OldK.of_keep λb o e=>?_,os,X⟩;cases q:H b with
    |none=>exact un.keep b o e q (by intro z;exact absurd (show b∈([]:List _) from z) (by simp)) (by simp)
    |some u=>
     rcases hO b with z|⟨ob,xs,z⟩
     ·rw[q]at z;cases z
     ·have z2:=un.frzs b ob _ z;obtain⟨e1,_⟩:=I b _ z;obtain⟨e2,_⟩:=Z b _ z2;rw[e]at e1;cases e1;exact e2
 cases hk:K.lookup a with
 |some o=>
  have e:=KX a o hk;rw[ha]at e;cases e;refine B (λ_=>none) (λ_=>.inl rfl) (.inr ⟨_,vs.toArray,_,hk,rfl,rfl,rfl,by rw[aE,L];exact hl,by simpa using rv⟩) (λb u z=>by have J:=z;cases J) (λb z=>absurd rfl z) λz=>absurd rfl z
 |none=>
  refine B (λb=>if b=a then some (.frz {cls:=.type "list",data:=.seq vs.toArray} _)else none) (λb=>?_) (.inl (.inr ⟨{cls:=.type _,data:=.seq _},if_pos rfl⟩)) (λb u z=>?_) (λb z=>?_) λ_=>hk
  ·by_cases j:b=a
   ·exact .inr ⟨_,_,if_pos j⟩
   ·exact .inl (if_neg j)
  ·by_cases j:b=a
   ·have J:=(if_pos j).symm.trans z;cases J;subst j;exact⟨ha,by rw[ah];exact hl,vs,_,rv,ha⟩
   ·have J:=(if_neg j).symm.trans z;cases J
  ·by_cases j:b=a
   ·exact j
   ·exact absurd (if_neg j) z
end L2
namespace L2
open PySem PySem.Spec PyProof.Rows
theorem walk_of {l:PySem.W.OpenLaw}{n k:Nat}{q:Program}{p:List Str}{XP:(Str->Option Value)->Heap->Prop}{Z:World->Heap->Prop}{d:DefRec}{K:Params->ag}{CX:World->l8}{sp:World->Sp}{x:Str}
  (hn:l.most=some n) (U:n<=sizeLine) (N:d.params.defaults=[]) (hr:ZN k callerA)
  (hY:∀(w:World) (h:Heap),Z w h->(K w.params).In h)
  (F:∀(w:World) (y:Str->Option Value) (fa:Addr) (h:Heap),(K w.params).In h->h.Ns mainGlobals y->y d.name=some (.ref fa)->
   ∃L:FuncData,(∀(s:Shared) (u:Value),BindsTo s L ⟨[u],[]⟩ [(x,u)])/\
    ∀i:Heap,(K w.params).In i->i.Ns mainGlobals y->je l.prog w (K w.params) y i (CX w) k fa L [x] (sp w))
  (Q:∀(w:World) (H:Hp) (a:Addr) (ns:List Int),ns.length<=n->rV H->SqL (K w.params) H a (ns.map V.int)->sp w [.ref a] H (λv _=>v=.bl true) λ_ _ _=>False)
  (P:∀(w:World) (H:Hp) (s:Shared) (e:Value) (J:Shared),CX w [] H s (λ_ _ _=>False) e J->False):
  PySem.W.WalkO q p XP Z l.row.toRowW d [] (λf vs=>iL f vs):=by
 refine Att.attach_call hn N λw s₀ s₁ y mb fa o pm cd doc a vs ns G Y ho hd hcd I B r j hg=>?_;have X:=hY w _ Y;obtain⟨L,hb,hF⟩:=F w y fa _ X G.T.g I;exact vh X G.T.g G.T.b G.T.builtins G.T.nolimit hg B r (aG j U) hr hF hb (λH hO hS=>Q w H a ns j hO hS) λH e J=>P w H _ e J
end L2
namespace L2
open PySem PySem.Spec PyProof.Rows
noncomputable def ZC (s:Stmt):Arguments:=match s with
 |.FunctionDef _ a _ _ _ _ _ _ _ _=>a
 |_=>{posonlyargs:=[],args:=[],vararg:=none,kwonlyargs:=[],kw_defaults:=[],kwarg:=none,defaults:=[]}
noncomputable def zP (s:Stmt):List Stmt:=match s with
 |.FunctionDef _ _ b _ _ _ _ _ _ _=>b
 |_=>[]
noncomputable def zx (s:Stmt):Scope:=match s with
 |.FunctionDef _ _ _ _ _ _ sc _ _ _=>sc
 |_=>{kind:=.function,names:=[],isGenerator:=false,isCoroutine:=false}
abbrev m7:l8:=λ_ _ _ _ _ _=>False
structure Fun (K:ag) (x qual:Str) (st:Stmt) (f:Addr) (fd:FuncData):Prop where
 ex:∃(oc:Value) (od:Option Addr) (kV doc pm:Value) (an:Option Addr) (cdv ct:Value) (osl:Array (Option Value)),
  fd=bv x qual (ZC st) (zP st) (zx st) .none kV doc pm an cdv ct/\K.lookup f=some ⟨oc,od,.func fd,osl⟩/\dn K cdv qual=true
 kp:bE K (.ref f)=true
section
variable {P:Program}{w:World}{K:ag}{mg:Str->Option Value}{base:Heap}
theorem Fun.ok {x a:Str}{st:Stmt}{f:Addr}{o:FuncData}{N l:List Str}{k:Nat}{sp:Sp}(F:Fun K x a st f o)(S:j5 N l (zx st))(len:∀vs H Q E,sp vs H Q E->vs.length=l.length)
  (d:∀(cdv:Value) (A:Around) (outer:List Env) (s:Shared) (H:Hp) (vs:List V) (Q:VK) (E:XK),ZN k (A.deeper (envOfC a (zx st) s.1.1.size f cdv))->sp vs H Q E->
   ∃t,PSs (WN m7 P w K mg base N a (zx st) f cdv A outer s H E).nox (zP st) t/\t {nx:=λ_ p=>Q .non p,rt:=Q} (start N vs) H):je P w K mg base m7 (k+1) f o l sp:=by
 obtain⟨G,v,kV,r,y,B,cdv,ct,u,rfl,lk,i⟩:=F.ex;refine KP lk i S len λA outer s H vs Q E hr j=>?_;obtain⟨t,h,q⟩:=d cdv A _ s H vs Q E hr j;exact⟨t,h.nox,q⟩
theorem Fun.binds {x a:Str}{st:Stmt}{f:Addr}{l:FuncData}{j:List Str}(F:Fun K x a st f l)
  (h:∀(kV d k:Value) (i:Option Addr) (cdv ct:Value) (us:List Value),us.length=j.length->bindArgs (bv x a (ZC st) (zP st) (zx st) .none kV d k i cdv ct) ⟨us,[]⟩=pure (j.zip us)):Binds K l j []:=by
 obtain⟨r,q,kV,d,k,i,cdv,ct,p,rfl,lk,o⟩:=F.ex;exact .all (h kV d k i cdv ct)
theorem VF {x a:Str}{st:Stmt}{f:Addr}{q:Value}{p j:Option Addr}{i:Array (Option Value)}{kV d o cdv ct:Value}(l:K.lookup f=some ⟨q,p,.func (bv x a (ZC st) (zP st) (zx st) .none kV d o j cdv ct),i⟩)
  (c:dn K cdv a=true) (k:bE K (.ref f)=true):Fun K x a st f (bv x a (ZC st) (zP st) (zx st) .none kV d o j cdv ct):=⟨⟨q,p,kV,d,o,j,cdv,ct,i,rfl,l,c⟩,k⟩
end
section
variable {X:Cx}
theorem pv (i:Nat){x:Str}{pos:Pos}(f:X.N[i]?=some x:=by rfl)(d:pV X.env.scope x:=by first|exact Or.inl rfl|exact Or.inr (Or.inl rfl)|exact Or.inr (Or.inr rfl))(hd:(x==("__debug__":Str))=false:=by decide)
  (a:(x==("__classdict__":Str))=false:=by decide):PE X (.Name x pos) (Jp i):=Ks f d hd a
end
def zy (H a:Hp):Prop:=∀b o,H b=some o->a b=some o
theorem zy.refl (H:Hp):zy H H:=λ_ _ h=>h
theorem zy.trans {H d f:Hp}(a:zy H d)(b:zy d f):zy H f:=λc o h=>b c o (a c o h)
theorem zy.free {H a:Hp}(e:zy H a){l:Addr}(h:a l=Option.none):H l=Option.none:=by
 cases q:H l with
 |none=>rfl
 |some o=>
  rw[e l o q]at h;cases h
end L2
namespace L2
open PySem PySem.Spec PyProof.Rows PySem.W
theorem Ul {env:Env}{outer:List Env}{L:Addr}(h:env.frame=some L):lK (env::outer)=L::lK outer:=by
 unfold lK;rw[d9,h]
structure z1a (P:Program) (w:World) (outer:List Env) (H:Hp) (s s':Shared) (ea:Addr) (cls a0:Value) (B:Heap) (H':Hp):Prop where
 os:s'.os=s.os
 bare:AllBare s'.gens
 fly:Heap.FlyingW B outer ea cls a0 s'.heap
 hok:HOk P w H' B
 un:Un (lK outer) [] H H' s.heap s'.heap
 inB:∀b o,s.heap.get? b=some o->b∉lK outer->(H b=none->B.get? b=some o)/\∃o',B.get? b=some o'
def lh (P:Program)(w:World):l8:=λouter H s E e i=>∃a cls f B d,e=.ref a/\z1a P w outer H s i a cls f B d/\E cls none d
section
variable {X:Cx}{pins:List (Addr×Obj)}{σ:St}{H H':Hp}{s s':Shared}{ea:Addr}{cls a0:Value}{B:Heap}{h' h'':Heap}
theorem Inv.frNf (I:Inv X pins σ H s):∀b∈lK X.stack,H b=none/\∃o,s.heap.get? b=some o/\∀vs,o.data≠.fields vs:=λb a=>⟨I.stkFree b a,(I.stack.mem a).2⟩
theorem Inv.old (I:Inv X pins σ H s){b:Addr}{o:Obj}(f:X.stack=X.env::X.outer)(a:X.env.frame=some X.env.locals)(e:X.s₀.heap.get? b=some o)(d:b∉lK X.outer):b∉lK X.stack:=by
 rw[f,Ul a];intro z;rcases am.mp z with z|z
 ·exact absurd (aP (aC e) I.ok.above) (by rw[z];exact bC _)
 ·exact d z
theorem Yp {X:Cx}(f:X.stack=X.env::X.outer)(a:X.env.frame=some X.env.locals){b:Addr}(d:b∈lK X.outer):b∈lK X.stack:=by
 rw[f,Ul a];exact ai _ d
theorem z1a.out (I:Inv X pins σ H s)(l:X.stack=X.env::X.outer)(j:X.env.frame=some X.env.locals)(hex:X.ex=[])(L:z1a X.prog X.w X.stack H s s' ea cls a0 B H')
  (v:Heap.FlyingW B X.outer ea cls a0 h') (r:s'.heap.UpToSlots h'):z1a X.prog X.w X.outer X.H₀ X.s₀ {s' with heap:=h'} ea cls a0 B H' where
 os:=L.os.trans I.os
 bare:=L.bare
 fly:=v
 hok:=L.hok
 inB:=λb o e a=>by
  have nx:b∉X.ex:=by rw[hex];simp
  obtain⟨i,d⟩:=I.base.there b o e nx;have k:=I.old l j e a;exact⟨λn=>(L.inB b o (I.base.keep b o e n a nx) k).1 (I.base.free b o e n nx),(L.inB b i d k).2⟩
 un:=by
  have nx:∀b,b∉X.ex:=λb=>by rw[hex];simp
  have f:∀b o,X.s₀.heap.get? b=some o->X.H₀ b=none->b∈lK X.outer->∃r,h'.get? b=some {o with slots:=r}:=λb o e n a=>by
   obtain⟨p,d⟩:=I.base.slot b o e n a (nx b);have N:=I.base.free b o e n (nx b);obtain⟨Z,U⟩:=L.un.slot b _ d N (Yp l j a) (by simp)
   obtain⟨_,o3,G,nf⟩:=I.frNf b (Yp l j a);rw[d]at G;cases G;obtain⟨u,P⟩:=r b _ U nf;exact⟨u,P⟩
  refine⟨λb o e n a _=>?_,λb o e n a _=>f b o e n a,λb o e n _=>?_,λb o e _=>?_,λb xs e=>L.un.tups b xs (I.base.tups b xs e),λb o xs e=>L.un.frzs b o xs (I.base.frzs b o xs e),λb J q e=>L.un.tbls b J q (I.base.tbls b J q e)⟩
  ·exact v.1 b o ((L.inB b o (I.base.keep b o e n a (nx b)) (I.old l j e a)).1 (I.base.free b o e n (nx b)))
  ·obtain⟨i,d⟩:=I.base.there b o e (nx b);exact L.un.free b i d (I.base.free b o e n (nx b)) (by simp)
  ·by_cases a:b∈lK X.outer
   ·obtain⟨p,d⟩:=f b o e (I.ok.frf b a) a;exact⟨_,d⟩
   ·obtain⟨i,d⟩:=I.base.there b o e (nx b);obtain⟨y,Q⟩:=(L.inB b i d (I.old l j e a)).2;exact⟨y,v.1 b y Q⟩
end
section
variable {P:Program}{w:World}{K:Frag}{mg:Str->Option Value}{base:Heap}{N:List Str}{qual:Str}{scope:Scope}{f:Addr}{cd:Value}{A:Around}{outer:List Env}{s:Shared}{H:Hp}{E:XK}
theorem uN:Zc (lh P w) (WN (lh P w) P w K mg base N qual scope f cd A outer s H E) E:=by
 intro a r p q e u I ⟨k,cls,d,B,j,o,L,hE⟩;subst o;exact wpAny_leaves_onW I.ok.frames rfl L.fly λh' l i=>⟨k,cls,d,B,j,rfl,L.out I rfl rfl rfl l i,hE⟩
end
end L2
namespace L2
open PySem PySem.Spec PyProof.Rows PySem.W
noncomputable def Bg (cls:Value)(a:Addr)(h:Heap):Prop:=∃o,h.get? a=some o/\o.cls=cls
noncomputable abbrev Cx.try' (X:Cx)(pn:List (Addr×Obj))(xe:Value->Shared->Prop):Cx:={X with pn:=pn,xe:=xe}
section
variable {X:Cx}{pins pins':List (Addr×Obj)}{σ:St}{H H':Hp}{s s':Shared}{xe:Value->Shared->Prop}
theorem Cx.Ok.try' (ok:X.Ok){pn:List (Addr×Obj)}:(X.try' pn xe).Ok:=
 ⟨ok.mod,ok.kind,ok.glob,ok.blt,ok.above,ok.inj,ok.has,ok.cab,ok.hd,ok.frames,ok.stk,ok.exf,ok.bs,ok.bsz,ok.noex,ok.exfs,ok.funs,ok.frf⟩
theorem Cx.Ok.untry {pn:List (Addr×Obj)}(ok:(X.try' pn xe).Ok):X.Ok:=
 ⟨ok.mod,ok.kind,ok.glob,ok.blt,ok.above,ok.inj,ok.has,ok.cab,ok.hd,ok.frames,ok.stk,ok.exf,ok.bs,ok.bsz,ok.noex,ok.exfs,ok.funs,ok.frf⟩
theorem Inv.try' (I:Inv X pins σ H s)(xe:Value->Shared->Prop):Inv (X.try' (X.pn++pins) xe) [] σ H s:=
 ⟨I.ok.try',I.os,I.bare,I.base,I.loc,I.cell,I.free,I.freeC,λp hp=>I.pin p (by simpa using hp),I.hok,I.len⟩
theorem Inv.untry (I:Inv (X.try' (X.pn++pins) xe) pins' σ H s):Inv X pins σ H s:=
 ⟨I.ok.untry,I.os,I.bare,I.base,I.loc,I.cell,I.free,I.freeC,λp hp=>I.pin p (bM _ hp),I.hok,I.len⟩
theorem SP.untry {D:yg}{f:Flow}{pins':List (Addr×Obj)}(h:SP (X.try' (X.pn++pins) xe) pins' D f s'):SP X pins D f s':=by
 cases f with
 |next=>obtain⟨σ',H',I,q⟩:=h;exact⟨σ',H',I.untry,q⟩
 |brk=>obtain⟨σ',H',I,q⟩:=h;exact⟨σ',H',I.untry,q⟩
 |cont=>obtain⟨σ',H',I,q⟩:=h;exact⟨σ',H',I.untry,q⟩
 |ret u=>obtain⟨v,σ',H',I,r,q⟩:=h;exact⟨v,σ',H',I.untry,r,q⟩
end
end L2
namespace L2
open PySem PySem.Spec PyProof.Rows PySem.W
end L2
namespace PySem
open PySem.W
end PySem
namespace L2
open PySem PySem.Spec PyProof.Rows PySem.W
section
variable {X:Cx}{pins:List (Addr×Obj)}{σ:St}{H H':Hp}{s s':Shared}{ea C:Addr}{cls a0:Value}{B:Heap}{h':Heap}
def KZ (X:Cx)(E:XK):Prop:=∀(pins:List (Addr×Obj)) (σ:St) (H:Hp) (s:Shared) (e:Value) (s':Shared) (C:Addr) (m:Str->Option Value) (f:Value->Shared->Prop) (a:Env),Inv X pins σ H s->s.heap.Ns C m->H C=none->X.s₀.1.1.size<=C->C∉lK X.stack->a.frame=X.env.frame->lh X.prog X.w X.stack H s E e s'->
 wpAny (model X.prog X.w) X.A (noteFrame e a) (λ_ d=>∃m,d.heap.Ns C m/\∀h',c9 C d.heap h'->∀env:Env,env.locals=C->wpAny (model X.prog X.w) X.A (passOn "comprehension.variables-let-go" e env:Sem Value) (λ_ _=>False) X.xe {d with heap:=h'}) f s'
theorem J6 {E:XK}(h:E=λ_ _ _=>False):KZ X E:=λpins σ H s e s' C m d a I _ _ _ _ _ ⟨_,_,_,_,_,_,_,z⟩=>by subst h;exact z.elim
end
end L2
namespace L2
open PySem PySem.Spec PyProof.Rows
theorem PE.imp {X:Cx}{e:Expr}{t t':TE}(h:PE X e t)(i:∀a H Q,t' a H Q->t a H Q):PE X e t':=λd s a H Q I q=>h _ s a H Q I (i a H Q q)
theorem PT.imp {X:Cx}{e:Expr}{t t':TT}(h:PT X e t)(i:∀a H Q,t' a H Q->t a H Q):PT X e t':=λd s a H Q I q=>h _ s a H Q I (i a H Q q)
theorem PA.imp {X:Cx}{e:List Expr}{t t':TA}(h:PA X e t)(i:∀a H Q,t' a H Q->t a H Q):PA X e t':=λpos d s a H Q I q=>h pos _ s a H Q I (i a H Q q)
theorem PS.imp {X:Cx}{e:Stmt}{t t':TS}(h:PS X e t)(i:∀D a H,t' D a H->t D a H):PS X e t':=λd s a H D I q=>h _ s a H D I (i D a H q)
theorem PSs.imp {X:Cx}{e:List Stmt}{t t':TS}(h:PSs X e t)(i:∀D a H,t' D a H->t D a H):PSs X e t':=λd s a H D I q=>h _ s a H D I (i D a H q)
end L2
namespace PV
open PySem
noncomputable def WR:Expr->Bool
 |.Starred _ _=>false
 |_=>true
theorem zU {e:Expr}{rest:List Expr}{env:Env}(h:WR e=true):starEach (e::rest) env=(false,eval e env)::starEach rest env:=by
 cases e<;>first|rfl|cases h
theorem mz {a b:Expr}{env:Env}(h:WR a=true)(h':WR b=true):starEach [a,b] env=[(false,eval a env),(false,eval b env)]:=by
 rw[zU h,zU h'];rfl
theorem li {a:Expr}{env:Env}(h:WR a=true):starEach [a] env=[(false,eval a env)]:=by
 rw[zU h];rfl
theorem Zn {pos:Pos}{env:Env}:∀{a:List Expr},a.all WR=true->((backTo pos (starEach a env)).any λx=>x.fst)=false
 |[],_=>rfl
 |e::a,h=>by
  rw[df,ar]at h;rw[zU h.1];have:=Zn (pos:=pos) (env:=env) h.2;show (false||((backTo pos _).any λx=>x.fst))=false
  rw[this];rfl
open PySem PySem.Spec PyProof.Rows L2
noncomputable abbrev Sg:=L2.St
inductive T where
 |non|bl (b:Bool)|int (i:Int)|str (x:Str)|tup (xs:List T)|lst (xs:List T)|fz (xs:List T)
inductive R (α:Type) where
 |ok (a:α)|ex (c:Nat)|bad
noncomputable def R.bind {i d:Type}(r:R i)(f:i->R d):R d:=match r with
 |.ok a=>f a
 |.ex c=>.ex c
 |.bad=>.bad
mutual
inductive Rep (H:Hp):V->T->Prop where
 |non:Rep H .non .non
 |bl (b:Bool):Rep H (.bl b) (.bl b)
 |int (i:Int):Rep H (.int i) (.int i)
 |str (x:Str):Rep H (.str x) (.str x)
 |tup {a:Addr} {xs:List V} {ts:List T}:H a=some (.tup xs)->zJ H xs ts->Rep H (.ref a) (.tup ts)
 |lst {a:Addr} {xs:List V} {ts:List T}:H a=some (.lst xs)->zJ H xs ts->Rep H (.ref a) (.lst ts)
 |fz {a:Addr} {o:Obj} {xs:List V} {ts:List T}:H a=some (.frz o (.lst xs))->zJ H xs ts->Rep H (.ref a) (.fz ts)
inductive zJ (H:Hp):List V->List T->Prop where
 |nil:zJ H [] []
 |cons {v:V} {t:T} {vs:List V} {ts:List T}:Rep H v t->zJ H vs ts->zJ H (v::vs) (t::ts)
end
mutual
theorem Rep.mono {H a:Hp}(s:zy H a):∀{v:V} {t:T},Rep H v t->Rep a v t
 |_,_,.non=>.non
 |_,_,.bl b=>.bl b
 |_,_,.int i=>.int i
 |_,_,.str x=>.str x
 |_,_,.tup h r=>.tup (s _ _ h) (zJ.mono s r)
 |_,_,.lst h r=>.lst (s _ _ h) (zJ.mono s r)
 |_,_,.fz h r=>.fz (s _ _ h) (zJ.mono s r)
theorem zJ.mono {H a:Hp}(s:zy H a):∀{v:List V} {t:List T},zJ H v t->zJ a v t
 |_,_,.nil=>.nil
 |_,_,.cons h r=>.cons (Rep.mono s h) (zJ.mono s r)
end
theorem zJ.length {H:Hp}:∀{vs:List V} {ts:List T},zJ H vs ts->vs.length=ts.length
 |_,_,.nil=>rfl
 |_,_,.cons _ r=>congrArg _ (zJ.length r)
theorem zJ.get {H:Hp}:∀{vs:List V} {ts:List T} {i:Nat} {t:T},zJ H vs ts->ts[i]?=some t->∃v,vs[i]?=some v/\Rep H v t
 |_,_,_,_,.nil,e=>by simp at e
 |_,_,0,_,.cons r _,e=>by simp at e;subst e;exact⟨_,rfl,r⟩
 |_,_,i+1,t,.cons _ q,e=>by
  obtain⟨v,d,a⟩:=zJ.get q (by simpa using e)
  exact⟨v,by simpa using d,a⟩
theorem zJ.getV {H:Hp}:∀{vs:List V} {ts:List T} {i:Nat} {v:V},zJ H vs ts->vs[i]?=some v->∃t,ts[i]?=some t/\Rep H v t
 |_,_,_,_,.nil,e=>by simp at e
 |_,_,0,_,.cons r _,e=>by simp at e;subst e;exact⟨_,rfl,r⟩
 |_,_,i+1,v,.cons _ q,e=>by
  obtain⟨t,d,a⟩:=zJ.getV q (by simpa using e)
  exact⟨t,by simpa using d,a⟩
theorem zJ.append {H:Hp}:∀{vs ws:List V} {ts us:List T},zJ H vs ts->zJ H ws us->zJ H (vs++ws) (ts++us)
 |_,_,_,_,.nil,q=>q
 |_,_,_,_,.cons r t,q=>.cons r (zJ.append t q)
theorem zJ.take {H:Hp}:∀{vs:List V} {ts:List T} (n:Nat),zJ H vs ts->zJ H (vs.take n) (ts.take n)
 |_,_,0,_=>.nil
 |_,_,_+1,.nil=>.nil
 |_,_,n+1,.cons r t=>.cons r (zJ.take n t)
theorem zJ.drop {H:Hp}:∀{vs:List V} {ts:List T} (n:Nat),zJ H vs ts->zJ H (vs.drop n) (ts.drop n)
 |_,_,0,r=>r
 |_,_,_+1,.nil=>.nil
 |_,_,n+1,.cons _ t=>zJ.drop n t
theorem zJ.rep {H:Hp}{vs:List V}{ts:List T}(h:zJ H vs ts):∀n:Nat,zJ H (av n vs).flatten (av n ts).flatten
 |0=>.nil
 |n+1=>by
  exact h.append (zJ.rep h n)
theorem zJ.nil_iff {H:Hp}{vs:List V}{ts:List T}(h:zJ H vs ts):vs=[]↔ts=[]:=by
 cases h<;>simp
def zS (B H a:Hp):Hp:=λb=>match H b with
 |none=>a b
 |some _=>B b
theorem Zd {B H a:Hp}{b:Addr}(h:H b=none):zS B H a b=a b:=by unfold zS;rw[h]
theorem Zi {B H a:Hp}{b:Addr}{o:HO}(h:H b=some o):zS B H a b=B b:=by unfold zS;rw[h]
theorem zS.ge {B H a:Hp}(s:zy B H)(d:zy H a):zy B (zS B H a):=λb o h=>by
 rw[Zi (s b o h)];exact h
theorem zS.le {B H a:Hp}(s:zy B H)(d:zy H a):zy (zS B H a) a:=λb o h=>by
 cases q:H b with
 |none=>rw[Zd q]at h;exact h
 |some u=>rw[Zi q]at h;exact d b o (s b o h)
theorem zS.self (B H:Hp)(s:zy B H):zS B H H=B:=by
 funext b
 cases q:H b with
 |none=>
  rw[Zd q,q];cases z:B b with
  |none=>rfl
  |some o=>rw[s b o z]at q;cases q
 |some u=>rw[Zi q]
theorem zS.trans {B H a d:Hp}(i:zy H a)(f:zy a d):zS (zS B H a) a d=zS B H d:=by
 funext b
 cases q:H b with
 |none=>
  rw[Zd q];cases z:a b with
  |none=>rw[Zd z]
  |some o=>rw[Zi z,Zd q,z,f b o z]
 |some u=>rw[Zi q,Zi (i b u q),Zi q]
inductive Fd where
 |tv (t:T)|tl (ts:List T)
noncomputable abbrev Ob:=Nat×List (Str×Fd)
noncomputable def X1:List Str:=["kind","remaining","done","undone","first","last","answered"]
def mY (vs:List (Str×V)):Prop:=∀f,f∉X1->vs.lookup f=none
inductive Sl where
 |un|vl (t:T)|ow (ts:List T)|xc (c:Nat)|ob (k n:Nat)|oc (k:Nat) (fs:List (Str×Fd))|st (os:List Ob)
noncomputable def Sl.isS:Sl->Bool
 |.ob _ _=>true
 |.st _=>true
 |_=>false
noncomputable def Sl.isO:Sl->Bool
 |.ob _ _=>true
 |.oc _ _=>true
 |.st _=>true
 |_=>false
noncomputable abbrev En:=List Sl
structure Fx where
 B0:Hp
 H0:Hp
 E:XK
 cl:Nat->Value
 as:List Addr
def yx (ρ:En)(a:Sg)(l:Addr):Prop:=∀(j:Nat) (us:List T),ρ[j]?=some (Sl.ow us)->a[j]?≠some (some (V.ref l))
def rP (Y:Fx)(B:Hp)(ρ:En)(a:Sg)(H:Hp)(o:Addr->Prop)(v:V):Fd->Prop
 |.tv t=>Rep B v t
 |.tl ts=>∃l xs,v=.ref l/\B l=none/\Y.H0 l=none/\H l=some (.lst xs)/\zJ B xs ts/\yx ρ a l/\o l
def FsO (B H:Hp)(vs:List (Str×V))(fs:List (Str×Fd)):Prop:=∀(m:Nat) (f:Str) (d:Fd),fs[m]?=some (f,d)->∃v,vs[m]?=some (f,v)/\match d with
 |.tv t=>Rep B v t
 |.tl ts=>∃l xs,v=.ref l/\H l=some (.lst xs)/\zJ B xs ts
theorem FsO.mono {B i H j:Hp}{vs:List (Str×V)}{fs:List (Str×Fd)}(h:FsO B H vs fs)(s:zy B i)(o:zy H j):FsO i j vs fs:=λm f d e=>by
 obtain⟨v,k,r⟩:=h m f d e;refine⟨v,k,?_⟩;cases d with
 |tv t=>exact Rep.mono s r
 |tl ts=>obtain⟨l,xs,a,b,c⟩:=r;exact⟨l,xs,a,o _ _ b,c.mono s⟩
structure StI (Y:Fx) (B:Hp) (ρ:En) (σ:Sg) (H:Hp) (as:List Addr) (O:Addr->Option (Nat×Nat)):Prop where
 pre:Y.as<+:as
 len:∀(i:Nat) (os:List Ob),ρ[i]?=some (Sl.st os)->as.length=os.length
 one:∀(i j:Nat) (os os':List Ob),ρ[i]?=some (Sl.st os)->ρ[j]?=some (Sl.st os')->i=j
 ob:∀(i k n:Nat),ρ[i]?=some (Sl.ob k n)->∃a C dx vs,as[n]?=some a/\σ[i]?=some (some (V.ref a))/\Y.cl k=.ref C/\H a=some (.ins C dx vs)/\B a=none/\Y.H0 a=none/\mY vs
 oc:∀(i k:Nat) (fs:List (Str×Fd)),ρ[i]?=some (Sl.oc k fs)->∃a C dx vs,σ[i]?=some (some (V.ref a))/\Y.cl k=.ref C/\Y.H0 a=some (.ins C dx vs)/\mY vs/\FsO B Y.H0 vs fs
 st:∀(i:Nat) (os:List Ob),ρ[i]?=some (Sl.st os)->∀(n k:Nat) (fs:List (Str×Fd)),os[n]?=some (k,fs)->∃a C dx vs,as[n]?=some a/\Y.cl k=.ref C/\H a=some (.ins C dx vs)/\B a=none/\Y.H0 a=none/\O a=some (n,0)/\(vs.length=fs.length/\mY vs)/\
  ∀(m:Nat) (f:Str) (d:Fd),fs[m]?=some (f,d)->∃v,vs[m]?=some (f,v)/\rP Y B ρ σ H (λl=>O l=some (n,m+1)) v d
structure SI (Y:Fx) (B:Hp) (ρ:En) (σ:Sg) (H:Hp):Prop where
 s0:zy Y.B0 Y.H0
 sH:zy Y.H0 H
 sB:zy B H
 old:∀b o,Y.H0 b=some o->B b=Y.B0 b
 len:ρ.length=σ.length
 vl:∀(i:Nat) (t:T),ρ[i]?=some (Sl.vl t)->∃v:V,σ[i]?=some (some v)/\Rep B v t
 ow:∀(i:Nat) (ts:List T),ρ[i]?=some (Sl.ow ts)->∃(a:Addr) (xs:List V),σ[i]?=some (some (V.ref a))/\B a=none/\Y.H0 a=none/\H a=some (.lst xs)/\zJ B xs ts/\
  ∀(j:Nat) (us:List T),j≠i->ρ[j]?=some (Sl.ow us)->σ[j]?≠some (some (V.ref a))
 xc:∀(i:Nat) (c:Nat),ρ[i]?=some (Sl.xc c)->∃a:Addr,σ[i]?=some (some (V.ref a))/\B a=some (.ext (Bg (Y.cl c) a))
 st:∃as O,StI Y B ρ σ H as O
theorem StI.on {Y J:Fx}{B B':Hp}{ρ p:En}{σ σ':Sg}{H H':Hp}{as:List Addr}{O:Addr->Option (Nat×Nat)}(x:StI Y B ρ σ H as O)(r:∀(i:Nat) (s:Sl),s.isO=true->p[i]?=some s->ρ[i]?=some s/\σ'[i]?=σ[i]?)(hB:zy B B')(hc:J.cl=Y.cl)(hA:J.as=Y.as)(h0:zy Y.H0 J.H0)
  (hH:∀b o,H b=some o->B b=none->Y.H0 b=none->((∃C q vs,o=.ins C q vs)\/yx ρ σ b)->H' b=some o/\B' b=none/\J.H0 b=none/\(yx ρ σ b->yx p σ' b)):StI J B' p σ' H' as O where
 pre:=by rw[hA];exact x.pre
 len:=λi os h=>x.len i os (r i _ rfl h).1
 one:=λi j os os' G U=>x.one i j os os' (r i _ rfl G).1 (r j _ rfl U).1
 ob:=λi k n h=>by
  obtain⟨G,U⟩:=r i _ rfl h;obtain⟨a,C,q,vs,P,L,X,y,I,Z⟩:=x.ob i k n G;obtain⟨Q,u,N,_⟩:=hH a _ y I Z.1 (.inl ⟨_,_,_,rfl⟩);rw[U,hc];exact⟨a,C,q,vs,P,L,X,Q,u,N,Z.2⟩
 oc:=λi k fs h=>by
  obtain⟨G,U⟩:=r i _ rfl h;obtain⟨a,C,q,vs,P,L,X,y,I⟩:=x.oc i k fs G;rw[U,hc];exact⟨a,C,q,vs,P,L,h0 _ _ X,y,I.mono hB h0⟩
 st:=λi os h n k fs e=>by
  obtain⟨a,C,q,vs,P,L,X,y,I,Z,e7,e8⟩:=x.st i os (r i _ rfl h).1 n k fs e;obtain⟨Q,u,N,_⟩:=hH a _ X y I (.inl ⟨_,_,_,rfl⟩);refine⟨a,C,q,vs,P,by rw[hc];exact L,Q,u,N,Z,e7,λm f d z=>?_⟩
  obtain⟨v,z1,z2⟩:=e8 m f d z;refine⟨v,z1,?_⟩;cases d with
  |tv t=>exact Rep.mono hB z2
  |tl ts=>
   obtain⟨l,xs,p1,p2,p3,p4,p5,p6,p7⟩:=z2;obtain⟨Q,u,N,g4⟩:=hH l _ p4 p2 p3 (.inr p6);exact⟨l,xs,p1,u,N,Q,p5.mono hB,g4 p6,p7⟩
theorem StI.no {Y:Fx}{B:Hp}{ρ:En}{d:Sg}{H:Hp}(h:∀(i:Nat) (s:Sl),s.isO=true->ρ[i]?≠some s):∃a O,StI Y B ρ d H a O:=⟨Y.as,λ_=>none,cu _,λi os e=>(h i _ rfl e).elim,λi j os f e=>(h i _ rfl e).elim,λi k n e=>(h i _ rfl e).elim,λi k fs e=>(h i _ rfl e).elim,λi os e=>(h i _ rfl e).elim⟩
theorem SI.grow {Y:Fx}{B:Hp}{ρ:En}{k:Sg}{H j:Hp}(I:SI Y B ρ k H)(s:zy H j):SI Y (zS B H j) ρ k j where
 s0:=I.s0
 sH:=I.sH.trans s
 sB:=zS.le I.sB s
 old:=λb o h=>by rw[Zi (I.sH b o h)];exact I.old b o h
 len:=I.len
 vl:=λi t h=>let ⟨v,e,r⟩:=I.vl i t h;⟨v,e,r.mono (zS.ge I.sB s)⟩
 ow:=λi ts h=>let ⟨a,xs,e,b,f,hh,r,d⟩:=I.ow i ts h;⟨a,xs,e,by rw[Zi hh];exact b,f,s _ _ hh,r.mono (zS.ge I.sB s),d⟩
 xc:=λi c h=>let ⟨a,e,r⟩:=I.xc i c h;⟨a,e,zS.ge I.sB s a _ r⟩
 st:=let ⟨as,O,x⟩:=I.st;⟨as,O,x.on (λ_ _ _ h=>⟨h,rfl⟩) (zS.ge I.sB s) rfl rfl (zy.refl _) λb o h l f _=>⟨s _ _ h,by rw[Zi h];exact l,f,id⟩⟩
def XP (Y:Fx)(B:Hp)(c:Nat):Prop:=∀(d:Option Addr) (a:Hp),zy Y.H0 a->zy B a->Y.E (Y.cl c) d a
def Po {j i:Type}(Y:Fx)(f:Hp->Hp->i->j->Prop)(B H:Hp)(r:R j)(Q:i->Hp->Prop):Prop:=match r with
 |.ok a=>∀b d,zy H d->f (zS B H d) d b a->Q b d
 |.ex c=>XP Y B c
 |.bad=>False
abbrev rC:Hp->Hp->V->T->Prop:=λB _ v t=>Rep B v t
abbrev rB:Hp->Hp->V->T->Prop:=λ_ H v t=>Rep H v t
abbrev C9:Hp->Hp->List V->List T->Prop:=λB _ v t=>zJ B v t
abbrev rE {α:Type}:Hp->Hp->α->α->Prop:=λ_ _ a b=>a=b
def tS {i d:Type}(Y:Fx)(a:Hp->Hp->d->i->Prop)(f:En->R i)(ρ:En):Sg->Hp->(d->Hp->Prop)->Prop:=λj H Q=>∃B,SI Y B ρ j H/\Po Y a B H (f ρ) Q
structure Snd (X:Cx) (Y:Fx) (e:Expr) (f:En->R T):Prop where
 mk::
 go:∀ρ,PE X e (tS Y rC f ρ)
instance {X:Cx}{Y:Fx}{e:Expr}{f:En->R T}:CoeFun (Snd X Y e f) λ_=>∀ρ,PE X e (tS Y rC f ρ):=⟨Snd.go⟩
structure jC (X:Cx) (Y:Fx) (e:Expr) (f:En->R T):Prop where
 mk::
 go:∀ρ,PE X e (tS Y rB f ρ)
instance {X:Cx}{Y:Fx}{e:Expr}{f:En->R T}:CoeFun (jC X Y e f) λ_=>∀ρ,PE X e (tS Y rB f ρ):=⟨jC.go⟩
structure WA (X:Cx) (Y:Fx) (e:Expr) (f:En->R Bool):Prop where
 mk::
 go:∀ρ,PT X e (tS Y rE f ρ)
instance {X:Cx}{Y:Fx}{e:Expr}{f:En->R Bool}:CoeFun (WA X Y e f) λ_=>∀ρ,PT X e (tS Y rE f ρ):=⟨WA.go⟩
structure wx (X:Cx) (Y:Fx) (es:List Expr) (f:En->R (List T)):Prop where
 mk::
 go:∀ρ,PA X es (tS Y C9 f ρ)
instance {X:Cx}{Y:Fx}{es:List Expr}{f:En->R (List T)}:CoeFun (wx X Y es f) λ_=>∀ρ,PA X es (tS Y C9 f ρ):=⟨wx.go⟩
theorem step {u o G l:Type}{Y:Fx}{p:Hp->Hp->G->u->Prop}{j:Hp->Hp->l->o->Prop}{f:En->R u}{k:u->R o}{ρ:En}{B:Hp}{v:Sg}{H:Hp}{Q:l->Hp->Prop}{K:G->Hp->Prop}
  (I:SI Y B ρ v H) (h:Po Y j B H ((f ρ).bind k) Q)
  (n:∀a b i,f ρ=.ok a->zy H i->p (zS B H i) i b a->SI Y (zS B H i) ρ v i->Po Y j (zS B H i) i (k a) Q->K b i):tS Y p f ρ v H K:=by
 refine⟨B,I,?_⟩;cases e:f ρ with
 |bad=>rw[e]at h;exact h
 |ex c=>rw[e]at h;exact h
 |ok a=>
  rw[e]at h;intro b i s r;refine n a b i e s r (I.grow s) ?_;have h':Po Y _ B H (k a) Q:=h;revert h';cases k a with
  |bad=>exact λh'=>h'
  |ex c=>exact λh' d L U q=>h' d L U ((zS.ge I.sB s).trans q)
  |ok X=>exact λh' N J y P=>h' N J (s.trans y) (by rw[←zS.trans s y];exact P)
theorem ZO {i f:Type}{Y:Fx}{d:Hp->Hp->f->i->Prop}{ρ:En}{B:Hp}{j:Sg}{H:Hp}{a:i}{b:f}{Q:f->Hp->Prop}(I:SI Y B ρ j H)(h:Po Y d B H (.ok a) Q)(r:d B H b a):Q b H:=h b H (zy.refl H) (by rw[zS.self B H I.sB];exact r)
theorem Snd.b {X:Cx}{Y:Fx}{e:Expr}{f:En->R T}(h:Snd X Y e f):jC X Y e f:=.mk λρ=>PE.imp (h ρ) λi H Q ⟨B,I,q⟩=>⟨B,I,by
 revert q;cases f ρ with
 |bad=>exact λq=>q
 |ex c=>exact λq=>q
 |ok a=>exact λq b d s r=>q b d s (r.mono (zS.le I.sB s))⟩
section
variable {X:Cx}{Y:Fx}{a b c:Expr}{fa fb fc:En->R T}{pos:Pos}
def vE (i:Nat):En->R T:=λρ=>match ρ[i]? with
 |some (.vl t)=>.ok t
 |_=>.bad
def vB (i:Nat):En->R T:=λρ=>match ρ[i]? with
 |some (.vl t)=>.ok t
 |some (.ow ts)=>.ok (.lst ts)
 |_=>.bad
def cE (t:T):En->R T:=λ_=>.ok t
theorem Fo (i:Nat){x:Str}(h:PE X (.Name x pos) (Jp i)):Snd X Y (.Name x pos) (vE i):=.mk λρ=>PE.imp h λf H Q ⟨B,I,q⟩=>by
 unfold vE at q;split at q
 ·rename_i t e;obtain⟨v,d,r⟩:=I.vl i t e;exact⟨v,d,ZO I q r⟩
 ·exact q.elim
theorem g9 (i:Nat){x:Str}(h:PE X (.Name x pos) (Jp i)):jC X Y (.Name x pos) (vB i):=.mk λρ=>PE.imp h λj H Q ⟨B,I,q⟩=>by
 unfold vB at q;split at q
 ·rename_i t e;obtain⟨v,d,r⟩:=I.vl i t e;exact⟨v,d,ZO I q (r.mono I.sB)⟩
 ·rename_i ts e;obtain⟨a,xs,d,_,_,f,r,_⟩:=I.ow i ts e;exact⟨.ref a,d,ZO I q (.lst f (r.mono I.sB))⟩
 ·exact q.elim
theorem EC {i j}:Snd X Y (.Constant (.int i) j pos) (cE (.int i)):=.mk λρ=>PE.imp Kt λd H Q ⟨B,I,q⟩=>ZO I q (.int i)
theorem Bc {i j}:Snd X Y (.Constant (.bool i) j pos) (cE (.bl i)):=.mk λρ=>PE.imp HS λd H Q ⟨B,I,q⟩=>ZO I q (.bl i)
theorem F8 {i j}:Snd X Y (.Constant (.str i) j pos) (cE (.str i)):=.mk λρ=>PE.imp Y0 λd H Q ⟨B,I,q⟩=>ZO I q (.str i)
def zj:En->R (List T):=λ_=>.ok []
def z9 (f:En->R T)(g:En->R (List T)):En->R (List T):=λρ=>(f ρ).bind λt=>(g ρ).bind λts=>.ok (t::ts)
theorem DO:wx X Y [] zj:=.mk λρ=>PA.imp zZ λd H Q ⟨B,I,q⟩=>ZO I q .nil
theorem gc {d:List Expr}{g:En->R (List T)}(h:Snd X Y a fa)(u:wx X Y d g)(l:starEach (a::d) X.env=(false,eval a X.env)::starEach d X.env:=by exact zU rfl):wx X Y (a::d) (z9 fa g):=.mk λρ=>
 PA.imp (zF (h ρ) (u ρ) l) λJ H Q ⟨B,I,q⟩=>step I q λt v y _ G i f o=>step f o λts vs L _ j p r k=>ZO r k (.cons (i.mono (zS.ge f.sB j)) p)
theorem zy.new {H:Hp}{p:Addr}(h:H p=none)(o:HO):zy H (iV H p o):=λb u q=>by rw[zA (zM q h)];exact q
theorem j6 {B H:Hp}{p:Addr}(h:H p=none)(o:HO):zS B H (iV H p o) p=some o:=by rw[Zd h,zO]
noncomputable def iT:Nat:=16777216
theorem Zj {n:Nat}(h:n<=iT):n<=sizeLine:=by exact h
def Zm (g:En->R (List T)):En->R T:=λρ=>(g ρ).bind λts=>if ts.length<=iT then .ok (.tup ts)else .bad
def jb (g:En->R (List T)):En->R T:=λρ=>(g ρ).bind λts=>if ts.length<=iT then .ok (.lst ts)else .bad
theorem X2 {ρ:En}{d:Sg}{B H:Hp}{xs:List V}{ts:List T}(I:SI Y B ρ d H)(r:zJ B xs ts){p:Addr}(h:H p=none):Rep (zS B H (iV H p (.tup xs))) (.ref p) (.tup ts):=
 .tup (j6 h _) (r.mono (zS.ge I.sB (zy.new h _)))
theorem X3 {ρ:En}{d:Sg}{B H:Hp}{xs:List V}{ts:List T}(I:SI Y B ρ d H)(r:zJ B xs ts){p:Addr}(h:H p=none):Rep (zS B H (iV H p (.lst xs))) (.ref p) (.lst ts):=
 .lst (j6 h _) (r.mono (zS.ge I.sB (zy.new h _)))
theorem Hl {i:List Expr}{g:En->R (List T)}{x1}(h:wx X Y i g):Snd X Y (.Tuple i x1 pos) (Zm g):=.mk λρ=>PE.imp (KN (h ρ)) λr H Q ⟨B,I,q⟩=>
 step I q λts vs l _ o f k d=>by
  split at d
  ·rename_i j;refine⟨by rw[f.length];exact Zj j,λp hp=>d _ _ (zy.new hp _) (X2 k f hp)⟩
  ·exact d.elim
theorem FZ {i:List Expr}{g:En->R (List T)}(h:wx X Y i g):Snd X Y (.List i pos) (jb g):=.mk λρ=>PE.imp (Yg (h ρ)) λr H Q ⟨B,I,q⟩=>
 step I q λts vs l _ o f k d=>by
  split at d
  ·rename_i j;refine⟨by rw[f.length];exact Zj j,λp hp=>d _ _ (zy.new hp _) (X3 k f hp)⟩
  ·exact d.elim
end
end PV
namespace PV
open PySem PySem.Spec PyProof.Rows L2
noncomputable def lT (f:T->T->Option Bool):List T->List T->Option Bool
 |[],[]=>some true
 |[],_::_=>some false
 |_::_,[]=>some false
 |x::xs,y::a=>match f x y with
  |none=>none
  |some b=>match lT f xs a with
   |none=>none
   |some c=>some (b&&c)
noncomputable def b2 (b:Bool):Int:=if b then 1 else 0
def iX:Nat->T->T->Option Bool
 |_,.non,.non=>some true
 |_,.bl a,.bl b=>some (a==b)
 |_,.bl a,.int j=>some (b2 a==j)
 |_,.int i,.bl b=>some (i==b2 b)
 |_,.int i,.int j=>some (i==j)
 |_,.str x,.str y=>some (x==y)
 |n+1,.tup xs,.tup d=>lT (iX n) xs d
 |n+1,.lst xs,.lst d=>lT (iX n) xs d
 |n+1,.fz xs,.lst d=>lT (iX n) xs d
 |n+1,.lst xs,.fz d=>lT (iX n) xs d
 |n+1,.fz xs,.fz d=>lT (iX n) xs d
 |0,.tup _,.tup _=>none
 |0,.lst _,.lst _=>none
 |0,.fz _,.lst _=>none
 |0,.lst _,.fz _=>none
 |0,.fz _,.fz _=>none
 |_,.non,_=>some false
 |_,.bl _,_=>some false
 |_,.int _,_=>some false
 |_,.str _,_=>some false
 |_,.tup _,_=>some false
 |_,.lst _,_=>some false
 |_,.fz _,_=>some false
mutual
theorem Rep.fn {H:Hp}:∀{v:V} {t t':T},Rep H v t->Rep H v t'->t=t'
 |_,_,_,.non,q=>by cases q;rfl
 |_,_,_,.bl _,q=>by cases q;rfl
 |_,_,_,.int _,q=>by cases q;rfl
 |_,_,_,.str _,q=>by cases q;rfl
 |_,_,_,.tup h r,q=>by cases q<;>rename_i a h'<;>rw[h]at h'<;>cases h';rw[zJ.fn r a]
 |_,_,_,.lst h r,q=>by cases q<;>rename_i a h'<;>rw[h]at h'<;>cases h';rw[zJ.fn r a]
 |_,_,_,.fz h r,q=>by cases q<;>rename_i a h'<;>rw[h]at h'<;>cases h';rw[zJ.fn r a]
theorem zJ.fn {H:Hp}:∀{v:List V} {t t':List T},zJ H v t->zJ H v t'->t=t'
 |_,_,_,.nil,q=>by cases q;rfl
 |_,_,_,.cons h r,q=>by
  cases q with
  |cons h' a=>rw[Rep.fn h h',zJ.fn r a]
end
theorem Zu {f:T->T->Option Bool}(i:∀x b,f x x=some b->b=true):∀(xs:List T) (b:Bool),lT f xs xs=some b->b=true
 |[],b,h=>by
  have h':=h;cases h';rfl
 |x::xs,b,h=>by
  unfold lT at h;cases e:f x x with
  |none=>rw[e]at h;cases h
  |some c=>
   rw[e]at h;cases a:lT f xs xs with
   |none=>rw[a]at h;cases h
   |some d=>
    rw[a]at h;cases h;rw[i x c e,Zu i xs d a];rfl
theorem Za:∀(n:Nat) (t:T) (b:Bool),iX n t t=some b->b=true
 |n,.non,b,h=>by unfold iX at h;cases h;rfl
 |n,.bl x,b,h=>by unfold iX at h;cases h;simp
 |n,.int x,b,h=>by unfold iX at h;cases h;simp
 |n,.str x,b,h=>by unfold iX at h;cases h;simp
 |0,.tup x,b,h=>by cases h
 |0,.lst x,b,h=>by cases h
 |0,.fz x,b,h=>by cases h
 |n+1,.tup x,b,h=>by exact Zu (Za n) x b h
 |n+1,.lst x,b,h=>by exact Zu (Za n) x b h
 |n+1,.fz x,b,h=>by exact Zu (Za n) x b h
theorem Yq {f:T->T->Option Bool}:∀{xs a:List T} {b:Bool},lT f xs a=some b->
  ∃e:Nat->Bool,(∀j x y,xs[j]?=some x->a[j]?=some y->f x y=some (e j))/\((b6 (min xs.length a.length)).all e&&xs.length==a.length)=b
 |[],[],b,h=>by
  have h':=h;cases h';exact⟨λ_=>true,λj x y h=>by simp at h,by simp⟩
 |[],y::a,b,h=>by
  have h':=h;cases h';exact⟨λ_=>true,λj x y h=>by simp at h,by simp⟩
 |x::xs,[],b,h=>by
  have h':=h;cases h';exact⟨λ_=>true,λj x y h h'=>by simp at h',by simp⟩
 |x::xs,y::a,b,h=>by
  unfold lT at h;cases e:f x y with
  |none=>rw[e]at h;cases h
  |some c=>
   rw[e]at h;cases l:lT f xs a with
   |none=>rw[l]at h;cases h
   |some d=>
    rw[l]at h;cases h;obtain⟨g,q,p⟩:=Yq l;refine⟨λj=>match j with|0=>c|j+1=>g j,λj u v k i=>?_,?_⟩
    ·cases j with
     |zero=>simp at k i;subst k i;exact e
     |succ j=>exact q j u v (by simpa using k) (by simpa using i)
    ·have z:min (x::xs).length (y::a).length=min xs.length a.length+1:=by simp only[ac];lia
     rw[z,cI,df,g_];have o:((x::xs).length==(y::a).length)=(xs.length==a.length):=by simp
     rw[o,←p,Bool.and_assoc];rfl
section
variable {X:Cx}{pins:List (Addr×Obj)}{σ:Sg}{H:Hp}{s:Shared}
theorem ZP {a:Addr}{xs:List V}{ts:List T}(I:L2.Inv X pins σ H s)(h:H a=some (.tup xs))(r:zJ H xs ts):∃d:List Value,Z0 xs d/\s.heap.IsTuple a d.toArray/\ts.length=d.length/\xs.length<=sizeLine:=by
 obtain⟨d,f,p,z⟩:=I.tuple (SqT.of h);exact⟨d,f,p,by rw[←r.length];exact f.length,z⟩
theorem zX {a:Addr}{xs:List V}{ts:List T}(I:L2.Inv X pins σ H s)(h:Rd H a (.lst xs))(r:zJ H xs ts):∃d:List Value,Z0 xs d/\s.heap.IsList a d.toArray/\ts.length=d.length/\xs.length<=sizeLine:=by
 obtain⟨d,f,p,z⟩:=I.list (.inl h);exact⟨d,f,p.isList,by rw[←r.length];exact f.length,z⟩
end
noncomputable abbrev nA (A:Around)(s:Shared)(u u':Value)(b:Bool):Prop:=cG A s u u' b/\f7 A s u u' b/\dr A s u u' (!b)
section
variable {X:Cx}{pins:List (Addr×Obj)}{σ:Sg}{H:Hp}{s:Shared}
theorem Yr {xs o:List V}{ts us:List T}{d a:List Value}{A:Around}{f:T->T->Option Bool}{e:Nat->Bool}(r:zJ H xs ts)(P:zJ H o us)(v:Z0 xs d)(L:Z0 o a)
  (he:∀(j:Nat) (x y:T),ts[j]?=some x->us[j]?=some y->f x y=some (e j))
  (ih:∀(x y:T) (b:Bool) (p q:V) (u w:Value),f x y=some b->Rep H p x->Rep H q y->Zh p u->Zh q w->nA A s u w b) (j:Nat) (G:j<d.toArray.size) (N:j<a.toArray.size):
  cG A s d.toArray[j] a.toArray[j] (e j):=by
 have l1:=v.length;have l2:=L.length;have I:j<xs.length:=by simp at G;lia
 have J:j<o.length:=by simp at N;lia
 obtain⟨t,et,rt⟩:=r.getV (aw I);obtain⟨t',l,k⟩:=P.getV (aw J);obtain⟨u,U,Q⟩:=v.get (aw I);obtain⟨u',B,i⟩:=L.get (aw J);have q1:=by
  have:d[j]?=some d.toArray[j]:=by simp at G⊢
  rw[U]at this;exact(aJ this).symm
 have Z:=by
  have:a[j]?=some a.toArray[j]:=by simp at N⊢
  rw[B]at this;exact(aJ this).symm
 rw[q1,Z];exact(ih t t' _ _ _ u u' (he j t t' et l) rt k Q i).1
theorem X4 {A:Around}{a c:Addr}{xs L:List V}{ts us:List T}{b:Bool}{f:T->T->Option Bool}(I:L2.Inv X pins σ H s)(Q:A.units<cLine)(J:H a=some (.tup xs))(o:H c=some (.tup L))(r:zJ H xs ts)(k:zJ H L us)
  (G:lT f ts us=some b) (hr:∀x b,f x x=some b->b=true)
  (ih:∀(x y:T) (b:Bool) (p q:V) (u w:Value),f x y=some b->Rep H p x->Rep H q y->Zh p u->Zh q w->nA A.in1 s u w b):nA A s (.ref a) (.ref c) b:=by
 obtain⟨j,v,p,l,_⟩:=ZP I J r;obtain⟨d,Z,P,U,_⟩:=ZP I o k;obtain⟨e,he,B⟩:=Yq G;have hp:=Yr r k v Z he ih;have z:((b6 (min j.toArray.size d.toArray.size)).all e&&j.toArray.size==d.toArray.size)=b:=by
  rw[←B];simp[l,U]
 have R:=f7.tuples p P Q hp;have N:=dr.tuples p P Q hp;rw[z]at R;have N':dr A s (.ref a) (.ref c) (!b):=by
  rw[←z];exact N
 refine⟨?_,R,N'⟩
 by_cases i:a=c
 ·subst i;rw[J]at o;cases o;have:=r.fn k;subst this;rw[Zu hr ts b G];exact iD _
 ·exact fQ i R
theorem wU {A:Around}{a c:Addr}{xs ys:List V}{ts us:List T}{b:Bool}{f:T->T->Option Bool}(I:L2.Inv X pins σ H s)(U:A.units<cLine)(J:Rd H a (.lst xs))(j:Rd H c (.lst ys))(r:zJ H xs ts)(Z:zJ H ys us)
  (hb:lT f ts us=some b) (hr:∀x b,f x x=some b->b=true)
  (ih:∀(x y:T) (b:Bool) (p q:V) (u w:Value),f x y=some b->Rep H p x->Rep H q y->Zh p u->Zh q w->nA A.in1 s u w b):nA A s (.ref a) (.ref c) b:=by
 obtain⟨d,v,p,l,_⟩:=zX I J r;obtain⟨i,v',Q,l',_⟩:=zX I j Z;obtain⟨e,he,L⟩:=Yq hb;have hp:=Yr r Z v v' he ih;have RN:f7 A s (.ref a) (.ref c) b/\dr A s (.ref a) (.ref c) (!b):=by
  by_cases P:d.toArray.size=i.toArray.size
  ·have z:(b6 d.toArray.size).all e=b:=by
    rw[←L];have:ts.length=us.length:=by simp at P;lia
    rw[this];have k:d.toArray.size=us.length:=by simp;lia
    rw[k];simp
   have R:=f7.lists p Q P U hp;have N:=dr.lists p Q P U hp;rw[z]at R;refine⟨R,?_⟩;rw[←z];exact N
  ·have B:(d.toArray.size !=i.toArray.size)=true:=by simpa using P
   have z:b=false:=by
    rw[←L];have:¬ts.length=us.length:=by simp at P;lia
    simp[this]
   subst z;exact⟨f7.lists_lengths p Q B U,dr.lists_lengths p Q B U⟩
 refine⟨?_,RN.1,RN.2⟩
 by_cases G:a=c
 ·subst G;have hxy:xs=ys:=by
   rcases J with J|⟨o,J⟩<;>rcases j with j|⟨o',j⟩<;>(rw[J]at j;cases j)<;>rfl
  subst hxy;have:=r.fn Z;subst this;rw[Zu hr ts b hb];exact iD _
 ·exact fQ G RN.1
end
section
variable {X:Cx}{pins:List (Addr×Obj)}{σ:Sg}{H:Hp}{s:Shared}
theorem WS {A:Around}:A.in1.units=A.units+1:=rfl
set_option maxHeartbeats 2000000 in
theorem Ys (I:L2.Inv X pins σ H s):∀(A:Around),A.units<cLine->∀(x y:T) (b:Bool) (p q:V) (u w:Value),iX 0 x y=some b->Rep H p x->Rep H q y->Zh p u->Zh q w->nA A s u w b:=by
 intro A L x y b p q u w h J r o f;have a:=L;cases J with
 |non=>
  obtain rfl:u=Value.none:=o;cases r with
  |non=>obtain rfl:w=Value.none:=f;unfold iX at h;cases h;exact⟨.same _,.none_none,.none_none⟩
  |bl c=>obtain rfl:w=Value.bool c:=f;unfold iX at h;cases h;exact⟨.none_bool _,.none_bool _,.none_bool _⟩
  |int c=>obtain⟨t,rfl⟩:=f;unfold iX at h;cases h;exact⟨.none_int _ _,.none_int _ _,.none_int _ _⟩
  |str c=>obtain⟨t,rfl⟩:=f;unfold iX at h;cases h;exact⟨.none_str _ _,.none_str _ _,.none_str _ _⟩
  |tup l k=>obtain rfl:w=Value.ref _:=f;unfold iX at h;cases h;obtain⟨i,_,p,_⟩:=ZP I l k;exact⟨.none_tuple p a,.none_tuple p a,.none_tuple p a⟩
  |lst l k=>obtain rfl:w=Value.ref _:=f;unfold iX at h;cases h;obtain⟨i,_,p,_⟩:=zX I (.inl l) k;exact⟨.none_list p a,.none_list p a,.none_list p a⟩
  |fz l k=>obtain rfl:w=Value.ref _:=f;unfold iX at h;cases h;obtain⟨i,_,p,_⟩:=zX I (.inr ⟨_,l⟩) k;exact⟨.none_list p a,.none_list p a,.none_list p a⟩
 |bl d=>
  obtain rfl:u=Value.bool d:=o;cases r with
  |non=>obtain rfl:w=Value.none:=f;unfold iX at h;cases h;exact⟨.bool_none _,.bool_none _,.bool_none _⟩
  |bl c=>obtain rfl:w=Value.bool c:=f;unfold iX at h;cases h;exact⟨.bool_bool _ _,.bool_bool _ _,.bool_bool _ _⟩
  |int c=>obtain⟨t,rfl⟩:=f;unfold iX at h;cases h;exact⟨.bool_int _ _ _,.bool_int _ _ _,.bool_int _ _ _⟩
  |str c=>obtain⟨t,rfl⟩:=f;unfold iX at h;cases h;exact⟨.bool_str _ _ _,.bool_str _ _ _,.bool_str _ _ _⟩
  |tup l k=>obtain rfl:w=Value.ref _:=f;unfold iX at h;cases h;obtain⟨i,_,p,_⟩:=ZP I l k;exact⟨.bool_tuple _ p a,.bool_tuple _ p a,.bool_tuple _ p a⟩
  |lst l k=>obtain rfl:w=Value.ref _:=f;unfold iX at h;cases h;obtain⟨i,_,p,_⟩:=zX I (.inl l) k;exact⟨.bool_list _ p a,.bool_list _ p a,.bool_list _ p a⟩
  |fz l k=>obtain rfl:w=Value.ref _:=f;unfold iX at h;cases h;obtain⟨i,_,p,_⟩:=zX I (.inr ⟨_,l⟩) k;exact⟨.bool_list _ p a,.bool_list _ p a,.bool_list _ p a⟩
 |int d=>
  obtain⟨N,rfl⟩:=o;cases r with
  |non=>obtain rfl:w=Value.none:=f;unfold iX at h;cases h;exact⟨.int_none _ _,.int_none _ _,.int_none _ _⟩
  |bl c=>obtain rfl:w=Value.bool c:=f;unfold iX at h;cases h;exact⟨.int_bool _ _ _,.int_bool _ _ _,.int_bool _ _ _⟩
  |int c=>obtain⟨t,rfl⟩:=f;unfold iX at h;cases h;exact⟨.int_int _ _ _ _,.int_int _ _ _ _,.int_int _ _ _ _⟩
  |str c=>obtain⟨t,rfl⟩:=f;unfold iX at h;cases h;exact⟨.int_str _ _ _ _,.int_str _ _ _ _,.int_str _ _ _ _⟩
  |tup l k=>obtain rfl:w=Value.ref _:=f;unfold iX at h;cases h;obtain⟨i,_,p,_⟩:=ZP I l k;exact⟨.int_tuple _ _ p a,.int_tuple _ _ p a,.int_tuple _ _ p a⟩
  |lst l k=>obtain rfl:w=Value.ref _:=f;unfold iX at h;cases h;obtain⟨i,_,p,_⟩:=zX I (.inl l) k;exact⟨.int_list _ _ p a,.int_list _ _ p a,.int_list _ _ p a⟩
  |fz l k=>obtain rfl:w=Value.ref _:=f;unfold iX at h;cases h;obtain⟨i,_,p,_⟩:=zX I (.inr ⟨_,l⟩) k;exact⟨.int_list _ _ p a,.int_list _ _ p a,.int_list _ _ p a⟩
 |str d=>
  obtain⟨N,rfl⟩:=o;cases r with
  |non=>obtain rfl:w=Value.none:=f;unfold iX at h;cases h;exact⟨.str_none _ _,.str_none _ _,.str_none _ _⟩
  |bl c=>obtain rfl:w=Value.bool c:=f;unfold iX at h;cases h;exact⟨.str_bool _ _ _,.str_bool _ _ _,.str_bool _ _ _⟩
  |int c=>obtain⟨t,rfl⟩:=f;unfold iX at h;cases h;exact⟨.str_int _ _ _ _,.str_int _ _ _ _,.str_int _ _ _ _⟩
  |str c=>obtain⟨t,rfl⟩:=f;unfold iX at h;cases h;exact⟨.str_str _ _ _ _,.str_str _ _ _ _,.str_str _ _ _ _⟩
  |tup l k=>obtain rfl:w=Value.ref _:=f;unfold iX at h;cases h;obtain⟨i,_,p,_⟩:=ZP I l k;exact⟨.str_tuple _ _ p a,.str_tuple _ _ p a,.str_tuple _ _ p a⟩
  |lst l k=>obtain rfl:w=Value.ref _:=f;unfold iX at h;cases h;obtain⟨i,_,p,_⟩:=zX I (.inl l) k;exact⟨.str_list _ _ p a,.str_list _ _ p a,.str_list _ _ p a⟩
  |fz l k=>obtain rfl:w=Value.ref _:=f;unfold iX at h;cases h;obtain⟨i,_,p,_⟩:=zX I (.inr ⟨_,l⟩) k;exact⟨.str_list _ _ p a,.str_list _ _ p a,.str_list _ _ p a⟩
 |tup v B=>
  obtain rfl:u=Value.ref _:=o;obtain⟨G,_,j,_⟩:=ZP I v B;cases r with
  |non=>obtain rfl:w=Value.none:=f;unfold iX at h;cases h;exact⟨.tuple_none j a,.tuple_none j a,.tuple_none j a⟩
  |bl c=>obtain rfl:w=Value.bool c:=f;unfold iX at h;cases h;exact⟨.tuple_bool _ j a,.tuple_bool _ j a,.tuple_bool _ j a⟩
  |int c=>obtain⟨t,rfl⟩:=f;unfold iX at h;cases h;exact⟨.tuple_int _ _ j a,.tuple_int _ _ j a,.tuple_int _ _ j a⟩
  |str c=>obtain⟨t,rfl⟩:=f;unfold iX at h;cases h;exact⟨.tuple_str _ _ j a,.tuple_str _ _ j a,.tuple_str _ _ j a⟩
  |tup l k=>unfold iX at h;cases h
  |lst l k=>obtain rfl:w=Value.ref _:=f;unfold iX at h;cases h;obtain⟨i,_,p,_⟩:=zX I (.inl l) k;exact⟨.tuple_list j p a,.tuple_list j p a,.tuple_list j p a⟩
  |fz l k=>obtain rfl:w=Value.ref _:=f;unfold iX at h;cases h;obtain⟨i,_,p,_⟩:=zX I (.inr ⟨_,l⟩) k;exact⟨.tuple_list j p a,.tuple_list j p a,.tuple_list j p a⟩
 |lst v B=>
  obtain rfl:u=Value.ref _:=o;obtain⟨G,_,j,_⟩:=zX I (.inl v) B;cases r with
  |non=>obtain rfl:w=Value.none:=f;unfold iX at h;cases h;exact⟨.list_none j a,.list_none j a,.list_none j a⟩
  |bl c=>obtain rfl:w=Value.bool c:=f;unfold iX at h;cases h;exact⟨.list_bool _ j a,.list_bool _ j a,.list_bool _ j a⟩
  |int c=>obtain⟨t,rfl⟩:=f;unfold iX at h;cases h;exact⟨.list_int _ _ j a,.list_int _ _ j a,.list_int _ _ j a⟩
  |str c=>obtain⟨t,rfl⟩:=f;unfold iX at h;cases h;exact⟨.list_str _ _ j a,.list_str _ _ j a,.list_str _ _ j a⟩
  |tup l k=>obtain rfl:w=Value.ref _:=f;unfold iX at h;cases h;obtain⟨i,_,p,_⟩:=ZP I l k;exact⟨.list_tuple j p a,.list_tuple j p a,.list_tuple j p a⟩
  |lst l k=>unfold iX at h;cases h
  |fz l k=>unfold iX at h;cases h
 |fz v B=>
  obtain rfl:u=Value.ref _:=o;obtain⟨G,_,j,_⟩:=zX I (.inr ⟨_,v⟩) B;cases r with
  |non=>obtain rfl:w=Value.none:=f;unfold iX at h;cases h;exact⟨.list_none j a,.list_none j a,.list_none j a⟩
  |bl c=>obtain rfl:w=Value.bool c:=f;unfold iX at h;cases h;exact⟨.list_bool _ j a,.list_bool _ j a,.list_bool _ j a⟩
  |int c=>obtain⟨t,rfl⟩:=f;unfold iX at h;cases h;exact⟨.list_int _ _ j a,.list_int _ _ j a,.list_int _ _ j a⟩
  |str c=>obtain⟨t,rfl⟩:=f;unfold iX at h;cases h;exact⟨.list_str _ _ j a,.list_str _ _ j a,.list_str _ _ j a⟩
  |tup l k=>obtain rfl:w=Value.ref _:=f;unfold iX at h;cases h;obtain⟨i,_,p,_⟩:=ZP I l k;exact⟨.list_tuple j p a,.list_tuple j p a,.list_tuple j p a⟩
  |lst l k=>unfold iX at h;cases h
  |fz l k=>unfold iX at h;cases h
set_option maxHeartbeats 2000000 in
theorem X5 (I:L2.Inv X pins σ H s):∀(n:Nat) (A:Around),A.units+n<cLine->∀(x y:T) (b:Bool) (p q:V) (u w:Value),iX n x y=some b->Rep H p x->Rep H q y->Zh p u->Zh q w->nA A s u w b:=by
 intro n
 induction n with
 |zero=>exact λA J x y b p q u w h=>Ys I A (by lia) x y b p q u w h
 |succ n G=>
  intro A J x y b p q u w h B v r a;have j:=λh=>Ys I A (by lia) x y b p q u w h B v r a
  have d:A.units<cLine:=by lia
  have f:=G A.in1 (by rw[WS];lia)
  cases B with
  |tup l o=>
   cases v with
   |tup k i=>
    obtain rfl:u=Value.ref _:=r;obtain rfl:w=Value.ref _:=a;exact X4 I d l k o i h (Za n) f
   |_=>exact j (by exact h)
  |lst l o=>
   cases v with
   |lst k i=>
    obtain rfl:u=Value.ref _:=r;obtain rfl:w=Value.ref _:=a;exact wU I d (.inl l) (.inl k) o i h (Za n) f
   |fz k i=>
    obtain rfl:u=Value.ref _:=r;obtain rfl:w=Value.ref _:=a;exact wU I d (.inl l) (.inr ⟨_,k⟩) o i h (Za n) f
   |_=>exact j (by exact h)
  |fz l o=>
   cases v with
   |lst k i=>
    obtain rfl:u=Value.ref _:=r;obtain rfl:w=Value.ref _:=a;exact wU I d (.inr ⟨_,l⟩) (.inl k) o i h (Za n) f
   |fz k i=>
    obtain rfl:u=Value.ref _:=r;obtain rfl:w=Value.ref _:=a;exact wU I d (.inr ⟨_,l⟩) (.inr ⟨_,k⟩) o i h (Za n) f
   |_=>exact j (by exact h)
  |_=>exact j (by cases v<;>(exact h))
end
section
variable {X:Cx}{Y:Fx}{a b c d:Expr}{fa fb fc fd:En->R T}{pos:Pos}
def rG (Y:Fx)(g:T->T->R T):R2:=λx y H Q=>∃B t t',zy B H/\Rep B x t/\Rep B y t'/\Po Y rC B H (g t t') Q
def zd (g:T->T->R T)(fa fb:En->R T):En->R T:=λρ=>(fa ρ).bind λx=>(fb ρ).bind λy=>g x y
theorem Yt {f:Operator}{g:T->T->R T}(k:lc X (binaryOp f) (rG Y g))(G:Snd X Y a fa)(o:Snd X Y b fb):Snd X Y (.BinOp a f b pos) (zd g fa fb):=.mk λρ=>
 PE.imp (FV k (G ρ) (o ρ)) λP H Q ⟨B,I,q⟩=>step I q λt v J _ L j i r=>step i r λt' N U _ l u y p=>
  ⟨_,t,t',y.sB,j.mono (zS.ge i.sB l),u,p⟩
theorem lq {g:R T}{B H:Hp}{Q:VK}{t:T}{v:V}(f:zy B H)(q:Po Y rC B H g Q)(e:g=.ok t)(r:Rep B v t):Q v H:=by
 subst e;exact q v H (zy.refl H) (by rw[zS.self B H f];exact r)
theorem X6 {g:R T}{B H:Hp}{Q:VK}{ts:List T}{xs:List V}{p:Addr}(f:zy B H)(q:Po Y rC B H g Q)(e:g=.ok (.tup ts))(r:zJ B xs ts)(h:H p=none):Q (.ref p) (iV H p (.tup xs)):=by
 subst e;exact q _ _ (zy.new h _) (.tup (j6 h _) (r.mono (zS.ge f (zy.new h _))))
theorem K6 {g:R T}{B H:Hp}{Q:VK}{ts:List T}{xs:List V}{p:Addr}(f:zy B H)(q:Po Y rC B H g Q)(e:g=.ok (.lst ts))(r:zJ B xs ts)(h:H p=none):Q (.ref p) (iV H p (.lst xs)):=by
 subst e;exact q _ _ (zy.new h _) (.lst (j6 h _) (r.mono (zS.ge f (zy.new h _))))
def zv:T->T->R T
 |.int i,.int j=>.ok (.int (i+j))
 |.bl x,.int j=>.ok (.int (b2 x+j))
 |.int i,.bl y=>.ok (.int (i+b2 y))
 |.str x,.str y=>if x.length+y.length<=iT then .ok (.str (x++y))else .bad
 |.tup xs,.tup f=>if xs.length+f.length<=iT then .ok (.tup (xs++f))else .bad
 |.lst xs,.lst f=>if xs.length+f.length<=iT then .ok (.lst (xs++f))else .bad
 |_,_=>.bad
theorem vi {prog:Program}{w:World}{A:Around}{E:Value->Shared->Prop}{s:Shared}{t b:Addr}{vs ws:List Value}{Q:Value->Shared->Prop}(q:IsTup s.heap t vs.toArray)(r:IsTup s.heap b ws.toArray)(y:vs=[])
  (v:Q (.ref b) s):wpAny (model prog w) A (binaryOp .Add (.ref t) (.ref b)) Q E s:=by
 obtain⟨⟨cls,dd,data,B⟩,o,G,n,hd⟩:=id q;obtain⟨⟨p,k,data2,j⟩,f,i,u,l⟩:=id r;subst G hd i l;exact concat_meets ⟨_,o,rfl⟩ ⟨_,f,rfl⟩ noFill_tuple_add seq_tuple_add dq dk (db _ _)
   (tuple_addW0 t b _ _ n u dd k B j (by simp[y])) ⟨o,f,v⟩
theorem X7:lc X (binaryOp .Add) (rG Y zv):=by
 intro l s σ H x y v u Q I J G h;obtain⟨B,t,t',f,r,N,q⟩:=h;cases r with
 |int i=>
  cases N with
  |int j=>exact KG l s σ H _ _ v u Q I J G ⟨i,j,rfl,rfl,lq f q rfl (.int _)⟩
  |bl y=>exact Y8 l s σ H _ _ v u Q I J G ⟨i,y,rfl,rfl,lq f q rfl (.int _)⟩
  |_=>exact q.elim
 |bl x=>
  cases N with
  |int j=>
   obtain rfl:v=Value.bool x:=J;obtain⟨tk,rfl⟩:=G;exact IntBool.add_bool_int (⟨.int _,H,I.tok _,⟨_,rfl⟩,lq f q rfl (.int _)⟩)
  |_=>exact q.elim
 |str x=>
  cases N with
  |str y=>
   by_cases k:x.length+y.length<=iT
   ·exact ym l s σ H _ _ v u Q I J G ⟨x,y,rfl,rfl,Zj k,lq f q (if_pos k) (.str _)⟩
   ·rw[show zv (.str x) (.str y)=.bad from if_neg k]at q;exact q.elim
  |_=>exact q.elim
 |@tup a xs ts U o=>
  cases N with
  |@tup Z ys us h2 L=>
   by_cases k:ts.length+us.length<=iT
   ·have P:zv (.tup ts) (.tup us)=.ok _:=if_pos k;have hz:xs.length+ys.length<=sizeLine:=by rw[o.length,L.length];exact Zj k
    by_cases hx:xs=[]
    ·obtain rfl:v=Value.ref a:=J;obtain rfl:u=Value.ref Z:=G;obtain⟨its,rv,p,_⟩:=I.tuple (SqT.of (f _ _ U));obtain⟨its',rv',p',_⟩:=I.tuple (SqT.of (f _ _ h2));have et:=o.nil_iff.mp hx;refine vi p p' (rv.nil_iff.mpr hx) ⟨.ref Z,H,I,rfl,lq f q P ?_⟩;rw[et];exact .tup h2 L
    ·refine xU _ s σ H _ _ v u Q I J G ⟨a,Z,xs,ys,rfl,rfl,SqT.of (f _ _ U),SqT.of (f _ _ h2),hx,hz,λhy=>?_,λhy p hp=>?_⟩
     ·refine lq f q P ?_;rw[L.nil_iff.mp hy,aY];exact .tup U o
     ·exact X6 f q P (o.append L) hp
   ·rw[show zv (.tup ts) (.tup us)=.bad from if_neg k]at q;exact q.elim
  |_=>exact q.elim
 |@lst a xs ts U o=>
  cases N with
  |@lst Z ys us h2 L=>
   by_cases k:ts.length+us.length<=iT
   ·have P:zv (.lst ts) (.lst us)=.ok _:=if_pos k;have hz:xs.length+ys.length<=sizeLine:=by rw[o.length,L.length];exact Zj k
    exact KW _ s σ H _ _ v u Q I J G ⟨a,Z,xs,ys,rfl,rfl,f _ _ U,f _ _ h2,hz,λp hp=>K6 f q P (o.append L) hp⟩
   ·rw[show zv (.lst ts) (.lst us)=.bad from if_neg k]at q;exact q.elim
  |_=>exact q.elim
 |_=>cases N<;>exact q.elim
theorem HN (f:Snd X Y a fa)(i:Snd X Y b fb):Snd X Y (.BinOp a .Add b pos) (zd zv fa fb):=Yt X7 f i
noncomputable def ZW:T->T->R T
 |.int i,.int j=>.ok (.int (i-j))
 |_,_=>.bad
noncomputable def J7:T->T->R T
 |.int i,.int j=>if 0<j then .ok (.int (i%j))else .bad
 |_,_=>.bad
noncomputable def wV:T->T->R T
 |.int i,.int j=>if 0<j/\j<1073741824 then .ok (.int (i/j))else .bad
 |_,_=>.bad
instance (i j:Int):Decidable (uG i j):=by unfold uG;infer_instance
def Z7:T->T->R T
 |.int i,.int j=>if uG i j then .ok (.int (i*j))else .bad
 |.lst xs,.int k=>if 0<=k/\k<1000000/\xs.length*k.toNat<=iT then .ok (.lst (av k.toNat xs).flatten)else .bad
 |.tup xs,.int k=>if 2<=k/\k<1000000/\xs≠[]/\xs.length*k.toNat<=iT then .ok (.tup (av k.toNat xs).flatten)else .bad
 |_,_=>.bad
theorem X8:lc X (binaryOp .Sub) (rG Y ZW):=by
 intro k s o H x y v u Q I G l h;obtain⟨B,t,t',p,r,f,q⟩:=h;cases r with
 |int i=>
  cases f with
  |int j=>exact KH _ s o H _ _ v u Q I G l ⟨i,j,rfl,rfl,lq p q rfl (.int _)⟩
  |_=>exact q.elim
 |_=>cases f<;>exact q.elim
theorem X9:lc X (binaryOp .Mod) (rG Y J7):=by
 intro l s p H x y v u Q I J o h;obtain⟨B,t,t',G,r,k,q⟩:=h;cases r with
 |int i=>
  cases k with
  |int j=>
   by_cases f:0<j
   ·exact KJ _ s p H _ _ v u Q I J o ⟨i,j,rfl,rfl,f,lq G q (if_pos f) (.int _)⟩
   ·rw[show J7 (.int i) (.int j)=.bad from if_neg f]at q;exact q.elim
  |_=>exact q.elim
 |_=>cases k<;>exact q.elim
theorem vj:lc X (binaryOp .FloorDiv) (rG Y wV):=by
 intro l s p H x y v u Q I J o h;obtain⟨B,t,t',G,r,k,q⟩:=h;cases r with
 |int i=>
  cases k with
  |int j=>
   by_cases f:0<j/\j<1073741824
   ·exact xI _ s p H _ _ v u Q I J o ⟨i,j,rfl,rfl,f,lq G q (if_pos f) (.int _)⟩
   ·rw[show wV (.int i) (.int j)=.bad from if_neg f]at q;exact q.elim
  |_=>exact q.elim
 |_=>cases k<;>exact q.elim
theorem yy (l:Addr)(items:Array Value)(n:Nat)(dd:Option Addr)(J:Array (Option Value))(x:Int)(u:Tok)(L:2<=x)(N:x<1000000)(k:items.isEmpty=false)(hsz:items.size*x.toNat<=sizeLine):
  Meets (Builtin.«tuple.__mul__» ⟨[.ref l,.int x u],[]⟩) (λ_ R s=>s.heap.get? l=some {cls:=.type "tuple",dict:=dd,data:=.seq items n,slots:=J}/\
   R (.ok (.ret (Value.ref s.1.1.size))) {s with heap:=s.heap.push {cls:=Value.type "tuple",data:=Data.seq (dW (λi j=>i++j) #[] (av x.toNat items))},toks:=s.toks}):=
 .of_wp λprog w A R s h=>by
  obtain⟨p,h⟩:=h;have o:(items.size:Int)*x=((items.size*x.toNat:Nat):Int):=by
   have:x=((x.toNat:Nat):Int):=by lia
   rw[iE,←this]
  have r:(sizeLine:Nat)=16777216:=bz;have G:¬(decide (x< -(2^63))||decide (x≥2^63))=true:=by simp;lia
  have B:¬(items.isEmpty||x==1)=true:=by simp[k];lia
  have v:¬(decide (x<=0)||items.isEmpty)=true:=by simp[k];lia
  have y:¬((items.size:Int)*x>(2^63-1)/8):=by rw[o];lia
  have I:¬dX ((items.size:Int)*x)=true:=by
   unfold dX;rw[o];intro z;have:=of_decide_eq_true z;lia
  unfold Builtin.«tuple.__mul__»
  wp_walk using wpAny_loadPart' p
  rw[if_neg G]
  wp_walk using wpAny_loadPart' p
  rw[if_neg B]
  try dsimp only
  rw[if_neg v]
  try dsimp only
  rw[if_neg y]
  try dsimp only
  rw[if_neg I]
  try dsimp only
  have f:sizeOk (.seq (dW (λi j=>i++j) #[] (av x.toNat items))):=by
   show (dW (λi j=>i++j) #[] _).size<=sizeLine;have:=jL items.toList x.toNat [];have q:=by
    simpa using this
   rw[q,aE,J4,d3];exact hsz
  exact aa (bh (aB ⟨_,rfl,h⟩) f)
theorem WT:seqRepeat? (.type "tuple")=pure (some (.builtin "tuple.__mul__")):=by
 unfold seqRepeat?;rw[ii (name:="__mul__") eP.lookup (by decide+kernel),ii (name:="__rmul__") h9.lookup (by decide+kernel)]
 rfl
theorem Jm:fillsNumberSlot (.type "tuple") "mul"=pure false:=
 PySem.fillsNumberSlot_seq eP.lookup (by decide+kernel) h9.lookup (by decide+kernel)
theorem wl (a:Int)(t:Tok)(l:Addr)(items:Array Value)(n:Nat)(dd:Option Addr)(f:Array (Option Value)):
  Meets (Builtin.«int.__rmul__» ⟨[.int a t,.ref l],[]⟩) (λ_ R s=>s.heap.get? l=some {cls:=.type "tuple",dict:=dd,data:=.seq items n,slots:=f}/\R (.ok (.ret Value.notImplemented)) s):=
 .of_wp λprog w A R s h=>by obtain⟨i,h⟩:=h;wp_walk;exact⟨_,rfl,h⟩
theorem Xa {prog:Program}{w:World}{A:Around}{E:Value->Shared->Prop}{s:Shared}{l:Addr}{f:List Value}{k:Int}{t:Tok}{Q:Value->Shared->Prop}(p:IsTup s.heap l f.toArray)(j:f≠[])(u:2<=k)(r:k<1000000)
  (hsz:f.length*k.toNat<=sizeLine) (q:Q (.ref s.1.1.size) {s with heap:=s.heap.push {cls:=.type "tuple",data:=.seq (av k.toNat f).flatten.toArray} }):
  wpAny (model prog w) A (binaryOp .Mult (.ref l) (.int k t)) Q E s:=by
 obtain⟨⟨cls,dd,data,o⟩,i,y,n,hd⟩:=id p;subst y hd;refine wpAny_binaryOp_repeat_ref (by decide) ⟨_,i,rfl⟩ (λv=>typeIs_int v k t) Jm iC dH WT ie.lookup
  (bV dH (typeIs_int s k t) ig (g7 _ _) (wl k t l _ n dd o)
   ⟨i,rfl,⟨_,i,rfl⟩,bV eP ⟨_,i,rfl⟩ F.entry_tuple_mul (F.args_tuple_mul_2 _ _) (yy l _ n dd o k t u r (by simpa using j) (by simpa using hsz)) ⟨i,?_⟩⟩)
 have:=jL f k.toNat [];rw[this];exact q
theorem Xb:lc X (binaryOp .Mult) (rG Y Z7):=by
 intro pins s σ H x y v u Q I rx N h;obtain⟨B,t,t',G,r,L,q⟩:=h;cases r with
 |int i=>
  cases L with
  |int j=>
   by_cases hj:uG i j
   ·exact KI _ s σ H _ _ v u Q I rx N ⟨i,j,rfl,rfl,hj,lq G q (if_pos hj) (.int _)⟩
   ·rw[show Z7 (.int i) (.int j)=.bad from if_neg hj]at q;exact q.elim
  |_=>exact q.elim
 |@lst l xs ts Z o=>
  cases L with
  |int k=>
   by_cases f:0<=k/\k<1000000/\ts.length*k.toNat<=iT
   ·have P:Z7 (.lst ts) (.int k)=.ok _:=if_pos f;exact KY _ s σ H _ _ v u Q I rx N ⟨l,k,xs,rfl,rfl,G _ _ Z,by lia,by lia,by rw[o.length];exact Zj f.2.2,λp hp=>K6 G q P (o.rep _) hp⟩
   ·rw[show Z7 (.lst ts) (.int k)=.bad from if_neg f]at q;exact q.elim
  |_=>exact q.elim
 |@tup l xs ts Z o=>
  cases L with
  |int k=>
   by_cases f:2<=k/\k<1000000/\ts≠[]/\ts.length*k.toNat<=iT
   ·have P:Z7 (.tup ts) (.int k)=.ok _:=if_pos f;obtain rfl:v=Value.ref l:=rx;obtain⟨tk,rfl⟩:=N;obtain⟨J,rv,p,_⟩:=I.tuple (SqT.of (G _ _ Z));have U:=o.length.symm.trans rv.length;have hne:J≠[]:=λz=>f.2.2.1 (by rw[z]at U;exact bH.mp U)
    refine Xa p hne f.1 f.2.1 (by rw[←U];exact Zj f.2.2.2) ⟨.ref _,iV H _ (.tup (av k.toNat xs).flatten),I.laid (λb u e=>ak _ e) (au _) ?_,rfl,?_⟩
    ·exact⟨by rw[J4,o.length,d3];exact Zj f.2.2.2,(av _ J).flatten,rv.rep _,⟨_,aq _ rfl,rfl,_,rfl⟩,.inr ⟨_,aq _ rfl,rfl⟩⟩
    ·exact X6 G q P (o.rep _) (I.hok.fresh (au _))
   ·rw[show Z7 (.tup ts) (.int k)=.bad from if_neg f]at q;exact q.elim
  |_=>exact q.elim
 |_=>cases L<;>exact q.elim
theorem El (f:Snd X Y a fa)(i:Snd X Y b fb):Snd X Y (.BinOp a .Sub b pos) (zd ZW fa fb):=Yt X8 f i
theorem Ff (f:Snd X Y a fa)(i:Snd X Y b fb):Snd X Y (.BinOp a .Mod b pos) (zd J7 fa fb):=Yt X9 f i
theorem gf (f:Snd X Y a fa)(i:Snd X Y b fb):Snd X Y (.BinOp a .FloorDiv b pos) (zd wV fa fb):=Yt vj f i
theorem D2 (f:Snd X Y a fa)(i:Snd X Y b fb):Snd X Y (.BinOp a .Mult b pos) (zd Z7 fa fb):=Yt Xb f i
def J8 (fa:En->R T):En->R T:=λρ=>(fa ρ).bind λx=>match x with
 |.int i=>.ok (.int (-i))
 |_=>.bad
theorem HY (l:Snd X Y a fa):Snd X Y (.UnaryOp .USub a pos) (J8 fa):=.mk λρ=>PE.imp (HE KK (l ρ)) λr H Q ⟨B,I,q⟩=>step I q λt v o _ p j k f=>by
 cases j with
 |int i=>exact⟨i,rfl,lq k.sB f rfl (.int _)⟩
 |_=>exact f.elim
def wz (g:T->T->R Bool):R2:=λx y H Q=>∃t t' b,Rep H x t/\Rep H y t'/\g t t'=.ok b/\Q (.bl b) H
def ZD (g:T->T->R Bool)(fa fb:En->R T):En->R T:=λρ=>(fa ρ).bind λx=>(fb ρ).bind λy=>(g x y).bind λb=>.ok (.bl b)
def zB (g:T->T->R Bool)(fa fb:En->R T):En->R Bool:=λρ=>(fa ρ).bind λx=>(fb ρ).bind λy=>g x y
noncomputable def Nx (g:T->T->R Bool):Prop:=∀t t' c,g t t'≠.ex c
theorem Yu {i:CmpOp}{g:T->T->R Bool}(nx:Nx g)(k:lc X (compareOp i) (wz g))(u:jC X Y a fa)(o:jC X Y b fb)(y:behindInMarks i b=false):Snd X Y (.Compare a [i] [b] pos) (ZD g fa fb):=.mk λρ=>
 PE.imp (xJ k (u ρ) (o ρ) y) λZ H Q ⟨B,I,q⟩=>step I q λt v P _ L j J r=>step J r λt' U N _ l G p f=>by
  cases e:g t t' with
  |bad=>rw[e]at f;exact f.elim
  |ex c=>exact absurd e (nx _ _ _)
  |ok b=>rw[e]at f;exact⟨t,t',b,j.mono l,G,e,ZO p f (.bl b)⟩
theorem WU {i:CmpOp}{g:T->T->R Bool}(nx:Nx g)(k:lc X (compareOp i) (wz g))(u:jC X Y a fa)(o:jC X Y b fb)(y:behindInMarks i b=false):WA X Y (.Compare a [i] [b] pos) (zB g fa fb):=.mk λρ=>
 PT.imp (Y9 k (u ρ) (o ρ) y) λZ H Q ⟨B,I,q⟩=>step I q λt v P _ L j J r=>step J r λt' U N _ l G p f=>by
  cases e:g t t' with
  |bad=>rw[e]at f;exact f.elim
  |ex c=>exact absurd e (nx _ _ _)
  |ok b=>rw[e]at f;exact⟨t,t',b,j.mono l,G,e,b,rfl,ZO p f rfl⟩
def iQ (t t':T):R Bool:=match iX 30 t t' with
 |some b=>.ok b
 |none=>.bad
def lj (t t':T):R Bool:=match iX 30 t t' with
 |some b=>.ok (!b)
 |none=>.bad
theorem gh:Nx iQ:=λt t' c h=>by unfold iQ at h;split at h<;>cases h
theorem Xc:Nx lj:=λt t' c h=>by unfold lj at h;split at h<;>cases h
theorem VG (G:X.A.units+64<cLine):lc X (compareOp .Eq) (wz iQ):=by
 intro f s B H x y v u Q I o j h;obtain⟨t,t',b,r,i,e,q⟩:=h;unfold iQ at e;split at e
 ·rename_i k l;have p:=by injection e
  subst p;exact(X5 I 30 X.A (by lia) t t' k x y v u l r i o j).2.1 _ _ _ _ ⟨.bl k,H,I,rfl,q⟩
 ·cases e
theorem Yv (B:X.A.units+64<cLine):lc X (compareOp .NotEq) (wz lj):=by
 intro f s p H x y v u Q I o j h;obtain⟨t,t',b,r,i,e,q⟩:=h;unfold lj at e;split at e
 ·rename_i k l;cases e;exact(X5 I 30 X.A (by lia) t t' k x y v u l r i o j).2.2 _ _ _ _ ⟨.bl _,H,I,rfl,q⟩
 ·cases e
noncomputable def mL:T->T->R Bool
 |.int i,.int j=>.ok (decide (i<j))
 |_,_=>.bad
noncomputable def i4:T->T->R Bool
 |.int i,.int j=>.ok (decide (i<=j))
 |.str x,.str y=>.ok (!decide (y.cps.toList<x.cps.toList))
 |_,_=>.bad
noncomputable def lL:T->T->R Bool
 |.int i,.int j=>.ok (decide (j<i))
 |_,_=>.bad
noncomputable def oa:T->T->R Bool
 |.int i,.int j=>.ok (decide (j<=i))
 |_,_=>.bad
theorem EL:Nx mL:=λt t' c h=>by unfold mL at h;split at h<;>cases h
theorem wW:Nx i4:=λt t' c h=>by unfold i4 at h;split at h<;>cases h
theorem HA:Nx lL:=λt t' c h=>by unfold lL at h;split at h<;>cases h
theorem HW:Nx oa:=λt t' c h=>by unfold oa at h;split at h<;>cases h
theorem gi:lc X (compareOp .Lt) (wz mL):=by
 intro f s o H x y v u Q I p l h;obtain⟨t,t',b,r,k,e,q⟩:=h;unfold mL at e;split at e
 ·rename_i i j;cases e;cases r;cases k;exact FY _ s o H _ _ v u Q I p l ⟨i,j,rfl,rfl,q⟩
 ·cases e
theorem gj:lc X (compareOp .Gt) (wz lL):=by
 intro f s o H x y v u Q I p l h;obtain⟨t,t',b,r,k,e,q⟩:=h;unfold lL at e;split at e
 ·rename_i i j;cases e;cases r;cases k;exact FJ _ s o H _ _ v u Q I p l ⟨i,j,rfl,rfl,q⟩
 ·cases e
theorem gm:lc X (compareOp .GtE) (wz oa):=by
 intro f s o H x y v u Q I p l h;obtain⟨t,t',b,r,k,e,q⟩:=h;unfold oa at e;split at e
 ·rename_i i j;cases e;cases r;cases k;exact EF _ s o H _ _ v u Q I p l ⟨i,j,rfl,rfl,q⟩
 ·cases e
theorem jN:lc X (compareOp .LtE) (wz i4):=by
 intro l s p H x y v u Q I o k h;obtain⟨t,t',b,r,f,e,q⟩:=h;unfold i4 at e;split at e
 ·rename_i i j;cases e;cases r;cases f;exact Eo _ s p H _ _ v u Q I o k ⟨i,j,rfl,rfl,q⟩
 ·cases e;cases r;cases f;obtain⟨B,rfl⟩:=o;obtain⟨G,rfl⟩:=k;exact PySem.P.le_str ⟨.bl _,H,I,rfl,q⟩
 ·cases e
end
section
variable {X:Cx}{Y:Fx}{a b c d:Expr}{fa fb fc fd:En->R T}{pos:Pos}
noncomputable def WB (f:T->Option Bool):List T->Option Bool
 |[]=>some false
 |t::r=>match f t with
  |none=>none
  |some b=>match WB f r with
   |none=>none
   |some c=>some (b||c)
def lF (t t':T):R Bool:=match t' with
 |.tup f=>match WB (λy=>iX 30 y t) f with|some b=>.ok b|none=>.bad
 |.lst f=>match WB (λy=>iX 30 y t) f with|some b=>.ok b|none=>.bad
 |_=>.bad
def vk (t t':T):R Bool:=(lF t t').bind λb=>.ok (!b)
theorem vm:Nx lF:=λt t' c h=>by
 unfold lF at h;split at h
 ·split at h<;>cases h
 ·split at h<;>cases h
 ·cases h
theorem gq:Nx vk:=λt t' c h=>by
 unfold vk at h;cases e:lF t t' with
 |bad=>rw[e]at h;cases h
 |ex k=>exact absurd e (vm _ _ _)
 |ok k=>rw[e]at h;cases h
open Classical in
theorem Xd {H:Hp}(f:T->Option Bool):∃e:Value->Bool,∀(v:V) (t:T) (u:Value) (b:Bool),Zh v u->Rep H v t->f t=some b->e u=b:=by
 refine⟨λu=>decide (∃v t,Zh v u/\Rep H v t/\f t=some true),λv t u b j r e=>?_⟩;cases b with
 |true=>exact decide_eq_true ⟨v,t,j,r,e⟩
 |false=>
  refine decide_eq_false ?_
  rintro⟨o,t',i,l,k⟩
  have:=j.inj i;subst this;have:=r.fn l;subst this;rw[e]at k;cases k
theorem Yw {H:Hp}{f:T->Option Bool}{e:Value->Bool}(y:∀(v:V) (t:T) (u:Value) (b:Bool),Zh v u->Rep H v t->f t=some b->e u=b):∀{xs:List V} {ts:List T} {i:List Value} {b:Bool},
  Z0 xs i->zJ H xs ts->WB f ts=some b->i.any e=b/\∀u∈i,∃v t k,Zh v u/\Rep H v t/\f t=some k
 |_,_,_,b,.nil,.nil,h=>by
  have h':=h;cases h';exact⟨rfl,λu I=>by simp at I⟩
 |_,_,_,b,.cons o vs,.cons r rs,h=>by
  rename_i v u p us t ts;unfold WB at h;cases q:f t with
  |none=>rw[q]at h;cases h
  |some k=>
   rw[q]at h;cases l:WB f ts with
   |none=>rw[l]at h;cases h
   |some J=>
    rw[l]at h;cases h;obtain⟨G,B⟩:=Yw y vs rs l;refine⟨by rw[fM,G,y v t u k o r q],λw j=>?_⟩
    rcases am.mp j with rfl|j
    ·exact⟨v,t,k,o,r,q⟩
    ·exact B w j
theorem Yx (hu:X.A.units+64<cLine)(i:Bool):lc X (compareOp (if i then .NotIn else .In)) (wz (if i then vk else lF)):=by
 intro pins s σ H x y v u Q I rx ry h;obtain⟨t,t',b,r,r',e,q⟩:=h;have hs:∃k,lF t t'=.ok k/\b=(if i then !k else k):=by
  cases i with
  |false=>exact⟨b,e,rfl⟩
  |true=>
   have N:vk t t'=.ok b:=e;unfold vk at N;cases z:lF t t' with
   |bad=>rw[z]at N;cases N
   |ex k=>exact absurd z (vm _ _ _)
   |ok k=>rw[z]at N;cases N;exact⟨k,rfl,rfl⟩
 obtain⟨k,j,rfl⟩:=hs;unfold lF at j;obtain⟨f,hf⟩:=Xd λy=>iX 30 y t;have o:∀w,(∃v t' k,Zh v w/\Rep H v t'/\iX 30 t' t=some k)->cG X.A.in1 s w v (f w):=λw ⟨v',t',k,J,rr,ee⟩=>by
  rw[hf v' t' w k J rr ee];exact(X5 I 30 _ (by rw[WS];lia) t' t k v' x w v ee rr r J rx).1
 split at j
 ·split at j
  ·rename_i k' hk;cases j;cases r' with
   |@tup l xs _ Z L=>
    obtain rfl:u=Value.ref l:=ry;obtain⟨G,J,p,_⟩:=ZP I Z L;obtain⟨h2,U⟩:=Yw hf J L hk;have P:G.toArray.any f=k:=by simpa using h2
    cases i with
    |false=>exact SeqAt.in_tupleAt f p (λw B=>o w (U w (by simpa using B))) (by rw[P];exact⟨.bl k,H,I,rfl,q⟩)
    |true=>exact SeqAt.notIn_tupleAt f p (λw B=>o w (U w (by simpa using B))) (by rw[P];exact⟨.bl _,H,I,rfl,q⟩)
  ·cases j
 ·split at j
  ·rename_i k' hk;cases j;cases r' with
   |@lst l xs _ Z L=>
    obtain rfl:u=Value.ref l:=ry;obtain⟨G,J,p,_⟩:=zX I (.inl Z) L;obtain⟨h2,U⟩:=Yw hf J L hk;have P:G.toArray.any f=k:=by simpa using h2
    cases i with
    |false=>exact SeqAt.in_listAt f p (λw B=>o w (U w (by simpa using B))) (by rw[P];exact⟨.bl k,H,I,rfl,q⟩)
    |true=>exact SeqAt.notIn_listAt f p (λw B=>o w (U w (by simpa using B))) (by rw[P];exact⟨.bl _,H,I,rfl,q⟩)
  ·cases j
 ·cases j
theorem VH (f:X.A.units+64<cLine):lc X (compareOp .In) (wz lF):=Yx f false
theorem Xe (f:X.A.units+64<cLine):lc X (compareOp .NotIn) (wz vk):=Yx f true
noncomputable def isNC (t t':T):R Bool:=match t' with
 |.non=>match t with|.non=>.ok true|_=>.ok false
 |.bl k=>match t with|.bl j=>.ok (j==k)|_=>.ok false
 |_=>.bad
def lU (g i:T->T->R Bool)(fa fb fc:En->R T):En->R T:=λρ=>(fa ρ).bind λx=>(fb ρ).bind λy=>(g x y).bind λk=>if k=true then (fc ρ).bind λz=>(i y z).bind λf=>.ok (.bl f)else .ok (.bl false)
def Dc (g f:T->T->R Bool)(fa fb fc:En->R T):En->R Bool:=λρ=>(fa ρ).bind λx=>(fb ρ).bind λy=>(g x y).bind λk=>if k=true then (fc ρ).bind λz=>f y z else .ok false
theorem Xf {o f:CmpOp}{g j:T->T->R Bool}(nx:Nx g)(p:Nx j)(L:lc X (compareOp o) (wz g))(r:lc X (compareOp f) (wz j))(ha:jC X Y a fa)(P:jC X Y b fb)(Z:jC X Y c fc)
  (hm:lastMarks [o,f] [b,c]=false:=by with_unfolding_all rfl):Snd X Y (.Compare a [o,f] [b,c] pos) (lU g j fa fb fc):=.mk λρ=>
 PE.imp (va L r (ha ρ) (P ρ) (Z ρ) hm) λσ H Q ⟨B,I,q⟩=>step I q λt v H1 _ s1 J I1 U=>step I1 U λt' v' H2 _ N G y i=>by
  cases e:g t t' with
  |bad=>rw[e]at i;exact i.elim
  |ex c=>exact absurd e (nx _ _ _)
  |ok k=>
   rw[e]at i;refine⟨t,t',k,J.mono N,G,e,k,rfl,?_⟩;cases k with
   |false=>exact ZO y i (.bl _)
   |true=>
    refine step y i λu v3 H3 _ s3 r3 I3 l=>?_
    ·cases e:j t' u with
     |bad=>rw[e]at l;exact l.elim
     |ex c=>exact absurd e (p _ _ _)
     |ok k=>rw[e]at l;exact⟨t',u,k,G.mono s3,r3,e,ZO I3 l (.bl k)⟩
theorem Xg {o f:CmpOp}{g j:T->T->R Bool}(nx:Nx g)(p:Nx j)(L:lc X (compareOp o) (wz g))(r:lc X (compareOp f) (wz j))(ha:jC X Y a fa)(P:jC X Y b fb)(Z:jC X Y c fc)
  (hm:lastMarks [o,f] [b,c]=false:=by with_unfolding_all rfl):WA X Y (.Compare a [o,f] [b,c] pos) (Dc g j fa fb fc):=.mk λρ=>
 PT.imp (vb L r (ha ρ) (P ρ) (Z ρ) hm) λσ H Q ⟨B,I,q⟩=>step I q λt v H1 _ s1 J I1 U=>step I1 U λt' v' H2 _ N G y i=>by
  cases e:g t t' with
  |bad=>rw[e]at i;exact i.elim
  |ex c=>exact absurd e (nx _ _ _)
  |ok k=>
   rw[e]at i;refine⟨t,t',k,J.mono N,G,e,k,rfl,?_⟩;cases k with
   |false=>exact⟨false,rfl,ZO y i rfl⟩
   |true=>
    refine step y i λu v3 H3 _ s3 r3 I3 l=>?_
    ·cases e:j t' u with
     |bad=>rw[e]at l;exact l.elim
     |ex c=>exact absurd e (p _ _ _)
     |ok k=>rw[e]at l;exact⟨t',u,k,G.mono s3,r3,e,k,rfl,ZO I3 l rfl⟩
def Xh (r p i:R2)(J tb tc v:TE):TE:=λf H Q=>J f H λx q=>tb f q λy I=>r x y I λz H3=>∃k,z=.bl k/\
 (if k=true then tc f H3 λl G=>p y l G λB o=>∃j,B=.bl j/\(if j=true then v f o λw2 u=>i l w2 u Q else Q (.bl false) o)else Q (.bl false) H3)
theorem Yy {q i f:CmpOp}{r B o:R2}{ta tb tc td:TE}(ho:lc X (compareOp q) r)(p:lc X (compareOp i) B)(l:lc X (compareOp f) o)(ha:PE X a ta)(hb:PE X b tb)(hc:PE X c tc)(hd:PE X d td)
  (hm:lastMarks [q,i,f] [b,c,d]=false:=by with_unfolding_all rfl):PE X (.Compare a [q,i,f] [b,c,d] pos) (Xh r B o ta tb tc td):=by
 intro L s j H Q I h;refine Compare_chain (iU (ha _ s j H _ I h) λv s1 ⟨x,H1,I1,r1,q1⟩=>chain_link (iU (hb _ s1 j H1 _ I1 q1) λu s2 ⟨y,H2,I2,U,q2⟩=>
  iU (ho _ s2 j H2 x y v u _ I2 r1 U q2) λd' s3 ⟨z,H3,I3,r3,k,e,q3⟩=>?_)) hm
 subst e;cases r3;refine ba ?_;cases k with
 |false=>exact ite_ff ⟨.bl _,H3,I3,rfl,q3⟩
 |true=>
  refine ite_tt (chain_link (iU (hc _ s3 j H3 _ I3 q3) λP s4 ⟨J,H4,I4,r4,q4⟩=>iU (p _ s4 j H4 y J u P _ I4 U r4 q4) λd2 s5 ⟨z5,N,G,r5,k5,e5,Z⟩=>?_));subst e5;cases r5;refine ba ?_;cases k5 with
  |false=>exact ite_ff ⟨.bl _,N,G,rfl,Z⟩
  |true=>exact ite_tt (chain_last (iU (hd _ s5 j N _ G Z) λw6 s6 ⟨z6,H6,I6,r6,q6⟩=>l _ s6 j H6 J z6 P w6 Q I6 r4 r6 q6))
def pk (g l f:T->T->R Bool)(fa fb fc fd:En->R T):En->R T:=λρ=>(fa ρ).bind λx=>(fb ρ).bind λy=>(g x y).bind λk=>if k=true then (fc ρ).bind λz=>(l y z).bind λj=>
 if j=true then (fd ρ).bind λw=>(f z w).bind λi=>.ok (.bl i)else .ok (.bl false)else .ok (.bl false)
theorem vn {J j f:CmpOp}{g G i:T->T->R Bool}(nx:Nx g)(L:Nx G)(l:Nx i)(ho:lc X (compareOp J) (wz g))(N:lc X (compareOp j) (wz G))(p:lc X (compareOp f) (wz i))
  (ha:jC X Y a fa) (hb:jC X Y b fb) (hc:jC X Y c fc) (hd:jC X Y d fd)
  (hm:lastMarks [J,j,f] [b,c,d]=false:=by with_unfolding_all rfl):Snd X Y (.Compare a [J,j,f] [b,c,d] pos) (pk g G i fa fb fc fd):=.mk λρ=>
 PE.imp (Yy ho N p (ha ρ) (hb ρ) (hc ρ) (hd ρ) hm) λσ H Q ⟨B,I,q⟩=>step I q λt v H1 _ s1 r1 I1 q1=>step I1 q1 λt' v' H2 _ s2 r2 U o=>by
  cases e:g t t' with
  |bad=>rw[e]at o;exact o.elim
  |ex c=>exact absurd e (nx _ _ _)
  |ok k=>
   rw[e]at o;refine⟨t,t',k,r1.mono s2,r2,e,k,rfl,?_⟩;cases k with
   |false=>exact ZO U o (.bl _)
   |true=>
    refine step U o λy v3 H3 _ s3 r3 Z r=>?_
    ·cases e:G t' y with
     |bad=>rw[e]at r;exact r.elim
     |ex c=>exact absurd e (L _ _ _)
     |ok k=>
      rw[e]at r;refine⟨t',y,k,r2.mono s3,r3,e,k,rfl,?_⟩;cases k with
      |false=>exact ZO Z r (.bl _)
      |true=>
       refine step Z r λP v4 H4 _ s4 r4 I4 u=>?_
       ·cases e:i y P with
        |bad=>rw[e]at u;exact u.elim
        |ex c=>exact absurd e (l _ _ _)
        |ok k=>rw[e]at u;exact⟨y,P,k,r3.mono s4,r4,e,ZO I4 u (.bl k)⟩
variable {rest:List Expr}{ga gb:En->R Bool}
def jy (fa fb:En->R T):En->R T:=λρ=>(fa ρ).bind λx=>match x with
 |.bl true=>fb ρ
 |.bl false=>.ok (.bl false)
 |_=>.bad
def mM (fa fb:En->R T):En->R T:=λρ=>(fa ρ).bind λx=>match x with
 |.bl true=>.ok (.bl true)
 |.bl false=>fb ρ
 |_=>.bad
def QO (fa:En->R T):En->R T:=λρ=>(fa ρ).bind λx=>match x with
 |.bl k=>.ok (.bl (!k))
 |_=>.bad
theorem FS {op}(h:Snd X Y a fa):Snd X Y (.BoolOp op [a] pos) fa:=.mk λρ=>Kx (h ρ)
theorem DU (o:Snd X Y a fa)(l:Snd X Y (.BoolOp .And (b::rest) pos) fb):Snd X Y (.BoolOp .And (a::b::rest) pos) (jy fa fb):=.mk λρ=>
 PE.imp (Ky (o ρ) (l ρ)) λu H Q ⟨B,I,q⟩=>step I q λt v p _ r j i f=>by
  cases j with
  |bl k=>
   refine⟨k,rfl,?_⟩;cases k with
   |true=>exact⟨_,i,f⟩
   |false=>exact ZO i f (.bl _)
  |_=>exact f.elim
theorem CG (o:Snd X Y a fa)(l:Snd X Y (.BoolOp .Or (b::rest) pos) fb):Snd X Y (.BoolOp .Or (a::b::rest) pos) (mM fa fb):=.mk λρ=>
 PE.imp (FC (o ρ) (l ρ)) λu H Q ⟨B,I,q⟩=>step I q λt v p _ r j i f=>by
  cases j with
  |bl k=>
   refine⟨k,rfl,?_⟩;cases k with
   |false=>exact⟨_,i,f⟩
   |true=>exact ZO i f (.bl _)
  |_=>exact f.elim
theorem Ez (l:Snd X Y a fa):Snd X Y (.UnaryOp .Not a pos) (QO fa):=.mk λρ=>
 PE.imp (Kz (l ρ)) λr H Q ⟨B,I,q⟩=>step I q λt v o _ p i j f=>by
  cases i with
  |bl k=>exact⟨k,rfl,ZO j f (.bl _)⟩
  |_=>exact f.elim
structure yS (X:Cx) (Y:Fx) (e:Expr) (f:En->R Bool):Prop where
 mk::
 go:∀ρ,PW X e (tS Y rE f ρ)
instance {X:Cx}{Y:Fx}{e:Expr}{f:En->R Bool}:CoeFun (yS X Y e f) λ_=>∀ρ,PW X e (tS Y rE f ρ):=⟨yS.go⟩
theorem yS.t {e:Expr}{f:En->R Bool}(h:yS X Y e f):WA X Y e f:=.mk λρ=>(h ρ).pt
theorem PW.imp {e:Expr}{t t':TT}(h:PW X e t)(i:∀f H Q,t' f H Q->t f H Q):PW X e t':=λk j s f H Q I q=>h k _ s f H Q I (i f H Q q)
def Yz (fa fb:En->R Bool):En->R Bool:=λρ=>(fa ρ).bind λx=>if x=true then fb ρ else .ok false
def lH (fa fb:En->R Bool):En->R Bool:=λρ=>(fa ρ).bind λx=>if x=true then .ok true else fb ρ
def JI (fa:En->R Bool):En->R Bool:=λρ=>(fa ρ).bind λx=>.ok (!x)
theorem gr (h:WA X Y a ga):yS X Y (.BoolOp .And [a] pos) ga:=.mk λρ=>xH (h ρ)
theorem Ek (h:WA X Y a ga):yS X Y (.BoolOp .Or [a] pos) ga:=.mk λρ=>Ku (h ρ)
theorem D4 (o:WA X Y a ga)(l:yS X Y (.BoolOp .And (b::rest) pos) gb):yS X Y (.BoolOp .And (a::b::rest) pos) (Yz ga gb):=.mk λρ=>
 PW.imp (Kv (o ρ) (l ρ)) λu H Q ⟨B,I,q⟩=>step I q λt v p _ r k i j=>by
  have f:=k;subst f;cases v with
  |true=>exact⟨_,i,j⟩
  |false=>exact ZO i j rfl
theorem Be (o:WA X Y a ga)(l:yS X Y (.BoolOp .Or (b::rest) pos) gb):yS X Y (.BoolOp .Or (a::b::rest) pos) (lH ga gb):=.mk λρ=>
 PW.imp (Hv (o ρ) (l ρ)) λu H Q ⟨B,I,q⟩=>step I q λt v p _ r k i j=>by
  have f:=k;subst f;cases v with
  |false=>exact⟨_,i,j⟩
  |true=>exact ZO i j rfl
theorem HX (l:WA X Y a ga):WA X Y (.UnaryOp .Not a pos) (JI ga):=.mk λρ=>
 PT.imp (Kw (l ρ)) λr H Q ⟨B,I,q⟩=>step I q λt v o _ p i k j=>by
  have f:=i;subst f;exact ZO k j rfl
noncomputable def pT:T->R Bool
 |.bl k=>.ok k
 |.non=>.ok false
 |.int i=>.ok (i !=0)
 |.tup xs=>.ok (!xs.isEmpty)
 |.lst xs=>.ok (!xs.isEmpty)
 |_=>.bad
def ZQ (fa:En->R T):En->R Bool:=λρ=>(fa ρ).bind pT
theorem DB {H:Hp}{xs:List V}{ts:List T}(r:zJ H xs ts):(!xs.isEmpty)= !ts.isEmpty:=by cases r<;>rfl
theorem Hw (p:jC X Y a fa)(u:∀f,isTrue a X.env f=(do let v ←f;standAt a.pos;holding [v] (truthy v)):=by intro _;rfl):WA X Y a (ZQ fa):=.mk λρ=>
 PT.imp (vc (p ρ) u) λJ H Q ⟨B,I,q⟩=>step I q λt v G _ y o l j=>by
  cases o with
  |bl k=>exact⟨k,rfl,ZO l j rfl⟩
  |non=>exact⟨false,rfl,ZO l j rfl⟩
  |int i=>exact⟨_,rfl,ZO l j rfl⟩
  |tup h r=>exact⟨_,.inr (.inl ⟨_,SqT.of h,rfl⟩),ZO l j (DB r)⟩
  |lst h r=>exact⟨_,.inl ⟨_,SqL.of h,rfl⟩,ZO l j (DB r)⟩
  |_=>exact j.elim
def lD (g:En->R Bool)(fa fb:En->R T):En->R T:=λρ=>(g ρ).bind λk=>if k=true then fa ρ else fb ρ
theorem BW (p:WA X Y c ga)(o:Snd X Y a fa)(l:Snd X Y b fb):Snd X Y (.IfExp c a b pos) (lD ga fa fb):=.mk λρ=>
 PE.imp (Ue (p ρ) (o ρ) (l ρ)) λy H Q ⟨B,I,q⟩=>step I q λt v r _ u k i j=>by
  have f:=k;subst f;cases v with
  |true=>exact⟨_,i,j⟩
  |false=>exact⟨_,i,j⟩
end
end PV
namespace PV
open PySem PySem.Spec PyProof.Rows L2
section
variable {X:Cx}{Y:Fx}{a b c d:Expr}{fa fb fc fd:En->R T}{pos p:Pos}
def gx (g:T->R T)(fa:En->R T):En->R T:=λρ=>(fa ρ).bind g
noncomputable abbrev lu (X:Cx)(a:Expr):Prop:=starEach [a] X.env=[(false,eval a X.env)]
theorem WV {id:String}{x:Str}{r:List V->Hp->VK->Prop}{g:T->R T}(J:ZB X (.builtin id) r)(hr:∀v t B H Q,Rep H v t->zy B H->Po Y rC B H (g t) Q->r [v] H Q)
  (l:Gl X x) (u:X.mg x=none) (i:bootBuiltins x=some (.builtin id)) (y:jC X Y a fa) (f:lu X a:=by exact li rfl) (hn:x≠"__name__":=by decide) (hd:(x==("__debug__":Str))=false:=by decide):Snd X Y (.Call (.Name x p) [a] [] pos) (gx g fa):=.mk λρ=>
 PE.imp (Jr J l u i (zF (y ρ) zZ f) hn hd f rfl) λN H Q ⟨B,I,q⟩=>step I q λt v k _ L j G o=>hr v t _ k Q j G.sB o
theorem WW {id:String}{x:Str}{r:List V->Hp->VK->Prop}{g:T->R T}(J:ZB X (.type id) r)(hr:∀v t B H Q,Rep B v t->zy B H->Po Y rC B H (g t) Q->r [v] H Q)
  (l:Gl X x) (u:X.mg x=none) (i:bootBuiltins x=some (.type id)) (y:Snd X Y a fa) (f:lu X a:=by exact li rfl) (hn:x≠"__name__":=by decide) (hd:(x==("__debug__":Str))=false:=by decide):Snd X Y (.Call (.Name x p) [a] [] pos) (gx g fa):=.mk λρ=>
 PE.imp (jg J l u i (zF (y ρ) zZ f) hn hd f rfl) λN H Q ⟨B,I,q⟩=>step I q λt v k _ L j G o=>hr v t _ k Q j G.sB o
def Zb:T->R T
 |.tup xs=>.ok (.int xs.length)
 |.lst xs=>.ok (.int xs.length)
 |.fz xs=>.ok (.int xs.length)
 |.str x=>if x.length<=iT then .ok (.int x.length)else .bad
 |_=>.bad
theorem FK (v:V)(t:T)(B H:Hp)(Q:VK)(r:Rep H v t)(f:zy B H)(q:Po Y rC B H (Zb t) Q):
  (∃p i,[v]=[V.ref p]/\(SqL X.K H p i\/SqT X.K H p i)/\Q (V.int i.length) H)\/(∃z,[v]=[V.str z]/\z.length<=sizeLine/\Q (V.int z.length) H):=by
 cases r with
 |tup h r=>exact .inl ⟨_,_,rfl,.inr (SqT.of h),lq f q rfl (by rw[r.length];exact .int _)⟩
 |lst h r=>exact .inl ⟨_,_,rfl,.inl (SqL.of h),lq f q rfl (by rw[r.length];exact .int _)⟩
 |fz h r=>exact .inl ⟨_,_,rfl,.inl (.inl (.inr ⟨_,h⟩)),lq f q rfl (by rw[r.length];exact .int _)⟩
 |str x=>
  by_cases j:x.length<=iT
  ·exact .inr ⟨x,rfl,Zj j,lq f q (if_pos j) (.int _)⟩
  ·rw[show Zb (.str x)=.bad from if_neg j]at q;exact q.elim
 |_=>exact q.elim
theorem DZ (i:Gl X "len")(j:X.mg "len"=none)(k:jC X Y a fa)(f:lu X a:=by exact li rfl):Snd X Y (.Call (.Name "len" p) [a] [] pos) (gx Zb fa):=
 WV (WP.or WQ) FK i j PySem.boot_len k f
noncomputable def QP:T->R T
 |.tup xs=>.ok (.tup xs)
 |.lst xs=>.ok (.tup xs)
 |_=>.bad
theorem HQ (v:V)(t:T)(B H:Hp)(Q:VK)(r:Rep B v t)(f:zy B H)(q:Po Y rC B H (QP t) Q):
  ∃p i,[v]=[V.ref p]/\((SqL X.K H p i/\∀l,H l=none->Q (.ref l) (iV H l (.tup i)))\/(SqT X.K H p i/\Q (.ref p) H)):=by
 cases r with
 |tup h r=>exact⟨_,_,rfl,.inr ⟨SqT.of (f _ _ h),lq f q rfl (.tup h r)⟩⟩
 |lst h r=>exact⟨_,_,rfl,.inl ⟨SqL.of (f _ _ h),λl j=>X6 f q rfl r j⟩⟩
 |_=>exact q.elim
theorem Xi (i:Gl X "tuple")(j:X.mg "tuple"=none)(k:Snd X Y a fa)(f:lu X a:=by exact li rfl):Snd X Y (.Call (.Name "tuple" p) [a] [] pos) (gx QP fa):=
 WW wT HQ i j (PyProof.Rows.Boot.«tuple») k f
noncomputable def mT:T->String
 |.non=>"NoneType"
 |.bl _=>"bool"
 |.int _=>"int"
 |.str _=>"str"
 |.tup _=>"tuple"
 |.lst _=>"list"
 |.fz _=>"list"
def nq (n:String)(t:T):Bool:=mT t==n||(n=="int"&&mT t=="bool")
theorem HK {H:Hp}{v:V}{t:T}(K:ag)(r:Rep H v t):yq K H v (.type (mT t)):=by
 cases r with
 |non=>exact .non
 |bl b=>exact .bl b
 |int b=>exact .int b
 |str b=>exact .str b
 |tup h _=>exact .tup h
 |lst h _=>exact .lst h
 |fz h _=>exact .frz h
theorem vo:ZB X (.builtin "isinstance") (λxs H Q=>∃v n t,xs=[v,.ty n]/\Rep H v t/\cq X.K (.type (mT t)) (.type n)=some (nq n t)/\Q (.bl (nq n t)) H):=by
 intro i s o H xs us Q I j h;obtain⟨v,n,t,rfl,r,l,q⟩:=h;obtain⟨u,w,rfl,k,f⟩:=Ya j;obtain rfl:w=Value.type n:=f;exact Yf I k (HK X.K r) l λtk=>⟨.bl _,H,I.tok tk,rfl,q⟩
def wX (n:String)(t:T):R T:=.ok (.bl (nq n t))
theorem Xj (K:ag)(t:T):cq K (.type (mT t)) (.type "int")=some (nq "int" t):=by cases t<;>rfl
theorem vp (K:ag)(t:T):cq K (.type (mT t)) (.type "bool")=some (nq "bool" t):=by cases t<;>rfl
theorem Xk (K:ag)(t:T):cq K (.type (mT t)) (.type "str")=some (nq "str" t):=by cases t<;>rfl
theorem YA (K:ag)(t:T):cq K (.type (mT t)) (.type "tuple")=some (nq "tuple" t):=by cases t<;>rfl
theorem vq {n:String}{i:Pos}(y:∀t,cq X.K (.type (mT t)) (.type n)=some (nq n t))(L:Gl X "isinstance")(u:X.mg "isinstance"=none)(k:Gl X (bJ n))(j:X.mg (bJ n)=none)(o:bootBuiltins (bJ n)=some (.type n))(P:jC X Y a fa)
  (l:starEach [a,.Name (bJ n) i] X.env=[(false,eval a X.env),(false,eval (.Name (bJ n) i) X.env)]:=by exact mz rfl rfl) (f:starEach [.Name (bJ n) i] X.env=[(false,eval (.Name (bJ n) i) X.env)]:=by exact li rfl)
  (hn:bJ n≠"__name__":=by decide) (hd:(bJ n==("__debug__":Str))=false:=by decide) (J:((backTo pos (starEach [.Name (bJ n) i] X.env)).any λx=>x.fst)=false:=by exact Zn rfl):
  Snd X Y (.Call (.Name "isinstance" p) [a,.Name (bJ n) i] [] pos) (gx (wX n) fa):=.mk λρ=>
 PE.imp (Jr vo L u PyProof.Rows.Boot.«isinstance» (zF (P ρ) (zF (xG (v:=.ty n) k j o rfl hn hd) zZ f) (by rw[l,f])) (by decide) (by decide) (by rw[l,f]) J) λσ H Q ⟨B,I,q⟩=>
  step I q λt v U _ Z r G N=>⟨v,n,t,rfl,r,y t,lq G.sB N rfl (.bl _)⟩
def ly (xs:List T)(i:Int):R T:=match lQ xs i with
 |some t=>.ok t
 |none=>.bad
def fr:T->T->R T
 |.tup xs,.int i=>ly xs i
 |.lst xs,.int i=>ly xs i
 |.fz xs,.int i=>ly xs i
 |.str z,.int i=>if z.length<=iT then match lQ z.cps.toList i with|some c=>.ok (.str ⟨#[c]⟩)|none=>.bad else .bad
 |_,_=>.bad
theorem WX {H:Hp}{xs:List V}{ts:List T}{i:Int}{t:T}(r:zJ H xs ts)(h:lQ ts i=some t):∃v,lQ xs i=some v/\Rep H v t:=by
 unfold lQ at h⊢;rw[r.length];cases e:nw _ i with
 |none=>rw[e]at h;cases h
 |some j=>
  rw[e]at h;obtain⟨v,k,f⟩:=r.get (h);exact⟨v,k,f⟩
theorem Ce (N:Snd X Y a fa)(y:Snd X Y b fb)(U:wR b:=by exact λ_ _=>rfl):Snd X Y (.Subscript a b pos) (zd fr fa fb):=.mk λρ=>
 PE.imp (xW Yl (N ρ) (y ρ) U) λσ H Q ⟨B,I,q⟩=>step I q λt v H1 _ Z o G L=>step G L λt' v' u _ J P j f=>by
  have o:=o.mono (zS.ge G.sB J);cases P with
  |int i=>
   cases o with
   |@tup _ xs ts h r=>
    have f:Po Y rC _ u (ly ts i) Q:=f;unfold ly at f;split at f
    ·rename_i t' e;obtain⟨w,k,l⟩:=WX r e;exact .inr (.inl ⟨_,xs,i,w,rfl,rfl,SqT.of (j.sB _ _ h),k,lq j.sB f rfl l⟩)
    ·exact f.elim
   |@lst _ xs ts h r=>
    have f:Po Y rC _ u (ly ts i) Q:=f;unfold ly at f;split at f
    ·rename_i t' e;obtain⟨w,k,l⟩:=WX r e;exact .inl ⟨_,xs,i,w,rfl,rfl,SqL.of (j.sB _ _ h),k,lq j.sB f rfl l⟩
    ·exact f.elim
   |@fz _ _ xs ts h r=>
    have f:Po Y rC _ u (ly ts i) Q:=f;unfold ly at f;split at f
    ·rename_i t' e;obtain⟨w,k,l⟩:=WX r e;exact .inl ⟨_,xs,i,w,rfl,rfl,.inl (.inr ⟨_,j.sB _ _ h⟩),k,lq j.sB f rfl l⟩
    ·exact f.elim
   |str z=>
    have f:Po Y rC _ u (if z.length<=iT then match lQ z.cps.toList i with|some c=>.ok _|none=>.bad else .bad) Q:=f
    split at f
    ·rename_i y;split at f
     ·rename_i c e;exact .inr (.inr ⟨z,i,c,rfl,rfl,Zj y,e,lq j.sB f rfl (.str _)⟩)
     ·exact f.elim
    ·exact f.elim
   |_=>exact f.elim
  |_=>cases o<;>exact f.elim
structure vt (X:Cx) (Y:Fx) (e:Option Expr) (f:En->R (Option Int)):Prop where
 mk::
 go:∀ρ,PO X e (tS Y rE f ρ)
instance {X:Cx}{Y:Fx}{e:Option Expr}{f:En->R (Option Int)}:CoeFun (vt X Y e f) λ_=>∀ρ,PO X e (tS Y rE f ρ):=⟨vt.go⟩
def lE:En->R (Option Int):=λ_=>.ok none
def zT (fa:En->R T):En->R (Option Int):=λρ=>(fa ρ).bind λt=>match t with
 |.int i=>.ok (some i)
 |_=>.bad
theorem PO.imp {e:Option Expr}{t t':TO}(h:PO X e t)(i:∀f H Q,t' f H Q->t f H Q):PO X e t':=λj s f H Q I q=>h _ s f H Q I (i f H Q q)
theorem gs:vt X Y none lE:=.mk λρ=>PO.imp xS λf H Q ⟨B,I,q⟩=>ZO I q rfl
theorem gu (l:Snd X Y a fa):vt X Y (some a) (zT fa):=.mk λρ=>PO.imp (xT (l ρ)) λu H Q ⟨B,I,q⟩=>step I q λt v o _ r j k f=>by
 cases j with
 |int i=>exact⟨i,rfl,ZO k f rfl⟩
 |_=>exact f.elim
noncomputable def ml (xs:List T)(lo hi:Option Int):List T:=(xs.drop (HT.sIx xs.length 0 lo)).take (HT.sIx xs.length xs.length hi-HT.sIx xs.length 0 lo)
def rZ (t:T)(lo hi:Option Int):R T:=match t with
 |.tup xs=>.ok (.tup (ml xs lo hi))
 |.lst xs=>.ok (.lst (ml xs lo hi))
 |_=>.bad
def lR (fa:En->R T)(i f:En->R (Option Int)):En->R T:=λρ=>(fa ρ).bind λt=>(i ρ).bind λlo=>(f ρ).bind λhi=>rZ t lo hi
theorem YB {H:Hp}{xs:List V}{ts:List T}{lo hi:Option Int}(r:zJ H xs ts):zJ H (K5 xs lo hi) (ml ts lo hi):=by
 unfold K5 ml;rw[r.length];exact(r.drop _).take _
theorem J9 {prog:Program}{w:World}{A:Around}{E:Value->Shared->Prop}{s:Shared}{t l:Addr}{items:Array Value}{vl r:Value}{lo hi:Option Int}{Q:Value->Shared->Prop}(f:IsTup s.heap t items)(u:s.heap.IsSliceOf l vl r .none)(pl:IsPart vl lo)(y:IsPart r hi)
  (q:HT.sIx items.size 0 lo=0/\HT.sIx items.size items.size hi=items.size) (h:Q (.ref t) s):wpAny (model prog w) A (getItem (.ref t) (.ref l)) Q E s:=by
 obtain⟨os,o,j,v⟩:=id u;have k:s.TypeIs (.ref l) _:=⟨os,o,j⟩;unfold getItem
 try with_reducible refine wpAny_holding ?_
 refine aa (wpAny_sequenceKey f.typeIs (by decide) ?_)
 refine aa (bo f.typeIs bf
  (bG bf f.typeIs entry_tuple_getitem ?_ (args_tuple_getitem _ _)))
 show wpAny _ _ (dU _>>=_) _ _ s;refine aa (tupleItemsOf_ f ?_);refine aa (wpAny_typeOf k ?_);refine aa (HT.sliceApplied_gen u pl y ?_);have i:(((HT.sIx items.size 0 lo):Int)==0&&(1:Int)==1&&(HT.sIx items.size items.size hi-HT.sIx items.size 0 lo)==items.size)=true:=by
  rw[q.1,q.2];simp
 show wpAny _ _ (if (((HT.sIx _ 0 lo:Nat):Int)==0&&(1)==1&&(HT.sIx _ _ hi-HT.sIx _ 0 lo)==items.size)=true then _ else _) _ _ s
 rw[if_pos i];refine aa (aa (wpAny_typeOf f.typeIs (aB ?_)));exact aa (dQ (aB ⟨_,rfl,aB h⟩))
theorem yz:SlR X (λx lo hi H Q=>∃a xs,x=.ref a/\SqT X.K H a xs/\(HT.sIx xs.length 0 lo=0/\HT.sIx xs.length xs.length hi=xs.length)/\Q (.ref a) H):=by
 intro k s G H x v vl N lo hi J Q I u y pl B h;obtain⟨a,xs,rfl,l,o,q⟩:=h;obtain rfl:v=Value.ref a:=u;obtain⟨i,r,j,L⟩:=I.tuple l;have f:i.toArray.size=xs.length:=by exact r.length.symm
 refine⟨"tuple",_,bf.lookup,j.typeIs,?_⟩;exact J9 j y pl B (by rw[f];exact o) ⟨.ref a,H,I,rfl,q⟩
theorem Xl {xs:List T}{lo hi:Option Int}(i:HT.sIx xs.length 0 lo=0)(f:HT.sIx xs.length xs.length hi=xs.length):ml xs lo hi=xs:=by
 unfold ml;rw[i,f];simp
theorem Xm {lo hi:Option Expr}{N J:En->R (Option Int)}{p2:Pos}(ha:Snd X Y a fa)(hl:vt X Y lo N)(hh:vt X Y hi J):Snd X Y (.Subscript a (.Slice lo hi none p2) pos) (lR fa N J):=.mk λρ=>
 PE.imp (Uj (KQ.or (yz.or xY)) (ha ρ) (hl ρ) (hh ρ)) λσ H Q ⟨B,I,q⟩=>step I q λt v H1 _ s1 o L q1=>step L q1 λl P H2 _ U el G Z=>step G Z λh h' H3 _ s3 eh f k=>by
  have y:=el;have u:=eh;subst y u;have o:=o.mono ((zS.ge L.sB U).trans (zS.ge G.sB s3));cases o with
  |@tup _ xs ts j r=>
   by_cases i:HT.sIx xs.length 0 P=0/\HT.sIx xs.length xs.length h'=xs.length
   ·refine .inr (.inl ⟨_,xs,rfl,SqT.of (f.sB _ _ j),i,lq f.sB k rfl ?_⟩);rw[r.length]at i;rw[Xl i.1 i.2];exact .tup j r
   ·exact .inl ⟨_,xs,rfl,SqT.of (f.sB _ _ j),i,λp hp=>X6 f.sB k rfl (YB r) hp⟩
  |@lst _ xs ts j r=>
   exact .inr (.inr ⟨_,xs,rfl,SqL.of (f.sB _ _ j),λp hp=>K6 f.sB k rfl (YB r) hp⟩)
  |_=>exact k.elim
noncomputable def WY (t t':T):R T:=match t,t' with
 |.int i,.int j=>.ok (.int (if j<i then j else i))
 |_,_=>.bad
theorem gv (U:X.calm=true)(P:Gl X "min")(G:X.mg "min"=none)(J:Snd X Y a fa)(u:Snd X Y b fb)
  (o:starEach [a,b] X.env=[(false,eval a X.env),(false,eval b X.env)]:=by exact mz rfl rfl) (f:starEach [b] X.env=[(false,eval b X.env)]:=by exact li rfl):
  Snd X Y (.Call (.Name "min" p) [a,b] [] pos) (zd WY fa fb):=.mk λρ=>
 PE.imp (Jr (Yb U) P G PyProof.Rows.Boot.«min» (zF (J ρ) (zF (u ρ) zZ f) (by rw[o,f])) (by decide) (by decide) (by rw[o,f]) (by rw[f];rfl)) λσ H Q ⟨B,I,q⟩=>
  step I q λt v H1 _ s1 r N y=>step N y λt' v' H2 _ Z l L k=>by
   cases r with
   |int i=>
    cases l with
    |int j=>exact⟨i,j,rfl,lq L.sB k rfl (.int _)⟩
    |_=>exact k.elim
   |_=>cases l<;>exact k.elim
noncomputable def uH:List T->Option Bool
 |[]=>some true
 |.bl k::r=>match uH r with|some j=>some (k&&j)|none=>none
 |_::_=>none
def Xn:T->R T
 |.lst ts=>match uH ts with|some k=>.ok (.bl k)|none=>.bad
 |_=>.bad
theorem YC:∀{H:Hp} {xs:List V} {ts:List T} {f:List Value} {k:Bool},zJ H xs ts->Z0 xs f->uH ts=some k->∃tr:Nat->Bool,(∀i v,f[i]?=some v->v=Value.bool (tr i))/\(b6 f.length).all tr=k
 |_,_,_,_,k,.nil,.nil,h=>by
  have h':=h;cases h';exact⟨λ_=>true,λi v e=>by simp at e,rfl⟩
 |H,_,_,_,k,.cons r rs,.cons (b:=u) rv vs,h=>by
  cases r with
  |bl b=>
   unfold uH at h;split at h
   ·rename_i j e;cases h;obtain⟨tr,o,l⟩:=YC rs vs e;obtain rfl:u=Value.bool b:=rv;refine⟨λi=>match i with|0=>b|i+1=>tr i,λi v e=>?_,?_⟩
    ·cases i with
     |zero=>simp at e;exact e.symm
     |succ i=>exact o i v (by simpa using e)
    ·rw[ac,cI,df,g_,←l];rfl
   ·cases h
  |_=>cases h
theorem YD (U:X.A.handled=none):ZB X (.builtin "all") (λvs H Q=>∃l xs ts k,vs=[.ref l]/\H l=some (.lst xs)/\zJ H xs ts/\uH ts=some k/\Q (.bl k) H):=by
 intro G s σ H vs us Q I f h;obtain⟨l,xs,ts,k,rfl,J,r,hk,q⟩:=h;obtain⟨u,rfl,L⟩:=Zx f;obtain rfl:u=Value.ref l:=L;obtain⟨B,f,p,_⟩:=zX I (.inl J) r;obtain⟨tr,P,Z⟩:=YC r f hk;refine call_all_walk (wpAny_pyIter_list p ?_);have j:=I.hok.lt J;have old:∀b o,s.heap.get? b=some o->(s.heap.push {cls:=.type "list_iterator",data:=.fields #[.ref l,.int 0 0]}).get? b=some o:=λb o e=>ak _ e;refine⟨s.1.1.size,_,_,_,_,_,tr,rfl,iM (A:=X.A.in1) U _ l (aN j) B.toArray,?_,?_,λh' tk y=>?_⟩
 ·refine⟨?_,p.at λo e=>old _ o e⟩;exact⟨_,aq _ rfl,rfl,rfl⟩
 ·intro i v s' Q' E' hi N;rw[P i v (by simpa using hi)]
  exact ba N
 ·rw[aE,Z];refine⟨.bl k,H,I.kept (λb o e=>y b o ?_ (old b o e)),rfl,q⟩;simp;exact aN (aC e)
theorem E2 (i:X.A.handled=none)(j:Gl X "all")(u:X.mg "all"=none)(o:jC X Y a fa)(y:lu X a:=by exact li rfl):Snd X Y (.Call (.Name "all" p) [a] [] pos) (gx Xn fa):=
 WV (YD i) (λv t B H Q r f q=>by
  cases r with
  |@lst l xs ts h r=>
   have q:Po Y rC B H (match uH ts with|some k=>.ok _|none=>.bad) Q:=q
   split at q
   ·rename_i k e;exact⟨l,xs,ts,k,rfl,h,r,e,lq f q rfl (.bl k)⟩
   ·exact q.elim
  |_=>exact q.elim) j u PyProof.Rows.Boot.«all» o y
end
inductive RS where
 |nx (ρ:En)|rt (t:T)|bk (ρ:En)|ct (ρ:En)|ex (c:Nat)|bad|rf (ts:List T)
noncomputable def R.s {d:Type}(r:R d)(k:d->RS):RS:=match r with
 |.ok a=>k a
 |.ex c=>.ex c
 |.bad=>.bad
def PoS (Y:Fx)(B:Hp)(r:RS)(D:yg):Prop:=match r with
 |.nx i=>∀σ' d f,zy B f->SI Y f i σ' d->D.nx σ' d
 |.rt t=>∀v d,zy Y.H0 d->Rep (zS Y.B0 Y.H0 d) v t->D.rt v d
 |.bk i=>∀σ' d f,zy B f->SI Y f i σ' d->D.bk σ' d
 |.ct i=>∀σ' d f,zy B f->SI Y f i σ' d->D.ct σ' d
 |.ex c=>XP Y B c
 |.bad=>False
 |.rf ts=>∀a xs d f,zy Y.H0 d->Y.H0 a=none->d a=some (.lst xs)->zJ f xs ts->f a=none->zy f (zS Y.B0 Y.H0 d)->D.rt (.ref a) d
theorem PoS.up {Y:Fx}{B j:Hp}{r:RS}{D:yg}(s:zy B j)(h:PoS Y B r D):PoS Y j r D:=by
 cases r with
 |nx ρ=>exact λσ' a f i I=>h σ' a f (s.trans i) I
 |bk ρ=>exact λσ' a f i I=>h σ' a f (s.trans i) I
 |ct ρ=>exact λσ' a f i I=>h σ' a f (s.trans i) I
 |rt t=>exact h
 |rf t=>exact h
 |ex c=>exact λd a l k=>h d a l (s.trans k)
 |bad=>exact h
def m5 (Y:Fx)(f:En->RS)(ρ:En):TS:=λD a H=>∃B,SI Y B ρ a H/\PoS Y B (f ρ) D
structure jE (X:Cx) (Y:Fx) (e:Stmt) (f:En->RS):Prop where
 mk::
 go:∀ρ,PS X e (m5 Y f ρ)
instance {X:Cx}{Y:Fx}{e:Stmt}{f:En->RS}:CoeFun (jE X Y e f) λ_=>∀ρ,PS X e (m5 Y f ρ):=⟨jE.go⟩
structure wm (X:Cx) (Y:Fx) (e:List Stmt) (f:En->RS):Prop where
 mk::
 go:∀ρ,PSs X e (m5 Y f ρ)
instance {X:Cx}{Y:Fx}{e:List Stmt}{f:En->RS}:CoeFun (wm X Y e f) λ_=>∀ρ,PSs X e (m5 Y f ρ):=⟨wm.go⟩
theorem jz {l o:Type}{Y:Fx}{i:Hp->Hp->o->l->Prop}{f:En->R l}{k:l->RS}{ρ:En}{B:Hp}{j:Sg}{H:Hp}{D:yg}{K:o->Hp->Prop}
  (I:SI Y B ρ j H) (h:PoS Y B ((f ρ).s k) D)
  (n:∀a b d,f ρ=.ok a->zy H d->i (zS B H d) d b a->SI Y (zS B H d) ρ j d->PoS Y (zS B H d) (k a) D->K b d):tS Y i f ρ j H K:=by
 refine⟨B,I,?_⟩;cases e:f ρ with
 |bad=>rw[e]at h;exact h
 |ex c=>rw[e]at h;exact h
 |ok a=>
  rw[e]at h;exact λb d s r=>n a b d e s r (I.grow s) (PoS.up (zS.ge I.sB s) h)
theorem zr {a:Type}{xs:List a}{i j:Nat}{x y:a}(h:(xs.set i x)[j]?=some y):(j=i/\y=x)\/(j≠i/\xs[j]?=some y):=by
 by_cases e:j=i
 ·subst e
  by_cases d:j<xs.length
  ·rw[bn d]at h;exact .inl ⟨rfl,(aJ h).symm⟩
  ·rw[b9 (by rw[aX];lia)]at h;cases h
 ·rw[aO (bx e)]at h;exact .inr ⟨e,h⟩
theorem Um {a:Type}{xs:List a}{i:Nat}{x y:a}(h:(xs.set i x)[i]?=some y):i<xs.length:=by
 by_cases d:i<xs.length
 ·exact d
 ·rw[b9 (by rw[aX];lia)]at h;cases h
theorem StI.set {Y:Fx}{B:Hp}{ρ:En}{f:Sg}{H:Hp}{d:List Addr}{O:Addr->Option (Nat×Nat)}(x:StI Y B ρ f H d O)(i:Nat)(s:Sl)(v:Option V)(q:s.isO=false)(r:∀ts,s≠.ow ts):StI Y B (ρ.set i s) (f.set i v) H d O:=
 x.on (λj y hy h=>by
  rcases zr h with ⟨_,e⟩|⟨a,h'⟩
  ·rw[e,q]at hy;cases hy
  ·exact⟨h',aO (bx a)⟩) (zy.refl _) rfl rfl (zy.refl _) λb o p k l _=>⟨p,k,l,λok j us h=>by
  rcases zr h with ⟨_,e⟩|⟨a,h'⟩
  ·exact absurd e.symm (r us)
  ·rw[aO (bx a)];exact ok j us h'⟩
theorem SI.setV {Y:Fx}{B:Hp}{ρ:En}{q:Sg}{H:Hp}(I:SI Y B ρ q H)(i:Nat){v:V}{t:T}(r:Rep B v t):SI Y B (ρ.set i (.vl t)) (q.set i (some v)) H where
 s0:=I.s0
 sH:=I.sH
 sB:=I.sB
 old:=I.old
 len:=by rw[aX,aX];exact I.len
 vl:=λj u h=>by
  rcases zr h with ⟨rfl,e⟩|⟨f,h'⟩
  ·cases e;exact⟨v,bn (by rw[←I.len];exact Um h),r⟩
  ·obtain⟨w,e,l⟩:=I.vl j u h';exact⟨w,by rw[aO (bx f)];exact e,l⟩
 ow:=λj us h=>by
  rcases zr h with ⟨rfl,e⟩|⟨f,h'⟩
  ·cases e
  ·obtain⟨a,xs,e,N,y,J,l,d⟩:=I.ow j us h';refine⟨a,xs,by rw[aO (bx f)];exact e,N,y,J,l,λk ws P G=>?_⟩
   rcases zr G with ⟨rfl,L⟩|⟨p,o⟩
   ·cases L
   ·rw[aO (bx p)];exact d k ws P o
 xc:=λj c h=>by
  rcases zr h with ⟨rfl,e⟩|⟨f,h'⟩
  ·cases e
  ·obtain⟨a,e,r⟩:=I.xc j c h';exact⟨a,by rw[aO (bx f)];exact e,r⟩
 st:=let ⟨as,O,x⟩:=I.st;⟨as,O,x.set i _ _ rfl (λ_=>Sl.noConfusion)⟩
theorem SI.newO {Y:Fx}{B:Hp}{ρ:En}{U:Sg}{H:Hp}(I:SI Y B ρ U H)(i:Nat){p:Addr}{xs:List V}{ts:List T}(hp:H p=none)(r:zJ B xs ts):SI Y B (ρ.set i (.ow ts)) (U.set i (some (.ref p))) (iV H p (.lst xs)) where
 s0:=I.s0
 sH:=I.sH.trans (zy.new hp _)
 sB:=I.sB.trans (zy.new hp _)
 old:=I.old
 len:=by rw[aX,aX];exact I.len
 vl:=λj u h=>by
  rcases zr h with ⟨rfl,e⟩|⟨f,h'⟩
  ·cases e
  ·obtain⟨w,e,N⟩:=I.vl j u h';exact⟨w,by rw[aO (bx f)];exact e,N⟩
 ow:=λj us h=>by
  have X:∀k ws a,ρ[k]?=some (Sl.ow ws)->U[k]?=some (some (V.ref a))->a≠p:=λk ws a h1 h2=>by
   obtain⟨a',v,e,_,_,P,_⟩:=I.ow k ws h1;rw[e]at h2;cases h2;exact zM P hp
  rcases zr h with ⟨rfl,e⟩|⟨f,h'⟩
  ·cases e;refine⟨p,xs,bn (by rw[←I.len];exact Um h),I.sB.free hp,I.sH.free hp,zO,r,λk ws Z J=>?_⟩
   rcases zr J with ⟨rfl,e'⟩|⟨q,l⟩
   ·exact absurd rfl Z
   ·rw[aO (bx q)];exact λz=>X k ws p l z rfl
  ·obtain⟨a,v,e,Q,L,P,N,d⟩:=I.ow j us h';refine⟨a,v,by rw[aO (bx f)];exact e,Q,L,by rw[zA (X j us a h' e)];exact P,N,λk ws Z J=>?_⟩
   rcases zr J with ⟨rfl,e'⟩|⟨q,l⟩
   ·rw[bn (by rw[←I.len];exact Um J)]
    intro z;exact X j us a h' e (by injection z with z;injection z with z;injection z with z;exact z.symm)
   ·rw[aO (bx q)];exact d k ws Z l
 xc:=λj c h=>by
  rcases zr h with ⟨rfl,e⟩|⟨f,h'⟩
  ·cases e
  ·obtain⟨a,e,r⟩:=I.xc j c h';exact⟨a,by rw[aO (bx f)];exact e,r⟩
 st:=by
  obtain⟨as,O,x⟩:=I.st;refine⟨as,O,x.on (λj y hy h=>?_) (zy.refl _) rfl rfl (zy.refl _) λb o hb Q L _=>?_⟩
  ·rcases zr h with ⟨_,e⟩|⟨f,h'⟩
   ·subst e;cases hy
   ·exact⟨h',aO (bx f)⟩
  ·have G:b≠p:=zM hb hp;refine⟨by rw[zA G];exact hb,Q,L,λok j us h=>?_⟩
   rcases zr h with ⟨rfl,e⟩|⟨f,h'⟩
   ·rw[bn (by rw[←I.len];exact Um h)]
    intro z;injection z with z;injection z with z;injection z with z;exact G z.symm
   ·rw[aO (bx f)];exact ok j us h'
theorem SI.chg {Y:Fx}{B:Hp}{ρ:En}{X:Sg}{H:Hp}(I:SI Y B ρ X H)(i:Nat){p:Addr}{ts us:List T}{Z:List V}(hi:ρ[i]?=some (.ow ts))(q:X[i]?=some (some (.ref p)))(r:zJ B Z us):SI Y B (ρ.set i (.ow us)) X (iV H p (.lst Z)):=by
 obtain⟨p',xs,e,b0,h0,hh,rr,d⟩:=I.ow i ts hi;rw[q]at e;cases e;have nb:∀b o,B b=some o->b≠p:=λb o h z=>by subst z;rw[b0]at h;cases h
 have n0:∀b o,Y.H0 b=some o->b≠p:=λb o h z=>by subst z;rw[h0]at h;cases h
 refine⟨I.s0,λb o h=>by rw[zA (n0 b o h)];exact I.sH b o h,λb o h=>by rw[zA (nb b o h)];exact I.sB b o h,I.old,by rw[aX];exact I.len,λj u h=>?_,λj ws h=>?_,λj c h=>?_,?_⟩
 rotate_right
 ·obtain⟨as,O,x⟩:=I.st;refine⟨as,O,x.on (λj y hy h=>?_) (zy.refl _) rfl rfl (zy.refl _) λb o P L N cs=>?_⟩
  ·rcases zr h with ⟨_,e⟩|⟨v,h'⟩
   ·subst e;cases hy
   ·exact⟨h',rfl⟩
  ·have f:b≠p:=λz=>by
    subst z;rcases cs with ⟨C,dx,vs,ez⟩|ok
    ·rw[hh]at P;cases P;cases ez
    ·exact ok i ts hi q
   refine⟨by rw[zA f];exact P,L,N,λok j us h=>?_⟩
   rcases zr h with ⟨rfl,e⟩|⟨v,h'⟩
   ·rw[q];intro z;injection z with z;injection z with z;injection z with z;exact f z.symm
   ·exact ok j us h'
 rotate_right
 ·rcases zr h with ⟨rfl,z⟩|⟨v,h'⟩
  ·cases z
  ·exact I.xc j c h'
 ·rcases zr h with ⟨rfl,z⟩|⟨v,h'⟩
  ·cases z
  ·exact I.vl j u h'
 ·rcases zr h with ⟨rfl,z⟩|⟨v,h'⟩
  ·cases z;refine⟨p,Z,q,b0,h0,zO,r,λk vs G J=>?_⟩;rcases zr J with ⟨rfl,e'⟩|⟨U,l⟩
   ·exact absurd rfl G
   ·exact d k vs G l
  ·obtain⟨a,Q,e,c0,g0,gg,ss,d'⟩:=I.ow j ws h';have f:a≠p:=λz=>by subst z;exact d j ws v h' e
   refine⟨a,Q,e,c0,g0,by rw[zA f];exact gg,ss,λk vs G J=>?_⟩
   rcases zr J with ⟨rfl,e'⟩|⟨U,l⟩
   ·rw[q];intro z;injection z with z;injection z with z;injection z with z;exact f z.symm
   ·exact d' k vs G l
noncomputable def pi:Sl->Sl
 |.ow ts=>.vl (.lst ts)
 |.ob _ _=>.un
 |.st _=>.un
 |x=>x
def frz (ρ:En):En:=ρ.map pi
theorem SI.up {Y:Fx}{B:Hp}{ρ:En}{a:Sg}{H:Hp}(I:SI Y B ρ a H):zy B (zS B Y.H0 H):=λb o h=>by
 cases q:Y.H0 b with
 |none=>rw[Zd q];exact I.sB b o h
 |some u=>rw[Zi q];exact h
theorem SI.frz {Y:Fx}{B:Hp}{ρ:En}{l:Sg}{H:Hp}(I:SI Y B ρ l H):SI Y (zS B Y.H0 H) (PV.frz ρ) l H:=by
 have up:zy B (zS B _ H):=λb o h=>by
  cases q:Y.H0 b with
  |none=>rw[Zd q];exact I.sB b o h
  |some u=>rw[Zi q];exact h
 refine⟨I.s0,I.sH,λb o h=>?_,λb o h=>by rw[Zi h];exact I.old b o h,by unfold PV.frz;rw[ah];exact I.len,λj t h=>?_,λj ts h=>?_,λj c h=>?_,?_⟩
 rotate_right
 ·have no:∀(j:Nat) (y:Sl),y.isS=true->(PV.frz ρ)[j]?≠some y:=λj y hy h=>by
   unfold PV.frz at h;rw[aA]at h;cases e:ρ[j]? with
   |none=>rw[e]at h;cases h
   |some x=>rw[e]at h;cases x<;>(cases h;cases hy)
  obtain⟨Z,O,x⟩:=I.st;refine⟨Y.as,λ_=>none,cu _,λi os e=>(no i _ rfl e).elim,λi j os N e=>(no i _ rfl e).elim,λi k n e=>(no i _ rfl e).elim,λi k fs h=>?_,λi os e=>(no i _ rfl e).elim⟩;have h':ρ[i]?=some (Sl.oc k fs):=by
   unfold PV.frz at h;rw[aA]at h;cases e:ρ[i]? with
   |none=>rw[e]at h;cases h
   |some x=>rw[e]at h;cases x<;>(cases h;try rfl)
  obtain⟨a,C,Q,vs,f,U,X,G,L⟩:=x.oc i k fs h';exact⟨a,C,Q,vs,f,U,X,G,L.mono up (zy.refl _)⟩
 rotate_right
 ·unfold PV.frz at h;rw[aA]at h;cases e:ρ[j]? with
  |none=>rw[e]at h;cases h
  |some x=>
   rw[e]at h;cases x with
   |xc d=>
    cases h;obtain⟨a,f,r⟩:=I.xc j _ e;exact⟨a,f,up a _ r⟩
   |un=>cases h
   |vl _=>cases h
   |ow _=>cases h
   |ob _ _=>cases h
   |oc _ _=>cases h
   |st _=>cases h
 ·cases q:Y.H0 b with
  |none=>rw[Zd q]at h;exact h
  |some u=>rw[Zi q]at h;exact I.sB b o h
 ·unfold PV.frz at h;rw[aA]at h;cases e:ρ[j]? with
  |none=>rw[e]at h;cases h
  |some x=>
   rw[e]at h;cases x with
   |un=>cases h
   |vl u=>
    cases h;obtain⟨v,f,r⟩:=I.vl j _ e;exact⟨v,f,r.mono up⟩
   |ow us=>
    cases h;obtain⟨a,xs,f,b0,p,P,J,_⟩:=I.ow j us e;exact⟨.ref a,f,.lst (by rw[Zd p];exact P) (J.mono up)⟩
   |xc _=>cases h
   |ob _ _=>cases h
   |oc _ _=>cases h
   |st _=>cases h
 ·unfold PV.frz at h;rw[aA]at h;cases e:ρ[j]? with
  |none=>rw[e]at h;cases h
  |some x=>
   rw[e]at h;cases x with
   |un=>cases h
   |vl u=>cases h
   |ow us=>cases h
   |xc _=>cases h
   |ob _ _=>cases h
   |oc _ _=>cases h
   |st _=>cases h
theorem YE {Y:Fx}{B H a:Hp}(f:zy Y.H0 H)(old:∀b o,Y.H0 b=some o->B b=Y.B0 b)(s:zy H a)(d:zy B H):zy (zS B H a) (zS Y.B0 Y.H0 a):=λb o h=>by
 cases q:H b with
 |none=>
  rw[Zd q]at h;rw[Zd (f.free q)];exact h
 |some u=>
  rw[Zi q]at h;cases z:Y.H0 b with
  |none=>rw[Zd z];exact s b o (d b o h)
  |some w=>rw[Zi z,←old b w z];exact h
section
variable {X:Cx}{Y:Fx}{a b c d:Expr}{fa fb fc fd:En->R T}{pos p:Pos}{st:Stmt}{sts sts':List Stmt}{f g:En->RS}
def iR:En->RS:=λρ=>.nx ρ
def zz (f g:En->RS):En->RS:=λρ=>match f ρ with
 |.nx i=>g i
 |r=>r
theorem HM:wm X Y [] iR:=.mk λρ=>PSs.imp Y1 λD i H ⟨B,I,q⟩=>q i H B (zy.refl B) I
theorem Ei (h:jE X Y st f):wm X Y [st] f:=.mk λρ=>uL (h ρ)
theorem gw (l:jE X Y st f)(v:wm X Y sts g):wm X Y (st::sts) (zz f g):=.mk λρ=>by
 refine PSs.imp (wN (u:=λD j H=>∃i,m5 Y g i D j H) (l ρ) ?_) ?_
 ·intro k s j H D I ⟨i,q⟩;exact v i _ s j H D I q
 ·intro D j H ⟨B,I,q⟩;refine⟨B,I,?_⟩;unfold zz at q;cases e:f ρ with
  |nx i=>
   rw[e]at q;intro σ' G o y r;exact⟨i,o,r,PoS.up y q⟩
  |rt t=>rw[e]at q;exact q
  |rf t=>rw[e]at q;exact q
  |bk i=>rw[e]at q;exact q
  |ct i=>rw[e]at q;exact q
  |ex c=>rw[e]at q;exact q
  |bad=>rw[e]at q;exact q
def zH (i:Nat)(fa:En->R T):En->RS:=λρ=>(fa ρ).s λt=>.nx (ρ.set i (.vl t))
theorem gy {i:Nat}{x:Str}{j:Pos}(y:X.N.Nodup)(hi:X.N[i]?=some x)(l:L2.Loc X.env.scope x)(J:Snd X Y a fa)(u:swapsWith a (some (.Name x j)) pos.line X.env=pure false:=by rfl)
  (o:X.fn x=true\/X.env.scope.names.lookup x=some .local:=by first|exact .inl rfl|exact .inr rfl|assumption):jE X Y (.Assign [.Name x j] a pos) (zH i fa):=.mk λρ=>
 PS.imp (wu y hi l (J ρ) u o) λD Q H ⟨B,I,q⟩=>jz I q λt v L _ P k r G=>G _ _ _ (zy.refl _) (r.setV i k)
def Uo (i:Nat)(ga:En->R (List T)):En->RS:=λρ=>(ga ρ).s λts=>if ts.length<=iT then .nx (ρ.set i (.ow ts))else .bad
theorem gz {i:Nat}{x:Str}{o:Pos}{j:List Expr}{ga:En->R (List T)}(J:X.N.Nodup)(hi:X.N[i]?=some x)(u:L2.Loc X.env.scope x)(L:wx X Y j ga)(r:swapsWith (.List j p) (some (.Name x o)) pos.line X.env=pure false:=by rfl)
  (y:X.fn x=true\/X.env.scope.names.lookup x=some .local:=by first|exact .inl rfl|exact .inr rfl|assumption):jE X Y (.Assign [.Name x o] (.List j p) pos) (Uo i ga):=.mk λρ=>
 PS.imp (wu J hi u (Yg (L ρ)) r y) λD U H ⟨B,I,q⟩=>jz I q λts vs P _ Q l G k=>by
  split at k
  ·rename_i v;exact⟨by rw[l.length];exact Zj v,λp hp=>k _ _ _ (zy.refl _) (G.newO i hp l)⟩
  ·exact k.elim
def zC (fa:En->R T):En->RS:=λρ=>(fa (frz ρ)).s λt=>.rt t
theorem E3 (l:Snd X Y a fa):jE X Y (.Return (some a) pos) (zC fa):=.mk λρ=>
 PS.imp (WH (l _)) λD o H ⟨B,I,q⟩=>by
  refine⟨_,I.frz,?_⟩;unfold zC at q;cases e:fa _ with
  |bad=>rw[e]at q;exact q
  |ex c=>
   rw[e]at q;exact λd i k j=>q d i k (I.up.trans j)
  |ok t=>
   rw[e]at q;intro v i s r;have J:=I.frz;exact q v i (I.sH.trans s) (r.mono (YE J.sH J.old s J.sB))
def iS (g:En->R Bool)(j i:En->RS):En->RS:=λρ=>(g ρ).s λk=>if k=true then j ρ else i ρ
theorem D5 {ga:En->R Bool}(u:WA X Y c ga)(r:wm X Y sts f)(o:wm X Y sts' g):jE X Y (.If c sts sts' pos) (iS ga f g):=.mk λρ=>
 PS.imp (KA (u ρ) (r ρ) (o ρ)) λD J H ⟨B,I,q⟩=>jz I q λt v y _ G l j k=>by
  have i:=l;subst i;cases v with
  |true=>exact⟨_,j,k⟩
  |false=>exact⟨_,j,k⟩
def JJ (fa:En->R T):En->RS:=λρ=>(fa ρ).s λ_=>.nx ρ
theorem gA (l:Snd X Y a fa)(k:swapsWith a none pos.line X.env=pure false:=by rfl):jE X Y (.Expr a pos) (JJ fa):=.mk λρ=>
 PS.imp (JC (l ρ) k) λD y H ⟨B,I,q⟩=>jz I q λt v r _ u o j i=>i _ _ _ (zy.refl _) j
def Up (i:Nat)(fa:En->R T):En->RS:=λρ=>match ρ[i]? with
 |some (.ow ts)=>(fa ρ).s λt=>if ts.length<iT then .nx (ρ.set i (.ow (ts++[t])))else .bad
 |_=>.bad
def QR (i:Nat)(fa:En->R T):En->RS:=λρ=>match ρ[i]? with
 |some (.ow ts)=>(fa ρ).s λt=>match t with
  |.lst us=>if ts.length+us.length<=iT then .nx (ρ.set i (.ow (ts++us)))else .bad
  |_=>.bad
 |_=>.bad
theorem VI {n:Nat}(h:n<iT):n<sizeLine:=by exact h
theorem F6 {i:Nat}{x:Str}{j o:Pos}(Z:PE X (.Name x j) (Jp i))(U:Snd X Y a fa)(r:attributeBase (.Name x j) "append" X.env (eval (.Name x j) X.env)=eval (.Name x j) X.env:=by rfl)(y:lu X a:=by exact li rfl)
  (Q:(o.endLine==p.line)=true:=by rfl) (P:swapsWith (.Call (.Attribute (.Name x j) "append" o) [a] [] p) none pos.line X.env=pure false:=by rfl):jE X Y (.Expr (.Call (.Attribute (.Name x j) "append" o) [a] [] p) pos) (Up i fa):=.mk λρ=>by
 have k:(((((backTo p (starEach [a] X.env)).all λx=> !x.fst)&&(backToKw p (keywordEach [] X.env)).all λx=>x.fst.isSome)&&decide (([a].length+([]:List Keyword).length+if ([]:List Keyword).isEmpty=true then 0 else 1)<30))=true):=by rw[y];rfl
 refine PS.imp (JC (wk cx eG eH JG Z (zF (U ρ) zZ y) r k Q y rfl) P) λD σ H ⟨B,I,q⟩=>?_;unfold Up at q;split at q
 ·rename_i ts e;obtain⟨l,xs,k,b0,h0,L,J,d⟩:=I.ow i ts e;refine⟨.ref l,k,.inl ⟨rfl,_,SqL.of L⟩,?_⟩;refine jz I q λt v H1 _ G N I1 u=>?_;split at u
  ·rename_i r;refine⟨l,xs,v,rfl,rfl,G _ _ L,by rw[J.length];exact VI r,?_⟩
   exact u _ _ _ (zy.refl _) (I1.chg i e k ((J.mono (zS.ge I.sB G)).append (.cons N .nil)))
  ·exact u.elim
 ·exact q.elim
theorem Ee {i:Nat}{x:Str}{j u:Pos}(hv:PE X (.Name x j) (Jp i))(ha:Snd X Y a fa)(y:attributeBase (.Name x j) "extend" X.env (eval (.Name x j) X.env)=eval (.Name x j) X.env:=by rfl)(G:lu X a:=by exact li rfl)
  (Z:(u.endLine==p.line)=true:=by rfl) (U:swapsWith (.Call (.Attribute (.Name x j) "extend" u) [a] [] p) none pos.line X.env=pure false:=by rfl):jE X Y (.Expr (.Call (.Attribute (.Name x j) "extend" u) [a] [] p) pos) (QR i fa):=.mk λρ=>by
 have o:(((((backTo p (starEach [a] X.env)).all λx=> !x.fst)&&(backToKw p (keywordEach [] X.env)).all λx=>x.fst.isSome)&&decide (([a].length+([]:List Keyword).length+if ([]:List Keyword).isEmpty=true then 0 else 1)<30))=true):=by rw[G];rfl
 refine PS.imp (JC (wk cx PySem.F.slot_list_extend PySem.F.type_list_extend Ym hv (zF (ha ρ) zZ G) y o Z G rfl) U) λD σ H ⟨B,I,q⟩=>?_;unfold QR at q;split at q
 ·rename_i ts e;obtain⟨l,xs,o,b0,h0,N,L,d⟩:=I.ow i ts e;refine⟨.ref l,o,.inl ⟨rfl,_,SqL.of N⟩,?_⟩;refine jz I q λt v H1 _ J Q P k=>?_;cases Q with
  |@lst b zs us y r=>
   have k:PoS Y _ (if ts.length+us.length<=iT then .nx _ else .bad) D:=k
   split at k
   ·rename_i hl;refine⟨l,b,xs,zs,rfl,rfl,J _ _ N,P.sB _ _ y,by rw[L.length,r.length];exact Zj hl,?_⟩
    exact k _ _ _ (zy.refl _) (P.chg i e o ((L.mono (zS.ge I.sB J)).append r))
   ·exact k.elim
  |_=>exact k.elim
 ·exact q.elim
end
def spP (cl:Nat->Value)(n:Nat)(g:List T->R T):Sp:=λvs H Q E=>∃B ts,ts.length=n/\zy B H/\zJ B vs ts/\Po ⟨B,H,E,cl,[]⟩ rC B H (g ts) Q
theorem spP.len {cl:Nat->Value}{n:Nat}{g:List T->R T}(vs:List V)(H:Hp)(Q:VK)(E:XK)(h:spP cl n g vs H Q E):vs.length=n:=by
 obtain⟨B,ts,a,_,r,_⟩:=h;rw[r.length,a]
def za (n:Nat)(g:List T->R T)(ga:En->R (List T)):En->R T:=λρ=>(ga ρ).bind λts=>if ts.length=n then g ts else .bad
section
variable {X:Cx}{Y:Fx}{a b c d:Expr}{fa fb fc fd:En->R T}{pos p:Pos}
theorem gB {CX:l8}{k n:Nat}{f:Addr}{fd:FuncData}{o:List Str}{g:List T->R T}{x:Str}{j:List Expr}{ga:En->R (List T)}(F:je X.prog X.w X.K X.mg X.base CX k f fd o (spP Y.cl n g))(hr:ZN k X.A)(G:Gl X x)(U:X.mg x=some (.ref f))
  (kp:bE X.K (.ref f)=true) (P:L2.Binds X.K fd o []) (N:Zc CX X Y.E) (L:wx X Y (a::j) ga) (hd:(x==("__debug__":Str))=false:=by decide)
  (r:starEach (a::j) X.env=(false,eval a X.env)::starEach j X.env:=by exact zU rfl) (y:((backTo pos (starEach j X.env)).any λx=>x.fst)=false:=by exact Zn rfl):Snd X Y (.Call (.Name x p) (a::j) [] pos) (za n g ga):=.mk λρ=>
 PE.imp (wQ F hr G U kp P .nil N (L ρ) hd r y) λσ H Q ⟨B,I,q⟩=>step I q λts vs H1 _ Z u l i=>by
  split at i
  ·rename_i hn;rw[aY];refine⟨_,ts,hn,l.sB,u,?_⟩;revert i;cases g ts with
   |bad=>exact λi=>i
   |ex c=>exact λi d J s v=>i d J (l.sH.trans s) v
   |ok t=>exact λi=>i
  ·exact i.elim
end
noncomputable def zw:RS->R T
 |.rt t=>.ok t
 |.rf ts=>.ok (.lst ts)
 |.nx _=>.ok .non
 |.ex c=>.ex c
 |_=>.bad
def iW (n:Nat)(ts:List T):En:=ts.map Sl.vl++av (n-ts.length) Sl.un
theorem zJ.vl {H:Hp}:∀{vs:List V} {ts:List T} {i:Nat} {t:T} {n m:Nat},zJ H vs ts->(ts.map Sl.vl++av n Sl.un)[i]?=some (Sl.vl t)->∃v:V,(vs.map some++av m none)[i]?=some (some v)/\Rep H v t
 |_,_,i,t,n,m,.nil,h=>by
  simp only[cJ,bL]at h;rw[aR]at h;split at h
  ·cases h
  ·cases h
 |_,_,0,t,n,m,.cons r _,h=>by
  simp at h;subst h;exact⟨_,rfl,r⟩
 |_,_,i+1,t,n,m,.cons _ q,h=>by
  obtain⟨v,d,a⟩:=zJ.vl q (by simpa using h)
  exact⟨v,by simpa using d,a⟩
theorem VJ {n:Nat}:∀{ts:List T} {i:Nat} {us:List T},(ts.map Sl.vl++av n Sl.un)[i]?=some (Sl.ow us)->False
 |[],i,us,h=>by
  simp only[cJ,bL]at h;rw[aR]at h;split at h
  ·cases h
  ·cases h
 |t::ts,0,us,h=>by simp at h
 |t::ts,i+1,us,h=>VJ (by simpa using h)
theorem VL {n:Nat}:∀{ts:List T} {i:Nat} {c:Nat},(ts.map Sl.vl++av n Sl.un)[i]?=some (Sl.xc c)->False
 |[],i,us,h=>by
  simp only[cJ,bL]at h;rw[aR]at h;split at h
  ·cases h
  ·cases h
 |t::ts,0,us,h=>by simp at h
 |t::ts,i+1,us,h=>VL (by simpa using h)
theorem uO {n:Nat}{x:Sl}(d:∀t,x≠.vl t)(a:x≠.un):∀{ts:List T} {i:Nat},(ts.map Sl.vl++av n Sl.un)[i]?=some x->False
 |[],i,h=>by
  simp only[cJ,bL]at h;rw[aR]at h;split at h
  ·exact a (aJ h).symm
  ·cases h
 |t::ts,0,h=>d t (aJ (by simpa using h)).symm
 |t::ts,i+1,h=>uO d a (by simpa using h)
theorem SI.start {Y:Fx}{N:List Str}{vs:List V}{ts:List T}(s:zy Y.B0 Y.H0)(r:zJ Y.B0 vs ts):SI Y Y.B0 (iW N.length ts) (L2.start N vs) Y.H0 where
 s0:=s
 sH:=zy.refl _
 sB:=s
 old:=λ_ _ _=>rfl
 len:=by unfold iW L2.start;simp[r.length]
 vl:=λi t h=>r.vl h
 ow:=λi ts h=>(VJ h).elim
 xc:=λi c h=>(VL h).elim
 st:=StI.no λi s a h=>uO (λt z=>by rw[z]at a;cases a) (λz=>by rw[z]at a;cases a) h
section
variable {P:Program}{w:World}{K:ag}{mg:Str->Option Value}{base:Heap}
theorem HL {cl:Nat->Value}{x d:Str}{st:Stmt}{f:Addr}{p:FuncData}{N j:List Str}{k n:Nat}{o:En->RS}{g:List T->R T}(F:Fun K x d st f p)(S:j5 N j (zx st))(hn:n=j.length)
  (y:∀(cdv:Value) (A:Around) (outer:List Env) (s:Shared) (H:Hp) (E:XK) (Y:Fx),Y.cl=cl->ZN k (A.deeper (envOfC d (zx st) s.1.1.size f cdv))->
   wm (WN m7 P w K mg base N d (zx st) f cdv A outer s H E).nox Y (zP st) o)
  (u:∀ts,ts.length=n->g ts=zw (o (iW N.length ts))):je P w K mg base m7 (k+1) f p j (spP cl n g):=by
 subst hn;refine F.ok S spP.len λcdv A outer s H vs Q E hr ⟨B,ts,U,G,r,q⟩=>?_;refine⟨_,y cdv A _ s H E ⟨B,H,E,cl,[]⟩ rfl hr _,B,SI.start G r,?_⟩;rw[u ts U]at q;revert q;cases o _ with
 |rt t=>exact λq v i s r=>q v i s r
 |rf t=>exact λq a xs i J L n e r _ l=>q _ i L (.lst (by rw[Zd n];exact e) (r.mono l))
 |nx ρ=>exact λq σ' i J _ I=>q _ i I.sH .non
 |ex c=>exact λq=>q
 |bk ρ=>exact λq=>q.elim
 |ct ρ=>exact λq=>q.elim
 |bad=>exact λq=>q
end
abbrev rI:Hp->Hp->It->List T->Prop:=λB1 _ J ts=>∀B2 H2,zy B1 B2->zy B2 H2->(∀i,i<ts.length->J.go i H2)/\(∀(i:Nat) t x H3,ts[i]?=some t->J.yld i H2 x H3->zy H2 H3/\Rep (zS B2 H2 H3) x t)/\(∀i,ts.length<=i->J.stop i H2)
structure uI (X:Cx) (Y:Fx) (tg iter:Expr) (f:En->R (List T)):Prop where
 mk::
 go:∀ρ,PI X tg iter (tS Y rI f ρ)
instance {X:Cx}{Y:Fx}{tg iter:Expr}{f:En->R (List T)}:CoeFun (uI X Y tg iter f) λ_=>∀ρ,PI X tg iter (tS Y rI f ρ):=⟨uI.go⟩
section
variable {X:Cx}{Y:Fx}{a b c d tg:Expr}{fa fb fc fd:En->R T}{pos p:Pos}
theorem PI.imp {e:Expr}{t t':TI}(h:PI X tg e t)(i:∀f H Q,t' f H Q->t f H Q):PI X tg e t':=λj s f H Q I q=>h _ s f H Q I (i f H Q q)
theorem gC {K:ag}{j u:Hp}{a:Addr}{xs:List V}{ts:List T}(h:j a=some (.tup xs))(r:zJ j xs ts):rI j u (AK K a) ts:=λB G l k=>by
 have f:=k _ _ (l _ _ h);refine⟨λi hi=>?_,λi t x H3 e y=>?_,λi hi=>⟨xs,SqT.of f,by rw[r.length];exact hi⟩⟩
 ·obtain⟨v,e,_⟩:=r.get (aw hi);exact⟨xs,v,SqT.of f,e⟩
 ·obtain⟨rfl,y⟩:=y;obtain⟨v,q,o⟩:=r.get e;have:=y xs (SqT.of f);rw[q]at this;cases this;refine⟨zy.refl _,?_⟩;rw[zS.self B _ k];exact o.mono l
theorem gD {K:ag}{j u:Hp}{a:Addr}{xs:List V}{ts:List T}(h:j a=some (.lst xs))(r:zJ j xs ts):rI j u (Bq K a) ts:=λB G l k=>by
 have f:=k _ _ (l _ _ h);refine⟨λi hi=>?_,λi t x H3 e y=>?_,λi hi=>⟨xs,SqL.of f,by rw[r.length];exact hi⟩⟩
 ·obtain⟨v,e,_⟩:=r.get (aw hi);exact⟨xs,v,SqL.of f,e⟩
 ·obtain⟨rfl,y⟩:=y;obtain⟨v,q,o⟩:=r.get e;have:=y xs (SqL.of f);rw[q]at this;cases this;refine⟨zy.refl _,?_⟩;rw[zS.self B _ k];exact o.mono l
noncomputable def rng (lo:Int)(n:Nat):List T:=(b6 n).map λ(i:Nat)=>T.int (lo+(i:Int))
theorem VM {k j:Hp}{lo:Int}{n:Nat}:rI k j (pC lo n) (rng lo n):=λl r q o=>by
 have f:(rng lo n).length=n:=by unfold rng;simp
 refine⟨λi hi=>by rw[f]at hi;exact hi,λi t x H3 e y=>?_,λi hi=>by rw[f]at hi;exact hi⟩
 obtain⟨rfl,rfl⟩:=y;refine⟨zy.refl _,?_⟩;unfold rng at e;rw[aA]at e
 by_cases hi:i<n
 ·rw[da hi]at e;cases e;exact .int _
 ·rw[b9 (by simp;lia)]at e;cases e
def Zs (fa:En->R T):En->R (List T):=λρ=>(fa ρ).bind λt=>match t with
 |.int j=>if-1000000<j/\j<1000000 then .ok (rng 0 j.toNat)else .bad
 |_=>.bad
def Jn (fa fb:En->R T):En->R (List T):=λρ=>(fa ρ).bind λt=>(fb ρ).bind λt'=>match t,t' with
 |.int i,.int j=>if-1000000<i/\i<1000000/\ -1000000<j/\j<1000000 then .ok (rng i (j-i).toNat)else .bad
 |_,_=>.bad
theorem gE (u:Gl X "range")(o:X.mg "range"=none)(y:Snd X Y a fa)(i:lu X a:=by exact li rfl):uI X Y tg (.Call (.Name "range" p) [a] [] pos) (Zs fa):=.mk λρ=>PI.imp (Y5 u o (zF (y ρ) zZ i) i) λJ H R ⟨B,I,q⟩=>step I q λt v l _ G k r f=>by
 cases k with
 |int j=>
  have f:Po Y rI _ l (if-1000000<j/\j<1000000 then .ok _ else .bad) R:=f
  split at f
  ·exact⟨j,rfl,by lia,by lia,ZO r f VM⟩
  ·exact f.elim
 |_=>exact f.elim
theorem gF (P:Gl X "range")(J:X.mg "range"=none)(Q:Snd X Y a fa)(u:Snd X Y b fb)(o:starEach [a,b] X.env=[(false,eval a X.env),(false,eval b X.env)]:=by exact mz rfl rfl)(f:lu X b:=by exact li rfl):uI X Y tg (.Call (.Name "range" p) [a,b] [] pos) (Jn fa fb):=.mk λρ=>
 PI.imp (Y6 P J (zF (Q ρ) (zF (u ρ) zZ f) (by rw[o,f])) o f) λσ H R ⟨B,I,q⟩=>step I q λt v Z _ s1 r N y=>step N y λt' v' G _ U l L k=>by
  cases r with
  |int i=>
   cases l with
   |int j=>
    have k:Po Y rI _ G (if-1000000<i/\i<1000000/\ -1000000<j/\j<1000000 then .ok _ else .bad) R:=k
    split at k
    ·exact⟨i,j,rfl,⟨by lia,by lia,by lia,by lia⟩,ZO L k VM⟩
    ·exact k.elim
   |_=>exact k.elim
  |_=>cases l<;>exact k.elim
def tP (X:Cx)(Y:Fx)(tg:Expr)(g:T->En->R En):Prop:=∃t:TG,PG X tg t/\∀B ρ i H v x Q,SI Y B ρ i H->Rep B v x->(match g x ρ with|.ok f=>∀σ',SI Y B f σ' H->Q σ' H|_=>False)->t v i H Q
def zI (i:Nat):T->En->R En:=λt ρ=>.ok (ρ.set i (.vl t))
theorem VN {i:Nat}{x:Str}(k:X.N.Nodup)(hi:X.N[i]?=some x)(f:L2.Loc X.env.scope x)(j:X.fn x=true\/X.env.scope.names.lookup x=some .local:=by first|exact .inl rfl|exact .inr rfl|assumption):tP X Y (.Name x pos) (zI i):=
 ⟨wO i,jZ k hi f j,λB ρ l H v x Q I r q=>q _ (I.setV i r)⟩
def zV (i j:Nat):T->En->R En:=λt ρ=>match t with
 |.tup [x,y]=>.ok ((ρ.set i (.vl x)).set j (.vl y))
 |_=>.bad
theorem gG {i j:Nat}{x y:Str}{p' Z:Pos}{k:Nat}(P:X.calm=true)(u:X.N.Nodup)(hi:X.N[i]?=some x)(J:X.N[j]?=some y)(U:L2.Loc X.env.scope x)(hy:L2.Loc X.env.scope y)
  (L:X.fn x=true\/X.env.scope.names.lookup x=some .local:=by first|exact .inl rfl|exact .inr rfl|assumption) (o:X.fn y=true\/X.env.scope.names.lookup y=some .local:=by first|exact .inl rfl|exact .inr rfl|assumption):
  tP X Y (.Tuple [.Name x pos,.Name y p'] k Z) (zV i j):=by
 refine⟨rl X.K 2 _,VB P (Jq (jZ u hi U L) (Jq (jZ u J hy o) Y3)),λB ρ σ H v t Q I r q=>?_⟩;cases r with
 |@tup l xs ts h r=>
  cases r with
  |nil=>exact q.elim
  |cons G f=>
   cases f with
   |nil=>exact q.elim
   |cons r2 f=>
    cases f with
    |cons _ _=>exact q.elim
    |nil=>
     exact⟨l,_,rfl,SqT.of (I.sB _ _ h),rfl,_,_,rfl,_,_,rfl,rfl,q _ ((I.setV i G).setV j r2)⟩
 |_=>exact q.elim
def Zr (g:T->En->R En)(fb:En->RS):List T->En->RS
 |[],ρ=>.nx ρ
 |t::ts,ρ=>match g t ρ with
  |.ok ρ1=>match fb ρ1 with
   |.nx f=>Zr g fb ts f
   |.ct f=>Zr g fb ts f
   |.bk f=>.nx f
   |r=>r
  |.ex c=>.bad
  |.bad=>.bad
def ZR (fi:En->R (List T))(g:T->En->R En)(fb:En->RS):En->RS:=λρ=>(fi ρ).s λts=>Zr g fb ts ρ
theorem gH {iter:Expr}{L:List Stmt}{fi:En->R (List T)}{g:T->En->R En}{fb:En->RS}(hp:PassesOwn (model X.prog X.w) X.A X.env X.xe)(hc:X.calm=true)(hi:uI X Y tg iter fi)(hg:tP X Y tg g)(hb:wm X Y L fb)
  (hs:∀x,foldedSetIterable iter X.env x=pure x:=by intro _;rfl):jE X Y (.For tg iter L [] pos) (ZR fi g fb):=.mk λρ=>by
 obtain⟨tG,hG,hG'⟩:=hg;refine PS.imp (KF (tb:=λD σ H=>∃f,m5 Y fb f D σ H) hp hc (hi ρ) hG (λpins s σ H D I ⟨f,q⟩=>hb f _ s σ H D I q) hs) λD σ H ⟨B,I,q⟩=>?_;refine jz I q λts J H1 _ s1 r1 I1 q1=>?_;refine⟨λi m σ' H'=>m=ts.length-i/\i<=ts.length/\∃f u,SI Y u f σ' H'/\zy _ u/\PoS Y u (Zr g fb (ts.drop i) f) D,⟨ts.length,by simp,bj _,ρ,_,I1,zy.refl _,q1⟩,?_⟩
 rintro i m σ' H' ⟨rfl,hi,f,u,Z,Q,l⟩
 obtain⟨hgo,U,r⟩:=r1 u H' Q Z.sB
 by_cases o:i<ts.length
 ·refine .inr ⟨hgo i o,λv G=>∃k N,SI Y N k v G/\zy _ N/\PoS Y N _ D,λv G ⟨k,N,I2,P,j⟩=>⟨ts.length-(i+1),by lia,rfl,o,k,N,I2,P,j⟩,λx G y=>?_⟩
  obtain⟨P,r2⟩:=U i _ x G (aw o) y;rw[d8 o]at l;unfold Zr at l;refine hG' _ f σ' G x _ _ (Z.grow P) r2 ?_;cases eg:g _ f with
  |bad=>rw[eg]at l;exact l
  |ex c=>rw[eg]at l;exact l
  |ok ρ1=>
   rw[eg]at l;intro σ1 J1;refine⟨ρ1,_,J1,?_⟩;have j:=PoS.up (zS.ge Z.sB P) l;dsimp only at j;have s3:=Q.trans (zS.ge Z.sB P);revert j;cases fb ρ1 with
   |nx k=>exact λj σ3 H3 B3 s4 I3=>⟨k,B3,I3,s3.trans s4,PoS.up s4 j⟩
   |ct k=>exact λj σ3 H3 B3 s4 I3=>⟨k,B3,I3,s3.trans s4,PoS.up s4 j⟩
   |bk k=>exact λj=>j
   |rt t=>exact λj=>j
   |rf t=>exact λj=>j
   |ex c=>exact λj=>j
   |bad=>exact λj=>j
 ·have e:i=ts.length:=by lia
  subst e;rw[ij]at l;exact .inl ⟨r _ (au _),l σ' H' u (zy.refl _) Z⟩
def ZX (g:En->R Bool)(fb:En->RS):Nat->En->RS
 |0,_=>.bad
 |n+1,ρ=>(g ρ).s λk=>if k=true then match fb ρ with
   |.nx f=>ZX g fb n f
   |.ct f=>ZX g fb n f
   |.bk f=>.nx f
   |r=>r
  else .nx ρ
theorem YF {n:Nat}{r:List Stmt}{ga:En->R Bool}{fb:En->RS}(hp:PassesOwn (model X.prog X.w) X.A X.env X.xe)(hc:WA X Y c ga)(hb:wm X Y r fb):jE X Y (.While c r [] pos) (ZX ga fb n):=.mk λρ=>by
 refine PS.imp (v9 (tc:=λk H Q=>∃f,tS Y rE ga f k H Q) (tb:=λD k H=>∃f,m5 Y fb f D k H) hp (λo s k H D I ⟨f,q⟩=>hc f _ s k H D I q) (λo s k H D I ⟨f,q⟩=>hb f _ s k H D I q)) λD k H ⟨B,I,q⟩=>?_;refine⟨λm σ' H'=>∃f y,SI Y y f σ' H'/\PoS Y y (ZX ga fb m f) D,⟨n,ρ,B,I,q⟩,?_⟩
 rintro m σ' H' ⟨f,y,I',u⟩
 cases m with
 |zero=>exact u.elim
 |succ m=>
  unfold ZX at u;refine⟨f,jz I' u λt v H1 _ s1 r1 I1 U=>?_⟩;have N:=r1;subst N;cases v with
  |false=>exact U _ _ _ (zy.refl _) I1
  |true=>
   refine⟨λl P=>∃j Z,SI Y Z j l P/\PoS Y Z _ D,λl P h=>⟨m,c_ m,h⟩,f,_,I1,?_⟩;revert U;cases fb f with
   |nx j=>exact λi J H3 L s4 G=>⟨j,L,G,PoS.up s4 i⟩
   |ct j=>exact λi J H3 L s4 G=>⟨j,L,G,PoS.up s4 i⟩
   |bk j=>exact λi=>i
   |rt t=>exact λi=>i
   |rf t=>exact λi=>i
   |ex c=>exact λi=>i
   |bad=>exact λi=>i
end
theorem JK {env:Env}:∀(ns:List (Str×NameKind)) (acc:List (Str×Addr)),(∀x∈ns,x.2=NameKind.free->∃c,env.cells.lookup x.1=some c)->(∀x c,acc.lookup x=some c->env.cells.lookup x=some c)->
  ∃cl,(forIn ns acc (λ(x:Str×NameKind) (r:List (Str×Addr))=>if (x.2==NameKind.free)=true then (do let c ←cellOf env x.1;pure (ForInStep.yield ((x.1,c)::r)))else pure (ForInStep.yield r)):Sem _)=pure cl/\
   (∀x c,cl.lookup x=some c->env.cells.lookup x=some c)/\(∀x c,acc.lookup x=some c->∃y,cl.lookup x=some y)/\(∀x∈ns,x.2=NameKind.free->∃c,cl.lookup x.1=some c)
 |[],acc,_,h=>⟨acc,rfl,h,λx c e=>⟨c,e⟩,λx a=>by simp at a⟩
 |(n,k)::ns,acc,p,h=>by
  by_cases j:k=NameKind.free
  ·obtain⟨c,v⟩:=p _ aj j;have h':∀x d,((n,c)::acc).lookup x=some d->env.cells.lookup x=some d:=λx d e=>by
    by_cases a:x=n
    ·subst a;have u:=by simpa[aM]using e
     cases u;exact v
    ·have u:=by
      rw[aM,(beq_eq_false_iff_ne.mpr a)]at e;exact e
     exact h x d u
   obtain⟨cl,e,l,i,o⟩:=JK ns _ (λx a=>p x (ai _ a)) h';refine⟨cl,?_,l,λx d B=>?_,λx a f=>?_⟩
   ·rw[iF];subst j;have q:cellOf env n=pure c:=by unfold cellOf;rw[v]
    simp only[beq_self_eq_true,if_true,q];exact e
   ·by_cases a:x=n
    ·subst a;exact i x c (by simp[aM])
    ·exact i x d (by rw[aM,(beq_eq_false_iff_ne.mpr a)];exact B)
   ·rcases am.mp a with rfl|a
    ·exact i n c (by simp[aM])
    ·exact o x a f
  ·obtain⟨cl,e,l,i,o⟩:=JK ns acc (λx a=>p x (ai _ a)) h;refine⟨cl,?_,l,i,λx a f=>?_⟩
   ·rw[iF];have q:(k==NameKind.free)=false:=by simpa using j
    simp only[q,aZ,if_false];exact e
   ·rcases am.mp a with rfl|a
    ·exact absurd f j
    ·exact o x a f
theorem Xo {scope:Scope}{env:Env}(d:∀x∈scope.names,x.2=NameKind.free->∃c,env.cells.lookup x.1=some c):
  ∃cl,closureFor scope env=pure cl/\(∀x c,cl.lookup x=some c->env.cells.lookup x=some c)/\(∀x∈scope.names,x.2=NameKind.free->∃c,cl.lookup x.1=some c):=by
 obtain⟨cl,e,f,_,a⟩:=JK _ [] d (λx c e=>by simp at e)
 refine⟨cl,?_,f,a⟩;unfold closureFor;exact(by simpa using e)
def nt (X:Cx)(scope:Scope)(N':List Str)(cl:List (Str×Addr))(C:Addr)(s3:Shared)(H3:Hp)(fp:List Addr)(a:List (Addr×Obj)):Cx:=
 {X with N:=N',s₀:=s3,H₀:=H3,env:=compEnvC scope cl C X.env,outer:=X.stack,stack:=X.stack,ex:=fp,fn:=λ_=>false,pn:=X.pn++a,xe:=λ_ _=>False}
structure sK (X:Cx) (scope:Scope):Prop where
 kind:scope.kind=.function
 nocell:∀x∈scope.names,x.2≠.cell
 loc:∀x∈scope.names,x.2=.local->scope.names.lookup x.1=some .local
 fre:∀x∈scope.names,x.2=.free->X.env.kindOf x.1=some .cell\/X.env.kindOf x.1=some .free
theorem jO {scope:Scope}{env:Env}{x:Str}{k:NameKind}(h:(relabel scope env).names.lookup x=some k)(p:k=.cell\/k=.free)(hn:∀x∈scope.names,x.2≠NameKind.cell):∃y∈scope.names,y.1=x/\y.2=.free:=by
 have go:∀ns:List (Str×NameKind),(∀x∈ns,x.2≠NameKind.cell)->(ns.map λ(n,k)=>if (k==NameKind.free&&env.scope.kind==.function&&env.kindOf n==some .cell)then (n,NameKind.cell)else (n,k)).lookup x=some k->∃y∈ns,y.1=x/\y.2=.free:=by
  intro ns
  induction ns with
  |nil=>intro _ h;simp at h
  |cons y ns o=>
   intro hn h;obtain⟨n,d⟩:=y
   by_cases f:x=n
   ·subst f;refine⟨(x,d),aj,rfl,?_⟩;rw[aK]at h
    by_cases a:(d==NameKind.free&&env.scope.kind==.function&&env.kindOf x==some .cell)=true
    ·rw[ar,ar]at a;exact eq_of_beq a.1.1
    ·simp only[if_neg a,aM,beq_self_eq_true]at h;cases h;rcases p with rfl|rfl
     ·exact absurd rfl (hn _ aj)
     ·rfl
   ·obtain⟨z,i,l,j⟩:=o (λz i=>hn z (ai _ i)) (by
     rw[aK]at h
     by_cases a:(d==NameKind.free&&env.scope.kind==.function&&env.kindOf n==some .cell)=true
     ·simp only[if_pos a,aM,(beq_eq_false_iff_ne.mpr f)]at h;exact h
     ·simp only[if_neg a,aM,(beq_eq_false_iff_ne.mpr f)]at h;exact h)
    exact⟨z,ai _ i,l,j⟩
 exact go _ hn h
section
variable {X:Cx}{pins:List (Addr×Obj)}{σ:Sg}{H:Hp}{s:Shared}
theorem YG {scope:Scope}{N':List Str}{cl:List (Str×Addr)}{fp:List Addr}{h':Heap}{tk:Nat}{σ':Sg}(I:L2.Inv X pins σ H s)(S:sK X scope)(hc:X.calm=true)
  (a:∀x c,cl.lookup x=some c->X.env.cells.lookup x=some c) (L:∀x∈scope.names,x.2=NameKind.free->∃c,cl.lookup x.1=some c)
  (l:∀b∈fp,Wz X pins H b) (hfo:∀b∈fp,∃o,s.heap.get? b=some o)
  (hns:h'.Ns s.1.1.size (λ_=>none)) (U:∀b o,s.heap.get? b=some o->h'.get? b=some o)
  (hl:σ'.length=N'.length) (Z:∀(i:Nat) (x:Str) (v:V),N'[i]?=some x->σ'[i]?=some (some v)->∃j:Nat,X.N[j]?=some x/\σ[j]?=some (some v)/\pV X.env.scope x/\(scope.names.lookup x=some .free)/\(X.env.kindOf x=some .cell\/X.env.kindOf x=some .free)):
  L2.Inv (nt X scope N' cl s.1.1.size s H fp pins) [] σ' H {s with heap:=h',toks:=tk}:=by
 have Q:=I.stkSub;have hlt:=λb f=>let ⟨o,e⟩:=hfo b f;aC e;have fresh:=I.hok.fresh (au _);refine⟨⟨I.ok.mod,S.kind,I.ok.glob,I.ok.blt,au _,λx y c h1 h2=>I.ok.inj x y c (a _ _ h1) (a _ _ h2),λx B=>?_,λx c h _=>(ay h).elim,λ_=>I.ok.hd hc,I.ok.frames,.inl rfl,λb f=>?_,I.bs,
   aG I.ok.bsz I.sz,λb o e f=>?_,λb f hb'=>?_,I.stack,I.stkFree⟩,rfl,I.bare,Un.kept U,⟨_,hns,λi x v h1 h2 h3=>?_⟩,λx c e=>?_,fresh,λx c e=>I.freeC x c (a _ _ e),λp hp=>?_,I.hok.kept U,hl⟩
 ·have hx':=B;obtain⟨y,hy,rfl,hyf⟩:∃y∈scope.names,y.1=x/\y.2=.free:=by
   rcases hx' with h|h
   ·exact jO h (.inl rfl) S.nocell
   ·exact jO h (.inr rfl) S.nocell
  exact L y hy hyf
 ·refine⟨aN (hlt b f),λx c e=>(l b f).2.2.2.2.1 x c (a _ _ e)⟩
 ·rcases(l b f).2.2.2.1 with h|h
  ·exact I.ok.noex b o e h
  ·exact absurd (aP (aC e) (aG I.ok.bsz h)) (bC _)
 ·have q:=l b f;rcases am.mp (Q b hb')with z|z
  ·exact q.2.1 z
  ·exact q.2.2.1 z
 ·obtain⟨j,e1,e2,e3,e4,e5⟩:=Z i x v h1 h2;obtain⟨m,hn,G⟩:=I.loc;obtain⟨u,ru,lk⟩:=G j x v e1 e2 e3;refine⟨u,ru,.inr ⟨?_,?_⟩⟩
  ·rcases h3 with h|h|h
   ·exfalso;have:∀ns:List _,ns.lookup x=some .free->(ns.map λ(n,k)=>if (k==NameKind.free&&X.env.scope.kind==.function&&X.env.kindOf n==some .cell)then (n,NameKind.cell)else (n,k)).lookup x≠some .local:=by
     intro ns
     induction ns with
     |nil=>intro z;simp at z
     |cons y ns ih=>
      obtain⟨n,k⟩:=y;intro z w;rw[aK]at w
      by_cases B:x=n
      ·subst B;have hkf:=by simpa[aM]using z
       by_cases d:(k==NameKind.free&&X.env.scope.kind==.function&&X.env.kindOf x==some .cell)=true
       ·simp only[if_pos d,aM,beq_self_eq_true]at w;cases w
       ·simp only[if_neg d,aM,beq_self_eq_true]at w;rw[hkf]at w;cases w
      ·have z':=by rw[aM,(beq_eq_false_iff_ne.mpr B)]at z;exact z
       refine ih z' ?_
       by_cases d:(k==NameKind.free&&X.env.scope.kind==.function&&X.env.kindOf n==some .cell)=true
       ·simp only[if_pos d,aM,(beq_eq_false_iff_ne.mpr B)]at w;exact w
       ·simp only[if_neg d,aM,(beq_eq_false_iff_ne.mpr B)]at w;exact w
    exact this _ e4 h
   ·exact .inl h
   ·exact .inr h
  ·rcases lk with ⟨P,_⟩|⟨_,c,hc',r⟩
   ·rcases e5 with z|z<;>(rw[z]at P;cases P)
   ·obtain⟨c',J⟩:=L _ (bR e4) rfl;have:=a x c' J;rw[hc']at this;cases this;obtain⟨o,eo,ed⟩:=r;exact⟨c,J,o,U _ _ eo,ed⟩
 ·obtain⟨v,o,eo,ed⟩:=I.cell x c (a _ _ e);exact⟨v,o,U _ _ eo,ed⟩
 ·have hp':=by
   have:=hp;rwa[aY]at this
  obtain⟨e,n,ne,nf,dc⟩:=I.pin p hp';refine⟨U _ _ e,n,aN (aC e),λf=>?_,dc⟩;rcases am.mp (Q _ f)with z|z
  ·exact ne z
  ·exact nf z
end
def PIf (X:Cx)(d:List Expr)(t:TT):Prop:=
 ∀(a:List (Addr×Obj)) (s:Shared) (f:Sg) (H:Hp) (Q:Bool->Hp->Prop),L2.Inv X a f H s->t f H Q->
  wpAny (model X.prog X.w) X.A (forIn d true λc r=>if r=true then do let ok ←isTrue c X.env (eval c X.env);pure (ForInStep.yield ok)else pure (ForInStep.yield r)) (TP X a f Q) X.xe s
theorem Xp {X:Cx}:PIf X [] (λ_ H Q=>Q true H):=λ_ _ a H _ I h=>wpAny_tests_nil ⟨H,I,h⟩
theorem Xq {X:Cx}{c:Expr}{t:TT}(h:PT X c t):PIf X [c] t:=λa s d H Q I q=>wpAny_tests_one (h _ s d H Q I q)
noncomputable abbrev XE (X:Cx)(xe:Value->Shared->Prop):Cx:={X with xe:=xe}
theorem Uq {X:Cx}{a:List (Addr×Obj)}{d:Sg}{H:Hp}{s:Shared}{xe:Value->Shared->Prop}(I:L2.Inv X a d H s):L2.Inv (XE X xe) a d H s:=
 ⟨⟨I.ok.mod,I.ok.kind,I.ok.glob,I.ok.blt,I.ok.above,I.ok.inj,I.ok.has,I.ok.cab,I.ok.hd,I.ok.frames,I.ok.stk,I.ok.exf,I.ok.bs,I.ok.bsz,I.ok.noex,I.ok.exfs,I.ok.funs,I.ok.frf⟩,I.os,I.bare,I.base,I.loc,I.cell,I.free,I.freeC,I.pin,I.hok,I.len⟩
theorem YH {X:Cx}{a:List (Addr×Obj)}{d:Sg}{H:Hp}{s:Shared}{xe:Value->Shared->Prop}(I:L2.Inv (XE X xe) a d H s):L2.Inv X a d H s:=(Uq I:L2.Inv _ _ d H s)
theorem HI {X:Cx}{e:Expr}{t:TG}{xe:Value->Shared->Prop}(d:X.xe=λ_ _=>False)(h:PG X e t):PG (XE X xe) e t:=λa s j H v u Q I r q=>di (h _ s j H v u Q (YH I) r q) (λ_ f ⟨σ',l,i,k⟩=>⟨σ',l,Uq i,k⟩) λe f z=>by rw[d]at z;exact z.elim
theorem gI {X:Cx}{e:List Expr}{t:TT}{xe:Value->Shared->Prop}(d:X.xe=λ_ _=>False)(h:PIf X e t):PIf (XE X xe) e t:=λa s i H Q I q=>di (h _ s i H Q (YH I) q) (λ_ k ⟨l,f,j⟩=>⟨l,Uq f,j⟩) λe k z=>by rw[d]at z;exact z.elim
theorem Ur {a:Type}{M:Model}{A:Around}{m:Sem a}{Q:a->Shared->Prop}{E f:Value->Shared->Prop}{s:Shared}(hE:∀e d,f e d->E e d)(h:wpAny M A m Q f s):wpAny M A m Q E s:=di h (λ_ _ q=>q) hE
def vv (J:It)(D:Addr)(g:TG)(tt:TT)(te:TE)(l:Sg->Hp->Prop)(W:Nat->Nat->List V->Sg->Hp->Prop):Prop:=
 ∀i m d j H,W i m d j H->H D=some (.lst d)/\((J.stop i H/\l j H)\/(J.go i H/\∀x p,J.yld i H x p->g x j p λa H3=>tt a H3 λk o=>
  if k=true then te a o λv q=>q D=some (.lst d)/\d.length<sizeLine/\∃f,f<m/\W (i+1) f (d++[v]) a (iV q D (.lst (d++[v])))else ∃f,f<m/\W (i+1) f d a o))
theorem YI {X:Cx}{R:Result->Shared->Prop}(hx:∀e N,X.xe e N->notedBy (model X.prog X.w) X.A X.env (λe N=>R (.error e) N) e N)(hc:X.calm=true){tg iter Z:Expr}{ifs:List Expr}{scope:Scope}{pos:Pos}{J:It}{fp:List Addr}{it:Addr}{tn:Nat->Heap->Prop}(TJ:yh X.prog X.w X.K tg J fp it tn)
  {g:TG} {tt:TT} {te:TE} (hg:PG X tg g) (ht:PIf X ifs tt) (he:PE X Z te) {D:Addr} {fin:Sg->Hp->Prop} (W:Nat->Nat->List V->Sg->Hp->Prop) (turn:vv J D g tt te fin W)
  (hR:∀s σ H,L2.Inv X [] σ H s->fin σ H->R (.ok .next) s) {m0:Nat} {L:Sg} {H0:Hp} {s0:Shared} (w0:W 0 m0 [] L H0) (I0:L2.Inv X [] L H0 s0) (t0:tn 0 s0.heap) (f0:∀b∈fp,Wz X [] H0 b):
  codeAny (model X.prog X.w) X.A (.compLoop (.ListComp Z [⟨tg,iter,ifs,0⟩] scope pos) 0 (.ref it) (.ref D) X.env) R s0:=by
 have a:∀{j:Hp},(∀b∈fp,j b=none)->∀b∈fp,Wz X [] j b:=λhn b p=>⟨hn b p,(f0 b p).2⟩;refine codeAny_loop rfl (λn N=>∃i Q σ' j,L2.Inv X [] σ' j N/\tn i N.heap/\(∀b∈fp,j b=none)/\W i n Q σ' j) (λn s3 h3=>?_) m0 ⟨0,[],L,H0,I0,t0,λb p=>(f0 b p).1,w0⟩;obtain⟨i,Q,f,H3,I3,st3,fr3,w3⟩:=h3;show wpAny _ X.A ((compTurn _ 0 _ _ _).onRaise (λx=>do noteFrame x _;theTreesLotGoes x)) _ _ s3
 refine wpAny_noted ?_;obtain⟨hD,h⟩:=turn i n Q f H3 w3;rcases h with ⟨stop,qn⟩|⟨go,next⟩
 ·refine aa (wpAny_standAt (aa (iU (TJ.done X rfl rfl rfl hc i [] s3 f H3 _ I3 (a fr3) st3 stop) λr s4 ⟨hr,I4⟩=>?_)));subst hr;exact aB (hR s4 f H3 I4 qn)
 ·refine aa (wpAny_standAt (aa (iU (TJ.item X rfl rfl rfl hc i [] s3 f H3 _ I3 (a fr3) st3 go) λr s4 ⟨u,hr,h4⟩=>?_)));subst hr;refine aa (iU h4 λ_ s5 ⟨x,H5,I5,r5,y5,I,fr5⟩=>?_);have I5':=I5.pinned (a fr5) (TJ.obj _ _ I);refine aa (Ur hx (iU (hg _ s5 f H5 x u _ I5' r5 (next x H5 y5)) λ_ s6 ⟨l,H6,I6,q6⟩=>?_));have again:∀{q:Sg} {P:Hp} {s7:Shared} {B:List V},L2.Inv X _ q P s7->(∃G,G<n/\W (i+1) G B q P)->∃m,m<n/\∃i Q σ' j,L2.Inv X [] σ' j s7/\tn i _/\(∀b∈fp,j b=none)/\W i m Q σ' j:=λ{q P s7 B} U ⟨G,hm,w7⟩=>by
   refine⟨G,hm,i+1,B,q,P,U.unpinned,TJ.keep _ _ _ I λb p o e=>(U.pin _ (b8 _ (b8 _ (jt p e)))).1,λb p=>?_,w7⟩;obtain⟨o,e,d⟩:=TJ.obj _ _ I b p;exact(U.pin _ (b8 _ (b8 _ (jt p e)))).2.1
  refine aa (Ur hx (iU (ht _ s6 l H6 _ I6 q6) λk s7 ⟨P,U,q7⟩=>?_));cases k with
  |false=>exact aB ⟨rfl,again U q7⟩
  |true=>
   refine aa (aa (Ur hx (iU (he _ s7 l P _ U q7) λv s8 ⟨y,H8,I8,r8,hD8,hlen,q8⟩=>?_)));refine aa (Ur hx (iU (JG _ s8 l H8 (.ref D) [y] _ [v] (λ_ H9=>∃G,G<n/\W _ G _ l H9) I8 rfl (.cons r8 .nil) ⟨D,Q,y,rfl,rfl,hD8,hlen,q8⟩) λw s9 ⟨_,H9,I9,_,q9⟩=>?_));exact aB (aB ⟨rfl,again I9 q9⟩)
def yT (k:Nat)(js:List Nat)(a:Sg):Sg:=av k none++js.map λj=>(a[j]?).getD none
section
variable {X:Cx}
abbrev VO (X:Cx)(scope:Scope)(N':List Str)(P:Cx->Prop):Prop:=∀cl C s3 H3 fp pins,P (nt X scope N' cl C s3 H3 fp pins)
abbrev gJ (X:Cx)(scope:Scope)(N':List Str)(E:XK)(P:Cx->Prop):Prop:=∀cl C s3 H3 fp pins xe,Zc (lh X.prog X.w) (XE (nt X scope N' cl C s3 H3 fp pins) xe) E->P (XE (nt X scope N' cl C s3 H3 fp pins) xe)
structure Ax (X:Cx) (scope:Scope) (N':List Str) (k:Nat) (js:List Nat):Prop where
 len:N'.length=k+js.length
 cap:∀(i j:Nat),js[i]?=some j->∃x,N'[k+i]?=some x/\X.N[j]?=some x/\pV X.env.scope x/\scope.names.lookup x=some .free/\(X.env.kindOf x=some .cell\/X.env.kindOf x=some .free)
theorem wY {E:XK}(hp:KZ X E){tg iter elt:Expr}{ifs:List Expr}{scope:Scope}{pos pos':Pos}{N':List Str}{k:Nat}{js:List Nat}{wi:TI}{g:TG}{tt:TT}{te:TE}{use:Option (Value->Sem Unit)}(S:sK X scope)(CP:Ax X scope N' k js)(hc:X.calm=true)
  (hi:PI X tg iter wi) (hg:VO X scope N' λXC=>PG XC tg g) (ht:VO X scope N' λXC=>PIf XC ifs tt) (he:gJ X scope N' E λXC=>PE XC elt te) {a:List (Addr×Obj)} {N:Sg} {H:Hp} {s:Shared} {Q:Value->Shared->Prop} {F:Addr->Hp->Prop} (I:L2.Inv X a N H s)
  (h:wi N H λJ H1=>∀D,H1 D=none->∃W,(∃m,W 0 m [] (yT k js N) (iV H1 D (.lst [])))/\vv J D g tt te (λ_ H'=>F D H') W)
  (hQ:∀D C H' s',L2.Inv X a N H' s'->F D H'->H' C=none->(X.s₀.1.1.size<=C)->C≠X.env.locals->(∀x c,X.env.cells.lookup x=some c->c≠C)->(∀p∈X.pn++a,p.1≠C)->(∃m,s'.heap.Ns C m)->compPost (model X.prog X.w) X.A X.xe use Q (.ref D) C (.ok .next) s')
  (hs:∀x,foldedSetIterable iter X.env x=pure x:=by intro _;rfl):
  wpAny (model X.prog X.w) X.A (comprehension (.ListComp elt [⟨tg,iter,ifs,0⟩] scope pos) scope X.env pos' (newList []) false (eval iter X.env) use) Q X.xe s:=by
 obtain⟨cl,ecl,hcl,hcf⟩:=Xo (scope:=scope) (env:=X.env) λx hx hf=>I.ok.has x.1 (S.fre x hx hf);refine wpAny_comprehension_free rfl hs ecl S.kind S.loc ?_;refine iU (hi a s N H _ I h) λv s1 h1=>iU h1 λitv d L=>?_;obtain⟨it,fp,tn,J,H2,e,I2,TJ,mz,f2,q2⟩:=L;subst e;refine bh ?_;have hD:=I2.hok.fresh (au _);have l:L2.Inv X a N (iV H2 d.1.1.size (.lst [])) {d with heap:=d.heap.push {cls:=.type "list",data:=.seq _} }:=
  I2.laid (t':=d.toks) (λb u e=>ak _ e) (au _) ⟨bj _,[],_,.nil,aq _ rfl⟩
 obtain⟨W,⟨m0,w0⟩,turn⟩:=q2 d.1.1.size hD;have f3:∀b∈fp,Wz X a (iV H2 d.1.1.size (.lst [])) b:=λb f=>by
  obtain⟨o,eo,_⟩:=TJ.obj _ _ mz b f;exact⟨by rw[zA (aN (aC eo))];exact(f2 b f).1,(f2 b f).2⟩
 have o3:∀b∈fp,∃o,(d.heap.push {cls:=.type "list",data:=.seq ([]:List Value).toArray}).get? b=some o:=λb f=>by
  obtain⟨o,eo,_⟩:=TJ.obj _ _ mz b f;exact⟨o,ak _ eo⟩
 refine wpAny_newFunctionEnv S.nocell (by intro y hy;simp at hy) (λh4 r G=>?_) S.kind
 generalize hG:d.heap.push _=G3 at l o3 r G⊢;have s3e:∃s3:Shared,s3={d with heap:=G3}:=⟨_,rfl⟩;obtain⟨s3,U⟩:=s3e;have hh3:s3.heap=d.heap.push {cls:=.type "list",data:=.seq ([]:List Value).toArray}:=by rw[U,hG]
 have hg3:G3=s3.heap:=by rw[U]
 rw[←U]at l;rw[hg3]at r G o3;have k4:=λb o e=>G.extBut b o (aN (aC e)) (ak _ e);have IC:=YG (N':=N') (cl:=cl) (fp:=fp) (σ':=yT k js N) (tk:=s3.toks+([]:List (Str×Value)).length) l S hc hcl hcf f3 o3 r k4 (by unfold yT;simp[CP.len]) (λi x v h1 L=>by
  unfold yT at L
  by_cases hik:i<k
  ·rw[aD (by simpa using hik),aR,if_pos hik]at L
   cases L
  ·have hk':k<=i:=by lia
   rw[az (by simpa using hk'),aW,aA]at L
   cases ej:js[i-k]? with
   |none=>rw[ej]at L;cases L
   |some j=>
    rw[ej]at L;obtain⟨y,e1,e2,e3,e4,e5⟩:=CP.cap (i-k) j ej;have:k+(i-k)=i:=by lia
    rw[this,h1]at e1;cases e1;refine⟨j,e2,?_,e3,e4,e5⟩;have P:some ((N[j]?).getD none)=some (some v):=L;cases ez:N[j]? with
    |none=>rw[ez]at P;cases P
    |some z=>rw[ez]at P;exact congrArg some (aJ P))
 have TC:yh _ _ _ tg J fp it tn:=TJ;have t4:tn 0 h4:=TJ.keep _ _ _ mz λb f o e=>k4 b o (by rw[hh3];exact ak _ e)
 have fC:∀b∈fp,Wz (nt X scope N' cl s3.1.1.size s3 (iV H2 d.1.1.size (.lst [])) fp a) [] _ b:=λb f=>by
  obtain⟨q0,q1,q2,q3,q4,q5⟩:=f3 b f;obtain⟨o,eo⟩:=o3 b f;refine⟨q0,aN (aC eo),λhb'=>?_,.inl f,λx c e=>q4 x c (hcl _ _ e),λp hp=>?_⟩
  ·rcases am.mp (l.stkSub b hb')with z|z
   ·exact q1 z
   ·exact q2 z
  ·exact q5 p (by
    have:=hp;rwa[aY]at this)
 have fin:∀(s5:Shared) (Z:Sg) (H5:Hp),L2.Inv (nt X scope N' cl s3.1.1.size s3 (iV H2 d.1.1.size (.lst [])) fp a) [] Z H5 s5->F d.1.1.size H5->compPost (model X.prog X.w) X.A X.xe use Q _ s3.1.1.size (.ok .next) s5:=λs5 Z H5 I5 q5=>by
  have J5:=l.call' (ch:=fp) I5.os I5.base I5.hok I5.bare λb f=>by
   obtain⟨q0,q1,q2,q3,q4,q5⟩:=f3 b f;exact⟨q3,q1,q4,q5⟩
  refine hQ _ _ H5 s5 J5 q5 I5.free l.sz (eX l.lt) (λx c e z=>?_) (λp hp z=>?_) (let ⟨m,hm,_⟩:=I5.loc;⟨m,hm⟩)
  ·obtain⟨v',o,eo,_⟩:=l.cell x c e;exact absurd (aC eo) (by rw[z];exact bC _)
  ·exact absurd (aC (l.pin p hp).1) (by rw[z];exact bC _)
 have pass:Zc (lh X.prog X.w) (XE (nt X scope N' cl s3.1.1.size s3 (iV H2 d.1.1.size (.lst [])) fp a) (notedBy (model X.prog X.w) X.A (compEnvC scope cl s3.1.1.size X.env) λe s'=>compPost (model X.prog X.w) X.A X.xe use Q (.ref d.1.1.size) s3.1.1.size (.error e) s')) E:=by
  intro pins1 σ1 H1 s1 e s' I1 c1;have J1:=l.call' I1.os I1.base I1.hok I1.bare λb f=>by
   obtain⟨q0,q1,q2,q3,q4,q5⟩:=f3 b f;exact⟨q3,q1,q4,q5⟩
  obtain⟨m1,hm1,_⟩:=I1.loc;refine iU (hp a N H1 s1 e s' _ m1 _ _ J1 hm1 I1.free l.sz (λz=>?_) rfl c1) λ_ s'' q=>?_
  ·obtain⟨_,o,eo,_⟩:=l.stack.mem z;exact absurd (aC eo) (bC _)
  ·cases use<;>exact q
 have B:=YI (X:=XE (nt X scope N' cl _ s3 _ fp _) (notedBy _ X.A _ λe s'=>compPost _ X.A _ use Q _ _ _ s')) (iter:=iter) (scope:=scope) (pos:=pos) (λ_ _ z=>z) hc TC (HI rfl (hg _ _ _ _ _ _)) (gI rfl (ht _ _ _ _ _ _)) (he _ _ _ _ _ _ _ pass) W turn (λs5 Z H5 I5=>fin s5 Z H5 (YH I5)) w0 (Uq IC) t4 fC;rw[U]at B;exact codeAny_compStart_list B (TJ.self _ _ _ _ _ t4 B)
end
def zQ (g:T->En->R En)(ft:En->R Bool)(fe:En->R T):List T->En->R (List T)
 |[],_=>.ok []
 |t::ts,ρ=>(g t ρ).bind λρ1=>(ft ρ1).bind λk=>if k=true then (fe ρ1).bind λv=>(zQ g ft fe ts ρ1).bind λvs=>.ok (v::vs)else zQ g ft fe ts ρ1
noncomputable def uP:Option Sl->Sl
 |some (.vl t)=>.vl t
 |some (.ob k _)=>.oc k []
 |some (.oc k fs)=>.oc k fs
 |_=>.un
def WC (k:Nat)(js:List Nat)(ρ:En):En:=av k .un++js.map λj=>uP ρ[j]?
noncomputable def quiet {d:Type}:R d->R d
 |.ok a=>.ok a
 |_=>.bad
def zK (g:T->En->R En)(ft:En->R Bool)(fe:En->R T)(k:Nat)(js:List Nat)(ρ:En)(ts:List T):R (List T):=if ts.length<=iT then quiet (zQ g ft fe ts (WC k js ρ))else .bad
def zL (fi:En->R (List T))(g:T->En->R En)(ft:En->R Bool)(fe:En->R T)(k:Nat)(js:List Nat):En->R T:=λρ=>(fi ρ).bind λts=>(zK g ft fe k js ρ ts).bind λvs=>.ok (.lst vs)
def nW (f:TG)(g:T->En->R En):Prop:=∀Y B ρ d H v x Q,SI Y B ρ d H->Rep B v x->(match g x ρ with|.ok a=>∀σ',SI Y B a σ' H->Q σ' H|_=>False)->f v d H Q
theorem vw (i:Nat):nW (wO i) (zI i):=λY B ρ a H v x Q I r q=>q _ (I.setV i r)
theorem vx (K:ag)(i j:Nat):nW (rl K 2 (Y2 (wO i) (Y2 (wO j) A2))) (zV i j):=λY B ρ k H v t Q I r q=>by
 cases r with
 |@tup l xs ts h r=>
  cases r with
  |nil=>exact q.elim
  |cons d a=>
   cases a with
   |nil=>exact q.elim
   |cons f a=>
    cases a with
    |cons _ _=>exact q.elim
    |nil=>exact⟨l,_,rfl,SqT.of (I.sB _ _ h),rfl,_,_,rfl,_,_,rfl,rfl,q _ ((I.setV i d).setV j f)⟩
 |_=>exact q.elim
theorem SI.blockS {Y:Fx}{B:Hp}{ρ:En}{q:Sg}{H U:Hp}(I:SI Y B ρ q H)(k:Nat)(js:List Nat)(E:XK)(s:zy H U):SI ⟨B,H,E,Y.cl,[]⟩ B (WC k js ρ) (yT k js q) U where
 s0:=I.sB
 sH:=s
 sB:=I.sB.trans s
 old:=λ_ _ _=>rfl
 len:=by unfold WC yT;simp
 vl:=λi t h=>by
  unfold WC at h;unfold yT
  by_cases l:i<k
  ·rw[aD (by simpa using l),aR,if_pos l]at h;cases h
  ·have o:k<=i:=by lia
   rw[az (by simpa using o),aW,aA]at h⊢
   cases p:js[i-k]? with
   |none=>rw[p]at h;cases h
   |some j=>
    rw[p]at h;have h':uP ρ[j]?=.vl t:=aJ h;unfold uP at h';split at h'
    ·rename_i u e;cases h';obtain⟨v,Z,r⟩:=I.vl j _ e;exact⟨v,by show some ((q[j]?).getD none)=_;rw[Z];rfl,r⟩
    all_goals cases h'
 ow:=λi ts h=>by
  exfalso;unfold WC at h
  by_cases l:i<k
  ·rw[aD (by simpa using l),aR,if_pos l]at h;cases h
  ·have o:k<=i:=by lia
   rw[az (by simpa using o),aW,aA]at h
   cases p:js[i-k]? with
   |none=>rw[p]at h;cases h
   |some j=>
    rw[p]at h;have h':uP ρ[j]?=.ow ts:=aJ h;unfold uP at h';split at h'<;>cases h'
 xc:=λi c h=>by
  exfalso;unfold WC at h
  by_cases l:i<k
  ·rw[aD (by simpa using l),aR,if_pos l]at h;cases h
  ·have o:k<=i:=by lia
   rw[az (by simpa using o),aW,aA]at h
   cases p:js[i-k]? with
   |none=>rw[p]at h;cases h
   |some j=>
    rw[p]at h;have h':uP ρ[j]?=.xc c:=aJ h;unfold uP at h';split at h'<;>cases h'
 st:=by
  have get:∀(i:Nat) (x:Sl),x.isO=true->(WC k js ρ)[i]?=some x->∃j,js[i-k]?=some j/\k<=i/\uP ρ[j]?=x:=λi x hx h=>by
   unfold WC at h
   by_cases l:i<k
   ·rw[aD (by simpa using l),aR,if_pos l]at h
    cases h;cases hx
   ·have o:k<=i:=by lia
    rw[az (by simpa using o),aW,aA]at h
    cases p:js[i-k]? with
    |none=>rw[p]at h;cases h
    |some j=>
     rw[p]at h;exact⟨j,rfl,o,aJ h⟩
  refine⟨[],λ_=>none,cu _,λi os h=>?_,λi _ os _ h=>?_,λi X n h=>?_,λi X fs h=>?_,λi os h=>?_⟩
  ·obtain⟨j,_,_,e⟩:=get i _ rfl h;unfold uP at e;split at e<;>cases e
  ·obtain⟨j,_,_,e⟩:=get i _ rfl h;unfold uP at e;split at e<;>cases e
  ·obtain⟨j,_,_,e⟩:=get i _ rfl h;unfold uP at e;split at e<;>cases e
  ·obtain⟨j,p,o,e⟩:=get i _ rfl h;have Q:(yT k js q)[i]?=some ((q[j]?).getD none):=by
    unfold yT;rw[az (by simpa using o),aW,aA,p];rfl
   obtain⟨as,O,x⟩:=I.st;unfold uP at e;split at e
   ·cases e
   ·rename_i k2 n2 N;cases e;obtain⟨a,C,L,vs,_,P,y,J,_,_,G⟩:=x.ob j _ _ N;exact⟨a,C,L,vs,by rw[Q,P];rfl,y,J,G,λm f d z=>by cases z⟩
   ·rename_i k2 fs2 N;cases e;obtain⟨a,C,L,vs,P,y,J,G,e7⟩:=x.oc j _ _ N;exact⟨a,C,L,vs,by rw[Q,P];rfl,y,I.sH _ _ J,G,e7.mono (zy.refl _) I.sH⟩
   ·cases e
  ·obtain⟨j,_,_,e⟩:=get i _ rfl h;unfold uP at e;split at e<;>cases e
theorem SI.block {Y:Fx}{B:Hp}{ρ:En}{a:Sg}{H H3:Hp}{D:Addr}(I:SI Y B ρ a H)(k:Nat)(js:List Nat)(E:XK)(d:H D=none)(o:HO):SI ⟨B,H,E,Y.cl,[]⟩ B (WC k js ρ) (yT k js a) (iV H D o):=I.blockS k js E (zy.new d _)
theorem SI.acc {Y:Fx}{B:Hp}{ρ:En}{p:Sg}{H:Hp}{D:Addr}(I:SI Y B ρ p H)(y:B D=none)(v:Y.H0 D=none)(q:∀(i:Nat) (ts:List T),ρ[i]?=some (Sl.ow ts)->p[i]?≠some (some (V.ref D)))(f:∀(i:Nat) (x:Sl),ρ[i]?=some x->Sl.isS x=true->False)(o:HO):SI Y B ρ p (iV H D o) where
 s0:=I.s0
 sH:=λb u h=>by
  rw[zA (λz=>by subst z;rw[v]at h;cases h)];exact I.sH b u h
 sB:=λb u h=>by
  rw[zA (λz=>by subst z;rw[y]at h;cases h)];exact I.sB b u h
 old:=I.old
 len:=I.len
 vl:=I.vl
 ow:=λi ts h=>by
  obtain⟨a,xs,e,L,l,J,r,d⟩:=I.ow i ts h;refine⟨a,xs,e,L,l,?_,r,d⟩;rw[zA (λz=>q i ts h (by rw[e,z]))];exact J
 xc:=I.xc
 st:=let ⟨as,O,x⟩:=I.st;⟨as,O,x.pre,λi os h=>f i _ h rfl|>.elim,λi j os G h=>f i _ h rfl|>.elim,λi k n h=>f i _ h rfl|>.elim,x.oc,λi os h=>f i _ h rfl|>.elim⟩
def K7 (ρ:En):Prop:=∀(i:Nat) (x:Sl),ρ[i]?=some x->(∀ts,x≠Sl.ow ts)/\(x.isS=true->False)
theorem vy (k:Nat)(js:List Nat)(ρ:En):K7 (WC k js ρ):=λi x h=>by
 unfold WC at h
 by_cases a:i<k
 ·rw[aD (by simpa using a),aR,if_pos a]at h
  cases h;exact⟨λ_=>Sl.noConfusion,ay⟩
 ·have d:=by omega
  rw[az (by simpa using d),aW,aA]at h
  cases f:js[i-k]? with
  |none=>rw[f]at h;cases h
  |some j=>
   rw[f]at h;have h':uP _=x:=aJ h;unfold uP at h';split at h'<;>(subst h';exact⟨λ_=>Sl.noConfusion,ay⟩)
theorem wZ {ρ:En}{i:Nat}{t:T}(h:K7 ρ):K7 (ρ.set i (.vl t)):=λj x e=>by
 rcases zr e with ⟨_,z⟩|⟨_,z⟩
 ·subst z;exact⟨λ_=>Sl.noConfusion,ay⟩
 ·exact h j x z
def nX (g:T->En->R En):Prop:=(∀t ρ a,K7 ρ->g t ρ=.ok a->K7 a)/\∀t ρ c,g t ρ≠.ex c
theorem vz (i:Nat):nX (zI i):=⟨λt ρ a h e=>by
 cases e;exact wZ h,λt ρ c e=>by cases e⟩
theorem vA (i j:Nat):nX (zV i j):=⟨λt ρ a h e=>(by
 unfold zV at e;split at e
 ·cases e;exact wZ (wZ h)
 ·cases e),λt ρ c e=>by unfold zV at e;split at e<;>cases e⟩
section
variable {X:Cx}{Y:Fx}{tg iter elt:Expr}{ifs:List Expr}{scope:Scope}{pos pos':Pos}{N':List Str}{k:Nat}{js:List Nat}{fi:En->R (List T)}{tG:TG}{g:T->En->R En}{ft:En->R Bool}{fe:En->R T}
structure W0 (X:Cx) (Y:Fx) (ifs:List Expr) (f:En->R Bool):Prop where
 mk::
 go:∀ρ,PIf X ifs (tS Y rE f ρ)
instance {X:Cx}{Y:Fx}{ifs:List Expr}{f:En->R Bool}:CoeFun (W0 X Y ifs f) λ_=>∀ρ,PIf X ifs (tS Y rE f ρ):=⟨W0.go⟩
theorem PIf.imp {X:Cx}{e:List Expr}{t t':TT}(h:PIf X e t)(i:∀a H Q,t' a H Q->t a H Q):PIf X e t':=λd s a H Q I q=>h _ s a H Q I (i a H Q q)
def Z1:En->R Bool:=λ_=>.ok true
theorem gK {X:Cx}:W0 X Y [] Z1:=.mk λρ=>PIf.imp Xp λa H Q ⟨B,I,q⟩=>ZO I q rfl
theorem gL {X:Cx}{c:Expr}(h:WA X Y c ft):W0 X Y [c] ft:=.mk λρ=>Xq (h ρ)
noncomputable def BZ (r:R (List T))(P:List T->Prop)(Z:Nat->Prop):Prop:=match r with
 |.ok vs=>P vs
 |.ex c=>Z c
 |.bad=>False
theorem yA {Z P:Hp}{σ:Sg}{ρ:En}{J:It}{ts:List T}{r:R (List T)}{D:Addr}{E0:XK}(hG:nW tG g)(hN:nX g)(I:SI Y Z ρ σ P)(rI':rI Z P J ts)(hl:ts.length<=iT)(ev:zQ g ft fe ts (WC k js ρ)=r)(hD:P D=none){F:Hp->Prop}
  (hF:BZ r (λvs=>∀f xs p,zy P f->f D=some (.lst xs)->zJ p xs vs->zy p (zS Z P f)->p D=none->zy Z p->F f) λc=>∀d f,zy P f->zy Z f->E0 (Y.cl c) d f):
  ∃W,(∃m,W 0 m [] (yT k js σ) (iV P D (.lst [])))/\vv J D tG (λσ H Q=>∃Y' l,Y'.cl=Y.cl/\tS Y' rE ft l σ H Q) (λσ H Q=>∃Y' l,Y'.cl=Y.cl/\Y'.E=E0/\tS Y' rC fe l σ H Q) (λ_ f=>F f) W:=by
 refine⟨λi m ys σ' f=>m=ts.length-i/\i<=ts.length/\ys.length<=i/\f D=some (.lst ys)/\∃l p us,SI ⟨Z,P,E0,Y.cl,[]⟩ p l σ' f/\K7 l/\zy Z p/\p D=none/\zJ p ys us/\((zQ g ft fe (ts.drop i) l).bind λws=>.ok (us++ws))=r,
  ⟨ts.length,by simp,bj _,bj _,zO,_,Z,[],I.block (H3:=P) k js _ hD _,vy k js ρ,zy.refl _,I.sB.free hD,.nil,by rw[cy,ev];cases r<;>rfl⟩,?_⟩
 rintro i m ys σ' f ⟨rfl,hi,hyl,hDl,l,p,us,I',no',B,bD,r',ew⟩
 refine⟨hDl,?_⟩;obtain⟨hgo,hyld,hstop⟩:=rI' p f B I'.sB;have tD:∀U,zy f U->zS p f U D=none:=λU s=>by rw[Zi hDl];exact bD
 by_cases G:i<ts.length
 ·refine .inr ⟨hgo i G,λx U y=>?_⟩;obtain⟨s2,r2⟩:=hyld i _ x U (aw G) y;rw[d8 G]at ew;unfold zQ at ew;have I2:=I'.grow s2;refine hG _ _ l σ' U x _ _ I2 r2 ?_;cases eg:g ts[i] l with
  |bad=>rw[eg]at ew;subst ew;exact hF
  |ex c=>exact(hN.2 _ _ _ eg).elim
  |ok ρ1=>
   rw[eg]at ew;have no1:=hN.1 _ _ _ no' eg;intro σ1 J1;refine⟨⟨Z,P,E0,Y.cl,[]⟩,ρ1,rfl,_,J1,?_⟩;have L:((ft ρ1).bind (λk=>if k=true then (fe ρ1).bind λv=>(zQ g ft fe (ts.drop (i+1)) ρ1).bind λvs=>.ok (v::vs)else zQ g ft fe (ts.drop _) ρ1)).bind (λws=>.ok _)=r:=ew
   cases ef:ft ρ1 with
   |bad=>rw[ef]at L;subst L;exact hF
   |ex c=>
    rw[ef]at L;subst L;exact λd f a b=>hF d f a ((B.trans (zS.ge I'.sB s2)).trans b)
   |ok kk=>
    rw[ef]at L;intro b H3 s3 eb;have eb':=eb;subst eb';have ew2:=L;have J2:=J1.grow s3;have hD3:H3 D=some _:=s3 _ _ (s2 _ _ hDl);have bD3:zS (zS p f U) U H3 D=none:=by rw[Zi (s2 _ _ hDl)];exact tD U s2
    have sB3:=(zS.ge I'.sB s2).trans (zS.ge I2.sB s3);cases b with
    |false=>exact⟨ts.length-(i+1),by lia,rfl,G,by lia,hD3,ρ1,_,us,J2,no1,B.trans sB3,bD3,r'.mono sB3,ew2⟩
    |true=>
     refine⟨⟨Z,P,E0,Y.cl,[]⟩,ρ1,rfl,rfl,_,J2,?_⟩;have N:=ew2;cases ee:fe ρ1 with
     |bad=>rw[ee]at N;subst N;exact hF
     |ex c=>
      rw[ee]at N;subst N;exact λd f a b=>hF d f a ((B.trans sB3).trans b)
     |ok v=>
      rw[ee]at N;have ew4:=N;have ew5:(zQ g ft fe (ts.drop (i+1)) ρ1).bind (λws=>.ok ((us++[v])++ws))=r:=by
       rw[←ew4];cases zQ g ft fe _ ρ1 with
       |ok ws=>show R.ok _=R.ok _;rw[aQ];rfl
       |_=>rfl
      intro w H4 s4 rw4;have hD4:=s4 _ _ hD3;have J3:=J2.grow s4;have bD4:zS (zS (zS p f U) U H3) H3 H4 D=none:=by rw[Zi hD3];exact bD3
      have sB4:=sB3.trans (zS.ge J2.sB s4);refine⟨hD4,aP (bW hyl G) (Zj hl),ts.length-(i+1),by lia,rfl,G,by rw[ae,aL];lia,zO,ρ1,_,us++[v],?_,no1,B.trans sB4,bD4,(r'.mono sB4).append (.cons rw4 .nil),ew5⟩
      exact J3.acc bD4 hD (λj ts' e=>((no1 j _ e).1 ts' rfl).elim) (λj x e=>(no1 j x e).2) _
 ·have e:i=ts.length:=by lia
  subst e;refine .inl ⟨hstop _ (au _),?_⟩;rw[ij]at ew;have ew':R.ok _=r:=ew;rw[aY]at ew';subst ew';refine hF f ys p I'.sH hDl r' (λb o h=>?_) bD B;cases q:P b with
  |none=>rw[Zd q];exact I'.sB b o h
  |some u=>
   rw[Zi q];have z:p b=Z b:=I'.old b u q;rw[←z];exact h
theorem JL {o d:Hp}{f:Sg}{ρ:En}{J:It}{ts vs:List T}{D:Addr}(q:nW tG g)(u:nX g)(I:SI Y o ρ f d)(p:rI o d J ts)(r:ts.length<=iT)(y:zQ g ft fe ts (WC k js ρ)=.ok vs)(v:d D=none){F:Hp->Prop}
  (B:∀j xs l,zy d j->j D=some (.lst xs)->zJ l xs vs->zy l (zS o d j)->l D=none->zy o l->F j):
  ∃W,(∃m,W 0 m [] (yT k js f) (iV d D (.lst [])))/\vv J D tG (λf H Q=>∃i a,i.cl=Y.cl/\tS i rE ft a f H Q) (λf H Q=>∃i a,i.cl=Y.cl/\(i.E=λ_ _ _=>False)/\tS i rC fe a f H Q) (λ_ j=>F j) W:=yA q u I p r y v B
structure wA (X:Cx) (Y:Fx) (tg iter elt:Expr) (ifs:List Expr) (scope:Scope) (N':List Str) (k:Nat) (js:List Nat) (fi:En->R (List T)) (tG:TG) (g:T->En->R En) (ft:En->R Bool) (fe:En->R T):Prop where
 sc:sK X scope
 cp:Ax X scope N' k js
 cm:X.calm=true
 it:uI X Y tg iter fi
 gt:VO X scope N' λXC=>PG XC tg tG
 gk:nW tG g
 gn:nX g
 tt:∀Y',Y'.cl=Y.cl->VO X scope N' λXC=>W0 XC Y' ifs ft
 el:∀Y',Y'.cl=Y.cl->gJ X scope N' Y'.E λXC=>Snd XC Y' elt fe
 hs:∀x,foldedSetIterable iter X.env x=pure x
theorem VP (C:wA X Y tg iter elt ifs scope N' k js fi tG g ft fe):Snd X Y (.ListComp elt [⟨tg,iter,ifs,0⟩] scope pos) (zL fi g ft fe k js):=.mk λρ=>by
 intro i s j H Q I ⟨B,J,q⟩;refine wY (J6 rfl) (F:=λD u=>Q (.ref D) u) (te:=λj H Q=>∃d a,d.cl=Y.cl/\(d.E=λ_ _ _=>False)/\tS d rC fe a j H Q) (tt:=λj H Q=>∃d a,d.cl=Y.cl/\tS d rE ft a j H Q) C.sc C.cp C.cm (C.it ρ) C.gt
  (λcl r s3 H3 fp i l s j H Q I ⟨d,a,G,q⟩=>C.tt d G cl r s3 H3 fp _ a _ s j H Q I q) (λcl r s3 H3 fp i xe hp l s j H Q I ⟨d,a,G,eE,q⟩=>C.el d G cl r s3 H3 fp _ xe (eE▸hp) a _ s j H Q I q) I ?_ ?_ C.hs
 ·refine step J q λts it' H1 _ s1 r1 J1 f=>?_;intro D P;unfold zK at f;split at f
  ·rename_i hl;cases y:zQ g ft fe ts _ with
   |bad=>rw[y]at f;exact f.elim
   |ex c=>rw[y]at f;exact f.elim
   |ok vs=>
    rw[y]at f;refine JL C.gk C.gn J1 r1 hl y P λu xs B' U e' Z l' b' sb'=>?_;refine(show Po Y rC _ H1 _ Q from f) _ u U ?_;exact .lst (by rw[Zd P];exact e') (Z.mono l')
  ·exact f.elim
 ·intro D Cc u U I' q' hC h0 hL p v N;obtain⟨m,hm⟩:=N;refine⟨m,hm,λh' L=>⟨.ref D,u,?_,rfl,q'⟩⟩;exact I'.turned (λb o hb e=>L.extBut b o hb e) hC (bx hL).symm (.inr h0) p v
end
section
variable {X:Cx}{Y:Fx}{tg iter elt:Expr}{ifs:List Expr}{scope:Scope}{pos pos':Pos}{N':List Str}{k:Nat}{js:List Nat}{fi:En->R (List T)}{tG:TG}{g:T->En->R En}{ft:En->R Bool}{fe:En->R T}
theorem gM {i:Nat}{x:Str}{pc p':Pos}(C:wA X Y tg iter elt ifs scope N' k js fi tG g ft fe)(hN:X.N.Nodup)(hi:X.N[i]?=some x)(hx:L2.Loc X.env.scope x)
  (hsw:swapsWith (.ListComp elt [⟨tg,iter,ifs,0⟩] scope pc) (some (.Name x p')) pos.line X.env=pure true) (hf:X.fn x=true\/X.env.scope.names.lookup x=some .local:=by first|exact .inl rfl|exact .inr rfl|assumption):
  jE X Y (.Assign [.Name x p'] (.ListComp elt [⟨tg,iter,ifs,0⟩] scope pc) pos) (zH i (zL fi g ft fe k js)):=.mk λρ=>by
 intro r s p H D I ⟨B,J,q⟩;rw[exec_Assign_Name_used _ _ _ _ hsw];refine aa (wpAny_standAt (aa ?_));refine aa (iU (wY (J6 rfl) (F:=λP Z=>D.nx (p.set i (some (.ref P))) Z) (te:=λp H Q=>∃j d,j.cl=Y.cl/\(j.E=λ_ _ _=>False)/\tS j rC fe d p H Q) (tt:=λp H Q=>∃j d,j.cl=Y.cl/\tS j rE ft d p H Q) C.sc C.cp C.cm (C.it ρ) C.gt
  (λcl y s3 H3 fp r u s p H Q I ⟨j,d,ey,q⟩=>C.tt j ey cl y s3 H3 fp _ d _ s p H Q I q) (λcl y s3 H3 fp r xe hp u s p H Q I ⟨j,d,ey,eE,q⟩=>C.el j ey cl y s3 H3 fp _ xe (eE▸hp) d _ s p H Q I q) I ?_ ?_ C.hs) λ_ s' hq=>aB (aB hq))
 ·have q':PoS Y B (((fi ρ).s λts=>(zK g ft fe k js ρ ts).s λvs=>.nx (ρ.set i (.vl (.lst vs))))) D:=by
   unfold zH zL at q;revert q;cases fi ρ with
   |bad=>exact λq=>q
   |ex c=>exact λq=>q
   |ok ts=>
    intro q;have q2:PoS Y B (((zK g ft fe k js ρ ts).bind λvs=>R.ok _).s λt=>RS.nx _) D:=q;show PoS Y B ((zK g ft fe k js ρ ts).s λvs=>RS.nx _) D;revert q2;cases zK g ft fe k js ρ ts with
    |bad=>exact λq=>q
    |ex c=>exact λq=>q
    |ok vs=>exact λq=>q
  refine jz J q' λts it' H1 _ s1 r1 J1 l=>?_;intro P hD;unfold zK at l;split at l
  ·rename_i hl;cases U:zQ g ft fe ts _ with
   |bad=>rw[U]at l;exact l.elim
   |ex c=>rw[U]at l;exact l.elim
   |ok vs=>
    rw[U]at l;refine JL C.gk C.gn J1 r1 hl U hD λZ xs B' s' e' r' l' b' sb'=>?_;have rr:Rep _ _ _:=.lst (by rw[Zd hD];exact e') (r'.mono l')
    exact l _ _ _ (zS.ge J1.sB s') ((J1.grow s').setV i rr)
  ·exact l.elim
 ·intro P Cc Z s' I' q' hC h0 hL f G hns;obtain⟨m,hm⟩:=hns;refine wpAny_assign_Name (WG (v:=.ref P) I' hN hi hx rfl (λs'' I'' ⟨a,hsb,ha⟩=>?_) hf);have hne:Cc≠a:=by
   rcases ha with rfl|ha
   ·exact hL
   ·exact(f x a ha).symm
  refine⟨m,hm.sameBut hsb hne,λh' L=>⟨_,Z,?_,q'⟩⟩;exact I''.turned (λb o hb e=>L.extBut b o hb e) hC hL (.inr h0) f G
end
noncomputable def AY (x:Str):It:=⟨λi _=>i<x.cps.size,λi H v a=>a=H/\∃c,x.cps[i]?=some c/\v=.str ⟨#[c]⟩,λi _=>x.cps.size<=i⟩
theorem wB {P:Program}{w:World}{K:ag}{tg:Expr}{x:Str}{t:Tok}{l:String}(it:Addr)(f:l="str_ascii_iterator"\/l="str_iterator"):yh P w K tg (AY x) [it] it (λi h=>h.IsStrIter it l x t i):=by
 have W:∀A:Around,A.handled=none->Walks P w A it [it] [it] x.cps.size (SignAt x) (λi h=>h.IsStrIter it l x t i):=λA hA=>by
  rcases f with rfl|rfl
  ·exact Walks.strAscii hA it x t
  ·exact Walks.strWide hA it x t
 have hn:["enumerate","zip","dict_itemiterator","dict_reverseitemiterator","odict_iterator","itertools.zip_longest","itertools.pairwise"].contains l=false:=by rcases f with rfl|rfl<;>decide
 refine⟨by simp,λi h st b a=>?_,λi h h' st k=>?_,?_,?_,λA i s Q E st h=>?_⟩
 ·have e:b=it:=by simpa using a
  subst e;obtain⟨o,e,c,d⟩:=st;exact⟨o,e,λv z=>by rw[d]at z;cases z⟩
 ·obtain⟨o,e,r⟩:=st;exact⟨o,k it (by simp) o e,r⟩
 ·intro X hP hw hK G i j s σ H E I B st U;obtain⟨J,N,f2,q,y,L⟩:=B it (by simp)
  refine(W X.A (I.ok.hd G)).item i s _ _ U st λv h' tk hv p kk=>?_;obtain⟨c,u,Z,rfl⟩:=hv;have I1:L2.Inv X _ σ H {s with heap:=h',toks:=tk}:=I.turned (λb o a e=>kk b o (by simpa using a) e) J N q y L
  obtain⟨o,e,cl,d⟩:=id p;exact⟨_,rfl,yi e cl d hn ⟨.str _,H,I1,⟨u,rfl⟩,⟨rfl,c,Z,rfl⟩,p,λb a=>(B b a).1⟩⟩
 ·intro X hP hw hK G i j s σ H E I B st U;obtain⟨J,N,f2,q,y,L⟩:=B it (by simp)
  have hx:=cK U;rcases f with rfl|rfl
  ·exact wpAny_pyNext_ascii_end (I.ok.hd G) st hx λh' eb=>⟨rfl,I.turned (λb o a e=>eb b o a e) J N q y L⟩
  ·exact wpAny_pyNext_wide_end (I.ok.hd G) st hx λh' eb=>⟨rfl,I.turned (λb o a e=>eb b o a e) J N q y L⟩
 ·rcases f with rfl|rfl
  ·exact wpAny_pyIter_striter_ascii st h
  ·exact wpAny_pyIter_striter_wide st h
noncomputable def j7 (x:Str):List T:=x.cps.toList.map λc=>T.str ⟨#[c]⟩
theorem vC {j f:Hp}{x:Str}:rI j f (AY x) (j7 x):=λq p o l=>by
 have d:(j7 x).length=x.cps.size:=by unfold j7;simp
 refine⟨λi hi=>by rw[d]at hi;exact hi,λi t v H3 e y=>?_,λi hi=>by rw[d]at hi;exact hi⟩
 obtain⟨rfl,c,k,rfl⟩:=y;refine⟨zy.refl _,?_⟩;unfold j7 at e;rw[aA]at e;have a:x.cps.toList[i]?=some c:=by simpa using k
 rw[a]at e;cases e;exact .str _
section
variable {X:Cx}{Y:Fx}{a b c d tg:Expr}{fa fb fc fd:En->R T}{pos p:Pos}
theorem gN {l:Expr}{y:TE}(U:PE X l y):PI X tg l (λu H R=>y u H λx f=>(∃a,x=.ref a/\(((∃xs,SqL X.K f a xs)/\R (Bq X.K a) f)\/((∃xs,SqT X.K f a xs)/\R (AK X.K a) f)))\/(∃z,x=.str z/\R (AY z) f)):=by
 intro G s u H R I h;refine iU (U _ s u H _ I h) λv i ⟨x,f,j,B,Q⟩=>?_;have ok:∀b∈[i.1.1.size],Wz X _ f b:=λb N=>by
  have e:=by simpa using N
  subst e;exact j.fpOk (au _) (j.hok.fresh (au _))
 rcases Q with ⟨a,e,q⟩|⟨z,e,q⟩
 ·subst e;obtain rfl:v=Value.ref a:=B;rcases q with ⟨⟨xs,k⟩,q⟩|⟨⟨xs,k⟩,q⟩
  ·obtain⟨r,L,p,P⟩:=j.list k;exact wpAny_pyIter_list p.isList ⟨i.1.1.size,[i.1.1.size],_,_,f,rfl,j.kept λb o e=>ak _ e,Y4 a _,⟨_,aq _ rfl,rfl,rfl⟩,ok,q⟩
  ·obtain⟨r,L,p,P⟩:=j.tuple k;exact wpAny_pyIter_tuple (show i.heap.IsTuple a _ from p) ⟨i.1.1.size,[i.1.1.size],_,_,f,rfl,j.kept λb o e=>ak _ e,yj a _,⟨_,aq _ rfl,rfl,rfl⟩,ok,q⟩
 ·subst e;obtain⟨t,rfl⟩:=B;cases J:z.cps.all _
  ·exact wpAny_pyIter_wide J ⟨i.1.1.size,[i.1.1.size],_,_,f,rfl,j.kept λb o e=>ak _ e,wB _ (.inr rfl),⟨_,aq _ rfl,rfl,rfl⟩,ok,q⟩
  ·exact wpAny_pyIter_ascii J ⟨i.1.1.size,[i.1.1.size],_,_,f,rfl,j.kept λb o e=>ak _ e,wB _ (.inl rfl),⟨_,aq _ rfl,rfl,rfl⟩,ok,q⟩
def jP:T->R (List T)
 |.lst xs=>.ok xs
 |.tup xs=>.ok xs
 |.str x=>.ok (j7 x)
 |_=>.bad
def Z9 (fa:En->R T):En->R (List T):=λρ=>(fa ρ).bind jP
theorem DV (o:Snd X Y a fa):uI X Y tg a (Z9 fa):=.mk λρ=>PI.imp (gN (o ρ)) λy H R ⟨B,I,q⟩=>step I q λt v j _ u k f i=>by
 cases k with
 |@tup l xs ts h r=>
  exact .inl ⟨l,rfl,.inr ⟨⟨xs,SqT.of (f.sB _ _ h)⟩,ZO f (show Po Y rI _ j _ R from i) (gC h r)⟩⟩
 |@lst l xs ts h r=>
  exact .inl ⟨l,rfl,.inl ⟨⟨xs,SqL.of (f.sB _ _ h)⟩,ZO f (show Po Y rI _ j _ R from i) (gD h r)⟩⟩
 |str z=>exact .inr ⟨z,rfl,ZO f (show Po Y rI _ j _ R from i) vC⟩
 |_=>exact i.elim
end
theorem Inv.laidT {X:Cx}{d:List (Addr×Obj)}{r:Sg}{H:Hp}{s:Shared}{h':Heap}{tk:Nat}{ch:List Addr}{a:Addr}{xs:List V}(I:L2.Inv X d r H s)(l:∀b∈ch,Wz X d H b)(k:∀b o,b∉ch->s.heap.get? b=some o->h'.get? b=some o)
  (Z:∀b o,b∈ch->s.heap.get? b=some o->∃y,h'.get? b=some y) (p:s.1.1.size<=a) (new:Zw X.prog X.w (iV H a (.tup xs)) h' a (.tup xs)):L2.Inv X d r (iV H a (.tup xs)) {s with heap:=h',toks:=tk}:=by
 have hn:=I.hok.fresh p;have j:∀b u,H b=some u->b∉ch:=λb u e i=>by rw[(l b i).1]at e;cases e
 refine I.call' rfl ⟨λb o e n _ f=>k b o f e,λb o e n _ f=>⟨o.slots,k b o f e⟩,λb o e n _=>by rw[zA (aN (aP (aC e) p))];exact n,λb o e f=>⟨o,k b o f e⟩,
  λb N e=>by rw[zA (zM e hn)];exact e,λb o u e=>by rw[zA (zM e hn)];exact e,λb P q e=>by rw[zA (zM e hn)];exact e⟩ (λb u e=>?_) I.bare λb i=>?_
 ·by_cases i:b=a
  ·subst i;rw[zO]at e;cases e;exact new
  ·rw[zA i]at e;refine(I.hok b u e).stay (λc v f q=>?_) (λc q=>by rw[zA (zM q hn)];exact q) (λc N q=>by rw[zA (zM q hn)];exact q) λc o u q=>by rw[zA (zM q hn)];exact q
   rcases f with rfl|f
   ·exact k c v (j c u e) q
   ·exact k c v (j c _ f) q
 ·obtain⟨U,L,Q,G,B,J⟩:=l b i;exact⟨G,L,B,J⟩
def B8 (K:ag)(l:Addr):It:=
 ⟨λi H=>∃xs x,SqL K H l xs/\xs[i]?=some x,λi H v a=>∃p x,H p=none/\v=.ref p/\(∀xs,SqL K H l xs->xs[i]?=some x)/\a=iV H p (.tup [.int i,x]),λi H=>∃xs,SqL K H l xs/\xs.length<=i⟩
theorem YJ {P:Program}{w:World}{K:ag}{J:List Expr}{kk:Nat}{pt:Pos}(e it l:Addr)(N:e≠it)(hle:l≠e)(hli:l≠it):
  yh P w K (.Tuple J kk pt) (B8 K l) [e,it] e (λi h=>(∃old,IsEnum h e it i old)/\h.IsListIter it l i) where
 mem:=by simp
 obj:=λi h st b a=>by
  obtain⟨⟨old,B⟩,o,e1,c,d⟩:=st;rcases am.mp a with rfl|a
  ·exact⟨_,B,λv z=>nomatch z⟩
  ·have z:b=it:=by simpa using a
   subst z;exact⟨o,e1,λv z=>by rw[d]at z;cases z⟩
 keep:=λi h h' st k=>by
  obtain⟨⟨old,B⟩,q⟩:=st;exact⟨⟨old,k e (by simp) _ B⟩,q.at λo x=>k it (by simp) o x⟩
 item:=by
  intro X Z hw hK hc i L s σ H E I hf st hg;subst Z hw hK;obtain⟨xs,x,hq,hx⟩:=hg;obtain⟨f,rv,p,hz⟩:=I.list hq;obtain⟨u,hu,ru⟩:=rv.get hx;obtain⟨⟨old,B⟩,q⟩:=st;have hi:i<f.toArray.size:=by
   have:=(aH.mp hu).1;simpa using this
  refine(ik (prog:=X.prog) (w:=X.w) (I.ok.hd hc) e it l N hle hli f.toArray).item i s _ _ hi ⟨⟨old,B⟩,q,p.isList⟩ λT vals h' tk Z hT U hM hk=>?_;obtain⟨t,y,hy,rfl⟩:=Z;have hyu:y=u:=by
   have:f[i]?=some y:=by simpa using hy
   rw[hu]at this;exact(aJ this).symm
  subst hyu;refine⟨.ref T,rfl,?_⟩;refine(ik (prog:=X.prog) (w:=X.w) (I.ok.hd hc) e it l N hle hli f.toArray).go J kk pt i T _ _ _ hM λh2 j Q=>?_;have hTn:H T=none:=I.hok.fresh hT;have G:∀b∈[e,it],b≠T:=λb a z=>by
   obtain⟨_,_,_,h3,h4⟩:=hM;rcases am.mp a with rfl|a
   ·exact h3 z.symm
   ·have:b=it:=by simpa using a
    subst this;exact h4 z.symm
  have WF:IsTup h2 T #[.int i t,y]:=by
   obtain⟨o,eo,r⟩:=U;exact⟨o,Q T o (λa=>G T a rfl) eo,r⟩
  refine⟨.ref T,iV H T (.tup [.int i,x]),Inv.laidT (s:=s) (h':=h2) (ch:=[e,it]) (tk:=tk) I hf (λb o a e=>Q b o a (hk b o a e)) (λb o a _=>?_) hT ⟨by rw[bz];show 2<=16777216;decide,[.int i t,y],.cons ⟨t,rfl⟩ (.cons ru .nil),WF,.inl ⟨_,_,rfl⟩⟩,rfl,⟨T,x,hTn,rfl,λys hy=>by rw[I.list_inj hy hq];exact hx,rfl⟩,⟨j.1,j.2.1⟩,λb a=>?_⟩
  ·obtain⟨⟨old2,he2⟩,⟨o2,eo2,_⟩,_⟩:=j;rcases am.mp a with rfl|a
   ·exact⟨_,he2⟩
   ·have:b=it:=by simpa using a
    subst this;exact⟨o2,eo2⟩
  ·rw[zA (G b a)];exact(hf b a).1
 done:=by
  intro X Z hw hK hc i L s σ H E I hf st hg;subst Z hw hK;obtain⟨xs,hq,hx⟩:=hg;obtain⟨f,rv,p,hz⟩:=I.list hq;obtain⟨⟨old,B⟩,q⟩:=st;have hl:=rv.length;refine wpAny_pyNext_enum_end (I.ok.hd hc) B q p.isList (cK (by simp;lia)) λh' hk=>⟨rfl,?_⟩
  obtain⟨f0,f1,f2,f3,f4,f5⟩:=hf it (by simp)
  exact I.turned (t':=s.toks) (λb o a e=>hk b o a e) f0 f1 f3 f4 f5
 self:=λ_ _ _ _ _ st h=>let ⟨⟨_,B⟩,_⟩:=st;ce B h
noncomputable def ZY (xs:List T):List T:=(xs.zipIdx).map λp=>T.tup [.int (p.2:Nat),p.1]
theorem JM {xs:List T}{i:Nat}{t:T}(h:(ZY xs)[i]?=some t):∃x,xs[i]?=some x/\t=.tup [.int (i:Nat),x]:=by
 unfold ZY at h;rw[aA,fB]at h;cases e:xs[i]? with
 |none=>rw[e]at h;cases h
 |some x=>rw[e]at h;cases h;exact⟨x,rfl,by simp⟩
theorem ji (xs:List T):(ZY xs).length=xs.length:=by unfold ZY;simp
theorem Xr {K:ag}{f q:Hp}{a:Addr}{xs:List V}{ts:List T}(h:f a=some (.lst xs))(r:zJ f xs ts):rI f q (B8 K a) (ZY ts):=λI G k j=>by
 have d:=j _ _ (k _ _ h);rw[ji];refine⟨λi hi=>?_,λi t x H3 e y=>?_,λi hi=>⟨xs,SqL.of d,by rw[r.length];exact hi⟩⟩
 ·obtain⟨v,e,_⟩:=r.get (aw hi);exact⟨xs,v,SqL.of d,e⟩
 ·obtain⟨p,v,hp,rfl,y,rfl⟩:=y;obtain⟨t',u,rfl⟩:=JM e;obtain⟨B,o,l⟩:=r.get u;have:=y xs (SqL.of d);rw[o]at this;cases this;refine⟨zy.new hp _,.tup (j6 hp _) (.cons (.int _) (.cons ?_ .nil))⟩;exact(l.mono k).mono (zS.ge j (zy.new hp _))
section
variable {X:Cx}{Y:Fx}{a:Expr}{fa:En->R T}{pos p pt:Pos}{elts:List Expr}{kk:Nat}
theorem Xs {B:TA}(P:Gl X "enumerate")(hm:X.mg "enumerate"=none)(Z:PA X [a] B)(hs:lu X a:=by exact li rfl):
  PI X (.Tuple elts kk pt) (.Call (.Name "enumerate" p) [a] [] pos) (λr H R=>B r H λvs d=>∃l xs,vs=[.ref l]/\d l=some (.lst xs)/\R (B8 X.K l) d):=by
 intro y s r H R I h;refine Call_ (j9 I P hm PyProof.Rows.Boot.«enumerate» (aV (iU (Z pos _ s r H _ I h) λus j ⟨vs,d,i,L,U⟩=>?_) hs rfl));obtain⟨l,xs,e,hl,q⟩:=U;subst e;obtain⟨u,rfl,N⟩:=Zx L;obtain rfl:u=Value.ref l:=N;obtain⟨_,Q,n,rv,G⟩:=(show Zw _ X.w d _ l _ from i.hok l _ hl);have k:=aC G;refine call_enumerate_1 G λh' J v hsz hk=>ce J ?_;have f:∀b∈[j.1.1.size+1,j.1.1.size],Wz X _ d b:=λb o=>by
  rcases am.mp o with rfl|o
  ·exact i.fpOk (cU _) (i.hok.fresh (cU _))
  ·have z:=by simpa using o
   subst z;exact i.fpOk (au _) (i.hok.fresh (au _))
 exact⟨j.1.1.size+1,[j.1.1.size+1,j.1.1.size],_,_,d,rfl,i.kept hk,YJ _ _ l (eQ _) (aN (cT k)) (aN k),⟨⟨_,J⟩,v⟩,f,q⟩
def Xt (fa:En->R T):En->R (List T):=λρ=>(fa ρ).bind λt=>match t with
 |.lst xs=>.ok (ZY xs)
 |_=>.bad
theorem gO (u:Gl X "enumerate")(o:X.mg "enumerate"=none)(y:Snd X Y a fa)(f:lu X a:=by exact li rfl):uI X Y (.Tuple elts kk pt) (.Call (.Name "enumerate" p) [a] [] pos) (Xt fa):=.mk λρ=>
 PI.imp (Xs u o (zF (y ρ) zZ f) f) λJ H R ⟨B,I,q⟩=>step I q λt v k _ G j d i=>by
  cases j with
  |@lst l xs ts h r=>exact⟨l,xs,rfl,d.sB _ _ h,ZO d (show Po Y rI _ k _ R from i) (Xr h r)⟩
  |_=>exact i.elim
noncomputable def uQ:List T->Option (List Str)
 |[]=>some []
 |.str x::r=>match uQ r with|some d=>some (x::d)|none=>none
 |_::_=>none
def jA (d:Str):T->R T
 |.lst ts=>match uQ ts with
  |some f=>if (f.map (·.length)).sum+f.length*d.length<=16777216 then .ok (.str (Txt.join d f))else .bad
  |none=>.bad
 |_=>.bad
theorem W1 {H:Hp}:∀{xs:List V} {ts:List T} {d:List Value} {f:List Str},zJ H xs ts->Z0 xs d->uQ ts=some f->StrsAre d f
 |_,_,_,f,.nil,q,h=>by
  have h':=h;cases q;cases h';exact .nil
 |_,_,_,f,.cons r rs,q,h=>by
  cases q with
  |cons i vs=>
  cases r with
  |str x=>
   unfold uQ at h;split at h
   ·rename_i j e;cases h;obtain⟨tk,rfl⟩:=i;exact .cons x tk (W1 rs vs e)
   ·cases h
  |_=>cases h
theorem Xu:m8 X "str.join" (λx xs H Q=>∃z l i ts d,x=.str z/\xs=[.ref l]/\H l=some (.lst i)/\zJ H i ts/\uQ ts=some d/\(d.map (·.length)).sum+d.length*z.length<=16777216/\Q (.str (Txt.join z d)) H):=by
 intro j s L H x xs v us Q I G f h;obtain⟨z,l,i,ts,d,rfl,rfl,J,r,e,y,q⟩:=h;obtain⟨t,rfl⟩:=G;obtain⟨u,rfl,o⟩:=Zx f;obtain rfl:u=Value.ref l:=o;obtain⟨B,f,p,_⟩:=zX I (.inl J) r;exact join_list p (by simpa using W1 r f e) y λt' k=>⟨.str _,H,I.tok k,⟨t',rfl⟩,q⟩
theorem gP {z:Str}{i:Nat}{f o:Pos}(L:jC X Y a fa)(G:attributeBase (.Constant (.str z) i f) "join" X.env (eval (.Constant (.str z) i f) X.env)=eval (.Constant (.str z) i f) X.env:=by rfl)(k:lu X a:=by exact li rfl)
  (J:(o.endLine==p.line)=true:=by rfl):Snd X Y (.Call (.Attribute (.Constant (.str z) i f) "join" o) [a] [] p) (gx (jA z) fa):=.mk λρ=>by
 have y:(((((backTo p (starEach [a] X.env)).all λx=> !x.fst)&&(backToKw p (keywordEach [] X.env)).all λx=>x.fst.isSome)&&decide (([a].length+([]:List Keyword).length+if ([]:List Keyword).isEmpty=true then 0 else 1)<30))=true):=by rw[k];rfl
 refine PE.imp (wk bw PySem.F.slot_str_join PySem.F.type_str_join Xu Y0 (zF (L ρ) zZ k) G y J k rfl) λσ H Q ⟨B,I,q⟩=>?_;refine⟨rfl,step I q λt v N _ Z u P d=>?_⟩;cases u with
 |@lst l xs ts h r=>
  have d:Po Y rC _ N (match uQ ts with|some j=>if (j.map _).sum+j.length*z.length<=16777216 then .ok _ else .bad|none=>.bad) Q:=d
  split at d
  ·rename_i j e;split at d
   ·rename_i U;exact⟨z,l,xs,ts,j,rfl,rfl,h,r,e,U,lq P.sB d rfl (.str _)⟩
   ·exact d.elim
  ·exact d.elim
 |_=>exact d.elim
end
noncomputable def dd:List Str->List Str->List Str
 |acc,[]=>acc
 |acc,x::r=>dd (if x∈acc then acc else acc++[x]) r
section
variable {prog:Program}{w:World}{A:Around}{R:Result->Shared->Prop}{I:Addr}{fp wr:List Addr}{n:Nat}{P:Nat->Value->Prop}{St:Nat->Heap->Prop}
theorem ju {h h':Heap}{S:Addr}{f g:Str->Bool}{m k:Nat}(x:h.SetOf (strKind prog w) S f m)(e:∀o,h.get? S=some o->h'.get? S=some o)(d:f=g)(a:m=k):h'.SetOf (strKind prog w) S g k:=by
 subst d a;obtain⟨o,j,l,t,i,r⟩:=x;exact⟨o,j,l,t,e o i,r⟩
theorem vD (W:Walks prog w A.in1 I fp wr n P St)(S:Addr)(j:S∉fp)(a:Nat->Str)(B:∀i v,P i v->∃t,v=Value.str (a i) t)(d:n+1<scanBound):
  ∀(k i:Nat) (acc:List Str) (s:Shared),n-i=k->i<=n->acc.length<=i->St i s.heap->s.heap.SetOf (strKind prog w) S (λx=>decide (x∈acc)) acc.length->
   (∀h' tk,(∀b o,b∉S::wr->s.heap.get? b=some o->h'.get? b=some o)->h'.SetOf (strKind prog w) S (λx=>decide (x∈dd acc ((iz i k).map a))) (dd acc ((iz i k).map a)).length->
    R (.ok (.ret .none)) {s with heap:=h',toks:=tk})->codeAny (model prog w) A (.builtin "set.update.loop" ⟨[.ref S,.ref I],[]⟩) R s:=by
 intro k
 induction k with
 |zero=>
  intro i acc s hk hi G f hS J;obtain rfl:i=n:=by lia
  refine cO eR ?_;refine aa (W.done s _ _ f λh' tk r=>aB ?_);exact J h' tk (λb o d e=>r b o (λz=>d (ai _ z)) e) (ju hS (λo e=>r S o (λz=>j (W.sub _ z)) e) rfl rfl)
 |succ k ih=>
  intro i acc s hk hi G f hS J;refine cO eR ?_;refine aa (W.item i s _ _ (by lia) f λv h1 tk1 hP p q=>?_)
  obtain⟨t,rfl⟩:=B i v hP;have L:=ju hS (λo e=>q S o (λz=>j (W.sub _ z)) e) rfl rfl;refine aa (m:=holding _ _) (wpAny_holding ?_);unfold setAdd;have u:(strKind prog w).is (a i) (.str (a i) t)=true:=strKind_is _ _ _ _;refine wpAny_holding (aa ((strKind _ w).pyHash u ?_));refine wpAny_setAddHashed_of u rfl L (by lia) λh2 y U=>?_
  have e2:(if decide (a i∈acc)=true then acc.length else acc.length+1)=(if a i∈acc then acc else acc++[a i]).length:=by
   by_cases l:a i∈acc
   ·simp[l]
   ·simp[l]
  have e1:(λx=>decide (x∈acc)||decide (x=a i))=(λx=>decide (x∈(if a i∈acc then acc else acc++[a i]))):=by
   funext x
   by_cases l:a i∈acc
   ·simp only[if_pos l]
    by_cases hx:x=a i
    ·subst hx;simp[l]
    ·simp[hx]
   ·simp[l,Bool.decide_or]
  have Z:=ju U (λo e=>e) e1 e2;refine aB ⟨plainId_quiet F.plain_set_update_loop _,ih _ _ _ (by lia) (by lia) ?_ (W.frame _ h1 _ p λb d o e=>?_) Z λh3 N Q X=>?_⟩
  ·split
   ·lia
   ·rw[ae,aL];lia
  ·exact(y.2 b (λz=>j (z▸d))).trans e
  ·refine J h3 N (λb o d e=>Q b o d ?_) X;exact(y.2 b (λz=>d (z▸aj))).trans (q b o (λz=>d (ai _ z)) e)
end
section
variable {prog:Program}{w:World}{A:Around}{E:Value->Shared->Prop}{s:Shared}
set_option maxRecDepth 100000 in
set_option maxHeartbeats 3200000 in
theorem YK {l:Addr}{a:List Value}{j:List Str}{Q:Value->Shared->Prop}(hh:A.handled=none)(hl:s.heap.IsList l a.toArray)(hi:StrsAre a j)(hb:a.length+1<scanBound)
  (h:∀(h':Heap) (tk:Nat),h'.SetOf (strKind prog w) s.1.1.size (λx=>decide (x∈dd [] j)) (dd [] j).length->(∀b o,b<s.1.1.size->s.heap.get? b=some o->h'.get? b=some o)->
   Q (.ref s.1.1.size) {s with heap:=h',toks:=tk}):wpAny (model prog w) A (call (.type "set") [.ref l]) Q E s:=by
 have Z:∀{a:List Value} {j:List Str},StrsAre a j->a.length=j.length/\∀(i:Nat) (v:Value),a[i]?=some v->∃t,v=Value.str (j.getD i ⟨#[]⟩) t:=λ{a j} hi=>by
  induction hi with
  |nil=>exact⟨rfl,λi v e=>by simp at e⟩
  |cons y t _ ih=>
   refine⟨by simp[ih.1],λi v e=>?_⟩
   cases i with
   |zero=>exact⟨t,by simpa using e.symm⟩
   |succ i=>exact ih.2 i v (by simpa using e)
 obtain⟨P,hget⟩:=Z hi;have hys:(iz 0 a.length).map (λi=>j.getD i ⟨#[]⟩)=j:=by
  rw[P];refine eC λi=>?_;rw[aA]
  by_cases u:i<j.length
  ·rw[List.getElem?_range' u,aw u];simp[aw u]
  ·rw[b9 (by simp;lia),b9 (by lia)]
   rfl
 obtain⟨c,tl,hmro⟩:=cL.mro;have hmade:=cL.made;have hsub:=cL.sub;have h1:=cL.notType;have h2:=cL.canCreate;have hct:=F.typeCall_set_1 (.ref l);refine wpAny_call (codeAny_of_tree (show wpAny _ _ (callAny (.type "set") _) _ _ _ from ?_));refine aB ⟨Code.quiet_builtin _ (by decide+kernel),cO F.entry_type_call ?_⟩
 rw[Around.under_plain (weight_type_call_type "set" [.ref l] []) rfl]
 repeat any_goals (first|assumption|wp_step)
 refine dm (code_set_new_1 (.ref l) (E:=E) (Q₁:=λobj p=>∃d:Bool,obj=.ref s.1.1.size/\p={s with heap:=s.heap.push {cls:=.type "set",dict:=none,data:=.set #[] 0 (.fresh 0 0 d)} }) λd=>⟨d,rfl,rfl⟩) λr p hr=>?_;cases r with
 |error e=>exact hr
 |ok fl=>
  cases fl with
  |ret obj=>
   obtain⟨d,rfl,rfl⟩:=hr;generalize hG:s.heap.push {cls:=.type "set",dict:=none,data:=.set #[] 0 (.fresh 0 0 d)}=G;have hS:G.get? s.1.1.size=some {cls:=.type "set",dict:=none,data:=.set #[] 0 (.fresh 0 0 d)}:=by rw[←hG];exact aq _ rfl
   have I:G.objs.size=s.1.1.size+1:=by rw[←hG,bI]
   have U:∀b o,s.heap.get? b=some o->G.get? b=some o:=λb o e=>by rw[←hG];exact ak _ e
   have hT:Shared.TypeIs {s with heap:=G} (.ref s.1.1.size) "set":=⟨_,hS,rfl⟩;have hli:=cL.init.lookup;have hbi:=cL.init.bind (.ref s.1.1.size)
   repeat any_goals (first|assumption|wp_step)
   refine dm (codeAny_call_builtin (R:=wants (λr q=>r=.none/\∃h' tk,q={s with heap:=h',toks:=tk}/\h'.SetOf (strKind prog w) s.1.1.size (λx=>decide (x∈dd [] j)) (dd [] j).length/\
     (∀b o,b<s.1.1.size->s.heap.get? b=some o->h'.get? b=some o)) E) cL.init.plain F.entry_set_init (check_set_init_1 hT ?_)) λL q f=>?_
   ·obtain⟨⟨ocls,odict,odata,oslots⟩,hol,hcl,nl,hdl⟩:=hl;simp only at hcl hdl;subst hcl;subst hdl;have hol':=U _ _ hol;have hsls:=F.sub_list_set;have hslf:=F.sub_list_frozenset;have hne:(Value.type "list"==Value.type "dict")=false:=by decide
    have N:G.IsList l a.toArray:=⟨_,hol',rfl,nl,rfl⟩;have X:l<s.1.1.size:=aC hol;unfold Builtin.«set.__init__» noKeywords Builtin.Frozenset.updateFrom;generalize hPI:pyIter=PI
    wp_walk
    subst hPI;refine wpAny_pyIter_list N (aa (wpAny_runValue ?_));have hSf:s.1.1.size∉[G.objs.size,l]:=by
     rw[I];intro z;rcases am.mp z with z|z
     ·exact absurd z (aN (c_ _))
     ·exact absurd (ax.mp z) (eX X)
    refine vD (iM (A:=A.in1.in1.in1) (by simp[hh]) G.objs.size l (by rw[I];exact aN (cT X)) a.toArray) s.1.1.size hSf (λi=>j.getD i ⟨#[]⟩) (λi v e=>hget i v (by simpa using e)) (by simpa using hb) a.length 0 [] _ (by simp) (bj _) (au _)
     ⟨⟨_,aq _ rfl,rfl,rfl⟩,N.push _⟩ ?_ ?_
    ·have J:(G.push {cls:=.type "list_iterator",data:=.fields #[.ref l,.int 0 0]}).get? s.1.1.size=some {cls:=.type "set",dict:=none,data:=.set #[] 0 (.fresh 0 0 d)}:=ak _ hS;exact ju ((PyProof.Rows.setObjOf_fresh (knd:=strKind prog w) d).setOf J (by unfold scanBound;lia)) (λo e=>e) (by funext x;simp) rfl
    ·intro h' tk' hm k;rw[hys]at k;refine aB (show wpAny _ _ (ret Value.none) _ _ _ from aB ⟨rfl,h',tk',rfl,k,λb o hb e=>?_⟩);refine hm b o (λz=>?_) (ak _ (U b o e));rcases am.mp z with z|z
     ·exact absurd z (aN hb)
     ·have z':b=G.objs.size:=ax.mp z;rw[I]at z';exact absurd z' (aN (cT hb))
   ·cases L with
    |error e=>exact f
    |ok B=>
     cases B with
     |ret r=>
      obtain⟨rfl,h',tk,rfl,k,hk'⟩:=f
      repeat any_goals (first|assumption|wp_step)
      exact h _ _ k hk'
     |_=>exact f.elim
  |_=>exact hr.elim
end
section
variable {X:Cx}{Y:Fx}{a b:Expr}{fa fb:En->R T}{pos pos' p p':Pos}
theorem YL (P:X.A.handled=none):ZB X (.type "set") (λvs H Q=>∃l xs ts d,vs=[.ref l]/\H l=some (.lst xs)/\zJ H xs ts/\uQ ts=some d/\ts.length+1<4096/\
  ∀q,H q=none->Q (.ref q) (iV H q (.ext λh=>h.SetOf (strKind X.prog X.w) q (λx=>decide (x∈dd [] d)) (dd [] d).length))):=by
 intro y s σ H vs us Q I f h;obtain⟨l,xs,ts,d,rfl,hl,r,J,hb,q⟩:=h;obtain⟨u,rfl,L⟩:=Zx f;obtain rfl:u=Value.ref l:=L;obtain⟨U,f,pl,hln,_⟩:=zX I (.inl hl) r;refine YK P pl (W1 r f J) (by unfold scanBound;lia) λh' tk B hk=>?_
 refine⟨.ref _,_,I.laid (λb u e=>hk b u (aC e) e) (au _) ?_,rfl,q _ (I.hok.fresh (au _))⟩;obtain⟨o,es,ep,t,G,rr⟩:=id B;exact⟨B,⟨o,G⟩,λh1 h2 ⟨N,j,k,Z,v,i⟩ e=>⟨N,j,k,Z,e _ v,i⟩⟩
theorem YM:ZB X (.builtin "len") (λvs H Q=>∃q i f n,vs=[.ref q]/\H q=some (.ext i)/\(∀h:Heap,i h->h.SetOf (strKind X.prog X.w) q f n)/\Q (.int n) H):=by
 intro j s P H vs us Q I k h;obtain⟨l,i,f,n,rfl,L,d,q⟩:=h;obtain⟨u,rfl,v⟩:=Zx k;obtain rfl:u=Value.ref l:=v;obtain⟨B,_,_⟩:=(show Zw _ X.w H _ l _ from I.hok l _ L);obtain⟨o,J,N,t,r,hex,hd,_,_,y,G,hn⟩:=d _ B;refine call_len_set r hex hd G ?_ ⟨.int _,H,I.tok _,⟨_,rfl⟩,by rw[hn];exact q⟩
 have:J.size<4096:=y;lia
def vF:T->R T
 |.lst ts=>match uQ ts with
  |some d=>if ts.length+1<4096 then .ok (.int (dd [] d).length)else .bad
  |none=>.bad
 |_=>.bad
theorem gQ (k:X.A.handled=none)(J:Gl X "len")(P:X.mg "len"=none)(j:Gl X "set")(i:X.mg "set"=none)(L:jC X Y a fa)(u:lu X a:=by exact li rfl)(f:lu X (.Call (.Name "set" p') [a] [] pos'):=by exact li rfl):
  Snd X Y (.Call (.Name "len" p) [.Call (.Name "set" p') [a] [] pos'] [] pos) (gx vF fa):=.mk λρ=>
 PE.imp (Jr YM J P PySem.boot_len (zF (jg (YL k) j i PyProof.Rows.Boot.«set» (zF (L ρ) zZ u) (by decide) (by decide) u rfl) zZ f) (by decide) (by decide) f rfl) λσ H Q ⟨B,I,q⟩=>
  step I q λt v N _ Z y I1 d=>by
   cases y with
   |@lst l xs ts h r=>
    have d:Po Y rC _ N (match uQ ts with|some o=>if ts.length+1<4096 then .ok _ else .bad|none=>.bad) Q:=d
    split at d
    ·rename_i o e;split at d
     ·rename_i U;refine⟨l,xs,ts,o,rfl,h,r,e,U,λz G=>⟨z,_,_,_,rfl,zO,λh k=>k,?_⟩⟩;exact d _ _ (zy.new G _) (.int _)
     ·exact d.elim
    ·exact d.elim
   |_=>exact d.elim
def gR (i j:Nat)(ga:En->R (List T)):En->RS:=λρ=>(ga ρ).s λts=>match ts with
 |[x,y]=>.nx ((ρ.set i (.vl x)).set j (.vl y))
 |_=>.bad
theorem Es {i j:Nat}{x y:Str}{ga:En->R (List T)}{u k pt d:Pos}{G v:Nat}(hc:X.calm=true)(Z:X.N.Nodup)(hi:X.N[i]?=some x)(U:X.N[j]?=some y)(o:i≠j)(hx:X.env.scope.names.lookup x=some .local)(hy:X.env.scope.names.lookup y=some .local)
  (ha:wx X Y [a,b] ga) (L:swappedStores [.Tuple [.Name x u,.Name y k] G pt] (.Tuple [a,b] v d) X.env=pure (some [x,y])) (Q:swapsWithSole [.Tuple [.Name x u,.Name y k] G pt] (.Tuple [a,b] v d) pos.line X.env=pure false:=by rfl):
  jE X Y (.Assign [.Tuple [.Name x u,.Name y k] G pt] (.Tuple [a,b] v d) pos) (gR i j ga):=.mk λρ=>
 PS.imp (KC hc Z hi U o hx hy (ha ρ) L Q) λD σ H ⟨B,I,q⟩=>jz I q λts vs H1 _ s1 P I1 f=>by
  cases P with
  |nil=>exact f.elim
  |cons r l=>
   cases l with
   |nil=>exact f.elim
   |cons J l=>
    cases l with
    |cons _ _=>exact f.elim
    |nil=>exact⟨_,_,rfl,f _ _ _ (zy.refl _) ((I1.setV i r).setV j J)⟩
end
theorem Hm {X:Cx}{E:XK}:Zc m7 X E:=λ_ _ _ _ _ _ _ h=>h.elim
section
variable {X:Cx}{Y:Fx}{a b:Expr}{fa fb:En->R T}{pos pos' p p':Pos}
theorem Xv {cl:Nat->Value}{k j n:Nat}{f:Addr}{l:FuncData}{i:List Str}{g:List T->R T}{x:Str}{d:List Expr}{ga:En->R (List T)}(hy:Y.cl=cl)(F:je X.prog X.w X.K X.mg X.base m7 j f l i (spP cl n g))(hr:ZN k X.A)(r:j<=k)(y:Gl X x)
  (u:X.mg x=some (.ref f)) (kp:bE X.K (.ref f)=true) (q:L2.Binds X.K l i []) (B:wx X Y (a::d) ga) (hd:(x==("__debug__":Str))=false:=by decide)
  (o:starEach (a::d) X.env=(false,eval a X.env)::starEach d X.env:=by exact zU rfl) (v:((backTo pos (starEach d X.env)).any λx=>x.fst)=false:=by exact Zn rfl):Snd X Y (.Call (.Name x p) (a::d) [] pos) (za n g ga):=by
 subst hy;exact gB F (hr.mono r) y u kp q Hm B hd o v
theorem JN {x:Str}{i:Int}{u:Value}(f:Gl X x)(d:X.mg x=some u)(j:∃t,u=Value.int i t)(hd:(x==("__debug__":Str))=false:=by decide):Snd X Y (.Name x pos) (cE (.int i)):=.mk λρ=>
 PE.imp (xF (v:=.int i) f d j hd) λk H Q ⟨B,I,q⟩=>ZO I q (.int i)
end
noncomputable def tq (scope a:Scope):Bool:=(scope.kind==.function)&&scope.names.all (λx=>x.2 !=.cell)&&scope.names.all (λx=>x.2 !=.local||scope.names.lookup x.1==some .local)&&
 scope.names.all (λx=>x.2 !=.free||a.names.lookup x.1==some .cell||a.names.lookup x.1==some .free)
theorem gS {X:Cx}{scope:Scope}(d:Scope)(i:X.env.scope=d)(h:tq scope d=true):sK X scope:=by
 unfold tq at h;simp only[ar,aU]at h;obtain⟨⟨⟨p,l⟩,f⟩,j⟩:=h;refine⟨eq_of_beq p,λx a=>by simpa using l x a,λx a o=>?_,λx a k=>?_⟩
 ·have:=f x a;rw[o]at this;simpa using this
 ·have:=j x a;rw[k]at this;show X.env.scope.names.lookup x.1=_\/X.env.scope.names.lookup x.1=_;rw[i];simpa using this
noncomputable def sO (N N':List Str)(scope a:Scope)(k:Nat)(js:List Nat):Bool:=(N'.length==k+js.length)&&(b6 js.length).all λi=>match js[i]? with
 |none=>true
 |some j=>match N'[k+i]?,N[j]? with
  |some x,some y=>(x==y)&&(a.names.lookup x==some .cell||a.names.lookup x==some .free)&&(scope.names.lookup x==some .free)
  |_,_=>false
theorem Xw {X:Cx}{scope:Scope}{N':List Str}{k:Nat}{js:List Nat}(N:List Str)(a:Scope)(v:X.N=N)(d:X.env.scope=a)(h:sO N N' scope a k js=true):Ax X scope N' k js:=by
 unfold sO at h;simp only[ar,aU]at h;obtain⟨r,p⟩:=h;refine⟨eq_of_beq r,λi j e=>?_⟩;have hi:=(aH.mp e).1;have q:=p i (bg.mpr hi);rw[e]at q;dsimp only at q;split at q
 ·rename_i x y l o;simp only[ar,Bool.or_eq_true,beq_iff_eq]at q;obtain⟨⟨rfl,f⟩,u⟩:=q;refine⟨x,l,by rw[v];exact o,?_,u,?_⟩
  ·rw[d];exact .inr f
  ·show X.env.scope.names.lookup x=_\/X.env.scope.names.lookup x=_;rw[d];exact f
 ·cases q
theorem VQ {X:Cx}{Y:Fx}{o iter f:Expr}{j:List Expr}{scope:Scope}{k:Nat}{js:List Nat}{fi:En->R (List T)}{l:TG}{g:T->En->R En}{ft:En->R Bool}{fe:En->R T}(N':List Str)(N:List Str)(a:Scope)(r:X.N=N)(p:X.env.scope=a)
  (h:(tq scope a&&sO N N' scope a k js)=true) (q:X.calm=true) (it:uI X Y o iter fi) (G:VO X scope N' λi=>PG i o l) (v:nW l g) (y:nX g) (tt:∀d,d.cl=Y.cl->VO X scope N' λi=>W0 i d j ft)
  (u:∀d,d.cl=Y.cl->gJ X scope N' d.E λi=>Snd i d f fe) (B:∀x,foldedSetIterable iter X.env x=pure x:=by intro _;rfl):wA X Y o iter f j scope N' k js fi l g ft fe:=by
 rw[ar]at h;exact⟨gS a p h.1,Xw N a r p h.2,q,it,G,v,y,tt,u,B⟩
end PV
namespace PV
open PySem PySem.Spec PyProof.Rows L2 PySem.W
section
variable {P:Program}{w:World}{K:ag}{mg:Str->Option Value}{base:Heap}{N:List Str}{qual:Str}{scope:Scope}{f:Addr}{cd:Value}{A:Around}{outer:List Env}{s:Shared}{H:Hp}{E:XK}{Y:Fx}
theorem Fun.okX {x qual:Str}{st:Stmt}{f:Addr}{l:FuncData}{N j:List Str}{k:Nat}{sp:Sp}(F:Fun K x qual st f l)(S:j5 N j (zx st))(len:∀vs H Q E,sp vs H Q E->vs.length=j.length)
  (a:∀(cdv:Value) (A:Around) (outer:List Env) (s:Shared) (H:Hp) (vs:List V) (Q:VK) (E:XK),ZN k (A.deeper (envOfC qual (zx st) s.1.1.size f cdv))->sp vs H Q E->
   ∃t,PSs (WN (lh P w) P w K mg base N qual (zx st) f cdv A outer s H E) (zP st) t/\t {nx:=λ_ o=>Q .non o,rt:=Q} (start N vs) H):je P w K mg base (lh P w) (k+1) f l j sp:=by
 obtain⟨y,r,kV,p,u,v,cdv,ct,q,rfl,lk,d⟩:=F.ex;exact KP lk d S len λA outer s H vs Q E hr i=>a cdv A _ s H vs Q E hr i
end
end PV
namespace PySem.W
open PySem PySem.Calls PyProof.Rows PySem.Spec Builtin Builtin.ObjectAttr Builtin.Getset_descriptor
end PySem.W
namespace PySem.W
open PySem PySem.Calls PyProof.Rows PySem.Spec Builtin Builtin.ObjectAttr Builtin.Getset_descriptor
end PySem.W
namespace PySem.W
open PySem PySem.Calls PyProof.Rows PySem.Spec Builtin Builtin.ObjectAttr Builtin.Getset_descriptor
end PySem.W
namespace PV
open PySem PySem.Spec PyProof.Rows L2 PySem.W
end PV
namespace PySem.ZG
open PySem PySem.Spec PySem.Builtin.SmallTypes
structure uR (i:Addr) (fp:List Addr) (v:Nat->Option Value) (St:Nat->Heap->Prop):Prop where
 mem:i∈fp
 item:∀{prog:Program} {w:World} {A:Around} {E:Value->Shared->Prop} {s:Shared} {Q:Value->Shared->Prop} {k:Nat} {x:Value},St k s.heap->v k=some x->(∀h',St (k+1) h'->c9 i s.heap h'->Q x {s with heap:=h'})->wpAny (model prog w) A (nextOf (.ref i)) Q E s
 stop:∀{prog:Program} {w:World} {A:Around} {E:Value->Shared->Prop} {s:Shared} {Q:Value->Shared->Prop} {k:Nat},A.handled=none->St k s.heap->v k=none->(∀h' e,fD i s.heap h'->(∃o,h'.get? e=some o/\o.cls=.type "StopIteration")->E (.ref e) {s with heap:=h'})->wpAny (model prog w) A (nextOf (.ref i)) Q E s
 keep:∀{k:Nat} {h h':Heap},St k h->(∀b∈fp,∀o,h.get? b=some o->h'.get? b=some o)->St k h'
 there:∀{k:Nat} {h:Heap},St k h->∀b∈fp,∃o,h.get? b=some o
theorem uR.but {i:Addr}{fp:List Addr}{v:Nat->Option Value}{St:Nat->Heap->Prop}(N:uR i fp v St){k:Nat}{h h':Heap}{b:Addr}(x:St k h)(e:fD b h h')(n:b∉fp):St k h':=
 N.keep x λc a o q=>e c o (λz=>n (z▸a)) q
theorem Xx {i l:Addr}(j:l≠i)(xs:Array Value):uR i [i,l] (λk=>xs[k]?) (λk h=>h.IsListIter i l k/\h.IsList l xs) where
 mem:=.head _
 item:=λst d h=>wpAny_nextOf_list_item st.1 st.2 d λh' a b=>h h' ⟨a,st.2.extBut b.extBut j⟩ b
 stop:=λr st d h=>wpAny_nextOf_list_end r st.1 st.2 d h
 keep:=λst k=>⟨st.1.at λo e=>k i (.head _) o e,st.2.at λo e=>k l (.tail _ (.head _)) o e⟩
 there:=λst b f=>by
  obtain⟨⟨o,e,_⟩,q,p,_⟩:=st;rcases am.mp f with z|f
  ·exact⟨o,z▸e⟩
  ·exact⟨q,(ax.mp f)▸p⟩
end PySem.ZG
namespace PySem.ZG
open PySem PySem.Spec PySem.Builtin.SmallTypes
section
variable {prog:Program}{w:World}{A:Around}{E:Value->Shared->Prop}{s:Shared}{it l:Addr}{k:Nat}{xs:Array Value}{Q:Value->Shared->Prop}
theorem Us (d:s.heap.IsTupleIter it l k)(h:wpAny (model prog w) A.in1 (Builtin.«tuple_iterator.__next__» ⟨[.ref it],[]⟩) (λa f=>∃v,a=.done (.ret v)/\Q v f) E s):wpAny (model prog w) A (nextOf (.ref it)) Q E s:=by
 exact aa (bo d.typeIs du (bG du d.typeIs PySem.F.entry_tuple_iterator_next
  (di h (λa f ⟨v,e,q⟩=>⟨v,e,aB q⟩) λ_ _ z=>z) (PySem.F.args_tuple_iterator_next_1 _)))
theorem tup_item (a:s.heap.IsTupleIter it l k)(j:s.heap.IsTuple l xs){x:Value}(p:xs[k]?=some x)(h:∀h',h'.IsTupleIter it l (k+1)->c9 it s.heap h'->Q x {s with heap:=h'}):wpAny (model prog w) A (nextOf (.ref it)) Q E s:=by
 refine Us a ?_;obtain⟨o,d,q,hd⟩:=id a;obtain⟨r,i,_,nl,f⟩:=j;refine aa (m:=field _ 0) (bb d hd rfl ?_);refine aa (bb d hd rfl (aa (bX i f ?_)));simp only[bA,p];have g:=Heap.get?_update_self (Obj.mapFields (·.setIfInBounds 1 (rawInt (k+1)))) d (Obj.isFreed_of_fields (fR hd _));refine aa (wpAny_setField d hd (by simp) (aB ⟨x,rfl,h _ ⟨_,g,(Obj.cls_mapFields ..).trans q,?_⟩ (fI ..)⟩))
 rw[fR hd];simp[rawInt]
theorem tup_stop (q:A.handled=none)(a:s.heap.IsTupleIter it l k)(j:s.heap.IsTuple l xs)(p:xs[k]?=none)
  (h:∀h' e,fD it s.heap h'->(∃o,h'.get? e=some o/\o.cls=.type "StopIteration")->E (.ref e) {s with heap:=h'}):wpAny (model prog w) A (nextOf (.ref it)) Q E s:=by
 refine Us a ?_;obtain⟨o,d,r,hd⟩:=id a;obtain⟨u,i,_,nl,f⟩:=j;refine aa (m:=field _ 0) (bb d hd rfl ?_);refine aa (bb d hd rfl (aa (bX i f ?_)));simp only[bA,p];refine aa (dQ (aa (wpAny_setField d hd (by simp) (aa ?_))))
 refine aa (bh (aa (cF (by first|rfl|(simp only[firstArgMember])) (bh ?_ (by size_fits)))) (by size_fits))
 refine aa (wpAny_handled ?_);rw[q];exact aa (aB (wpAny_throw (h _ _ (((fI ..).extBut.push _).push _) ⟨_,aq _ rfl,rfl⟩)))
end
theorem nx_tup {i l:Addr}(q:l≠i)(xs:Array Value):uR i [i,l] (λk=>xs[k]?) (λk h=>h.IsTupleIter i l k/\h.IsTuple l xs) where
 mem:=.head _
 item:=λst f h=>tup_item st.1 st.2 f λh' a b=>h h' ⟨a,st.2.extBut b.extBut q⟩ b
 stop:=λu st f h=>tup_stop u st.1 st.2 f h
 keep:=λst k=>by
  obtain⟨⟨o,e,r⟩,d,p,v⟩:=st;exact⟨⟨o,k i (.head _) o e,r⟩,d,k l (.tail _ (.head _)) d p,v⟩
 there:=λst b j=>by
  obtain⟨⟨o,e,_⟩,d,p,_⟩:=st;rcases am.mp j with z|j
  ·exact⟨o,z▸e⟩
  ·exact⟨d,(ax.mp j)▸p⟩
end PySem.ZG
namespace PySem.ZG
open PySem PySem.Spec PySem.Builtin.SmallTypes
structure Ap (z TI TO i1 i2:Addr) (fp1 fp2:List Addr):Prop where
 Iz:TI≠z
 Oz:TO≠z
 IO:TI≠TO
 I1:TI≠i1
 I2:TI≠i2
 z1:z∉fp1
 z2:z∉fp2
 O1:TO∉fp1
 O2:TO∉fp2
 a:i1∉fp2
 b:i2∉fp1
section
variable {prog:Program}{w:World}{A:Around}{E:Value->Shared->Prop}{s:Shared}{z TI TO i1 i2:Addr}{fp1 fp2:List Addr}{v1 v2:Nat->Option Value}{S1 S2:Nat->Heap->Prop}{k:Nat}{x y a b:Value}
theorem Ap.ne1 (D:Ap z TI TO i1 i2 fp1 fp2)(d:uR i1 fp1 v1 S1):i1≠z/\i1≠TO:=⟨λe=>D.z1 (e▸d.mem),λe=>D.O1 (e▸d.mem)⟩
theorem Ap.ne2 (D:Ap z TI TO i1 i2 fp1 fp2)(d:uR i2 fp2 v2 S2):i2≠z/\i2≠TO:=⟨λe=>D.z2 (e▸d.mem),λe=>D.O2 (e▸d.mem)⟩
theorem Xy {Q:Value->Shared->Prop}(f:uR i1 fp1 v1 S1)(d:uR i2 fp2 v2 S2)(D:Ap z TI TO i1 i2 fp1 fp2)(u:IsZip s.heap z TI TO .none)(Z:IsPair s.heap TI (.ref i1) (.ref i2))(L:IsPair s.heap TO a b)(p1:S1 k s.heap)(p2:S2 k s.heap)(hx:v1 k=some x)(hy:v2 k=some y)
  (hQ:∀h',IsZip h' z TI TO (rawInt s.1.1.size)->IsPair h' TO x y->S1 (k+1) h'->S2 (k+1) h'->IsPair h' s.1.1.size x y->
   (∀c o,c≠z->c≠TO->c≠i1->c≠i2->s.heap.get? c=some o->h'.get? c=some o)->Q (.ref s.1.1.size) {s with heap:=h'}):
  wpAny (model prog w) A (Builtin.«zip.__next__» ⟨[.ref z],[]⟩) (λP s'=>∃v,P=.done (.ret v)/\Q v s') E s:=by
 refine aa (m:=field (.ref z) 2) (bb u rfl (x:=.bool false) rfl (aa (bb u rfl (x:=.ref TI) rfl (aa (bX Z rfl ?_)))));refine aa ?_;refine aa (bb u rfl (x:=.none) rfl (aB ?_));refine aa (dQ (aa (bb u rfl (x:=.ref TO) rfl (aa (bq u (by simp) λg1 z1 l=>?_)))))
 replace z1:=z1
 refine aa ?_;refine aa (aa (wpAny_onRaise (aa (f.item (f.but p1 l.extBut D.z1) hx λg2 q1 B=>aB ?_))));have t2:IsPair g2 TO a b:=B.extBut _ _ (D.ne1 f).2.symm (l.extBut _ _ D.Oz L);refine aa (bX t2 rfl (aa (wpAny_updateSeq_pair t2 λg3 t3 G=>?_)));refine aa (wpAny_letGo (aB ?_));refine aa (aa (wpAny_onRaise (aa (d.item (d.but (d.but (d.but p2 l.extBut D.z2) B.extBut D.a) G.extBut D.O2) hy λg4 q2 p=>aB ?_))));have t4:IsPair g4 TO x b:=p.extBut _ _ (D.ne2 d).2.symm t3;refine aa (bX t4 rfl (aa (wpAny_updateSeq_pair t4 λi J r=>?_)))
 replace J:IsPair i TO x y:=J
 refine aa (wpAny_letGo (aB (aB ?_)));refine aa (bX J rfl (aa (wpAny_newTuple ?_)));have sz:i.objs.size=s.1.1.size:=by rw[r.1,p.1,G.1,B.1,l.1]
 have z5:=r.extBut _ _ D.Oz.symm (p.extBut _ _ (D.ne2 d).1.symm (G.extBut _ _ D.Oz.symm (B.extBut _ _ (D.ne1 f).1.symm z1)));have k5:∀c o,c≠z->c≠TO->c≠i1->c≠i2->s.heap.get? c=some o->i.get? c=some o:=λc o j I N U e=>
  r.extBut _ _ I (p.extBut _ _ U (G.extBut _ _ I (B.extBut _ _ N (l.extBut _ _ j e))))
 have r1:S1 (k+1) i:=f.but (f.but (f.but q1 G.extBut D.O1) p.extBut D.b) r.extBut D.O1;have r2:S2 (k+1) i:=d.but q2 r.extBut D.O2;refine aa ?_;have z6:IsZip (i.push {cls:=.type "tuple",data:=.seq #[x,y]}) z TI TO _:=ak _ z5;refine aa (bq z6 (by simp) λg7 z7 e7=>?_)
 refine bq z7 (by simp) λg8 z8 e8=>?_
 have up:∀c o,c≠z->i.get? c=some o->g8.get? c=some o:=λc o j e=>e8.extBut _ _ j (e7.extBut _ _ j (ak _ e));have hn:i.objs.size≠z:=eX (aC z5);have t8:=e8.extBut _ _ hn (e7.extBut _ _ hn (aq _ rfl));rw[sz]at z8 t8;refine aB ⟨_,rfl,?_⟩;rw[sz];exact hQ g8 z8 (up _ _ D.Oz J) (f.keep r1 λc X o e=>up c o (λq=>D.z1 (q▸X)) e) (d.keep r2 λc X o e=>up c o (λq=>D.z2 (q▸X)) e) t8 λc o j I N U e=>up c o j (k5 c o j I N U e)
theorem Xz {Q:Fin->Shared->Prop}(hh:A.handled=none)(d:uR i1 fp1 v1 S1)(G:uR i2 fp2 v2 S2)(D:Ap z TI TO i1 i2 fp1 fp2)(I:IsZip s.heap z TI TO .none)(X:IsPair s.heap TI (.ref i1) (.ref i2))(N:IsPair s.heap TO a b)(p1:S1 k s.heap)(p2:S2 k s.heap)(B:v1 k=none\/v2 k=none)
  (hE:∀h' e,(∀c o,c≠z->c≠TO->c≠i1->c≠i2->s.heap.get? c=some o->h'.get? c=some o)->(∃o,h'.get? e=some o/\o.cls=.type "StopIteration")->E (.ref e) {s with heap:=h'}):
  wpAny (model prog w) A (Builtin.«zip.__next__» ⟨[.ref z],[]⟩) Q E s:=by
 refine aa (m:=field (.ref z) 2) (bb I rfl (x:=.bool false) rfl (aa (bb I rfl (x:=.ref TI) rfl (aa (bX X rfl ?_)))));refine aa ?_;refine aa (bb I rfl (x:=.none) rfl (aB ?_));simp only[if_true];refine aa (dQ (aa (bb I rfl (x:=.ref TO) rfl (aa (bq I (by simp) λg1 L j=>?_)))))
 replace L:=L
 refine aa ?_;have u:∀{g:Heap} {e:Addr} {l:Obj},IsZip g z TI TO .ellipsis->g.get? e=some l->l.cls=.type "StopIteration"->e≠z:=λhg r f q=>by
  subst q;rw[hg]at r;cases r;simp at f
 cases U:v1 k with
 |none=>
  refine aa (aa (wpAny_onRaise (aa (d.stop hh (d.but p1 j.extBut D.z1) U λg2 e i r=>?_))));obtain⟨l,v,f⟩:=r;have z2:=i _ _ (D.ne1 d).1.symm L;exact bq z2 (by simp) λg3 _ p=>hE g3 e (λc o J _ P _ q=>p.extBut _ _ J (i _ _ P (j.extBut _ _ J q))) ⟨l,p.extBut _ _ (u z2 v f) v,f⟩
 |some x=>
  have hy:v2 k=none:=by
   rcases B with q|q
   ·rw[U]at q;cases q
   ·exact q
  refine aa (aa (wpAny_onRaise (aa (d.item (d.but p1 j.extBut D.z1) U λg2 q1 i=>aB ?_))));have t2:=i.extBut _ _ (D.ne1 d).2.symm (j.extBut _ _ D.Oz N);refine aa (bX t2 rfl (aa (wpAny_updateSeq_pair t2 λg3 t3 p=>aa (wpAny_letGo (aB ?_)))));refine aa (aa (wpAny_onRaise (aa (G.stop hh (G.but (G.but (G.but p2 j.extBut D.z2) i.extBut D.a) p.extBut D.O2) hy λg4 e Z r=>?_))));obtain⟨l,v,f⟩:=r;have z4:=Z _ _ (D.ne2 G).1.symm (p.extBut _ _ D.Oz.symm (i.extBut _ _ (D.ne1 d).1.symm L));exact bq z4 (by simp) λg5 _ e5=>hE g5 e (λc o J c2 P c4 q=>e5.extBut _ _ J (Z _ _ c4 (p.extBut _ _ c2 (i.extBut _ _ P (j.extBut _ _ J q))))) ⟨l,e5.extBut _ _ (u z4 v f) v,f⟩
theorem XA {Q:Option Value->Shared->Prop}(u:uR i1 fp1 v1 S1)(q:uR i2 fp2 v2 S2)(D:Ap z TI TO i1 i2 fp1 fp2)(j:IsZip s.heap z TI TO .none)(f:IsPair s.heap TI (.ref i1) (.ref i2))(d:IsPair s.heap TO a b)(v:S1 k s.heap)(p:S2 k s.heap)(l:v1 k=some x)(hy:v2 k=some y)
  (B:∀h',IsZip h' z TI TO (rawInt s.1.1.size)->IsPair h' TO x y->S1 (k+1) h'->S2 (k+1) h'->IsPair h' s.1.1.size x y->
   (∀c o,c≠z->c≠TO->c≠i1->c≠i2->s.heap.get? c=some o->h'.get? c=some o)->Q (some (.ref s.1.1.size)) {s with heap:=h'}):wpAny (model prog w) A (pyNext (.ref z)) Q E s:=by
 have i:s.TypeIs (.ref z) _:=⟨_,j,rfl⟩;exact aa (wpAny_attempt (bo i cR (bG cR i f8
  (Xy u q D j f d v p l hy λh' I L G N J r=>aB (B h' I L G N J r)) (eS _))))
theorem XB {Q:Option Value->Shared->Prop}(J:A.handled=none)(B:uR i1 fp1 v1 S1)(v:uR i2 fp2 v2 S2)(D:Ap z TI TO i1 i2 fp1 fp2)(l:IsZip s.heap z TI TO .none)(i:IsPair s.heap TI (.ref i1) (.ref i2))(f:IsPair s.heap TO a b)(G:S1 k s.heap)(u:S2 k s.heap)(d:v1 k=none\/v2 k=none)
  (I:∀h',(∀c o,c≠z->c≠TO->c≠i1->c≠i2->s.heap.get? c=some o->h'.get? c=some o)->Q none {s with heap:=h'}):wpAny (model prog w) A (pyNext (.ref z)) Q E s:=by
 have j:s.TypeIs (.ref z) _:=⟨_,l,rfl⟩;refine aa (wpAny_attempt (bo j cR (bG cR j f8
  (Xz J B v D l i f G u d λh' e kp r=>?_) (eS _))))
 obtain⟨o,q,p⟩:=r;exact aa (wpAny_isInstance ⟨o,q,p⟩ isSubtype_stop (aB (I _ kp)))
end
end PySem.ZG
namespace PySem.ZG
open PySem PySem.Spec PySem.Builtin.SmallTypes
structure XD (l:Addr) (o:Obj) (P:Heap->Prop):Prop where
 go:∀{prog:Program} {w:World} {A:Around} {E:Value->Shared->Prop} {s:Shared} {Q:Value->Shared->Prop},P s.heap->Q (.ref s.1.1.size) {s with heap:=s.heap.push o}->wpAny (model prog w) A (pyIter (.ref l)) Q E s
 push:∀{h:Heap} (o':Obj),P h->P (h.push o')
 fresh:o.isFreed=false
noncomputable abbrev oL (l:Addr):Obj:={cls:=.type "list_iterator",data:=.fields #[.ref l,.int 0 0]}
noncomputable abbrev oT (l:Addr):Obj:={cls:=.type "tuple_iterator",data:=.fields #[.ref l,.int 0 0]}
theorem XF (l:Addr)(xs:Array Value):XD l (oL l) (λh=>h.IsList l xs):=⟨λp q=>wpAny_pyIter_list p q,λo p=>Heap.IsList.push p o,rfl⟩
theorem gT (l:Addr)(xs:Array Value):XD l (oT l) (λh=>h.IsTuple l xs):=⟨λp q=>wpAny_pyIter_tuple p q,λo p=>Heap.IsTuple.push p o,rfl⟩
noncomputable abbrev Ay (h:Heap)(o1 o2:Obj):Heap:=(h.push o1).push o2
abbrev A7 (h:Heap)(o1 o2:Obj):Heap:=(Ay h o1 o2).push {cls:=.type "tuple",data:=.seq #[.ref h.objs.size,.ref (h.push o1).objs.size]}
abbrev AM (h:Heap)(o1 o2:Obj):Heap:=(A7 h o1 o2).push {cls:=.type "tuple",data:=.seq #[.none,.none]}
abbrev n5 (h:Heap)(o1 o2:Obj):Heap:=(AM h o1 o2).push {cls:=.type "zip",data:=.fields #[.none,.bool false,.bool false,.ref (Ay h o1 o2).objs.size,.ref (A7 h o1 o2).objs.size]}
theorem gU {o l:Addr}{a j:Obj}{i f:Heap->Prop}(u:XD o a i)(p:XD l j f):
  Meets (Builtin.«zip.__new__» ⟨[.type "zip",.ref o,.ref l],[]⟩) (λ_ R s=>i s.heap/\f s.heap/\R (.ok (.ret (.ref (AM s.heap a j).objs.size))) {s with heap:=n5 s.heap a j}):=
 .of_wp λprog w A R s h=>by
  obtain⟨hp,g,d,tk,os⟩:=s;obtain⟨y,r,h⟩:=h;have k:=sub_zip;have v:i (iA ⟨hp,g,d,tk,os⟩):=y;have q:f (iA ⟨hp.push a,g,d,tk,os⟩):=p.push a r
  wp_walk using u.go v,p.go q
  exact⟨_,rfl,h⟩
end PySem.ZG
namespace PySem.ZG
open PySem PySem.Spec PySem.Builtin.SmallTypes
theorem XG {prog:Program}{w:World}{A:Around}{E:Value->Shared->Prop}{s:Shared}{B p:Addr}{a d:Obj}{y r:Heap->Prop}{Q:Value->Shared->Prop}(v:XD B a y)(I:XD p d r)(U:y s.heap)(P:r s.heap)
  (h:∀h' n,n=s.1.1.size->IsZip h' (n+4) (n+2) (n+3) .none->IsPair h' (n+2) (.ref n) (.ref (n+1))->IsPair h' (n+3) .none .none->h'.get? n=some a->h'.get? (n+1)=some d->
   (∀c o,s.heap.get? c=some o->h'.get? c=some o)->Q (.ref (n+4)) {s with heap:=h'}):wpAny (model prog w) A (call (.type "zip") [.ref B,.ref p]) Q E s:=by
 refine callType_new PySem.F.called_zip (by decide) (PySem.F.typeCall_zip_2 _ _) (PySem.F.newCall_zip_2 _ _) (λobj=>PySem.F.args_object_init_3 obj _ _) PySem.F.entry_zip_new (gU v I) ⟨U,P,?_⟩
 have f:(s.heap.push a).objs.size=s.1.1.size+1:=bI ..;have j:(Ay s.heap a d).objs.size=s.1.1.size+2:=by rw[bI,f]
 have l:(A7 s.heap a d).objs.size=s.1.1.size+3:=by rw[bI,j]
 have G:(AM s.heap a d).objs.size=s.1.1.size+4:=by rw[bI,l]
 have up:∀{h:Heap} {c:Addr} {o:Obj} (i:Obj),h.get? c=some o->(h.push i).get? c=some o:=λi e=>ak i e;have k:(n5 s.heap a d).get? _=some _:=aq _ rfl;have u:(n5 s.heap a d).get? _=some _:=up _ (aq _ rfl);have L:(n5 s.heap a d).get? _=some _:=up _ (up _ (aq _ rfl));have J:(n5 s.heap a d).get? _=some _:=up _ (up _ (up _ (aq _ I.fresh)));have N:(n5 s.heap a d).get? _=some _:=up _ (up _ (up _ (up _ (aq _ v.fresh))));rw[j,l,G]at k;rw[f,j]at L;rw[l]at u;rw[f]at J;rw[G];exact⟨⟨_,k,rfl⟩,h _ _ rfl k L u N J λc o q=>up _ (up _ (up _ (up _ (up _ q))))⟩
end PySem.ZG
namespace PV
open PySem PySem.Spec PyProof.Rows L2 PySem.ZG
inductive SK where
 |l|t
noncomputable def SK.it:SK->Heap->Addr->Addr->Nat->Prop
 |.l=>λh i l k=>h.IsListIter i l k
 |.t=>λh i l k=>h.IsTupleIter i l k
noncomputable def SK.has:SK->Heap->Addr->Array Value->Prop
 |.l=>λh l xs=>h.IsList l xs
 |.t=>λh l xs=>h.IsTuple l xs
def SK.sq (K:ag):SK->Hp->Addr->List V->Prop
 |.l=>λH a xs=>SqL K H a xs
 |.t=>λH a xs=>SqT K H a xs
noncomputable def SK.tr:SK->List V->HO
 |.l=>.lst
 |.t=>.tup
def SK.ob:SK->Addr->Obj
 |.l=>oL
 |.t=>oT
theorem SK.nx (k:SK){i l:Addr}(h:l≠i)(xs:Array Value):uR i [i,l] (λn=>xs[n]?) (λn hp=>k.it hp i l n/\k.has hp l xs):=by
 cases k with
 |l=>exact Xx h xs
 |t=>exact nx_tup h xs
theorem SK.of (k:SK)(l:Addr)(xs:Array Value):XD l (k.ob l) (λh=>k.has h l xs):=by
 cases k with
 |l=>exact XF l xs
 |t=>exact gT l xs
theorem SK.start (k:SK){h:Heap}{i l:Addr}(e:h.get? i=some (k.ob l)):k.it h i l 0:=by
 cases k with
 |l=>exact⟨_,e,rfl,rfl⟩
 |t=>exact⟨_,e,rfl,rfl⟩
theorem SK.obj {k:SK}{h:Heap}{i l:Addr}{n:Nat}(x:k.it h i l n):∃o,h.get? i=some o/\∀v,o.data≠.cell v:=by
 cases k with
 |l=>obtain⟨o,e,_,d⟩:=x;exact⟨o,e,λv z=>by rw[d]at z;cases z⟩
 |t=>obtain⟨o,e,_,d⟩:=x;exact⟨o,e,λv z=>by rw[d]at z;cases z⟩
theorem SK.at_ {k:SK}{h h':Heap}{i l:Addr}{n:Nat}(x:k.it h i l n)(q:∀o,h.get? i=some o->h'.get? i=some o):k.it h' i l n:=by
 cases k with
 |l=>obtain⟨o,e,r⟩:=x;exact⟨o,q o e,r⟩
 |t=>obtain⟨o,e,r⟩:=x;exact⟨o,q o e,r⟩
theorem SK.sqOf {K:ag}(k:SK){H:Hp}{a:Addr}{xs:List V}(e:H a=some (k.tr xs)):k.sq K H a xs:=by
 cases k with
 |l=>exact SqL.of e
 |t=>exact SqT.of e
theorem Inv.seq {X:Cx}{f:List (Addr×Obj)}{i:Sg}{H:Hp}{s:Shared}(I:L2.Inv X f i H s)(k:SK){a:Addr}{xs:List V}(h:k.sq X.K H a xs):∃d:List Value,Z0 xs d/\k.has s.heap a d.toArray/\∃o,s.heap.get? a=some o:=by
 cases k with
 |l=>
  obtain⟨d,r,p,_⟩:=I.list h;obtain⟨o,_,e,_⟩:=id p;exact⟨d,r,p.isList,o,e⟩
 |t=>
  obtain⟨d,r,p,_⟩:=I.tuple h;obtain⟨o,e,_⟩:=id p;exact⟨d,r,p,o,e⟩
def Ci (K:ag)(k d:SK)(j f:Addr):It:=
 ⟨λi H=>∃xs a x y,k.sq K H j xs/\d.sq K H f a/\xs[i]?=some x/\a[i]?=some y,λi H v l=>∃p x y,H p=none/\v=.ref p/\(∀xs,k.sq K H j xs->xs[i]?=some x)/\(∀a,d.sq K H f a->a[i]?=some y)/\l=iV H p (.tup [x,y]),
  λi H=>∃xs a,k.sq K H j xs/\d.sq K H f a/\(xs.length<=i\/a.length<=i)⟩
theorem Inv.seq_inj {X:Cx}{d:List (Addr×Obj)}{i:Sg}{H:Hp}{s:Shared}(I:L2.Inv X d i H s)(k:SK){a:Addr}{xs f:List V}(h:k.sq X.K H a xs)(h':k.sq X.K H a f):xs=f:=by
 cases k with
 |l=>exact I.list_inj h h'
 |t=>exact I.tuple_inj h h'
theorem nN {a b:Nat}(h:a≠b):@Ne Addr a b:=h
theorem nM {a b c:Nat}(h:a≠b)(h':a≠c):¬@Membership.mem Addr (List Addr) _ [b,c] a:=λq=>by
 rcases am.mp q with z|z
 ·exact h z
 ·exact h' (ax.mp z)
theorem vG {P:Program}{w:World}{K:ag}{elts:List Expr}{kk:Nat}{pt:Pos}(G L:SK){n l1 l2:Nat}(h1:l1<n)(h2:l2<n):
  yh P w K (.Tuple elts kk pt) (Ci K G L l1 l2) [n+4,n+2,n+3,n,n+1] (n+4)
   (λi h=>IsZip h (n+4) (n+2) (n+3) .none/\IsPair h (n+2) (.ref n) (.ref (n+1))/\(∃a b,IsPair h (n+3) a b)/\G.it h n l1 i/\L.it h (n+1) l2 i):=by
 have D:Ap (n+4) (n+2) (n+3) n (n+1) [n,l1] [n+1,l2]:=by
  refine⟨nN (by lia),nN (by lia),nN (by lia),nN (by lia),nN (by lia),nM (by lia) (by lia),nM (by lia) (by lia),nM (by lia) (by lia),nM (by lia) (by lia),nM (by lia) (by lia),nM (by lia) (by lia)⟩
 refine⟨by simp,λi h st b d=>?_,λi h h' st k=>?_,?_,?_,?_⟩
 ·obtain⟨B,r,⟨a,c,J⟩,Z,N⟩:=st;simp only[am,a_,or_false]at d;rcases d with rfl|rfl|rfl|rfl|rfl
  ·exact⟨_,B,λv z=>nomatch z⟩
  ·exact⟨_,r,λv z=>nomatch z⟩
  ·exact⟨_,J,λv z=>nomatch z⟩
  ·exact SK.obj Z
  ·exact SK.obj N
 ·obtain⟨B,r,⟨a,c,J⟩,Z,N⟩:=st;exact⟨k _ (by simp) _ B,k _ (by simp) _ r,⟨a,c,k _ (by simp) _ J⟩,SK.at_ Z λo e=>k n (by simp) o e,SK.at_ N λo e=>k (n+1) (by simp) o e⟩
 ·intro X hP hw hK j i pins s σ H E I hf st hg;subst hP hw hK;obtain⟨xs,ys,x,y,s1,s2,hx,hy⟩:=hg;obtain⟨B,r,⟨a,c,J⟩,Z,N⟩:=st;obtain⟨l,r1,b1,_⟩:=Inv.seq I G s1;obtain⟨p,r2,b2,_⟩:=Inv.seq I L s2;obtain⟨u,hu,ru⟩:=r1.get hx;obtain⟨v,hv,rv⟩:=r2.get hy;refine XA (G.nx (aN h1) l.toArray) (L.nx (i:=n+1) (nN (by lia)) p.toArray) D B r J ⟨Z,b1⟩ ⟨N,b2⟩ (x:=u) (y:=v) (by simpa using hu) (by simpa using hv) λg a1 a2 a3 a4 a5 kp=>⟨_,rfl,?_⟩
  refine wpAny_letOwnedTupleGo_zip a1 λg2 z2 e2=>?_;have hlt:n+4<s.1.1.size:=aC B;have ne:∀b:Nat,b<=n+4->s.1.1.size≠b:=λb d=>by
   lia
  have f:∀b o,b∉[n+4,n+2,n+3,n,n+1]->s.heap.get? b=some o->g2.get? b=some o:=λb o d e=>by
   simp only[am,a_,or_false,not_or]at d;exact e2.extBut _ _ d.1 (kp b o d.1 d.2.2.1 d.2.2.2.1 d.2.2.2.2 e)
  have g2P:=e2.extBut _ _ (ne _ (au _)) a5;have g2I:=e2.extBut _ _ D.Iz (kp _ _ D.Iz D.IO D.I1 D.I2 r);have g2O:=e2.extBut _ _ D.Oz a2;have q1:=SK.at_ a3.1 λo e=>e2.extBut _ _ (nN (by lia)) e
  have q2:=SK.at_ a4.1 λo e=>e2.extBut _ _ (nN (by lia)) e
  have hfr:=I.hok.fresh (au _);refine⟨.ref s.1.1.size,iV H s.1.1.size (.tup [x,y]),Inv.laidT (s:=s) (h':=g2) (tk:=s.toks) I hf f (λb o d _=>?_) (au _)
   ⟨by rw[bz];show 2<=16777216;decide,[u,v],.cons ru (.cons rv .nil),⟨_,g2P,rfl,_,rfl⟩,.inr ⟨_,g2P,rfl⟩⟩,rfl,⟨_,x,y,hfr,rfl,λzs hq=>by rw[←Inv.seq_inj I G s1 hq];exact hx,λzs hq=>by rw[←Inv.seq_inj I L s2 hq];exact hy,rfl⟩,⟨z2,g2I,⟨u,v,g2O⟩,q1,q2⟩,λb d=>?_⟩
  ·simp only[am,a_,or_false]at d;rcases d with rfl|rfl|rfl|rfl|rfl
   ·exact⟨_,z2⟩
   ·exact⟨_,g2I⟩
   ·exact⟨_,g2O⟩
   ·obtain⟨o',e',_⟩:=SK.obj q1;exact⟨o',e'⟩
   ·obtain⟨o',e',_⟩:=SK.obj q2;exact⟨o',e'⟩
  ·have hb2:(b:Nat)<=n+4:=by
    have d:=by simpa using d
    rcases d with rfl|rfl|rfl|rfl|rfl
    ·exact au _
    ·exact dM (by decide) n
    ·exact dM (by decide) n
    ·exact aI _ _
    ·exact dM (by decide) n
   rw[zA λz=>ne b hb2 z.symm];exact(hf b d).1
 ·intro X hP hw hK j i pins s σ H E I hf st hg;subst hP hw hK;obtain⟨xs,ys,s1,s2,hend⟩:=hg;obtain⟨B,r,⟨a,c,J⟩,Z,N⟩:=st;obtain⟨l,r1,b1,_⟩:=Inv.seq I G s1;obtain⟨p,r2,b2,_⟩:=Inv.seq I L s2;have l1':=r1.length;have l2':=r2.length;refine XB (I.ok.hd j) (G.nx (aN h1) l.toArray) (L.nx (nN (by lia)) _) D B r J ⟨Z,b1⟩ ⟨N,b2⟩ ?_ λg kp=>⟨rfl,?_⟩
  ·rcases hend with q|q
   ·exact .inl (cK (by rw[aE,←l1'];exact q))
   ·exact .inr (cK (by rw[aE,←l2'];exact q))
  ·have f:∀b o,b∉[n+4,n+3,n,n+1]->s.heap.get? b=some o->g.get? b=some o:=λb o d e=>by
    simp only[am,a_,or_false,not_or]at d;exact kp b o d.1 d.2.1 d.2.2.1 d.2.2.2 e
   have nch:∀b u,H b=some u->b∉[n+4,n+3,n,n+1]:=λb u e d=>by
    have U:b∈[n+4,n+2,n+3,n,n+1]:=by
     simp only[am,a_,or_false]at d⊢;rcases d with q|q|q|q
     ·exact .inl q
     ·exact .inr (.inr (.inl q))
     ·exact .inr (.inr (.inr (.inl q)))
     ·exact .inr (.inr (.inr (.inr q)))
    rw[(hf b U).1]at e;cases e
   refine I.call' rfl ⟨λb o e _ _ j=>f b o j e,λb o e _ _ j=>⟨o.slots,f b o j e⟩,λb o e q _=>q,λb o e j=>⟨o,f b o j e⟩,λb ys e=>e,λb o u e=>e,λ_ _ _ e=>e⟩ (λb u e=>?_) I.bare λb d=>?_
   ·refine(I.hok b u e).stay (λc v j q=>f c v ?_ q) (λ_ q=>q) λ_ _ q=>q;rcases j with rfl|j
    ·exact nch c u e
    ·exact nch c _ j
   ·have U:b∈[n+4,n+2,n+3,n,n+1]:=by
     simp only[am,a_,or_false]at d⊢;rcases d with q|q|q|q
     ·exact .inl q
     ·exact .inr (.inr (.inl q))
     ·exact .inr (.inr (.inr (.inl q)))
     ·exact .inr (.inr (.inr (.inr q)))
    obtain⟨f0,f1,f2,f3,f4,f5⟩:=hf b U;exact⟨f3,f1,f4,f5⟩
 ·intro A i s Q E st h;exact wpAny_pyIter_zip st.1 h
noncomputable def VR (xs a:List T):List T:=(xs.zip a).map λp=>T.tup [p.1,p.2]
theorem vH {xs a:List T}{i:Nat}{t:T}(h:(VR xs a)[i]?=some t):∃x y,xs[i]?=some x/\a[i]?=some y/\t=.tup [x,y]:=by
 unfold VR at h;rw[aA]at h;cases e:(xs.zip a)[i]? with
 |none=>rw[e]at h;cases h
 |some p=>
  rw[e]at h;cases h;have:=List.getElem?_zip_eq_some.mp e;exact⟨p.1,p.2,this.1,this.2,rfl⟩
theorem uS (xs a:List T):(VR xs a).length=min xs.length a.length:=by unfold VR;simp
theorem gW {K:ag}{d H1:Hp}{q r:SK}{a b:Addr}{xs f:List V}{ts us:List T}(X:d a=some (q.tr xs))(Q:d b=some (r.tr f))(l:zJ d xs ts)(B:zJ d f us):rI d H1 (Ci K q r a b) (VR ts us):=λB2 H2 j o=>by
 have I:=q.sqOf (K:=K) (o _ _ (j _ _ X));have b2:=r.sqOf (K:=K) (o _ _ (j _ _ Q));rw[uS];refine⟨λi hi=>?_,λi t x H3 e y=>?_,λi hi=>⟨xs,f,I,b2,?_⟩⟩
 ·obtain⟨v,k,_⟩:=l.get (aw (show i<ts.length by lia))
  obtain⟨u,G,_⟩:=B.get (aw (show i<us.length by lia))
  exact⟨xs,f,v,u,I,b2,k,G⟩
 ·obtain⟨p,v,u,hp,rfl,U,Z,rfl⟩:=y;obtain⟨t1,t2,et,P,rfl⟩:=vH e;obtain⟨v',k,N⟩:=l.get et;obtain⟨u',G,r2⟩:=B.get P;have L:=U xs I;have J:=Z f b2;rw[k]at L;cases L;rw[G]at J;cases J;have up:=zS.ge o (zy.new hp (.tup [v,u]));exact⟨zy.new hp _,.tup (j6 hp _) (.cons ((N.mono j).mono up) (.cons ((r2.mono j).mono up) .nil))⟩
 ·rw[l.length,B.length];lia
section
variable {X:Cx}{Y:Fx}{a b:Expr}{fa fb:En->R T}{pos p pt:Pos}{elts:List Expr}{kk:Nat}
theorem gX {Q:TA}(hg:Gl X "zip")(hm:X.mg "zip"=none)(ha:PA X [a,b] Q)(hs:starEach [a,b] X.env=[(false,eval a X.env),(false,eval b X.env)])(r:starEach [b] X.env=[(false,eval b X.env)]):
  PI X (.Tuple elts kk pt) (.Call (.Name "zip" p) [a,b] [] pos) (λG H R=>Q G H λvs o=>∃d i l k xs U,vs=[.ref l,.ref k]/\o l=some (SK.tr d xs)/\o k=some (SK.tr i U)/\R (Ci X.K d i l k) o):=by
 intro N s G H R I h;refine Call_ (j9 I hg hm PyProof.Rows.Boot.«zip» (aV (iU (ha pos _ s G H _ I h) λus j ⟨vs,o,B,r1,q1⟩=>?_) (by rw[hs,r]) (by rw[r];rfl)))
 obtain⟨d,i,l,k,xs,U,e,h1,h2,q⟩:=q1;subst e;obtain⟨u,v,rfl,ru,rv⟩:=Ya r1;obtain rfl:u=Value.ref l:=ru;obtain rfl:v=Value.ref k:=rv;obtain⟨P,_,b1,o1,e1⟩:=Inv.seq B d (d.sqOf h1);obtain⟨L,_,b2,o2,e2⟩:=Inv.seq B i (i.sqOf h2);refine XG (d.of l _) (i.of k _) b1 b2 λg n hn Z z2 z3 z4 z5 kp=>wpAny_pyIter_zip Z ?_;subst hn;have f:∀b∈[j.1.1.size+4,j.1.1.size+2,j.1.1.size+3,j.1.1.size,j.1.1.size+1],Wz X _ o b:=λb J=>by
  have y:j.1.1.size<=b:=by
   simp only[am,a_,or_false]at J;rcases J with rfl|rfl|rfl|rfl|rfl
   ·exact aI _ _
   ·exact aI _ _
   ·exact aI _ _
   ·exact au _
   ·exact aI _ _
  exact B.fpOk y (B.hok.fresh y)
 exact⟨j.1.1.size+4,_,_,_,o,rfl,B.kept kp,vG d i (aC e1) (aC e2),⟨Z,z2,⟨_,_,z3⟩,SK.start d z4,SK.start i z5⟩,f,q⟩
noncomputable def W2:T->R (List T)
 |.lst xs=>.ok xs
 |.tup xs=>.ok xs
 |_=>.bad
def Ac (fa fb:En->R T):En->R (List T):=λρ=>(fa ρ).bind λt=>(fb ρ).bind λu=>(W2 t).bind λxs=>(W2 u).bind λd=>.ok (VR xs d)
theorem YN {B:Hp}{v:V}{t:T}{xs:List T}(r:Rep B v t)(e:W2 t=.ok xs):∃(k:SK) (a:Addr) (vs:List V),v=.ref a/\B a=some (k.tr vs)/\zJ B vs xs:=by
 cases r with
 |lst h r=>cases e;exact⟨.l,_,_,rfl,h,r⟩
 |tup h r=>cases e;exact⟨.t,_,_,rfl,h,r⟩
 |_=>cases e
theorem Ut (t:T)(c:Nat):W2 t≠.ex c:=by cases t<;>exact λz=>nomatch z
theorem EG (P:Gl X "zip")(hm:X.mg "zip"=none)(ha:Snd X Y a fa)(Q:Snd X Y b fb)(J:starEach [a,b] X.env=[(false,eval a X.env),(false,eval b X.env)]:=by exact mz rfl rfl)(f:starEach [b] X.env=[(false,eval b X.env)]:=by exact li rfl):
  uI X Y (.Tuple elts kk pt) (.Call (.Name "zip" p) [a,b] [] pos) (Ac fa fb):=.mk λρ=>
 PI.imp (gX P hm (zF (ha ρ) (zF (Q ρ) zZ f) (by rw[J,f])) J f) λσ H R ⟨B,I,q⟩=>step I q λt v H1 _ s1 L G q1=>step G q1 λu v' Z _ N r2 l d=>by
  cases i:W2 t with
  |bad=>rw[i]at d;exact d.elim
  |ex c=>exact absurd i (Ut _ _)
  |ok xs=>
   rw[i]at d;cases j:W2 u with
   |bad=>rw[j]at d;exact d.elim
   |ex c=>exact absurd j (Ut _ _)
   |ok ys=>
    rw[j]at d;obtain⟨U,a1,k,rfl,r,w1⟩:=YN (L.mono (zS.ge G.sB N)) i;obtain⟨k2,a2,o,rfl,y,w2⟩:=YN r2 j;exact⟨U,k2,a1,a2,k,o,rfl,l.sB _ _ r,l.sB _ _ y,ZO l (show Po Y rI _ Z _ R from d) (gW r y w1 w2)⟩
end
end PV
namespace PV
open PySem PySem.Spec PyProof.Rows L2
section
variable {X:Cx}{Y:Fx}{a b:Expr}{fa fb:En->R T}{pos p p' pos':Pos}
def YO:T->R T
 |.bl b=>.ok (.int (b2 b))
 |.int i=>.ok (.int i)
 |_=>.bad
theorem ED (v:V)(t:T)(B H:Hp)(Q:VK)(r:Rep B v t)(d:zy B H)(q:Po Y rC B H (YO t) Q):
  (∃i,[v]=[V.int i]/\Q (.int i) H)\/∃k,[v]=[V.bl k]/\Q (.int (if k then 1 else 0)) H:=by
 cases r with
 |int i=>exact .inl ⟨i,rfl,lq d q rfl (.int i)⟩
 |bl k=>exact .inr ⟨k,rfl,lq d q rfl (by cases k<;>exact .int _)⟩
 |_=>exact q.elim
theorem gY (f:Gl X "int")(i:X.mg "int"=none)(j:Snd X Y a fa)(d:lu X a:=by exact li rfl):Snd X Y (.Call (.Name "int" p) [a] [] pos) (gx YO fa):=
 WW Yc ED f i (PyProof.Rows.Boot.«int») j d
theorem YQ:ZB X (.type "range") (λxs H Q=>∃i j,xs=[.int i,.int j]/\∀r,H r=none->Q (.ref r) (iV H r (.rng i j))):=by
 intro d s l H xs us Q I r h;obtain⟨i,j,rfl,q⟩:=h;obtain⟨u,v,rfl,k,f⟩:=Ya r;obtain⟨t,rfl⟩:=k;obtain⟨t',rfl⟩:=f;exact call_range_2 ⟨.ref _,_,I.laid (λb o e=>ak _ e) (au _) (show Zw _ X.w _ _ _ (.rng i j) from ⟨_,_,_,aq _ rfl⟩),rfl,q _ (I.hok.fresh (au _))⟩
noncomputable def QS (lo:Int)(n:Nat):List V:=(b6 n).map λ(i:Nat)=>V.int (lo+(i:Int))
theorem W3 (L:X.A.handled=none):ZB X (.type "list") (λxs H Q=>∃r lo hi,xs=[.ref r]/\H r=some (.rng lo hi)/\(-1000000<lo/\lo<1000000/\ -1000000<hi/\hi<1000000)/\∀l,H l=none->Q (.ref l) (iV H l (.lst (QS lo (hi-lo).toNat)))):=by
 intro y s σ H xs us Q I B h;obtain⟨r,lo,hi,rfl,e,⟨c1,c2,c3,c4⟩,q⟩:=h;obtain⟨u,rfl,G⟩:=Zx B;obtain rfl:u=Value.ref r:=G;obtain⟨t,v,v',Z⟩:=(show Zw _ X.w H _ r _ from I.hok r _ e);have hn:eM lo hi 1=((hi-lo).toNat):=by rw[rangeSize_one];split<;>lia
 refine call_list_range L Z (small_one (by lia) (by lia) (by lia) (by lia)) hn (by lia) λh' tk acc c kp o d=>?_
 have f:Z0 (QS lo (hi-lo).toNat) acc.toList:=by
  have k:∀(n:Nat) (lo:Int) (vs:List _),vs.length=n->(∀(j:Nat) (v:Value),vs[j]?=some v->∃t,v=Value.int (lo+(j)) t)->Z0 (QS lo n) vs:=by
   intro n
   induction n with
   |zero=>
    intro lo vs i _;rw[List.eq_nil_of_length_eq_zero i];exact .nil
   |succ n U=>
    intro lo vs i f;cases vs with
    |nil=>cases i
    |cons v vs=>
     have e:QS lo (n+1)=V.int (lo+0)::QS (lo+1) n:=by
      unfold QS;rw[cI,aK,aS];refine congrArg _ (ck λj _=>?_);show V.int _=V.int _;congr 1;lia
     rw[e];refine .cons (f 0 v rfl) (U _ vs (by simpa using i) λj x P=>?_)
     obtain⟨t,z⟩:=f (j+1) x (by simpa using P)
     exact⟨t,by rw[z];congr 1;lia⟩
  refine k _ lo _ (by simpa using d.1) λj v J=>?_
  obtain⟨t,z⟩:=d.2 j v (by simpa using J)
  exact⟨t,by rw[z];congr 1;lia⟩
 have N:(QS lo (hi-lo).toNat).length<=sizeLine:=by
  rw[bz];unfold QS;rw[ah,bi];lia
 exact⟨.ref _,_,I.laid kp (au _) (show Zw _ X.w _ h' _ (.lst _) from ⟨N,acc.toList,c,f,by simpa using o⟩),rfl,q _ (I.hok.fresh (au _))⟩
def sx (fi:En->R (List T)):En->R T:=λρ=>(fi ρ).bind λts=>.ok (.lst ts)
theorem YR {B:Hp}(lo:Int)(n:Nat):zJ B (QS lo n) (rng lo n):=by
 unfold QS rng
 induction b6 n with
 |nil=>exact .nil
 |cons i f d=>exact .cons (.int _) d
theorem XH (U:X.A.handled=none)(Z:Gl X "list")(mg:X.mg "list"=none)(y:Gl X "range")(o:X.mg "range"=none)(ha:Snd X Y a fa)(P:Snd X Y b fb)
  (L:starEach [a,b] X.env=[(false,eval a X.env),(false,eval b X.env)]:=by exact mz rfl rfl) (d:lu X b:=by exact li rfl):Snd X Y (.Call (.Name "list" p) [.Call (.Name "range" p') [a,b] [] pos'] [] pos) (sx (Jn fa fb)):=.mk λρ=>
 PE.imp (jg (W3 U) Z mg PyProof.Rows.Boot.«list» (zF (jg YQ y o boot_range (zF (ha ρ) (zF (P ρ) zZ d) (by rw[L,d])) (by decide) (by decide) (by rw[L,d]) (by rw[d];rfl)) zZ (li rfl)) (by decide) (by decide) (li rfl) rfl) λσ H Q ⟨B,I,q⟩=>by
  have q:Po Y rC B H ((fa ρ).bind λt=>(fb ρ).bind λt'=>(match t,t' with|.int i,.int j=>if-1000000<i/\i<1000000/\ -1000000<j/\j<1000000 then R.ok (rng i (j-i).toNat)else .bad|_,_=>.bad).bind λts=>.ok (.lst ts)) Q:=by
   revert q;unfold sx Jn;cases fa ρ with
   |ok t=>cases fb ρ<;>exact λq=>q
   |ex c=>exact λq=>q
   |bad=>exact λq=>q
  refine step I q λt v H1 _ s1 N I1 q1=>step I1 q1 λt' v' H2 _ s2 J I2 f=>?_;cases N with
  |int i=>
   cases J with
   |int j=>
    by_cases c: -1000000<i/\i<1000000/\ -1000000<j/\j<1000000
    ·dsimp only at f;rw[if_pos c]at f;refine⟨i,j,rfl,λr hr=>⟨r,i,j,rfl,zO,c,λl k=>?_⟩⟩;have u:l≠r:=λz=>by rw[z,zO]at k;cases k
     have G:=by rw[zA u]at k;exact k
     refine f _ _ (zy.new hr _|>.trans (zy.new k _)) (.lst ?_ (YR _ _))
     rw[Zd G,zO]
    ·dsimp only at f;rw[if_neg c]at f;exact f.elim
   |_=>exact f.elim
  |_=>cases J<;>exact f.elim
def sJ (i j:Nat):En->RS:=λρ=>match ρ[j]? with
 |some (.ow ts)=>.nx ((ρ.set j (.vl (.lst ts))).set i (.vl (.lst ts)))
 |_=>.bad
theorem SI.give {Y:Fx}{B:Hp}{ρ:En}{Z:Sg}{H:Hp}(I:SI Y B ρ Z H){j:Nat}{ts:List T}(hj:ρ[j]?=some (.ow ts)):∃(a:Addr) (U:Hp),Z[j]?=some (some (V.ref a))/\zy B U/\Rep U (.ref a) (.lst ts)/\SI Y U (ρ.set j (.vl (.lst ts))) Z H:=by
 obtain⟨a,xs,e,b0,h0,hh,rr,d⟩:=I.ow j ts hj;have u:zy B (iV B a (.lst xs)):=zy.new b0 _;have rp:Rep _ _ _:=.lst zO (rr.mono u);refine⟨a,_,e,u,rp,⟨I.s0,I.sH,λb o q=>?_,λb o q=>?_,by rw[aX];exact I.len,λk t q=>?_,λk us q=>?_,λk c q=>?_,?_⟩⟩
 ·by_cases G:b=a
  ·subst G;rw[zO]at q;cases q;exact hh
  ·rw[zA G]at q;exact I.sB b o q
 ·rw[zA λz=>by rw[z,h0]at q;cases q];exact I.old b o q
 ·rcases zr q with ⟨rfl,z⟩|⟨_,z⟩
  ·cases z;exact⟨_,e,rp⟩
  ·obtain⟨v,e1,r⟩:=I.vl k t z;exact⟨v,e1,r.mono u⟩
 ·rcases zr q with ⟨rfl,z⟩|⟨hk,z⟩
  ·cases z
  ·obtain⟨L,Q,J,f,i,P,N,d'⟩:=I.ow k us z;have l:L≠a:=λw=>by subst w;exact d k us hk z J
   refine⟨L,Q,J,by rw[zA l];exact f,i,P,N.mono u,λm ws hm hw=>?_⟩
   rcases zr hw with ⟨rfl,w⟩|⟨_,w⟩
   ·cases w
   ·exact d' m ws hm w
 ·rcases zr q with ⟨rfl,z⟩|⟨_,z⟩
  ·cases z
  ·obtain⟨L,J,r⟩:=I.xc k c z;exact⟨L,J,u _ _ r⟩
 ·obtain⟨as,O,x⟩:=I.st;refine⟨as,O,x.on (λk y hy h=>?_) u rfl rfl (zy.refl _) λb o G f i cs=>?_⟩
  ·rcases zr h with ⟨_,z⟩|⟨_,z⟩
   ·subst z;cases hy
   ·exact⟨z,rfl⟩
  ·have l:b≠a:=λz=>by
    subst z;rcases cs with ⟨C,dx,vs,ez⟩|ok
    ·rw[hh]at G;cases G;cases ez
    ·exact ok j ts hj e
   refine⟨G,by rw[zA l];exact f,i,λok k us h=>?_⟩
   rcases zr h with ⟨_,z⟩|⟨_,z⟩
   ·cases z
   ·exact ok k us z
theorem CC {i j:Nat}{x y:Str}{d:Pos}(o:PE X (.Name y d) (Jp j))(G:X.N.Nodup)(hi:X.N[i]?=some x)(f:L2.Loc X.env.scope x)(v:swapsWith (.Name y d) (some (.Name x p')) pos.line X.env=pure false:=by rfl)
  (u:X.fn x=true\/X.env.scope.names.lookup x=some .local:=by first|exact .inl rfl|exact .inr rfl|assumption):jE X Y (.Assign [.Name x p'] (.Name y d) pos) (sJ i j):=.mk λρ=>
 PS.imp (wu G hi f o v u) λD P H ⟨B,I,q⟩=>by
  unfold sJ at q;split at q
  ·rename_i ts e;obtain⟨a,L,k,l,r,J⟩:=I.give e;exact⟨_,k,q _ _ L l (J.setV i r)⟩
  ·exact q.elim
end
noncomputable def ZL:List T->Option (List Int)
 |[]=>some []
 |.int i::r=>match ZL r with|some l=>some (i::l)|none=>none
 |_::_=>none
def XI:T->R T
 |.lst ts=>match ZL ts with|some l=>.ok (.int l.sum)|none=>.bad
 |_=>.bad
def rY (fi:En->R (List T))(g:T->En->R En)(ft:En->R Bool)(fe:En->R T)(k:Nat)(js:List Nat):En->RS:=λρ=>(fi (frz ρ)).s λts=>(zK g ft fe k js (frz ρ) ts).s λvs=>.rf vs
def W4:En->RS:=λ_=>.bad
theorem D8 {X:Cx}{Y:Fx}{st:Stmt}:jE X Y st W4:=.mk λρ=>λa s d H D I ⟨B,J,q⟩=>q.elim
theorem uT:∀{H:Hp} {xs:List V} {ts:List T} {a:List Value} {d:List Int},zJ H xs ts->Z0 xs a->ZL ts=some d->∃f:List (Int×Tok),a=f.map (λp=>Value.int p.1 p.2)/\f.map (·.1)=d
 |_,_,_,_,d,.nil,.nil,h=>by
  have h':=h;cases h';exact⟨[],rfl,rfl⟩
 |H,_,_,_,d,.cons r rs,.cons j vs,h=>by
  cases r with
  |int i=>
   unfold ZL at h;split at h
   ·rename_i l e;cases h;obtain⟨f,o,k⟩:=uT rs vs e;obtain⟨tk,rfl⟩:=j;exact⟨(i,tk)::f,by rw[o];rfl,by rw[aK,k]⟩
   ·cases h
  |_=>cases h
section
variable {X:Cx}{Y:Fx}{a b:Expr}{fa fb:En->R T}{pos p p' pos':Pos}
theorem YS (y:X.A.handled=none):ZB X (.builtin "sum") (λvs H Q=>∃l xs ts d,vs=[.ref l]/\H l=some (.lst xs)/\zJ H xs ts/\ZL ts=some d/\Q (.int d.sum) H):=by
 intro k s N H vs us Q I f h;obtain⟨l,xs,ts,d,rfl,L,r,J,q⟩:=h;obtain⟨u,rfl,o⟩:=Zx f;obtain rfl:u=Value.ref l:=o;obtain⟨i,f,p,_⟩:=zX I (.inl L) r;obtain⟨j,v,G⟩:=uT r f J;have e:i.toArray=intItems j.toArray:=by rw[v];simp[intItems]
 rw[e]at p;refine sum_intListG y p λh' tk t' kp=>?_;have B:preSum (numAt j.toArray) j.toArray.size=d.sum:=by
  rw[preSum_eq,bK (by simp),←G]
 rw[B];exact⟨.int _,H,I.kept kp,⟨t',rfl⟩,q⟩
theorem DX (f:X.A.handled=none)(i:Gl X "sum")(o:X.mg "sum"=none)(j:jC X Y a fa)(u:lu X a:=by exact li rfl):Snd X Y (.Call (.Name "sum" p) [a] [] pos) (gx XI fa):=
 WV (YS f) (λv t B H Q r d q=>by
  cases r with
  |@lst l xs ts h r=>
   have q:Po Y rC B H (match ZL ts with|some k=>.ok _|none=>.bad) Q:=q
   split at q
   ·rename_i k e;exact⟨l,xs,ts,k,rfl,h,r,e,lq d q rfl (.int _)⟩
   ·exact q.elim
  |_=>exact q.elim) i o boot_sum j u
end
section
variable {X:Cx}{Y:Fx}{tg iter elt:Expr}{ifs:List Expr}{scope:Scope}{pos pos':Pos}{N':List Str}{k:Nat}{js:List Nat}{fi:En->R (List T)}{tG:TG}{g:T->En->R En}{ft:En->R Bool}{fe:En->R T}
theorem gZ (C:wA X Y tg iter elt ifs scope N' k js fi tG g ft fe):jE X Y (.Return (some (.ListComp elt [⟨tg,iter,ifs,0⟩] scope pos)) pos') (rY fi g ft fe k js):=.mk λρ=>by
 have pe:PE X (.ListComp elt [⟨tg,iter,ifs,0⟩] scope pos) (λd H Q=>∃B,SI Y B (frz ρ) d H/\PoS Y B ((fi (frz ρ)).s λts=>(zK g ft fe k js (frz ρ) ts).s λvs=>.rf vs) {nx:=λ_ _=>False,rt:=Q}):=by
  intro j s d H Q I ⟨B,J,q⟩;refine wY (J6 rfl) (F:=λD y=>Q (.ref D) y) (te:=λd H Q=>∃f a,f.cl=Y.cl/\(f.E=λ_ _ _=>False)/\tS f rC fe a d H Q) (tt:=λd H Q=>∃f a,f.cl=Y.cl/\tS f rE ft a d H Q) C.sc C.cp C.cm (C.it (frz ρ)) C.gt
   (λcl r s3 H3 fp j l s d H Q I ⟨f,a,N,q⟩=>C.tt f N cl r s3 H3 fp _ a _ s d H Q I q) (λcl r s3 H3 fp j xe hp l s d H Q I ⟨f,a,N,eE,q⟩=>C.el f N cl r s3 H3 fp _ xe (eE▸hp) a _ s d H Q I q) I ?_ ?_ C.hs
  ·refine jz J q λts it' H1 _ s1 r1 u i=>?_;intro D Z;unfold zK at i;split at i
   ·rename_i hl;cases G:zQ g ft fe ts _ with
    |bad=>rw[G]at i;exact i.elim
    |ex c=>rw[G]at i;exact i.elim
    |ok vs=>
     rw[G]at i;refine JL C.gk C.gn u r1 hl G Z λy xs B' U e' r' l' b' sb'=>?_;exact(show PoS Y _ _ _ from i) D xs y B' (u.sH.trans U) (u.sH.free Z) e' r' b' (l'.trans (YE u.sH u.old U u.sB))
   ·exact i.elim
  ·intro D Cc y U I' q' hC h0 hL p v P;obtain⟨m,hm⟩:=P;refine⟨m,hm,λh' L=>⟨.ref D,y,?_,rfl,q'⟩⟩;exact I'.turned (λb o hb e=>L.extBut b o hb e) hC (bx hL).symm (.inr h0) p v
 refine PS.imp (WH pe) λD d H ⟨B,I,q⟩=>⟨_,I.frz,?_⟩;have q:=PoS.up I.up q;unfold rY at q;revert q;cases fi _ with
 |bad=>exact λq=>q
 |ex c=>exact λq=>q
 |ok ts=>
  show PoS Y _ ((zK g ft fe k js _ ts).s λvs=>.rf vs) D->PoS Y _ ((zK g ft fe k js _ ts).s λvs=>.rf vs) _;cases zK g ft fe k js _ ts with
  |bad=>exact λq=>q
  |ex c=>exact λq=>q
  |ok vs=>exact λq=>q
end
end PV
namespace PySem.RV
open PySem PySem.Spec PyProof.Rows PySem.Builtin.SmallTypes
theorem Uu:Manifest.owners.lookup (String.ofList "desrever".toList.reverse)=some Manifest.sig_reversed:=by kernel_rfl
theorem jj:Slot "reversed" "__next__" "reversed.__next__":=
 .of (owner:="reversed") (n:="__next__") (by kernel_rfl) (by decide+kernel) (by decide+kernel) (by decide+kernel)
  (by first|exact .inl (by decide+kernel)|exact .inr (by decide+kernel)) (by kernel_rfl)
theorem wC:entryFor table "reversed.__next__"=some Builtin.«reversed.__next__»:=entryFor_of_tree (by kernel_rfl)
theorem WZ (a:Value):argsOk "reversed.__next__" ⟨[a],[]⟩:=by
 unfold argsOk;rw[signature?_of (n:="__txen__".toList) (by kernel_rfl) Uu];kernel_rfl
theorem u6:Slot "reversed" "__iter__" "reversed.__iter__":=
 .of (owner:="reversed") (n:="__iter__") (by kernel_rfl) (by decide+kernel) (by decide+kernel) (by decide+kernel)
  (by first|exact .inl (by decide+kernel)|exact .inr (by decide+kernel)) (by kernel_rfl)
theorem YT (a:Value):argsOk "reversed.__iter__" ⟨[a],[]⟩:=by
 unfold argsOk;rw[signature?_of (n:="__reti__".toList) (by kernel_rfl) Uu];kernel_rfl
theorem yB:entryFor table "reversed.__iter__"=some Builtin.«dict_keyiterator.__iter__»:=
 entryFor_alias (id':="dict_keyiterator.__iter__") (by kernel_rfl) (by first|rfl|decide+kernel|(unfold String.splitOn;simp+decide [String.splitOnAux])) (by decide+kernel) (by kernel_rfl)
theorem G1:typeLookup (.type "tuple") "__reversed__"=pure none:=by rw[typeLookup_type,builtinLookup_eq_fast];kernel_rfl
theorem G2:isSubtype (.type "tuple") (.type "dict")=pure false:=by rw[isSubtype_type];kernel_rfl
noncomputable abbrev IsRv (h:Heap)(it:Addr)(v:Value)(i:Int):Prop:=h.get? it=some {cls:=.type "reversed",data:=.fields #[v,rawInt i]}
section
variable {prog:Program}{w:World}{A:Around}{E:Value->Shared->Prop}{s:Shared}{it l:Addr}{xs:Array Value}
theorem uU {v:Value}{i:Int}(x:IsRv s.heap it v i):s.TypeIs (.ref it) "reversed":=⟨_,x,rfl⟩
theorem next_item {i:Nat}{x:Value}{Q:Option Value->Shared->Prop}(a:IsRv s.heap it (.ref l) (i:Int))(d:IsTup s.heap l xs)(r:(xs.size:Int)<2^63)(f:xs[i]?=some x)
  (j:∀h' tk,IsRv h' it (.ref l) ((i:Int)-1)->c9 it s.heap h'->Q (some x) {s with heap:=h',toks:=tk}):wpAny (model prog w) A (pyNext (.ref it)) Q E s:=by
 refine aa (wpAny_attempt (bo (uU a) jj (bG jj (uU a) wC ?_ (WZ _))));refine aa (cF rfl ?_);refine aa (bb a rfl rfl ?_);refine aa (bb a rfl rfl ?_);have hi:=(Array.getElem?_eq_some_iff.mp f).1;have p:=d.typeIs;refine aa (b_ p slot_tuple_getitem.lookup ?_);refine aa (wpAny_mkInt ?_);refine aa (wpAny_attempt (getItem_tuple d (by lia) (by lia) (seqIndex_of (by lia) (by lia)) (by simpa using f) ?_))
 refine aa (bb a rfl rfl ?_);refine aa (bq a (by simp) λo q k=>?_)
 exact aB ⟨x,rfl,aB (j o _ q k)⟩
theorem next_end {Q:Option Value->Shared->Prop}(i:A.handled=none)(a:IsRv s.heap it (.ref l) (-1))
  (d:∀h',fD it s.heap h'->Q none {s with heap:=h'}):wpAny (model prog w) A (pyNext (.ref it)) Q E s:=by
 refine aa (wpAny_attempt (bo (uU a) jj (bG jj (uU a) wC ?_ (WZ _))));refine aa (cF rfl ?_);refine aa (bb a rfl rfl ?_);refine aa (bb a rfl rfl ?_);refine aa (dQ ?_);refine aa (show wpAny _ _ _ _ _ _ from ?_);refine aa (bq a (by simp) λo k f=>?_)
 refine bq k (by simp) λq p j=>?_
 refine aa (show wpAny _ _ (newExc _ []>>=λe=>raiseNew e) _ _ _ from ?_);refine aa ?_;refine aa (bh (aa (cF (by first|rfl|(simp only[firstArgMember])) (bh ?_ (by size_fits)))) (by size_fits))
 refine aa (wpAny_handled ?_);rw[i];refine aa (aB (wpAny_throw ?_));refine aa (wpAny_isInstance ⟨_,aq _ rfl,rfl⟩ isSubtype_stop ?_);exact aB (d _ (((f.extBut.trans j.extBut).push _).push _))
theorem iter_rv {v:Value}{i:Int}{Q:Value->Shared->Prop}(a:IsRv s.heap it v i)(h:Q (.ref it) s):wpAny (model prog w) A (pyIter (.ref it)) Q E s:=by
 refine wpAny_pyIter_slot (uU a) u6 (bG u6 (uU a) yB ?_ (YT _));exact aB ⟨_,rfl,"reversed",_,uU a,jj.lookup,h⟩
theorem VS:mroOf (.type "reversed")=pure [.type "reversed",.type "object"]:=by rw[mroOf_type];kernel_rfl
theorem G4:typeLookup (.type "reversed") "__new__"=pure (some (.builtin "reversed.__new__")):=by kernel_rfl
theorem XJ:Bind.madeBy (.type "reversed")=pure (some "reversed.__new__"):=madeBy_type VS G4 (by decide+kernel)
theorem G5:isSubtype (.type "reversed") (.type "reversed")=pure true:=by rw[isSubtype_type];kernel_rfl
theorem G6 (a:Value):newClass "reversed" ⟨[.type "reversed",a],[]⟩=pure (.type "reversed",[a]):=by
 unfold newClass;simp only[isType,G5,pure_bind,eI,aZ,if_false]
theorem YU:entryFor table "reversed.__new__"=some Builtin.«reversed.__new__»:=entryFor_of_tree (by kernel_rfl)
theorem vI {Q:Fin->Shared->Prop}(d:IsTup s.heap l xs)(f:(xs.size:Int)<2^63)
  (h:∀tk,Q (.done (.ret (.ref s.1.1.size))) {s with heap:=s.heap.push {cls:=.type "reversed",data:=.fields #[.ref l,rawInt ((xs.size:Int)-1)]},toks:=tk}):
  wpAny (model prog w) A (Builtin.«reversed.__new__» ⟨[.type "reversed",.ref l],[]⟩) Q E s:=by
 have a:=d.typeIs;refine aa (cF (G6 _) ?_);refine aa (cF (by first|rfl|kernel_rfl) ?_)
 refine aa (cF (by first|rfl|kernel_rfl) ?_)
 refine aa (b_ a G1 ?_);refine aa ?_;refine aa (wpAny_isInstance a G2 ?_);refine aa (b_ a slot_tuple_getitem.lookup ?_);refine aB ?_;refine aa (len_tuple d f ?_);refine aa (cF rfl ?_);refine aa (show wpAny _ _ (newObj _ (.fields #[.ref l,rawInt _])) _ _ _ from ?_);exact bh (aB (h _)) (by size_fits)
theorem YV:Slot "reversed" "__init__" "object.__init__":=
 .of (owner:="object") (n:="__init__") (by kernel_rfl) (by decide+kernel) (by decide+kernel) (by decide+kernel)
  (by first|exact .inl (by decide+kernel)|exact .inr (by decide+kernel)) (by kernel_rfl)
theorem YW:TypeCalled "reversed" "reversed.__new__" "object.__init__":=
 ⟨by decide+kernel,by decide+kernel,⟨_,_,VS⟩,XJ,by decide+kernel,by kernel_rfl,YV⟩
theorem vJ (a:Value):checkTypeCall "reversed" ⟨[a],[]⟩=pure ():=by kernel_rfl
theorem vK (a:Value):checkBuiltinCall "reversed.__new__" ⟨[.type "reversed",a],[]⟩=pure ():=by kernel_rfl
theorem call_rvT {Q:Value->Shared->Prop}(a:IsTup s.heap l xs)(j:(xs.size:Int)<2^63)
  (h:∀tk,Q (.ref s.1.1.size) {s with heap:=s.heap.push {cls:=.type "reversed",data:=.fields #[.ref l,rawInt ((xs.size:Int)-1)]},toks:=tk}):wpAny (model prog w) A (call (.type "reversed") [.ref l]) Q E s:=by
 refine callType_new (S:=λ_ R s=>(∃xs,IsTup s.heap l xs/\(xs.size:Int)<2^63/\∀tk,R (.ok (.ret (.ref s.1.1.size))) {s with heap:=s.heap.push {cls:=.type "reversed",data:=.fields #[.ref l,rawInt ((xs.size)-1)]},toks:=tk})) YW (by decide) (vJ _) (vK _) (λobj=>PySem.F.args_object_init_2 obj _) YU (.of_wp λprog w A R s h=>?_) ⟨xs,a,j,λtk=>?_⟩
 ·obtain⟨xs,f,d,i⟩:=h;exact vI f d λtk=>⟨_,rfl,i tk⟩
 ·exact⟨⟨_,aq _ rfl,rfl⟩,h tk⟩
end
end PySem.RV
namespace PySem.RV
open PySem PySem.Spec PyProof.Rows
theorem vL:typeLookup (.type "list_reverseiterator") "__len__"=pure none:=by rw[typeLookup_type,builtinLookup_eq_fast];kernel_rfl
theorem XL:typeLookup (.type "list_reverseiterator") "__length_hint__"=pure (some (.builtin "list_reverseiterator.__length_hint__")):=by rw[typeLookup_type];kernel_rfl
section
variable {prog:Program}{w:World}{A:Around}{E:Value->Shared->Prop}{s:Shared}{I:Addr}{fp wr:List Addr}{G:Array GenState->Array GenState->Prop}{n:Nat}{P:Nat->Value->Prop}{St:Nat->Shared->Prop}
theorem yC {Q:List Value->Shared->Prop}(W:WalksS prog w A.in1 I fp wr G n P St)(f:∀i s,St i s->s.TypeIs (.ref I) "list_reverseiterator")(p:St 0 s)(l:∀b∈fp,b<s.1.1.size)(v:I∈fp)
  (L:∀j acc,Moved wr G s j->ItemsOf P acc n->Q acc.toList j) (hn:n<=sizeLine):wpAny (model prog w) A (collect (.ref I)) Q E s:=by
 have u:=λz=>bC _ (l _ z);have J:s.1.1.size≠I:=λz=>u (z▸v);unfold collect;refine aa (wpAny_runValue (cO F.entry_proto_collect ?_));refine aa (bh (aB ⟨plainId_quiet F.plain_list_iadd _,cO F.entry_list_iadd ?_⟩));have a:=W.frame 0 s (s.heap.push {cls:=.type "list",data:=.seq ([]:List _).toArray}) _ p (au _) λb _ o e=>ak _ e;have N:(s.heap.push {cls:=.type "list",data:=.seq ([]:List _).toArray}).get? _=some _:=aq _ rfl;have B:eJ (.ref s.1.1.size) (.ref I)=false:=by simp[eJ,J]
 refine(show wpAny _ _ (Builtin.List.listExtendWith _ _ _) _ _ _ from ?_);refine aa (wpAny_typeOf (f 0 _ a) ?_);rw[if_neg (by rw[B];decide)]
 refine aa (W.self 0 _ _ _ a (aa (wpAny_holding ?_)));refine aa (b_ (f 0 _ a) vL ?_);refine aa (b_ (f 0 _ a) XL ?_);generalize q:("list_reverseiterator.__length_hint__")=id0;subst q;refine aa (wpAny_isInstance (b:=true) (f 0 _ a) (by kernel_rfl) ?_)
 refine aB ?_;refine aB ⟨plainId_quiet F.plain_extend_loop _,codeAny_extend_loopS W hn _ u _ n 0 _ _ _ rfl (bj _) a N (ItemsOf.nil P) λj r U y k d=>?_⟩;exact aa (wpAny_load k (aB (L j _ (Moved.drop_new y (au _)) d)))
theorem G7 {Q₁:Value->Shared->Prop}(W:WalksS prog w A.in1.in1 I fp wr G n P St)(o:∀i s,St i s->s.TypeIs (.ref I) "list_reverseiterator")(f:St 0 s)(j:∀b∈fp,b<s.1.1.size)(p:I∈fp)
  (h:∀d acc,Moved wr G s d->ItemsOf P acc n->Q₁ (.ref d.1.1.size) {d with heap:=d.heap.push {cls:=.type "tuple",data:=.seq acc} }) (hsz:n<=sizeLine):
  codeAny (model prog w) A (.call (.builtin "tuple.__new__") ⟨[.type "tuple",.ref I],[]⟩) (wants Q₁ E) s:=by
 refine codeAny_of_tree ?_;refine(show wpAny _ A.in1 (do checkBuiltinCall "tuple.__new__" ⟨[.type "tuple",.ref I],[]⟩;again (.builtin "tuple.__new__" ⟨[.type "tuple",.ref I],[]⟩)) _ _ s from ?_)
 refine aa (cF (F.newCall_tuple_1 _) (aB ⟨plainId_quiet hJ _,cO F.entry_tuple_new ?_⟩));rw[Around.under_plainId hJ _];have l:=sub_tuple_self;have k:=init_tuple_lookup;have q:=madeHere_tuple;have u:=o 0 s f
 wp_walk using wpAny_typeOf u,yC (hn:=hsz) W o f j p
 intro d acc r a;have e:acc.toList.toArray=acc:=by simp
 refine(show wpAny _ _ (eK acc.toList.toArray>>=λv=>ret v) _ _ _ from ?_);unfold eK;refine aa (bh (aB ?_) (by rw[e];show acc.size<=sizeLine;rw[a.1];exact hsz))
 rw[e];exact h d acc r a
theorem tuple_lr {Q:Value->Shared->Prop}(W:WalksS prog w A.in1.in1.in1 I fp wr G n P St)(q:∀i s,St i s->s.TypeIs (.ref I) "list_reverseiterator")(k:St 0 s)(j:∀b∈fp,b<s.1.1.size)(l:I∈fp)
  (p:∀d acc,Moved wr G s d->ItemsOf P acc n->Q (.ref d.1.1.size) {d with heap:=d.heap.push {cls:=.type "tuple",data:=.seq acc} }) (hsz:n<=sizeLine):
  wpAny (model prog w) A (call (.type "tuple") [.ref I]) Q E s:=
 callType_codes (Q₁:=λobj a=>a.TypeIs obj _/\Q obj _) fE (F.typeCall_tuple_1 _) F.entry_object_init
  (G7 (hsz:=hsz) W q k j l λd acc o f=>⟨⟨_,aq _ rfl,rfl⟩,p d acc o f⟩) λobj a h₁=>
   ⟨h₁.1,fF obj _,object_init_meets fE.init.lookup fE.made (by decide) _ w _ _ _ ⟨h₁.1,rfl,h₁.2⟩⟩
end
end PySem.RV
namespace PV
open PySem PySem.Spec PyProof.Rows L2
def CI (K:ag)(a:Addr)(n:Nat):It:=
 ⟨λi H=>∃xs x,SqT K H a xs/\xs.length=n/\xs.reverse[i]?=some x,λi H x d=>d=H/\∀xs,SqT K H a xs->xs.reverse[i]?=some x,λi H=>∃xs,SqT K H a xs/\xs.length=n/\n<=i⟩
def Ad (K:ag)(a:Addr)(n:Nat):It:=
 ⟨λi H=>∃xs x,SqL K H a xs/\xs.length=n/\xs.reverse[i]?=some x,λi H x d=>d=H/\∀xs,SqL K H a xs->xs.reverse[i]?=some x,λi H=>∃xs,SqL K H a xs/\xs.length=n/\n<=i⟩
theorem VT {a:Type}{xs:List a}{i:Nat}{x:a}(h:xs.reverse[i]?=some x):i<xs.length/\xs[xs.length-1-i]?=some x:=by
 have hi:=(aH.mp h).1;rw[bT]at hi;rw[fq hi]at h;exact⟨hi,h⟩
theorem vM {P:Program}{w:World}{K:ag}{tg:Expr}(a it:Addr)(n:Nat):yh P w K tg (CI K a n) [it] it (λi h=>i<=n/\RV.IsRv h it (.ref a) ((n:Int)-1-(i:Int))) where
 mem:=by simp
 obj:=λi h st b f=>by
  have e:b=it:=by simpa using f
  subst e;exact⟨_,st.2,λv z=>nomatch z⟩
 keep:=λi h h' st k=>⟨st.1,k it (by simp) _ st.2⟩
 item:=by
  intro X N y J hc i j s σ H E I q st B;subst N y J;obtain⟨xs,x,G,hn,hx⟩:=B;obtain⟨Q,rv,p,hz⟩:=I.tuple G;obtain⟨hi,U⟩:=VT hx;obtain⟨u,hu,ru⟩:=rv.get U;obtain⟨Z,f1,f2,L,r,f5⟩:=q it (by simp)
  have hl:=rv.length;have e:(n:Int)-1-(i:Int)=((xs.length-1-i:Nat):Int):=by lia
  have d:=st.2;rw[e]at d;have f:(Q.toArray.size:Int)<2^63:=by
   rw[bz]at hz;simp;lia
  refine RV.next_item d p f (x:=u) (by simpa using hu) λh' tk l sb=>?_
  have I1:Inv X j σ H {s with heap:=h',toks:=tk}:=I.turned (t':=tk) (λb o f e=>(sb.2 b f).trans e) Z f1 L r f5;have e2:((xs.length-1-i:Nat):Int)-1=(n:Int)-1-((i+1:Nat):Int):=by lia
  rw[e2]at l;exact⟨u,rfl,yi (s:={s with heap:=h',toks:=tk}) l rfl rfl (by decide) ⟨x,H,I1,ru,⟨rfl,λys hy=>by rw[I.tuple_inj hy G];exact hx⟩,⟨by lia,l⟩,λb f=>(q b f).1⟩⟩
 done:=by
  intro X N y J hc i j s σ H E I q st B;subst N y J;obtain⟨xs,G,hn,hx⟩:=B;obtain⟨Z,f1,f2,L,r,f5⟩:=q it (by simp)
  have d:=st.2;have h1:=st.1;rw[show (n:Int)-1-(i:Int)= -1 by lia]at d
  exact RV.next_end (I.ok.hd hc) d λh' eb=>⟨rfl,I.turned (t':=s.toks) (λb o f e=>eb b o f e) Z f1 L r f5⟩
 self:=λ_ _ _ _ _ st h=>RV.iter_rv st.2 h
theorem vN {P:Program}{w:World}{K:ag}{tg:Expr}(a it:Addr)(n:Nat):yh P w K tg (Ad K a n) [it] it (λi h=>i<=n/\h.IsRevIter it a ((n:Int)-1-(i:Int))) where
 mem:=by simp
 obj:=λi h st b l=>by
  have e:b=it:=by simpa using l
  subst e;obtain⟨o,e,c,d⟩:=st.2;exact⟨o,e,λv z=>by rw[d]at z;cases z⟩
 keep:=λi h h' st k=>⟨st.1,st.2.at λo e=>k it (by simp) o e⟩
 item:=by
  intro X Q B L hc i j s σ H E I r st G;subst Q B L;obtain⟨xs,x,J,hn,hx⟩:=G;obtain⟨its,rv,p,hz⟩:=I.list J;obtain⟨hi,U⟩:=VT hx;obtain⟨u,hu,ru⟩:=rv.get U;obtain⟨Z,f1,f2,N,y,f5⟩:=r it (by simp)
  have e:(n:Int)-1-(i:Int)=((xs.length-1-i:Nat):Int):=by lia
  have f:=st.2;rw[e]at f;refine wpAny_pyNext_rev_item f p.isList (x:=u) (by simpa using hu) λh' q sb=>?_
  have I1:Inv X j σ H {s with heap:=h'}:=I.turned (t':=s.toks) (λb o l e=>(sb.2 b l).trans e) Z f1 N y f5;have e2:((xs.length-1-i:Nat):Int)-1=(n:Int)-1-((i+1:Nat):Int):=by lia
  rw[e2]at q;obtain⟨o,e,c,d⟩:=id q;exact⟨u,rfl,yi (s:={s with heap:=h'}) e c d (by decide) ⟨x,H,I1,ru,⟨rfl,λys hy=>by rw[I.list_inj hy J];exact hx⟩,⟨by lia,q⟩,λb l=>(r b l).1⟩⟩
 done:=by
  intro X Q B L hc i j s σ H E I r st G;subst Q B L;obtain⟨xs,J,hn,hx⟩:=G;obtain⟨Z,f1,f2,N,y,f5⟩:=r it (by simp)
  have f:=st.2;have h1:=st.1;rw[show (n:Int)-1-(i:Int)= -1 by lia]at f
  exact wpAny_pyNext_rev_end (I.ok.hd hc) f λh' eb=>⟨rfl,I.turned (t':=s.toks) (λb o l e=>eb b o l e) Z f1 N y f5⟩
 self:=λ_ _ _ _ _ st h=>wpAny_pyIter_revIter st.2 h
theorem zJ.rev {H:Hp}:∀{vs:List V} {ts:List T},zJ H vs ts->zJ H vs.reverse ts.reverse
 |_,_,.nil=>.nil
 |_,_,.cons r t=>by rw[cf,cf];exact(zJ.rev t).append (.cons r .nil)
theorem G8 {K:ag}{f p:Hp}{a:Addr}{xs:List V}{ts:List T}(h:f a=some (.tup xs))(r:zJ f xs ts):rI f p (CI K a xs.length) ts.reverse:=λq u k j=>by
 have d:=j _ _ (k _ _ h);have hr:=r.rev;refine⟨λi hi=>?_,λi t x H3 e y=>?_,λi hi=>⟨xs,SqT.of d,rfl,by rw[bT]at hi;rw[r.length];exact hi⟩⟩
 ·obtain⟨v,e,_⟩:=hr.get (aw hi);exact⟨xs,v,SqT.of d,rfl,e⟩
 ·obtain⟨rfl,y⟩:=y;obtain⟨v,o,l⟩:=hr.get e;have:=y xs (SqT.of d);rw[o]at this;cases this;refine⟨zy.refl _,?_⟩;rw[zS.self q _ j];exact l.mono k
theorem G9 {K:ag}{f p:Hp}{a:Addr}{xs:List V}{ts:List T}(h:f a=some (.lst xs))(r:zJ f xs ts):rI f p (Ad K a xs.length) ts.reverse:=λq u k j=>by
 have d:=j _ _ (k _ _ h);have hr:=r.rev;refine⟨λi hi=>?_,λi t x H3 e y=>?_,λi hi=>⟨xs,SqL.of d,rfl,by rw[bT]at hi;rw[r.length];exact hi⟩⟩
 ·obtain⟨v,e,_⟩:=hr.get (aw hi);exact⟨xs,v,SqL.of d,rfl,e⟩
 ·obtain⟨rfl,y⟩:=y;obtain⟨v,o,l⟩:=hr.get e;have:=y xs (SqL.of d);rw[o]at this;cases this;refine⟨zy.refl _,?_⟩;rw[zS.self q _ j];exact l.mono k
def AE (fa:En->R T):En->R (List T):=λρ=>(fa ρ).bind λt=>(W2 t).bind λxs=>.ok xs.reverse
def vO:T->R T
 |.lst xs=>if xs.length<=iT then .ok (.tup xs.reverse)else .bad
 |_=>.bad
section
variable {X:Cx}{Y:Fx}{a b tg:Expr}{fa fb:En->R T}{pos p p' pos':Pos}
theorem Ga {J:TA}(P:Gl X "reversed")(hm:X.mg "reversed"=none)(Z:PA X [a] J)(hs:lu X a:=by exact li rfl):
  PI X tg (.Call (.Name "reversed" p) [a] [] pos) (λr H R=>J r H λvs d=>∃l xs,vs=[.ref l]/\((d l=some (.lst xs)/\R (Ad X.K l xs.length) d)\/(d l=some (.tup xs)/\R (CI X.K l xs.length) d))):=by
 intro y s r H R I h;refine Call_ (j9 I P hm boot_reversed (aV (iU (Z pos _ s r H _ I h) λus i ⟨vs,d,j,L,U⟩=>?_) hs rfl));obtain⟨l,xs,e,q⟩:=U;subst e;obtain⟨u,rfl,N⟩:=Zx L;obtain rfl:u=Value.ref l:=N;have ok:∀b∈[i.1.1.size],Wz X _ d b:=λb Q=>by
  have e:=by simpa using Q
  subst e;exact j.fpOk (au _) (j.hok.fresh (au _))
 rcases q with ⟨v,q⟩|⟨v,q⟩
 ·obtain⟨f,k,p,B⟩:=j.list (SqL.of v);have e:((f.toArray.size):Int)-1=(xs.length)-1-((0):Int):=by have:=k.length;simp;lia
  refine call_reversed_list p.isList ?_;rw[e];have st:(i.heap.push (revObj l ((xs.length)-1-((0):Int)))).IsRevIter _ l _:=⟨_,aq _ rfl,rfl,rfl⟩;refine wpAny_pyIter_revIter st ?_;exact⟨i.1.1.size,[i.1.1.size],_,_,d,rfl,j.kept (λb o e=>ak _ e),vN l _ _,⟨bj _,st⟩,ok,q⟩
 ·obtain⟨f,k,p,B⟩:=j.tuple (SqT.of v);have G:=k.length;have e:((f.toArray.size):Int)-1=(xs.length)-1-((0):Int):=by simp;lia
  refine RV.call_rvT p (by rw[bz]at B;lia) λtk=>?_
  rw[e];refine RV.iter_rv (aq _ rfl) ?_;exact⟨i.1.1.size,[i.1.1.size],_,_,d,rfl,j.kept (λb o e=>ak _ e),vM l _ _,⟨bj _,aq _ rfl⟩,ok,q⟩
theorem Ft (u:Gl X "reversed")(o:X.mg "reversed"=none)(y:Snd X Y a fa)(j:lu X a:=by exact li rfl):uI X Y tg (.Call (.Name "reversed" p) [a] [] pos) (AE fa):=.mk λρ=>
 PI.imp (Ga u o (zF (y ρ) zZ j) j) λJ H R ⟨B,I,q⟩=>step I q λt v i _ G k d f=>by
  cases k with
  |@tup l xs ts h r=>exact⟨l,xs,rfl,.inr ⟨d.sB _ _ h,ZO d (show Po Y rI _ i _ R from f) (G8 h r)⟩⟩
  |@lst l xs ts h r=>exact⟨l,xs,rfl,.inl ⟨d.sB _ _ h,ZO d (show Po Y rI _ i _ R from f) (G9 h r)⟩⟩
  |_=>exact f.elim
theorem Uv:∀{xs d:List V} {us ws:List Value},Z0 xs us->Z0 d ws->Z0 (xs++d) (us++ws)
 |_,_,_,_,.nil,q=>q
 |_,_,_,_,.cons r t,q=>.cons r (Uv t q)
theorem Uw:∀{xs:List V} {us:List Value},Z0 xs us->Z0 xs.reverse us.reverse
 |_,_,.nil=>.nil
 |_,_,.cons r t=>by rw[cf,cf];exact Uv (Uw t) (.cons r .nil)
theorem XM {d:List Value}{acc:Array Value}(h:ItemsOf (λi v=>d.toArray[d.toArray.size-1-i]?=some v) acc d.toArray.size):acc.toList=d.reverse:=by
 have k:=by
  have:=h.1;simpa using this
 have j:=h.2;refine eC λi=>?_
 by_cases hi:i<d.length
 ·have f:i<acc.toList.length:=by simp;lia
  have e:=aw f;have:=j i _ (by rw[←fo];exact e)
  rw[fq hi,e,←this];simp
 ·rw[b9 (by simp;lia),b9 (by simp;lia)]
theorem Gb (hh:X.A.handled=none)(gl:Gl X "tuple")(mg:X.mg "tuple"=none)(gl':Gl X "reversed")(mg':X.mg "reversed"=none)(ha:Snd X Y a fa)(hs:lu X a:=by exact li rfl)(U:lu X (.Call (.Name "reversed" p') [a] [] pos'):=by exact li rfl):
  Snd X Y (.Call (.Name "tuple" p) [.Call (.Name "reversed" p') [a] [] pos'] [] pos) (gx vO fa):=.mk λρ=>by
 intro N s σ H Q I ⟨B,J,q⟩;have hq:tS Y rC fa ρ σ H (λv d=>∃l xs,v=.ref l/\d l=some (.lst xs)/\xs.length<=sizeLine/\∀t,d t=none->Q (.ref t) (iV d t (.tup xs.reverse))):=by
  refine step J q λt v d _ k L G j=>?_;cases L with
  |@lst l xs ts h r=>
   have j:Po Y rC _ d (if ts.length<=iT then .ok (.tup ts.reverse)else .bad) Q:=j
   split at j
   ·rename_i hb;exact⟨l,xs,rfl,G.sB _ _ h,by rw[r.length];exact Zj hb,λt ht=>X6 G.sB j rfl r.rev ht⟩
   ·exact j.elim
  |_=>exact j.elim
 refine bU (j9 I gl mg PyProof.Rows.Boot.«tuple» (aV (rest:=[]) ?_ U rfl));rw[U];refine fP (bU (j9 I gl' mg' boot_reversed (aV (e:=a) (rest:=[]) ?_ hs rfl)));refine iU ((zF (ha ρ) zZ hs) pos' N s σ H (λvs d=>∃l xs,vs=[.ref l]/\d l=some (.lst xs)/\xs.length<=sizeLine/\∀t,d t=none->Q (.ref t) (iV d t (.tup xs.reverse))) I ?_) λus k ⟨vs,d,G,L,l,xs,e,hl,hz,j⟩=>?_
 ·obtain⟨B',J',y⟩:=hq;refine⟨B',J',?_⟩;revert y;cases fa ρ with
  |bad=>exact λy=>y
  |ex c=>exact λy=>y
  |ok t=>
   intro y v d k L;obtain⟨l,xs,rfl,h⟩:=y v d k L;exact⟨l,xs,rfl,h⟩
 subst e;obtain⟨u,rfl,ru⟩:=Zx L;obtain rfl:u=Value.ref l:=ru;obtain⟨f,rv,pl,_⟩:=G.list (SqL.of hl);have P:=G.hok.lt hl;refine call_reversed_list pl.isList (f_ ?_);have e0:((f.toArray.size):Int)-1-((0:Nat))=((f.toArray.size):Int)-1:=by lia
 refine RV.tuple_lr (Walks.listRev (A:=X.A.in1.in1.in1) hh _ l (aN P) _).toS (λi s st=>st.2.1.typeIs) ⟨bj _,⟨_,aq _ rfl,rfl,by rw[e0];rfl⟩,pl.isList.push _⟩ (λb hb=>?_) (by simp) (λs' acc hm Z=>?_) (by rw[aE,←rv.length];exact hz)
 ·have hb:=by simpa using hb
  rcases hb with rfl|rfl
  ·rw[bI];exact c_ _
  ·rw[bI];exact cT P
 obtain⟨h',g',d',tk',os'⟩:=s';have e1:g'=k.gens:=hm.gens;have e2:d'=k.drawn:=hm.drawn;have e3:=hm.os;subst e1 e2 e3;have kp:∀b o,k.heap.get? b=some o->h'.get? b=some o:=λb o e=>hm.heap b o (λz=>by
  have z:b=k.1.1.size:=by simpa using z
  have:=aC e;rw[z]at this;exact bC _ this) (ak _ e)
 have I2:=G.kept (t':=tk') kp;have ea:acc=f.reverse.toArray:=by rw[←XM Z]
 rw[ea];refine⟨.ref h'.objs.size,iV d _ (.tup xs.reverse),I2.laid (λb u e=>ak _ e) (au _) ⟨by rw[bT];exact hz,f.reverse,Uw rv,⟨_,aq _ rfl,rfl,_,rfl⟩,.inr ⟨_,aq _ rfl,rfl⟩⟩,rfl,j _ (I2.hok.fresh (au _))⟩
end
noncomputable def wn:List T->Option Bool
 |[]=>some false
 |.bl k::r=>match wn r with|some j=>some (k||j)|none=>none
 |_::_=>none
def BK:T->R T
 |.lst ts=>match wn ts with|some k=>.ok (.bl k)|none=>.bad
 |_=>.bad
theorem YX:∀{H:Hp} {xs:List V} {ts:List T} {a:List Value} {k:Bool},zJ H xs ts->Z0 xs a->wn ts=some k->∃tr:Nat->Bool,(∀i v,a[i]?=some v->v=Value.bool (tr i))/\(b6 a.length).any tr=k
 |_,_,_,_,k,.nil,.nil,h=>by
  have h':=h;cases h';exact⟨λ_=>true,λi v e=>by simp at e,rfl⟩
 |H,_,_,_,k,.cons r rs,.cons (b:=u) rv vs,h=>by
  cases r with
  |bl b=>
   unfold wn at h;split at h
   ·rename_i j e;cases h;obtain⟨tr,f,d⟩:=YX rs vs e;obtain rfl:u=Value.bool b:=rv;refine⟨λi=>match i with|0=>b|i+1=>tr i,λi v e=>?_,?_⟩
    ·cases i with
     |zero=>simp at e;exact e.symm
     |succ i=>exact f i v (by simpa using e)
    ·rw[ac,cI,fM,List.any_map,←d];rfl
   ·cases h
  |_=>cases h
section
variable {X:Cx}{Y:Fx}{a b:Expr}{fa fb:En->R T}{pos p p' pos' pt:Pos}{elts:List Expr}{kk:Nat}
theorem YY (P:X.A.handled=none):ZB X (.builtin "any") (λvs H Q=>∃l xs ts k,vs=[.ref l]/\H l=some (.lst xs)/\zJ H xs ts/\wn ts=some k/\Q (.bl k) H):=by
 intro B s σ H vs us Q I d h;obtain⟨l,xs,ts,k,rfl,G,r,Z,q⟩:=h;obtain⟨u,rfl,J⟩:=Zx d;obtain rfl:u=Value.ref l:=J;obtain⟨y,d,p,_⟩:=zX I (.inl G) r;obtain⟨tr,N,U⟩:=YX r d Z;refine call_any_walk (wpAny_pyIter_list p ?_);have f:=I.hok.lt G;have old:∀b o,s.heap.get? b=some o->(s.heap.push {cls:=.type "list_iterator",data:=.fields #[.ref l,.int 0 0]}).get? b=some o:=λb o e=>ak _ e;refine⟨s.1.1.size,_,_,_,_,_,tr,rfl,iM (A:=X.A.in1) P _ l (aN f) y.toArray,?_,?_,λh' tk j=>?_⟩
 ·refine⟨?_,p.at λo e=>old _ o e⟩;exact⟨_,aq _ rfl,rfl,rfl⟩
 ·intro i v s' Q' E' hi L;rw[N i v (by simpa using hi)]
  exact ba L
 ·rw[aE,U];refine⟨.bl k,H,I.kept (λb o e=>j b o ?_ (old b o e)),rfl,q⟩;simp;exact aN (aC e)
theorem FB (f:X.A.handled=none)(i:Gl X "any")(o:X.mg "any"=none)(j:jC X Y a fa)(u:lu X a:=by exact li rfl):Snd X Y (.Call (.Name "any" p) [a] [] pos) (gx BK fa):=
 WV (YY f) (λv t B H Q r d q=>by
  cases r with
  |@lst l xs ts h r=>
   have q:Po Y rC B H (match wn ts with|some k=>.ok _|none=>.bad) Q:=q
   split at q
   ·rename_i k e;exact⟨l,xs,ts,k,rfl,h,r,e,lq d q rfl (.bl k)⟩
   ·exact q.elim
  |_=>exact q.elim) i o PyProof.Rows.Boot.«any» j u
end
noncomputable def Ux (x:Int):List Int->List Int
 |[]=>[x]
 |y::a=>if x<=y then x::y::a else y::Ux x a
def YZ:List Int->List Int
 |[]=>[]
 |x::xs=>Ux x (YZ xs)
def vP:T->R T
 |.lst ts=>match ZL ts with|some l=>if ts.length<64 then .ok (.lst ((YZ l).map T.int))else .bad|none=>.bad
 |_=>.bad
theorem JO (x:Int):∀a:List Int,(Ux x a).Perm (x::a)
 |[]=>.refl _
 |y::a=>by
  unfold Ux;split
  ·exact .refl _
  ·exact((JO x a).cons y).trans (.swap x y a)
theorem u7:∀xs:List Int,(YZ xs).Perm xs
 |[]=>.refl _
 |x::xs=>(JO x _).trans ((u7 xs).cons x)
theorem JP (x:Int):∀d:List Int,d.Pairwise (·<=·)->(Ux x d).Pairwise (·<=·)
 |[],_=>by unfold Ux;simp
 |y::d,h=>by
  unfold Ux;rw[cM]at h;split
  ·rename_i f;refine cM.mpr ⟨λz a=>?_,cM.mpr h⟩;rcases am.mp a with rfl|a
   ·exact f
   ·exact Int.le_trans f (h.1 z a)
  ·refine cM.mpr ⟨λz a=>?_,JP x d h.2⟩;rcases am.mp ((JO x d).mem_iff.mp a)with rfl|a
   ·lia
   ·exact h.1 z a
theorem JQ:∀xs:List Int,(YZ xs).Pairwise (·<=·)
 |[]=>.nil
 |x::xs=>JP x _ (JQ xs)
theorem u8:∀(xs a:List Int),xs.Perm a->xs.Pairwise (·<=·)->a.Pairwise (·<=·)->xs=a
 |[],a,p,_,_=>(List.nil_perm.mp p).symm
 |x::xs,[],p,_,_=>by cases List.perm_nil.mp p
 |x::xs,y::a,p,f,d=>by
  rw[cM]at f d;have e:x=y:=by
   have i:x<=y:=by
    rcases am.mp (p.mem_iff.mpr (aj))with z|z
    ·lia
    ·exact f.1 y z
   have j:y<=x:=by
    rcases am.mp (p.mem_iff.mp (aj))with z|z
    ·lia
    ·exact d.1 x z
   lia
  subst e;rw[u8 xs a (List.Perm.cons_inv p) f.2 d.2]
theorem jM:∀{a:List Value} {ns:List Int},IntsAre a ns->Z0 (ns.map V.int) a:=by
 intro a ns h
 induction h with
 |nil=>exact .nil
 |cons n t _ d=>exact .cons ⟨_,rfl⟩ d
theorem Uy:∀(a:List (Int×Tok)),IntsAre (a.map λp=>Value.int p.1 p.2) (a.map (·.1))
 |[]=>.nil
 |p::a=>.cons _ _ (Uy a)
theorem u9 {H:Hp}:∀ns:List Int,zJ H (ns.map V.int) (ns.map T.int)
 |[]=>.nil
 |n::ns=>.cons (.int n) (u9 ns)
section
variable {X:Cx}{Y:Fx}{a b:Expr}{fa fb:En->R T}{pos p p' pos' pt:Pos}{elts:List Expr}{kk:Nat}
theorem yD:ZB X (.builtin "sorted") (λvs H Q=>∃l xs ts d,vs=[.ref l]/\H l=some (.lst xs)/\zJ H xs ts/\ZL ts=some d/\ts.length<64/\∀r,H r=none->Q (.ref r) (iV H r (.lst ((YZ d).map V.int)))):=by
 intro v s σ H vs us Q I j h;obtain⟨l,xs,ts,d,rfl,hl,r,hk,P,q⟩:=h;obtain⟨u,rfl,J⟩:=Zx j;obtain rfl:u=Value.ref l:=J;obtain⟨f,j,p,y,_⟩:=zX I (.inl hl) r;obtain⟨G,o,Z⟩:=uT r j hk;refine sorted_ints p (o▸Uy G) (by lia) λout k N B L=>?_
 have e:=u8 _ _ (B.trans (by rw[Z];exact(u7 d).symm)) L (JQ d)
 obtain⟨n,he⟩:=sortedAll_at _ f out;have i:s.1.1.size<=s.1.1.size+1:=cU _;refine⟨.ref _,iV H _ _,I.laid (λb u e=>sortedAll_old e) i ?_,rfl,by have:=q _ (I.hok.fresh i);rw[←e]at this;exact this⟩
 have U:k.length=ts.length:=by
  have h3:=B.length_eq;rw[ah]at h3;have h4:f.length=G.length:=by rw[o,ah]
  lia
 exact⟨by rw[ah,bz];lia,out.toList,n,jM N,he⟩
theorem Gc (o:Gl X "sorted")(j:X.mg "sorted"=none)(u:jC X Y a fa)(k:lu X a:=by exact li rfl):Snd X Y (.Call (.Name "sorted" p) [a] [] pos) (gx vP fa):=
 WV yD (λv t B H Q r y q=>by
  cases r with
  |@lst l xs ts h r=>
   have q:Po Y rC B H (match ZL ts with|some l=>if ts.length<64 then .ok _ else .bad|none=>.bad) Q:=q
   split at q
   ·rename_i i e;split at q
    ·rename_i d;refine⟨l,xs,ts,i,rfl,h,r,e,d,λz f=>?_⟩;exact q _ _ (zy.new f _) (.lst (j6 f _) (u9 _))
    ·exact q.elim
   ·exact q.elim
  |_=>exact q.elim) o j PyProof.Rows.Boot.«sorted» u k
end
end PV
namespace PySem.RV
open PySem PySem.Spec PyProof.Rows PySem.Builtin.SmallTypes
theorem draws_tup {prog:Program}{w:World}{A:Around}(j:A.handled=none)(it l:Addr)(d:l≠it)(items:Array Value):Draws prog w A it [it,l] items.size (λi v=>items[i]?=some v) (λi h=>h.IsTupleIter it l i/\h.IsTuple l items) where
 live:=λi h st=>(ZG.nx_tup d items).there st it (.head _)
 frame:=λi h h' st k=>(ZG.nx_tup d items).keep st k
 item:=λi s Q E hi st f=>ZG.tup_item st.1 st.2 (x:=items[i]) (by simp[hi]) λh' a b=>f _ h' s.toks (by simp[hi]) ⟨a,st.2.extBut b.extBut d⟩ b
 done:=λs Q E st hE=>ZG.tup_stop j st.1 st.2 (by simp) hE
noncomputable abbrev Dp (i:Addr):Obj:={cls:=.type "enumerate",data:=.fields #[.none,.bool false,.ref i,rawInt 0,.none,.none]}
theorem qa (l:Addr)(items:Array Value)(n:Nat)(f:Option Addr)(k:Array (Option Value)):
  Meets (Builtin.«enumerate.__new__» ⟨[.type "enumerate",.ref l],[]⟩) (λ_ R s=>s.heap.get? l=some {cls:=.type "tuple",dict:=f,data:=.seq items n,slots:=k}/\
   R (.ok (.ret (.ref (s.heap.push (ZG.oT l)).objs.size))) {s with heap:=(s.heap.push (ZG.oT l)).push (Dp s.1.1.size)}):=
 .of_wp λprog w A R s h=>by
  obtain⟨hp,g,d,tk,os⟩:=s;obtain⟨a,h⟩:=h;have i:=sub_enumerate;have j:Heap.IsTuple (iA ⟨hp,g,d,tk,os⟩) l items:=⟨_,a,rfl,n,rfl⟩
  wp_walk using cz a
  refine wpAny_stack_any λst=>aB ?_;split
  ·rename_i c _ _ _ _ _;cases (c==Value.type "enumerate")<;>(wp_walk using cz a,wpAny_pyIter_tuple j;exact⟨_,rfl,h⟩)
  ·wp_walk using cz a,wpAny_pyIter_tuple j
   exact⟨_,rfl,h⟩
theorem enum_callT {prog:Program}{w:World}{A:Around}{E:Value->Shared->Prop}{s:Shared}{l:Addr}{items:Array Value}{Q:Value->Shared->Prop}(p:s.heap.IsTuple l items)
  (h:∀h',IsEnum h' (s.1.1.size+1) s.1.1.size 0 .none->h'.IsTupleIter s.1.1.size l 0->(∀b o,s.heap.get? b=some o->h'.get? b=some o)->Q (.ref (s.1.1.size+1)) {s with heap:=h'}):
  wpAny (model prog w) A (call (.type "enumerate") [.ref l]) Q E s:=by
 obtain⟨⟨c,d,i,j⟩,k,q,n,hd⟩:=p;obtain rfl:c=.type _:=q;obtain rfl:i=.seq _ n:=hd;refine callType_new F.called_enumerate (by decide) (F.typeCall_enumerate_1 _) (F.newCall_enumerate_1 _) (λobj=>fF obj _) F.entry_enumerate_new (qa l _ n d j) ⟨k,?_⟩
 have f:(s.heap.push (ZG.oT l)).objs.size=s.1.1.size+1:=bI ..;have a:((s.heap.push (ZG.oT l)).push (Dp s.1.1.size)).get? _=some _:=aq _ rfl;rw[f]at a;rw[f];exact⟨⟨_,a,rfl⟩,h _ a ⟨_,ak _ (aq _ rfl),rfl,rfl⟩ λb o x=>ak _ (ak _ x)⟩
end PySem.RV
namespace PV
open PySem PySem.Spec PyProof.Rows L2
def Co (K:ag)(l:Addr)(n:Nat):It:=
 ⟨λi H=>∃xs x,SqT K H l xs/\xs.length=n/\xs[i]?=some x,λi H v a=>∃p x,H p=none/\v=.ref p/\(∀xs,SqT K H l xs->xs[i]?=some x)/\a=iV H p (.tup [.int i,x]),λi H=>∃xs,SqT K H l xs/\xs.length=n/\n<=i⟩
theorem yE {P:Program}{w:World}{K:ag}{G:List Expr}{kk:Nat}{pt:Pos}(e it l:Addr)(n:Nat)(N:e≠it)(hle:l≠e)(hli:l≠it):
  yh P w K (.Tuple G kk pt) (Co K l n) [e,it] e (λi h=>i<=n/\(∃old,IsEnum h e it i old)/\h.IsTupleIter it l i) where
 mem:=by simp
 obj:=λi h st b a=>by
  obtain⟨_,⟨old,q⟩,o,e1,c,d⟩:=st;rcases am.mp a with rfl|a
  ·exact⟨_,q,λv z=>nomatch z⟩
  ·have z:b=it:=by simpa using a
   subst z;exact⟨o,e1,λv z=>by rw[d]at z;cases z⟩
 keep:=λi h h' st k=>by
  obtain⟨hn,⟨old,q⟩,o,e1,r⟩:=st;exact⟨hn,⟨old,k e (by simp) _ q⟩,o,k it (by simp) o e1,r⟩
 item:=by
  intro X Z hw hK hc i L s σ H E I hf st hg;subst Z hw hK;obtain⟨xs,x,hq,hxn,hx⟩:=hg;obtain⟨f,rv,p,hz⟩:=I.tuple hq;obtain⟨u,hu,ru⟩:=rv.get hx;obtain⟨hin,⟨old,q⟩,J⟩:=st;have hi:i<f.toArray.size:=by
   have:=(aH.mp hu).1;simpa using this
  have D:=RV.draws_tup (prog:=X.prog) (w:=X.w) (A:=X.A.in1) (I.ok.hd hc) it l hli f.toArray;have hef:e∉[it,l]:=λz=>by
   rcases am.mp z with z|z
   ·exact N z
   ·exact hle (ax.mp z).symm
  have WE:=hU D e N hef (.head _);refine WE.item i s _ _ hi ⟨⟨old,q⟩,J,p⟩ λT vals h' tk Z hT U hM hk=>?_;obtain⟨t,y,hy,rfl⟩:=Z;have hyu:y=u:=by
   have:f[i]?=some y:=by simpa using hy
   rw[hu]at this;exact(aJ this).symm
  subst hyu;refine⟨.ref T,rfl,?_⟩;refine WE.go G kk pt i T _ _ _ hM λh2 j Q=>?_;have hTn:H T=none:=I.hok.fresh hT;have B:∀b∈[e,it],b≠T:=λb a z=>by
   obtain⟨_,_,h3,h4⟩:=hM;rcases am.mp a with rfl|a
   ·exact h3 z.symm
   ·have:b=it:=by simpa using a
    subst this;exact h4 z.symm
  have WF:IsTup h2 T #[.int i t,y]:=by
   obtain⟨o,eo,r⟩:=U;exact⟨o,Q T o (λa=>B T a rfl) eo,r⟩
  refine⟨.ref T,iV H T (.tup [.int i,x]),Inv.laidT (s:=s) (h':=h2) (ch:=[e,it]) (tk:=tk) I hf (λb o a e=>Q b o a (hk b o a e)) (λb o a _=>?_) hT ⟨by rw[bz];show 2<=16777216;decide,[.int i t,y],.cons ⟨t,rfl⟩ (.cons ru .nil),WF,.inl ⟨_,_,rfl⟩⟩,rfl,⟨T,x,hTn,rfl,λys hy=>by rw[I.tuple_inj hy hq];exact hx,rfl⟩,⟨by have:=(aH.mp hx).1;lia,j.1,j.2.1⟩,λb a=>?_⟩
  ·obtain⟨⟨old2,he2⟩,⟨o2,eo2,_⟩,_⟩:=j;rcases am.mp a with rfl|a
   ·exact⟨_,he2⟩
   ·have:b=it:=by simpa using a
    subst this;exact⟨o2,eo2⟩
  ·rw[zA (B b a)];exact(hf b a).1
 done:=by
  intro X Z hw hK hc i L s σ H E I hf st hg;subst Z hw hK;obtain⟨xs,hq,hxn,hx⟩:=hg;obtain⟨f,rv,p,hz⟩:=I.tuple hq;obtain⟨hin,⟨old,q⟩,J⟩:=st;have hl:=rv.length;have D:=RV.draws_tup (prog:=X.prog) (w:=X.w) (A:=X.A.in1) (I.ok.hd hc) it l hli f.toArray;have hn:f.toArray.size=i:=by simp;lia
  refine wpAny_pyNext_enum_endD D q (by rw[hn];exact⟨J,p⟩) λh' hk=>⟨rfl,?_⟩
  obtain⟨f0,f1,f2,f3,f4,f5⟩:=hf it (by simp)
  exact I.turned (t':=s.toks) (λb o a e=>hk b o a e) f0 f1 f3 f4 f5
 self:=λ_ _ _ _ _ st h=>let ⟨_,⟨_,q⟩,_⟩:=st;ce q h
theorem vQ {K:ag}{f q:Hp}{a:Addr}{xs:List V}{ts:List T}(h:f a=some (.tup xs))(r:zJ f xs ts):rI f q (Co K a xs.length) (ZY ts):=λI G k j=>by
 have d:=j _ _ (k _ _ h);rw[ji];refine⟨λi hi=>?_,λi t x H3 e y=>?_,λi hi=>⟨xs,SqT.of d,rfl,by rw[r.length];exact hi⟩⟩
 ·obtain⟨v,e,_⟩:=r.get (aw hi);exact⟨xs,v,SqT.of d,rfl,e⟩
 ·obtain⟨p,v,hp,rfl,y,rfl⟩:=y;obtain⟨t',u,rfl⟩:=JM e;obtain⟨B,o,l⟩:=r.get u;have:=y xs (SqT.of d);rw[o]at this;cases this;refine⟨zy.new hp _,.tup (j6 hp _) (.cons (.int _) (.cons ?_ .nil))⟩;exact(l.mono k).mono (zS.ge j (zy.new hp _))
def Uz (fa:En->R T):En->R (List T):=λρ=>(fa ρ).bind λt=>match t with
 |.tup xs=>.ok (ZY xs)
 |_=>.bad
section
variable {X:Cx}{Y:Fx}{a:Expr}{fa:En->R T}{pos p pt:Pos}{elts:List Expr}{kk:Nat}
theorem vR {B:TA}(P:Gl X "enumerate")(hm:X.mg "enumerate"=none)(Z:PA X [a] B)(hs:lu X a:=by exact li rfl):
  PI X (.Tuple elts kk pt) (.Call (.Name "enumerate" p) [a] [] pos) (λr H R=>B r H λvs k=>∃l xs,vs=[.ref l]/\k l=some (.tup xs)/\R (Co X.K l xs.length) k):=by
 intro y s r H R I h;refine Call_ (j9 I P hm PyProof.Rows.Boot.«enumerate» (aV (iU (Z pos _ s r H _ I h) λus i ⟨vs,k,d,L,U⟩=>?_) hs rfl));obtain⟨l,xs,e,G,q⟩:=U;subst e;obtain⟨u,rfl,N⟩:=Zx L;obtain rfl:u=Value.ref l:=N;obtain⟨Q,rv,pl,hz⟩:=d.tuple (SqT.of G);have j:=d.hok.lt G;refine RV.enum_callT (show i.heap.IsTuple l _ from pl) λh' J v hk=>ce J ?_;have f:∀b∈[i.1.1.size+1,i.1.1.size],Wz X _ k b:=λb o=>by
  rcases am.mp o with rfl|o
  ·exact d.fpOk (cU _) (d.hok.fresh (cU _))
  ·have z:=by simpa using o
   subst z;exact d.fpOk (au _) (d.hok.fresh (au _))
 exact⟨i.1.1.size+1,[i.1.1.size+1,i.1.1.size],_,_,k,rfl,d.kept hk,yE _ _ l _ (eQ _) (aN (cT j)) (aN j),⟨bj _,⟨_,J⟩,v⟩,f,q⟩
theorem XN (u:Gl X "enumerate")(o:X.mg "enumerate"=none)(y:Snd X Y a fa)(f:lu X a:=by exact li rfl):uI X Y (.Tuple elts kk pt) (.Call (.Name "enumerate" p) [a] [] pos) (Uz fa):=.mk λρ=>
 PI.imp (vR u o (zF (y ρ) zZ f) f) λJ H R ⟨B,I,q⟩=>step I q λt v k _ G j d i=>by
  cases j with
  |@tup l xs ts h r=>exact⟨l,xs,rfl,d.sB _ _ h,ZO d (show Po Y rI _ k _ R from i) (vQ h r)⟩
  |_=>exact i.elim
end
end PV
namespace PySem.RW37
open PySem PySem.Spec PyProof.Rows L2
end PySem.RW37
namespace PV
open PySem PySem.Spec PyProof.Rows L2 PySem.RW37
end PV
namespace PV
open PySem PySem.Spec PyProof.Rows L2
end PV
namespace PySem.RV
open PySem PySem.Spec PyProof.Rows PySem.Builtin.SmallTypes
end PySem.RV
namespace PV
open PySem PySem.Spec PyProof.Rows L2
noncomputable def UA (t t':T):R Bool:=match t,t' with
 |.str x,.str y=>.ok (Txt.contains y x)
 |_,_=>.bad
theorem Ge:Nx UA:=λt t' c h=>by
 unfold UA at h;split at h<;>cases h
section
variable {X:Cx}{Y:Fx}{a b c:Expr}{fa fb fc:En->R T}{pos p:Pos}
theorem XO:lc X (compareOp .In) (wz UA):=by
 intro d s o H x y v u Q I j i h;obtain⟨t,t',k,r,f,e,q⟩:=h;unfold UA at e;split at e
 ·cases e;cases r;cases f;obtain⟨l,rfl⟩:=j;obtain⟨B,rfl⟩:=i;exact P.in_str ⟨.bl _,H,I,rfl,q⟩
 ·cases e
def lw (g:Str->T->R T)(fa fb:En->R T):En->R T:=λρ=>(fa ρ).bind λt=>match t with
 |.str x=>(fb ρ).bind λu=>g x u
 |_=>.bad
noncomputable def VU (x:Str):T->R T
 |.str y=>.ok (.bl (cA x y))
 |_=>.bad
noncomputable def K8 (x:Str):T->R T
 |.str y=>.ok (.bl (dv x y))
 |_=>.bad
def qb (x:Str):T->R T
 |.str y=>if x.length<=iT/\(y.length==0)=false then .ok (.tup [.str (bc x y).1,.str (bc x y).2.1,.str (bc x y).2.2])else .bad
 |_=>.bad
def Ct (x:Str):T->R T
 |.str y=>if x.length<=iT/\(y.length==0)=false then .ok (.tup [.str (br x y).1,.str (br x y).2.1,.str (br x y).2.2])else .bad
 |_=>.bad
noncomputable def K9 (x:Str):T->R T
 |.str y=>if x.length<=1000/\(y.length==0)=false then .ok (.lst ((d4 x y).map T.str))else .bad
 |_=>.bad
def qc (fa fb fc:En->R T):En->R T:=λρ=>(fa ρ).bind λt=>match t with
 |.str x=>(fb ρ).bind λu=>(fc ρ).bind λw=>match u,w with
  |.str y,.int i=>.ok (.bl (cP x y i))
  |_,_=>.bad
 |_=>.bad
theorem VV:m8 X "str.startswith" (λx xs H Q=>(∃z y,x=.str z/\xs=[.str y]/\Q (.bl (cA z y)) H)\/∃z y i,x=.str z/\xs=[.str y,.int i]/\Q (.bl (cP z y i)) H):=by
 intro j s B H x xs v us Q I k f h;rcases h with ⟨z,y,rfl,rfl,q⟩|⟨z,y,i,rfl,rfl,q⟩
 ·obtain⟨t,rfl⟩:=k;obtain⟨u,rfl,d⟩:=Zx f;obtain⟨l,rfl⟩:=d;exact call_gives F.slot_str_startswith (cH _ _ _) F.entry_str_startswith (F.args_str_startswith_2 _ _) (gives_str_startswith z y t l) ⟨.bl _,H,I,rfl,q⟩
 ·obtain⟨t,rfl⟩:=k;obtain⟨u,r,rfl,d,o⟩:=Ya f;obtain⟨l,rfl⟩:=d;obtain⟨G,rfl⟩:=o;refine SC.startswith3 ?_;exact⟨.bl _,H,I,rfl,q⟩
theorem Gf:m8 X "str.endswith" (λx xs H Q=>∃z y,x=.str z/\xs=[.str y]/\Q (.bl (dv z y)) H):=by
 intro d s l H x xs v us Q I j f h;obtain⟨z,y,rfl,rfl,q⟩:=h;obtain⟨t,rfl⟩:=j;obtain⟨u,rfl,i⟩:=Zx f;obtain⟨k,rfl⟩:=i;exact call_gives F.slot_str_endswith (cH _ _ _) F.entry_str_endswith (F.args_str_endswith_2 _ _) (gives_str_endswith z y t k) ⟨.bl _,H,I,rfl,q⟩
theorem jQ {d:List (Addr×Obj)}{s:Shared}{i:L2.St}{H:Hp}(I:Inv X d i H s)(x y z:Str)(f l j:Tok)(k:Nat){Q:VK}(q:∀p,H p=none->Q (.ref p) (iV H p (.tup [.str x,.str y,.str z]))):
  EP X d i Q (.ref s.1.1.size) {s with heap:=s.heap.push {cls:=.type "tuple",data:=.seq [.str x f,.str y l,.str z j].toArray},toks:=k}:=
 ⟨.ref _,iV H _ (.tup [.str x,.str y,.str z]),I.laid (λb u e=>ak _ e) (au _) ⟨by show 3<=16777216;decide,[.str x f,.str y l,.str z j],.cons ⟨_,rfl⟩ (.cons ⟨_,rfl⟩ (.cons ⟨_,rfl⟩ .nil)),⟨_,aq _ rfl,rfl,_,rfl⟩,.inr ⟨_,aq _ rfl,rfl⟩⟩,rfl,q _ (I.hok.fresh (au _))⟩
theorem Gg:m8 X "str.partition" (λx xs H Q=>∃z y,x=.str z/\xs=[.str y]/\z.length<=iT/\(y.length==0)=false/\∀p,H p=none->Q (.ref p) (iV H p (.tup [.str (bc z y).1,.str (bc z y).2.1,.str (bc z y).2.2]))):=by
 intro d s B H x xs v us Q I k f h;obtain⟨z,y,rfl,rfl,o,hy,q⟩:=h;obtain⟨t,rfl⟩:=k;obtain⟨u,rfl,j⟩:=Zx f;obtain⟨l,rfl⟩:=j;refine bV F.slot_str_partition (cH _ _ _) F.entry_str_partition (F.args_str_partition_2 _ _) (meets_str_partition z y t l hy (Zj o)) ?_;unfold bc at q;revert q;cases bN z y 0 _ 1 with
 |nil=>exact λq=>jQ I _ _ _ _ _ _ _ q
 |cons i r=>exact λq=>jQ I _ _ _ _ _ _ _ q
theorem Gh:m8 X "str.rpartition" (λx xs H Q=>∃z y,x=.str z/\xs=[.str y]/\z.length<=iT/\(y.length==0)=false/\∀p,H p=none->Q (.ref p) (iV H p (.tup [.str (br z y).1,.str (br z y).2.1,.str (br z y).2.2]))):=by
 intro d s r H x xs v us Q I k f h;obtain⟨z,y,rfl,rfl,o,hy,q⟩:=h;obtain⟨t,rfl⟩:=k;obtain⟨u,rfl,j⟩:=Zx f;obtain⟨l,rfl⟩:=j;refine bV F.slot_str_rpartition (cH _ _ _) F.entry_str_rpartition (F.args_str_rpartition_2 _ _) (meets_str_rpartition z y t l hy (Zj o)) ?_;unfold br at q;revert q;cases Builtin.Str.lastOccurrence z y 0 _ with
 |none=>exact λq=>jQ I _ _ _ _ _ _ _ q
 |some i=>exact λq=>jQ I _ _ _ _ _ _ _ q
theorem ua:∀l:List (Str×Tok),Z0 (l.map λp=>V.str p.1) (strValues l)
 |[]=>.nil
 |(x,t)::r=>.cons ⟨t,rfl⟩ (ua r)
theorem W5 {d:List (Addr×Obj)}{s:Shared}{i:L2.St}{H:Hp}(I:Inv X d i H s)(l:List (Str×Tok))(k:Nat){f:List Str}(o:l.map (·.1)=f)(j:f.length<=sizeLine){Q:VK}(q:∀p,H p=none->Q (.ref p) (iV H p (.lst (f.map V.str)))):
  EP X d i Q (.ref s.1.1.size) {s with heap:=s.heap.push {cls:=.type "list",data:=.seq (strValues l).toArray},toks:=k}:=by
 subst o;have e:(l.map (·.1)).map V.str=l.map λp=>V.str p.1:=by rw[aS];rfl
 rw[e]at q;refine⟨.ref _,iV H _ (.lst (l.map λp=>V.str p.1)),I.laid (λb u e=>ak _ e) (au _) ⟨?_,strValues l,0,ua l,aq _ rfl⟩,rfl,q _ (I.hok.fresh (au _))⟩;rw[ah]at j⊢;exact j
theorem qd (x y:Str):(d4 x y).length<=x.length+2:=by
 unfold d4;have d:=fu x y 0 x.length (x.length+1);split
 ·simp
 ·split
  ·simp
  ·rw[length_partsBetween];lia
theorem Gi:m8 X "str.split" (λx xs H Q=>∃z y,x=.str z/\xs=[.str y]/\z.length<=1000/\(y.length==0)=false/\∀p,H p=none->Q (.ref p) (iV H p (.lst ((d4 z y).map V.str)))):=by
 intro k s G H x xs v us Q I r l h;obtain⟨z,y,rfl,rfl,J,hy,q⟩:=h;obtain⟨t,rfl⟩:=r;obtain⟨u,rfl,o⟩:=Zx l;obtain⟨i,rfl⟩:=o;have j:(d4 z y).length<=sizeLine:=by
  have:=qd z y;rw[bz];lia
 have hn:(Builtin.Str.partsBetween z (bN z y 0 z.length (z.length+1)) y.length).length<=sizeLine:=by
  have B:=fu z y 0 z.length (z.length+1);rw[length_partsBetween,bz];lia
 cases d:(decide (z.length<y.length)||decide (fJ z<fJ y))
 ·cases f:(bN z y 0 _ _).isEmpty
  ·refine bV eT (cH _ _ _) eD (dY _ _) (meets_str_split_sep z y t i d hy f (by rw[bz];lia) hn) ?_
   rw[strsFrom_eq];exact W5 I _ _ ((numbered_texts _ _).trans ((if_neg (ne_true_of_eq_false d)).trans (if_neg (ne_true_of_eq_false f))).symm) j q
  ·refine bV eT (cH _ _ _) eD (dY _ _) (meets_str_split_not_found z y t i d hy f) ?_;exact W5 I [(z,t)] _ ((if_neg (ne_true_of_eq_false d)).trans (if_pos f)).symm j q
 ·refine bV eT (cH _ _ _) eD (dY _ _) (meets_str_split_cannot_occur z y t i d) ?_;exact W5 I [(z,t)] _ (if_pos d).symm j q
section
variable {pa:Pos}
theorem Gj {b:Expr}{p:Pos}(d:lu X b):(((((backTo p (starEach [b] X.env)).all λx=> !x.fst)&&(backToKw p (keywordEach [] X.env)).all λx=>x.fst.isSome)&&decide (([b].length+([]:List Keyword).length+if ([]:List Keyword).isEmpty=true then 0 else 1)<30))=true):=by rw[d];rfl
theorem Hb (L:Snd X Y a fa)(l:Snd X Y b fb)(d:attributeBase a "startswith" X.env (eval a X.env)=eval a X.env:=by rfl)(f:lu X b:=by exact li rfl)(J:(pa.endLine==p.line)=true:=by rfl):
  Snd X Y (.Call (.Attribute a "startswith" pa) [b] [] p) (lw VU fa fb):=.mk λρ=>
 PE.imp (wk bw dN dO VV (L ρ) (zF (l ρ) zZ f) d (Gj f) J f rfl) λσ H Q ⟨B,I,q⟩=>step I q λt v P _ U k G j=>by
  cases k with
  |str x=>
   refine⟨rfl,step G j λu Z H2 _ N o r i=>?_⟩;cases o with
   |str y=>exact .inl ⟨x,y,rfl,rfl,lq r.sB i rfl (.bl _)⟩
   |_=>exact i.elim
  |_=>exact j.elim
theorem Gk (U:Snd X Y a fa)(G:Snd X Y b fb)(P:Snd X Y c fc)(f:attributeBase a "startswith" X.env (eval a X.env)=eval a X.env:=by rfl)(k:starEach [b,c] X.env=[(false,eval b X.env),(false,eval c X.env)]:=by exact mz rfl rfl)(d:lu X c:=by exact li rfl)(N:(pa.endLine==p.line)=true:=by rfl):
  Snd X Y (.Call (.Attribute a "startswith" pa) [b,c] [] p) (qc fa fb fc):=.mk λρ=>
 PE.imp (wk bw dN dO VV (U ρ) (zF (G ρ) (zF (P ρ) zZ d) (by rw[k,d])) f (by rw[k];rfl) N (by rw[k,d]) (by rw[d];rfl)) λσ H Q ⟨B,I,q⟩=>step I q λt v H1 _ s1 r I1 l=>by
  cases r with
  |str x=>
   refine⟨rfl,step I1 l λu v' H2 _ s2 r2 L J=>step L J λw v3 H3 _ s3 o Z j=>?_⟩;cases r2 with
   |str y=>
    cases o with
    |int i=>exact .inr ⟨x,y,i,rfl,rfl,lq Z.sB j rfl (.bl _)⟩
    |_=>exact j.elim
   |_=>cases o<;>exact j.elim
  |_=>exact l.elim
theorem FD (L:Snd X Y a fa)(l:Snd X Y b fb)(d:attributeBase a "endswith" X.env (eval a X.env)=eval a X.env:=by rfl)(f:lu X b:=by exact li rfl)(J:(pa.endLine==p.line)=true:=by rfl):
  Snd X Y (.Call (.Attribute a "endswith" pa) [b] [] p) (lw K8 fa fb):=.mk λρ=>
 PE.imp (wk bw PySem.F.slot_str_endswith PySem.F.type_str_endswith Gf (L ρ) (zF (l ρ) zZ f) d (Gj f) J f rfl) λσ H Q ⟨B,I,q⟩=>step I q λt v P _ U k G j=>by
  cases k with
  |str x=>
   refine⟨rfl,step G j λu Z H2 _ N o r i=>?_⟩;cases o with
   |str y=>exact⟨x,y,rfl,rfl,lq r.sB i rfl (.bl _)⟩
   |_=>exact i.elim
  |_=>exact j.elim
theorem Gm {H:Hp}(x y z:Str):zJ H [V.str x,.str y,.str z] [T.str x,.str y,.str z]:=.cons (.str _) (.cons (.str _) (.cons (.str _) .nil))
theorem Gn {H:Hp}:∀d:List Str,zJ H (d.map V.str) (d.map T.str)
 |[]=>.nil
 |_::r=>.cons (.str _) (Gn r)
theorem Hy (P:Snd X Y a fa)(r:Snd X Y b fb)(f:attributeBase a "partition" X.env (eval a X.env)=eval a X.env:=by rfl)(j:lu X b:=by exact li rfl)(i:(pa.endLine==p.line)=true:=by rfl):
  Snd X Y (.Call (.Attribute a "partition" pa) [b] [] p) (lw qb fa fb):=.mk λρ=>
 PE.imp (wk bw PySem.F.slot_str_partition PySem.F.type_str_partition Gg (P ρ) (zF (r ρ) zZ j) f (Gj j) i j rfl) λσ H Q ⟨B,I,q⟩=>step I q λt v Z _ s1 o N l=>by
  cases o with
  |str x=>
   refine⟨rfl,step N l λu v' G _ U J L d=>?_⟩;cases J with
   |str y=>
    have d:Po Y rC _ G (if x.length<=iT/\(y.length==0)=false then .ok _ else .bad) Q:=d
    split at d
    ·rename_i k;exact⟨x,y,rfl,rfl,k.1,k.2,λz i=>X6 L.sB d rfl (Gm _ _ _) i⟩
    ·exact d.elim
   |_=>exact d.elim
  |_=>exact l.elim
theorem D6 (P:Snd X Y a fa)(r:Snd X Y b fb)(f:attributeBase a "rpartition" X.env (eval a X.env)=eval a X.env:=by rfl)(j:lu X b:=by exact li rfl)(i:(pa.endLine==p.line)=true:=by rfl):
  Snd X Y (.Call (.Attribute a "rpartition" pa) [b] [] p) (lw Ct fa fb):=.mk λρ=>
 PE.imp (wk bw PySem.F.slot_str_rpartition PySem.F.type_str_rpartition Gh (P ρ) (zF (r ρ) zZ j) f (Gj j) i j rfl) λσ H Q ⟨B,I,q⟩=>step I q λt v Z _ s1 o N l=>by
  cases o with
  |str x=>
   refine⟨rfl,step N l λu v' G _ U J L d=>?_⟩;cases J with
   |str y=>
    have d:Po Y rC _ G (if x.length<=iT/\(y.length==0)=false then .ok _ else .bad) Q:=d
    split at d
    ·rename_i k;exact⟨x,y,rfl,rfl,k.1,k.2,λz i=>X6 L.sB d rfl (Gm _ _ _) i⟩
    ·exact d.elim
   |_=>exact d.elim
  |_=>exact l.elim
theorem Ha (P:Snd X Y a fa)(r:Snd X Y b fb)(f:attributeBase a "split" X.env (eval a X.env)=eval a X.env:=by rfl)(j:lu X b:=by exact li rfl)(i:(pa.endLine==p.line)=true:=by rfl):
  Snd X Y (.Call (.Attribute a "split" pa) [b] [] p) (lw K9 fa fb):=.mk λρ=>
 PE.imp (wk bw PySem.F.slot_str_split PySem.F.type_str_split Gi (P ρ) (zF (r ρ) zZ j) f (Gj j) i j rfl) λσ H Q ⟨B,I,q⟩=>step I q λt v Z _ s1 o N l=>by
  cases o with
  |str x=>
   refine⟨rfl,step N l λu v' G _ U J L d=>?_⟩;cases J with
   |str y=>
    have d:Po Y rC _ G (if x.length<=1000/\(y.length==0)=false then .ok _ else .bad) Q:=d
    split at d
    ·rename_i k;exact⟨x,y,rfl,rfl,k.1,k.2,λz i=>K6 L.sB d rfl (Gn _) i⟩
    ·exact d.elim
   |_=>exact d.elim
  |_=>exact l.elim
end
end
def WD (fa:En->R T)(d a:En->R (Option Int)):En->R T:=λρ=>(fa ρ).bind λt=>(d ρ).bind λlo=>(a ρ).bind λhi=>match t with
 |.str x=>if x.length<=iT then .ok (.str (bO x lo hi))else .bad
 |_=>.bad
noncomputable def vS (i:Int):Str:=bJ (toString i)
def me:T->Option Str
 |.int i=>if i.natAbs<1000000 then some (vS i)else none
 |.str x=>if x.length<=1000000 then some x else none
 |_=>none
def nL:V->Option Str
 |.int i=>if i.natAbs<1000000 then some (vS i)else none
 |.str x=>if x.length<=1000000 then some x else none
 |_=>none
def ub (t:T):R T:=match me t with
 |some x=>.ok (.str x)
 |none=>.bad
def tz (z:Str)(t u:T):R T:=match me t,me u with
 |some x,some y=>if (x++z++y).length<=iT then .ok (.str (x++z++y))else .bad
 |_,_=>.bad
def nD (z:Str)(fa a:En->R T):En->R T:=λρ=>(fa ρ).bind λt=>match me t with
 |some x=>if (x++z).length<=iT then (a ρ).bind λu=>tz z t u else .bad
 |none=>.bad
def n6 (x:Str):Option Int:=((b6 199).map λ(k:Nat)=>(k:Int)-99).find? λn=>vS n==x
def su:T->R T
 |.str x=>match n6 x with
  |some n=>.ok (.int n)
  |none=>.bad
 |_=>.bad
theorem uc {i:Int}(h:i.natAbs<1000000):i.natAbs.log2<1920:=by
 by_cases a:i.natAbs=0
 ·rw[a];decide
 ·have:i.natAbs.log2<20:=(Nat.log2_lt a).mpr (by lia)
  lia
theorem Go:∀k<199,PySem.intText? (vS ((k:Nat)-99:Int))=some ((k:Nat)-99:Int)/\(vS ((k:Nat)-99:Int)).length<=640:=by decide+kernel
section
variable {X:Cx}{Y:Fx}{a b c:Expr}{fa fb fc:En->R T}{pos p p1 p2 p3:Pos}{kc:Nat}
theorem Gp:SlR X (λx lo hi H Q=>∃z,x=.str z/\z.length<=iT/\Q (.str (bO z lo hi)) H):=by
 intro f s J H x v vl U lo hi P Q I L o pl G h;obtain⟨z,rfl,N,q⟩:=h;obtain⟨t,rfl⟩:=L;refine⟨"str",_,F.slot_str_getitem.lookup,cH _ _ _,?_⟩;have d:∀t' k,EP X f J Q _ _:=λt' k=>⟨.str _,H,I.tok k,⟨t',rfl⟩,q⟩;have r:=aG (Txt.slice_le z lo hi) (Zj N);cases pl with
 |none=>
  cases G with
  |none=>exact wpAny_getItem_str_slice (l:=none) (u:=none) (st:=none) o rfl (post_val_or_str ⟨r,d⟩)
  |int j y=>exact wpAny_getItem_str_slice (l:=none) (u:=some (j,y)) (st:=none) o rfl (post_val_or_str ⟨r,d⟩)
 |int i B=>
  cases G with
  |none=>exact wpAny_getItem_str_slice (l:=some (i,B)) (u:=none) (st:=none) o rfl (post_val_or_str ⟨r,d⟩)
  |int j y=>exact wpAny_getItem_str_slice (l:=some (i,B)) (u:=some (j,y)) (st:=none) o rfl (post_val_or_str ⟨r,d⟩)
theorem E5 {lo hi:Option Expr}{k j:En->R (Option Int)}(N:Snd X Y a fa)(hl:vt X Y lo k)(y:vt X Y hi j):Snd X Y (.Subscript a (.Slice lo hi none p2) pos) (WD fa k j):=.mk λρ=>
 PE.imp (Uj Gp (N ρ) (hl ρ) (y ρ)) λσ H Q ⟨B,I,q⟩=>step I q λt v H1 _ s1 o Z L=>step Z L λl l' H2 _ s2 U G r=>step G r λh h' H3 _ s3 J P d=>by
  have i:=U;have f:=J;subst i f;cases o with
  |str x=>
   have d:Po Y rC _ H3 (if x.length<=iT then .ok _ else .bad) Q:=d
   split at d
   ·rename_i u;exact⟨x,rfl,u,lq P.sB d rfl (.str _)⟩
   ·exact d.elim
  |_=>exact d.elim
theorem vT:ZB X (.type "str") (λxs H Q=>∃v x,xs=[v]/\nL v=some x/\Q (.str x) H):=by
 intro f s j H xs us Q I r h;obtain⟨v,x,rfl,e,q⟩:=h;obtain⟨u,rfl,d⟩:=Zx r;unfold nL at e;split at e
 ·split at e
  ·rename_i i hi;obtain⟨t,rfl⟩:=d;cases e;exact P.str_of_int (uc hi) ⟨.str _,H,I.tok _,⟨_,rfl⟩,q⟩
  ·cases e
 ·split at e
  ·obtain⟨t,rfl⟩:=d;cases e;exact P.str_of_str ⟨.str _,H,I,⟨_,rfl⟩,q⟩
  ·cases e
 ·cases e
theorem qe {H:Hp}{v:V}{t:T}{x:Str}(r:Rep H v t)(e:me t=some x):nL v=some x:=by
 cases r with
 |int i=>exact e
 |str y=>exact e
 |_=>cases e
theorem Gq (j:Gl X "str")(f:X.mg "str"=none)(k:Snd X Y a fa)(i:lu X a:=by exact li rfl):Snd X Y (.Call (.Name "str" p) [a] [] pos) (gx ub fa):=
 WW vT (λv t B H Q r d q=>by
  unfold ub at q;split at q
  ·rename_i x e;exact⟨v,x,rfl,qe r e,lq d q rfl (.str _)⟩
  ·exact q.elim) j f (PyProof.Rows.Boot.«str») k i
theorem ud:ZB X (.type "int") (λxs H Q=>∃x n,xs=[.str x]/\n6 x=some n/\Q (.int n) H):=by
 intro d s y H xs us Q I r h;obtain⟨x,n,rfl,e,q⟩:=h;obtain⟨u,rfl,i⟩:=Zx r;obtain⟨t,rfl⟩:=i;have j:=List.mem_of_find?_eq_some e;have f:=by simpa using List.find?_some e
 obtain⟨k,v,rfl⟩:=aF.mp j;obtain⟨o,l⟩:=Go k (bg.mp v);subst f;exact PySem.W.KIN.call_text o l ⟨.int _,H,I.tok _,⟨_,rfl⟩,q⟩
theorem Gr (j:Gl X "int")(f:X.mg "int"=none)(k:Snd X Y a fa)(i:lu X a:=by exact li rfl):Snd X Y (.Call (.Name "int" p) [a] [] pos) (gx su fa):=
 WW ud (λv t B H Q r d q=>by
  cases r with
  |str x=>
   have q:Po Y rC _ H (match n6 x with|some n=>.ok _|none=>.bad) Q:=q
   split at q
   ·rename_i n e;exact⟨x,n,rfl,e,lq d q rfl (.int _)⟩
   ·exact q.elim
  |_=>exact q.elim) j f (PyProof.Rows.Boot.«int») k i
theorem VW {prog:Program}{w:World}{A:Around}{E:Value->Shared->Prop}{s:Shared}{v:V}{u:Value}{x:Str}{Q:Value->Shared->Prop}(r:Zh v u)(e:nL v=some x)(h:∀t k,Q (.str x t) {s with toks:=k}):wpAny (model prog w) A (formatField u cY) Q E s:=by
 unfold nL at e;split at e
 ·split at e
  ·rename_i i hi;obtain⟨t,rfl⟩:=r;cases e;exact wpAny_formatField_int (uc hi) (h _ _)
  ·cases e
 ·split at e
  ·obtain⟨t,rfl⟩:=r;cases e;exact wpAny_formatField_str (h _ _) (h _ _) (by rw[bz];lia)
  ·cases e
 ·cases e
theorem E8 {z:Str}{B tb:TE}(ha:PE X a B)(P:PE X b tb):PE X (.JoinedStr [.FormattedValue a (-1) none p1,.Constant (.str z) kc p2,.FormattedValue b (-1) none p3] pos)
  (λd H Q=>B d H λv i=>∃x,nL v=some x/\(x++z).length<=sizeLine/\tb d i λl j=>∃y,nL l=some y/\(x++z++y).length<=sizeLine/\Q (.str (x++z++y)) j):=by
 intro q s d H Q I h;refine wpAny_JoinedStr ?_;refine wpAny_FormattedValue_plain (iU (ha _ s d H _ I h) λu s1 ⟨v,i,o,G,x,ex,r,q1⟩=>VW G ex λt k=>⟨x,t,rfl,?_,?_⟩)
 ·rw[il];exact aG (by rw[Str.length_append];lia) r
 rw[il];have o:=o.tok k;refine iU (Y0 _ _ d i (λl H'=>l=V.str z/\H'=i) o ⟨rfl,rfl⟩) λu2 L ⟨v2,j,Z,r2,J,e2⟩=>?_;subst J e2;obtain⟨U,rfl⟩:=r2;refine⟨z,U,rfl,r,?_⟩;refine wpAny_FormattedValue_plain (iU (P _ L d j _ Z q1) λu3 s3 ⟨v3,H3,I3,r3,y,N,f,q3⟩=>VW r3 N λt k=>⟨y,t,rfl,f,f,?_⟩);exact⟨.str _,H3,(I3.tok k).tok _,⟨_,rfl⟩,q3⟩
theorem Bo {z:Str}(P:Snd X Y a fa)(o:Snd X Y b fb):Snd X Y (.JoinedStr [.FormattedValue a (-1) none p1,.Constant (.str z) kc p2,.FormattedValue b (-1) none p3] pos) (nD z fa fb):=.mk λρ=>
 PE.imp (E8 (P ρ) (o ρ)) λσ H Q ⟨B,I,q⟩=>step I q λt v l _ Z k L f=>by
  cases e:me t with
  |none=>rw[e]at f;exact f.elim
  |some x=>
   rw[e]at f;have f:Po Y rC _ l (if (x++z).length<=iT then (fb ρ).bind λu=>tz z t u else .bad) Q:=f
   split at f
   ·rename_i N;refine⟨x,qe k e,Zj N,step L f λu v' r _ U G J d=>?_⟩;unfold tz at d;rw[e]at d;cases j:me u with
    |none=>rw[j]at d;exact d.elim
    |some y=>
     rw[j]at d;have d:Po Y rC _ r (if (x++z++y).length<=iT then .ok _ else .bad) Q:=d
     split at d
     ·rename_i i;exact⟨y,qe G j,Zj i,lq J.sB d rfl (.str _)⟩
     ·exact d.elim
   ·exact f.elim
end
def Ba (x:Str):It:=
 ⟨λi _=>i<x.cps.size,λi H v a=>∃p c,H p=none/\v=.ref p/\x.cps[i]?=some c/\a=iV H p (.tup [.int i,.str ⟨#[c]⟩]),λi _=>x.cps.size<=i⟩
theorem XQ (x:Str):strIterType x="str_ascii_iterator"\/strIterType x="str_iterator":=by
 unfold strIterType;split
 ·exact .inl rfl
 ·exact .inr rfl
theorem ue {prog:Program}{w:World}{A:Around}(f:A.handled=none)(it:Addr)(x:Str)(t:Tok){d:String}(a:d="str_ascii_iterator"\/d="str_iterator"):Draws prog w A it [it] x.cps.size (SignAt x) (λi h=>h.IsStrIter it d x t i):=by
 rcases a with rfl|rfl
 ·exact Draws.strAscii f it x t
 ·exact Draws.strWide f it x t
theorem yF {P:Program}{w:World}{K:ag}{p:List Expr}{kk:Nat}{pt:Pos}{x:Str}{tt:Tok}{ty:String}(U:ty="str_ascii_iterator"\/ty="str_iterator")(e it:Addr)(G:e≠it):
  yh P w K (.Tuple p kk pt) (Ba x) [e,it] e (λi h=>i<=x.cps.size/\(∃old,IsEnum h e it i old)/\h.IsStrIter it ty x tt i) where
 mem:=by simp
 obj:=λi h st b a=>by
  obtain⟨_,⟨old,j⟩,o,e1,c,d⟩:=st;rcases am.mp a with rfl|a
  ·exact⟨_,j,λv z=>nomatch z⟩
  ·have z:b=it:=by simpa using a
   subst z;exact⟨o,e1,λv z=>by rw[d]at z;cases z⟩
 keep:=λi h h' st k=>by
  obtain⟨hn,⟨old,j⟩,o,e1,r⟩:=st;exact⟨hn,⟨old,k e (by simp) _ j⟩,o,k it (by simp) o e1,r⟩
 item:=by
  intro X Q hw hK hc i B s σ H E I hf st Z;subst Q hw hK;obtain⟨L,⟨old,j⟩,q⟩:=st;have D:=ue (prog:=X.prog) (w:=X.w) (A:=X.A.in1) (I.ok.hd hc) it x tt U;have hef:e∉[it]:=λz=>G (ax.mp z);have WE:=hU D e G hef (.head _);refine WE.item i s _ _ Z ⟨⟨old,j⟩,q⟩ λT vals h' tk Q hT N hM hk=>?_;obtain⟨t,y,⟨c,u,hc',rfl⟩,rfl⟩:=Q;refine⟨.ref T,rfl,?_⟩;refine WE.go p kk pt i T _ _ _ hM λh2 f J=>?_;have hTn:H T=none:=I.hok.fresh hT;have l:∀b∈[e,it],b≠T:=λb a z=>by
   obtain⟨_,_,h3,h4⟩:=hM;rcases am.mp a with rfl|a
   ·exact h3 z.symm
   ·have:b=it:=by simpa using a
    subst this;exact h4 z.symm
  have WF:IsTup h2 T #[.int i t,.str ⟨#[c]⟩ u]:=by
   obtain⟨o,eo,r⟩:=N;exact⟨o,J T o (λa=>l T a rfl) eo,r⟩
  refine⟨.ref T,iV H T (.tup [.int i,.str ⟨#[c]⟩]),Inv.laidT (s:=s) (h':=h2) (ch:=[e,it]) (tk:=tk) I hf (λb o a e=>J b o a (hk b o a e)) (λb o a _=>?_) hT ⟨by rw[bz];show 2<=16777216;decide,[.int i t,.str ⟨#[c]⟩ u],.cons ⟨t,rfl⟩ (.cons ⟨u,rfl⟩ .nil),WF,.inl ⟨_,_,rfl⟩⟩,rfl,⟨T,c,hTn,rfl,hc',rfl⟩,⟨Z,f.1,f.2⟩,λb a=>?_⟩
  ·obtain⟨⟨old2,he2⟩,⟨o2,eo2,_⟩⟩:=f;rcases am.mp a with rfl|a
   ·exact⟨_,he2⟩
   ·have:b=it:=by simpa using a
    subst this;exact⟨o2,eo2⟩
  ·rw[zA (l b a)];exact(hf b a).1
 done:=by
  intro X Q hw hK hc i B s σ H E I hf st Z;subst Q hw hK;obtain⟨L,⟨old,j⟩,q⟩:=st;have D:=ue (prog:=X.prog) (w:=X.w) (A:=X.A.in1) (I.ok.hd hc) it x tt U;have hn:x.cps.size=i:=Nat.le_antisymm Z L;refine wpAny_pyNext_enum_endD D j (by rw[hn];exact q) λh' hk=>⟨rfl,?_⟩
  obtain⟨f0,f1,f2,f3,f4,f5⟩:=hf it (by simp)
  exact I.turned (t':=s.toks) (λb o a e=>hk b o a e) f0 f1 f3 f4 f5
 self:=λ_ _ _ _ _ st h=>let ⟨_,⟨_,j⟩,_⟩:=st;ce j h
theorem vU {k j:Hp}{x:Str}:rI k j (Ba x) (ZY (j7 x)):=λu r q o=>by
 have f:(ZY (j7 x)).length=x.cps.size:=by rw[ji];unfold j7;simp
 refine⟨λi hi=>by rw[f]at hi;exact hi,λi t v H3 e y=>?_,λi hi=>by rw[f]at hi;exact hi⟩
 obtain⟨p,c,hp,rfl,l,rfl⟩:=y;obtain⟨t',d,rfl⟩:=JM e;have a:x.cps.toList[i]?=some c:=by simpa using l
 unfold j7 at d;rw[aA,a]at d;cases d;exact⟨zy.new hp _,.tup (j6 hp _) (.cons (.int _) (.cons (.str _) .nil))⟩
def qf (fa:En->R T):En->R (List T):=λρ=>(fa ρ).bind λt=>match t with
 |.str x=>.ok (ZY (j7 x))
 |_=>.bad
section
variable {X:Cx}{Y:Fx}{a:Expr}{fa:En->R T}{pos p pt:Pos}{elts:List Expr}{kk:Nat}
theorem vV {v:TA}(L:Gl X "enumerate")(Q:X.mg "enumerate"=none)(P:PA X [a] v)(B:lu X a:=by exact li rfl):
  PI X (.Tuple elts kk pt) (.Call (.Name "enumerate" p) [a] [] pos) (λl H R=>v l H λvs j=>∃x,vs=[.str x]/\R (Ba x) j):=by
 intro r s l H R I h;refine Call_ (j9 I L Q PyProof.Rows.Boot.«enumerate» (aV (iU (P pos _ s l H _ I h) λus d ⟨vs,j,i,G,N⟩=>?_) B rfl));obtain⟨x,e,q⟩:=N;subst e;obtain⟨u,rfl,J⟩:=Zx G;obtain⟨tt,rfl⟩:=J;refine call_enumerate_str λh' y o hsz U=>ce y ?_;have f:∀b∈[d.1.1.size+1,d.1.1.size],Wz X _ j b:=λb k=>by
  rcases am.mp k with rfl|k
  ·exact i.fpOk (cU _) (i.hok.fresh (cU _))
  ·have z:=by simpa using k
   subst z;exact i.fpOk (au _) (i.hok.fresh (au _))
 exact⟨d.1.1.size+1,[d.1.1.size+1,d.1.1.size],_,_,j,rfl,i.kept U,yF (XQ x) _ _ (eQ _),⟨bj _,⟨_,y⟩,o⟩,f,q⟩
theorem XR (l:Gl X "enumerate")(k:X.mg "enumerate"=none)(r:Snd X Y a fa)(d:lu X a:=by exact li rfl):uI X Y (.Tuple elts kk pt) (.Call (.Name "enumerate" p) [a] [] pos) (qf fa):=.mk λρ=>
 PI.imp (vV l k (zF (r ρ) zZ d) d) λy H R ⟨B,I,q⟩=>step I q λt v j _ u i o f=>by
  cases i with
  |str x=>exact⟨x,rfl,ZO o (show Po Y rI _ j _ R from f) vU⟩
  |_=>exact f.elim
end
def Gs (a:En->RS):En->RS:=λρ=>match a ρ with
 |.ex _=>.bad
 |r=>r
theorem XS {X:Cx}{tb:TS}{a:List Stmt}{k:ExceptHandler}{l:List ExceptHandler}{pos:Pos}
  (q:∀(pn:List (Addr×Obj)) (xe:Value->Shared->Prop),PSs (X.try' pn xe) a tb):PS X (.Try a (k::l) [] [] pos) tb:=by
 intro i s r H D I p;have hr:=q _ (λe j=>wpAny (model X.prog X.w) X.A (noteFrame e X.env) (λ_ o=>wpAny (model X.prog X.w) X.A (setFlight e none) (λ_ s3=>wpAny (model X.prog X.w) X.A (handleBy e X.env (k::l)) (SP X i D) X.xe s3) X.xe o) X.xe j) [] s r H D (I.try' _) p;refine wpAny_Try_except (di hr (λf j d=>?_) λ_ _ z=>z);have d:=d.untry;cases f with
 |next=>exact wpAny_execs_nil d
 |brk=>exact d
 |cont=>exact d
 |ret u=>exact d
theorem Gu {X:Cx}{Y:Fx}{d:En->RS}{a:List Stmt}{i:ExceptHandler}{j:List ExceptHandler}{pos:Pos}
  (f:∀(pn:List (Addr×Obj)) (xe:Value->Shared->Prop),wm (X.try' pn xe) Y a d):jE X Y (.Try a (i::j) [] [] pos) (Gs d):=.mk λρ=>
 PS.imp (XS λpn xe=>f pn xe ρ) λD k H ⟨B,I,q⟩=>⟨B,I,by
  unfold Gs at q;cases e:d ρ with
  |ex c=>rw[e]at q;exact q.elim
  |_=>rw[e]at q;exact q⟩
end PV
namespace PV
open PySem PySem.W PyProof.Rows
section
variable {α β:Type}
noncomputable def Gd (lt:Nat->Nat->Bool)(n:Nat):KasT α->(α->Prop)->Prop
 |.ret a,P=>P a
 |.ask i j k,P=>(i<n/\j<n/\i≠j)/\Gd lt n (k (lt i j)) P
theorem Gd.mono {lt:Nat->Nat->Bool}{n:Nat}{P d:α->Prop}(h:∀a,P a->d a):∀(t:KasT α),Gd lt n t P->Gd lt n t d
 |.ret a,g=>h a g
 |.ask i j k,⟨f,g⟩=>⟨f,Gd.mono h _ g⟩
theorem Gd.bind {lt:Nat->Nat->Bool}{n:Nat}{P:β->Prop}{f:α->KasT β}:∀(t:KasT α),Gd lt n t (λa=>Gd lt n (f a) P)->Gd lt n (t.bind f) P
 |.ret a,g=>g
 |.ask i j k,⟨d,g⟩=>⟨d,Gd.bind _ g⟩
end
section
variable {O:KeyOrd}{n:Nat}{key:Nat->O.α}
noncomputable abbrev kp (key:Nat->O.α)(p:Array Nat)(i:Nat):O.α:=key (p.getD i 0)
structure Pm (n:Nat) (p:Array Nat):Prop where
 sz:p.size=n
 pm:p.toList.Perm (b6 n)
theorem Pm.lt {p:Array Nat}(h:Pm n p){i:Nat}(hi:i<n):p.getD i 0<n:=by
 have a:i<p.size:=by rw[h.sz];exact hi
 have e:p.getD i 0=p[i]:=by simp[iN,a]
 rw[e];exact bg.mp (h.pm.mem_iff.mp (Array.getElem_mem_toList a))
theorem Pm.inj {p:Array Nat}(h:Pm n p){i j:Nat}(hi:i<n)(k:j<n)(e:p.getD i 0=p.getD j 0):i=j:=by
 have d:i<p.size:=by rw[h.sz];exact hi
 have a:j<p.size:=by rw[h.sz];exact k
 have f:p.getD i 0=p[i]:=by simp[iN,d]
 have l:p.getD j 0=p[j]:=by simp[iN,a]
 rw[f,l]at e;have nd:=h.pm.nodup_iff.mpr List.nodup_range;have:=(i9 (h₀:=by simpa using d) (h₁:=by simpa using a) nd).mp (by simpa using e)
 exact this
def So (key:Nat->O.α)(p:Array Nat)(m:Nat):Prop:=∀i j,i<j->j<m->O.klt (kp key p i) (kp key p j)
theorem W6 {p q:Array Nat}{i j:Nat}(h:p[i]?=q[j]?):p.getD i 0=q.getD j 0:=by
 have e:∀(a:Array Nat) (k:Nat),a.getD k 0=(a[k]?).getD 0:=λa k=>by simp
 rw[e,e,h]
variable (hk:∀i j,i<n->j<n->key i=key j->i=j)
include hk
theorem XT {p:Array Nat}(h:Pm n p){i j:Nat}(hi:i<n)(d:j<n)(a:i≠j)(f:O.blt (kp key p i) (kp key p j)=false):O.klt (kp key p j) (kp key p i):=by
 cases q:O.blt _ _ with
 |true=>exact q
 |false=>exact absurd (h.inj hi d (hk _ _ (h.lt hi) (h.lt d) (O.total _ _ f q))) a
omit hk in
theorem So.snoc {p:Array Nat}{m:Nat}(h:So key p m)(o:1<=m)(k:O.klt (kp key p (m-1)) (kp key p m)):So key p (m+1):=λi j f l=>by
 by_cases d:j=m
 ·subst d
  by_cases a:i=j-1
  ·rw[a];exact k
  ·exact ci (h i _ (by lia) (by lia)) (dy k)
 ·exact h i j f (by lia)
theorem qg {p:Array Nat}(hp:Pm n p):∀(f m:Nat),1<=m->m+f=n->So key p m->Gd (λi j=>O.blt (key i) (key j)) n (kas_asc p f m) λr=>m<=r/\r<=n/\So key p r/\(r<n->O.klt (kp key p r) (kp key p (r-1)))
 |0,m,_,d,h=>⟨au _,by lia,h,λz=>by lia⟩
 |f+1,m,k,d,h=>by
  refine⟨⟨hp.lt (by lia),hp.lt (by lia),λz=>absurd (hp.inj (by lia) (by lia) z) (by lia)⟩,?_⟩
  show Gd _ n (if O.blt _ _=true then .ret m else kas_asc p f _) _
  cases q:O.blt _ _ with
  |true=>exact⟨au _,by lia,h,λ_=>q⟩
  |false=>
   exact Gd.mono (λr ⟨a,b,c⟩=>⟨by lia,b,c⟩) _ (qg hp f _ (by lia) (by lia) (h.snoc k (XT hk hp (by lia) (by lia) (by lia) q)))
def De (key:Nat->O.α)(p:Array Nat)(m:Nat):Prop:=∀i j,i<j->j<m->O.klt (kp key p j) (kp key p i)
theorem qh {p:Array Nat}(hp:Pm n p):∀(f m:Nat),2<=m->m+f=n->De key p m->Gd (λi j=>O.blt (key i) (key j)) n (kas_desc f p m 0) λr=>r.1=p/\r.2.2=0/\m<=r.2.1/\r.2.1<=n/\De key p r.2.1
 |0,m,_,u,h=>⟨rfl,rfl,au _,by show m<=n;lia,h⟩
 |f+1,m,y,u,h=>by
  refine⟨⟨hp.lt (by lia),hp.lt (by lia),λz=>absurd (hp.inj (by lia) (by lia) z) (by lia)⟩,?_⟩
  show Gd _ n (if O.blt _ _=true then (if 0>0 then kas_desc f _ _ 0 else kas_desc f p _ 0)else .ask _ _ λd=>if d=true then .ret _ else kas_desc f p _ _) _
  cases q:O.blt _ _ with
  |true=>
   refine Gd.mono (λr ⟨a,b,c,d⟩=>⟨a,b,by lia,d⟩) _ (qh hp f _ (by lia) (by lia) λi j o B=>?_)
   by_cases l:j=m
   ·subst l
    by_cases k:i=j-1
    ·rw[k];exact q
    ·exact ci (show O.klt _ _ from q) (dy (h i _ (by lia) (by lia)))
   ·exact h i j o (by lia)
  |false=>
   refine⟨⟨hp.lt (by lia),hp.lt (by lia),λz=>absurd (hp.inj (by lia) (by lia) z) (by lia)⟩,?_⟩
   have v:O.blt _ _=true:=XT hk hp (by lia) (by lia) (by lia) q
   show Gd _ n (if O.blt _ _=true then .ret _ else _) _
   rw[if_pos v];exact⟨rfl,rfl,au _,by show m<=n;lia,h⟩
omit hk in
theorem VX {p:Array Nat}(hp:Pm n p)(i j:Nat):Pm n (kas_rev p i j):=⟨(mirror_size _ _ _ _).trans hp.sz,(dZ.mp (mirror_perm p i j _)).trans hp.pm⟩
omit hk in
theorem qi {p:Array Nat}(hp:Pm n p){m k:Nat}(d:m<=n)(a:k<m):(kas_rev p 0 m).getD k 0=p.getD (m-1-k) 0:=by
 refine W6 ?_;unfold kas_rev;rw[getElem?_mirror_all (by rw[hp.sz];exact d),if_pos ⟨bj _,a⟩]
 congr 1
 lia
theorem jv {p:Array Nat}(hp:Pm n p)(N:2<=n):Gd (λi j=>O.blt (key i) (key j)) n (kas_count n p) λr=>1<=r.1/\r.1<=n/\Pm n r.2/\So key r.2 r.1:=by
 refine Gd.bind _ (Gd.mono (λm ⟨a,b,c,d⟩=>?_) _ (qg hk hp _ 1 (au _) (by lia) λi j k l=>by lia))
 by_cases f:m=n
 ·rw[if_pos (by simpa using f)]
  exact⟨a,b,hp,c⟩
 ·rw[if_neg (by simpa using f)]
  by_cases o:m>1
  ·rw[if_pos o];refine⟨⟨hp.lt (by lia),hp.lt (by lia),λz=>absurd (hp.inj (by lia) (by lia) z) (by lia)⟩,?_⟩
   have q:O.blt _ (kp key p (m-1))=true:=c 0 _ (by lia) (by lia)
   show Gd _ n (if O.blt _ _=true then .ret _ else _) _
   rw[if_pos q];exact⟨a,b,hp,c⟩
  ·have e:m=1:=by lia
   subst e;have B:=d (by lia)
   refine Gd.bind _ (Gd.mono (λr ⟨v,G,P,u,I⟩=>?_) _ (qh hk hp _ _ (by lia) (by lia) λi j k l=>by
    have:i=0/\j=1:=by lia
    rw[this.1,this.2];exact B))
   rw[G,v];refine Gd.bind _ (Gd.mono (λQ ⟨L,y,J,_⟩=>⟨by lia,y,VX hp 0 _,J⟩) _ (qg hk (VX hp 0 _) _ _ (by lia) (by lia) λi j k l=>?_))
   unfold kp;rw[qi hp u (by lia),qi hp u l]
   exact I _ _ (by lia) (by lia)
theorem W7 {p:Array Nat}(hp:Pm n p){k:Nat}(a:k<n)(y:So key p k):∀(f l r:Nat),r<=k->l<=r->r-l<=f->(∀i,i<l->O.klt (kp key p i) (kp key p k))->(∀i,r<=i->i<k->O.klt (kp key p k) (kp key p i))->
  Gd (λi j=>O.blt (key i) (key j)) n (kas_place p k f l r) λm=>m<=k/\(∀i,i<m->O.klt (kp key p i) (kp key p k))/\∀i,m<=i->i<k->O.klt (kp key p k) (kp key p i)
 |0,l,r,B,I,J,v,u=>⟨by lia,v,λi hi d=>u i (by lia) d⟩
 |f+1,l,r,B,I,J,v,u=>by
  unfold kas_place
  by_cases o:l≥r
  ·rw[if_pos o];exact⟨by lia,v,λi hi d=>u i (by lia) d⟩
  ·rw[if_neg o];refine⟨⟨hp.lt a,hp.lt (by lia),λz=>absurd (hp.inj a (by lia) z) (by lia)⟩,?_⟩
   show Gd _ n (if O.blt _ _=true then kas_place p k f l _ else kas_place p k f _ r) _
   cases q:O.blt _ _ with
   |true=>
    refine W7 hp a y f l _ (by lia) (by lia) (by lia) v λi hi d=>?_
    by_cases e:i=(l+r)/2
    ·rw[e];exact q
    ·exact ci (q) (dy (y _ _ (by lia) d))
   |false=>
    refine W7 hp a y f _ r B (by lia) (by lia) (λi hi=>?_) u
    have G:=XT hk hp a (by lia) (by lia) q
    by_cases e:i=(l+r)/2
    ·rw[e];exact G
    ·exact ci (y _ _ (by lia) (by lia)) (dy G)
omit hk in
theorem qj {p:Array Nat}(hp:Pm n p){k l i:Nat}(a:k<n)(d:l<=k):(bubble p k (k-l)).getD i 0=if i=l then p.getD k 0 else if l<i/\i<=k then p.getD (i-1) 0 else p.getD i 0:=by
 have h:=getElem?_bubble (by rw[hp.sz];exact a) (k-l) (by lia) i
 rw[show k-(k-l)=l by lia]at h
 repeat' split at h
 all_goals first|(rw[if_pos (by assumption)];exact W6 h)|(rw[if_neg (by assumption),if_pos (by assumption)];exact W6 h)|(rw[if_neg (by assumption),if_neg (by assumption)];exact W6 h)
theorem VY:∀(f:Nat) (p:Array Nat) (k:Nat),Pm n p->k+f=n->So key p k->Gd (λi j=>O.blt (key i) (key j)) n (kas_bin f p k) λq=>Pm n q/\So key q n
 |0,p,k,hp,d,h=>⟨hp,by rw[←d];exact h⟩
 |f+1,p,k,hp,d,h=>by
  unfold kas_bin;refine Gd.bind _ (Gd.mono (λl ⟨a,b,c⟩=>?_) _ (W7 hk hp (by lia) h k 0 k (au _) (bj _) (by lia) (λi hi=>by lia) λi hi u=>by lia))
  refine VY f _ _ ⟨(bubble_size _ _ _).trans hp.sz,(dZ.mp (bubble_perm p k _)).trans hp.pm⟩ (by lia) λi j r v=>?_
  unfold kp;rw[qj hp (by lia) a,qj hp (by lia) a]
  by_cases hi:i=l
  ·rw[if_pos hi,if_neg (by lia),if_pos ⟨by lia,by lia⟩]
   exact c _ (by lia) (by lia)
  ·rw[if_neg hi]
   by_cases o:j=l
   ·rw[if_pos o,if_neg (by lia)]
    exact b i (by lia)
   ·rw[if_neg o]
    by_cases x:l<i/\i<=k
    ·rw[if_pos x,if_pos ⟨by lia,by lia⟩]
     exact h _ _ (by lia) (by lia)
    ·rw[if_neg x]
     by_cases y:l<j/\j<=k
     ·rw[if_pos y];exact h _ _ (by lia) (by lia)
     ·rw[if_neg y];exact h _ _ r (by lia)
theorem qk (f:2<=n):Gd (λi j=>O.blt (key i) (key j)) n (kas_sort n) λq=>Pm n q/\So key q n:=by
 refine Gd.bind _ (Gd.mono (λr ⟨a,b,c,d⟩=>?_) _ (jv hk ⟨by simp,by simp⟩ f))
 by_cases h:r.1<n
 ·rw[if_pos h,show max r.1 1=r.1 by lia]
  exact VY hk _ _ _ c (by lia) d
 ·rw[if_neg h];exact⟨c,by rw[show n=r.1 by lia];exact d⟩
end
end PV
namespace PV
open PySem PySem.Spec PyProof.Rows L2
section
open PySem.W PySem.Calls
variable {O:KeyOrd}{n:Nat}{key:Nat->O.α}
end
section
variable {prog:Program}{w:World}{A:Around}{E:Value->Shared->Prop}{s:Shared}
open PySem.W PySem.Calls
end
end PV
namespace PV
open PySem PySem.Spec PyProof.Rows L2
section
variable {prog:Program}{w:World}{A:Around}{E:Value->Shared->Prop}{s:Shared}
open HT in
open HT in
end
end PV
namespace PV
open PySem PySem.Spec PyProof.Rows L2
end PV
namespace L2
open PySem PySem.Spec PyProof.Rows PySem.W
end L2
namespace L2
open PySem PySem.Spec PyProof.Rows PySem.W
end L2
namespace L2
open PySem PySem.Spec PyProof.Rows PySem.W
end L2
namespace PV
open PySem PySem.Spec PyProof.Rows L2 PySem.W
end PV
namespace L2
open PySem PySem.Spec PyProof.Rows PySem.W
end L2
namespace PV
open PySem PySem.Spec PyProof.Rows L2
end PV
namespace PV
open PySem PySem.Spec PyProof.Rows L2 PySem.W
end PV
namespace PV
open PySem PySem.Spec PyProof.Rows L2
end PV
namespace PV
open PySem PySem.Spec PyProof.Rows L2 PySem.W
def AQ (B a H:Hp)(O:Addr->Option Nat)(us:List (Str×V))(fs:List (Str×Fd)):Prop:=(us.length=fs.length/\mY us)/\∀(m:Nat) (f:Str) (d:Fd),fs[m]?=some (f,d)->∃v,us[m]?=some (f,v)/\
 match d with
 |.tv t=>Rep B v t
 |.tl ts=>∃l xs,v=.ref l/\B l=none/\a l=none/\H l=some (.lst xs)/\zJ B xs ts/\O l=some (m+1)
def vW (cl:Nat->Value)(k:Nat)(B a H:Hp)(x:Addr)(fs:List (Str×Fd)):Prop:=∃C d us O,cl k=.ref C/\H x=some (.ins C d us)/\B x=none/\a x=none/\O x=some 0/\AQ B a H O us fs
theorem SI.obAt {Y:Fx}{B:Hp}{ρ:En}{σ:Sg}{H:Hp}(I:SI Y B ρ σ H){j k:Nat}{x:Addr}{fs:List (Str×Fd)}{os:List Ob}(Q:Y.as=[x])(h:ρ[j]?=some (.st ((k,fs)::os))):vW Y.cl k B Y.H0 H x fs:=by
 obtain⟨as,O,s⟩:=I.st;obtain⟨a,C,U,vs,i,Z,e3,y,J,G,e7,e8⟩:=s.st j _ h 0 k fs rfl;have L:a=x:=by
  obtain⟨t,q⟩:=s.pre;rw[Q]at q;rw[←q]at i;exact(aJ i).symm
 subst L;refine⟨C,U,vs,λb=>(O b).bind λp=>if p.1=0 then some p.2 else none,Z,e3,y,J,by dsimp only;rw[G];rfl,e7,λm f d z=>?_⟩
 obtain⟨v,u,o⟩:=e8 m f d z;refine⟨v,u,?_⟩;cases d with
 |tv t=>exact o
 |tl ts=>
  obtain⟨l,xs,p1,X,P,p4,N,_,r⟩:=o;exact⟨l,xs,p1,X,P,p4,N,by dsimp only;rw[r];rfl⟩
def mr (k j:Nat)(fs:List (Str×Fd))(ts:List T):En:=.ob k 0::(ts.map Sl.vl++(av (j-1-ts.length) .un++[.st [(k,fs)]]))
theorem ZS {k j:Nat}{fs:List (Str×Fd)}{ts:List T}{i:Nat}{s:Sl}(h:(mr k j fs ts)[i]?=some s):(i=0/\s=.ob k 0)\/(∃d t,i=d+1/\ts[d]?=some t/\s=.vl t)\/s=.un\/(s=.st [(k,fs)]/\i=1+ts.length+(j-1-ts.length)):=by
 unfold mr at h;cases i with
 |zero=>exact .inl ⟨rfl,(aJ h).symm⟩
 |succ i=>
  rw[bP]at h
  by_cases hi:i<ts.length
  ·rw[aD (by simpa using hi),aA,aw hi]at h
   exact .inr (.inl ⟨i,_,rfl,aw hi,(aJ h).symm⟩)
  ·rw[az (by simpa using hi)]at h
   by_cases a:i-(ts.map Sl.vl).length<j-1-ts.length
   ·rw[aD (by simpa using a),aR,if_pos a]at h
    exact .inr (.inr (.inl (aJ h).symm))
   ·rw[az (by simpa using a)]at h
    generalize f:i-(ts.map _).length-(av _ _).length=q at h;cases q with
    |zero=>
     refine .inr (.inr (.inr ⟨(aJ h).symm,?_⟩));rw[ah,aW]at f;rw[ah]at a;lia
    |succ q=>cases h
theorem zJ.at {B:Hp}:∀{vs:List V} {ts:List T},zJ B vs ts->∀{i:Nat} {t:T},ts[i]?=some t->∃v,vs[i]?=some v/\Rep B v t
 |_,_,.nil,i,t,h=>by simp at h
 |_,_,@zJ.cons _ v _ _ _ r a,0,t,h=>by cases h;exact⟨v,rfl,r⟩
 |_,_,.cons r a,i+1,t,h=>zJ.at a h
theorem SI.startM {cl:Nat->Value}{k j:Nat}{B y H:Hp}{x:Addr}{fs:List (Str×Fd)}{E:XK}{vs:List V}{ts:List T}{N:List Str}(hN:N.length=j+1)(hj:ts.length+1<=j)(sB:zy B y)(sH:zy y H)(ob:vW cl k B y H x fs)(r:zJ B vs ts):
  SI ⟨B,y,E,cl,[x]⟩ B (mr k j fs ts) (L2.start N (.ref x::vs)) H where
 s0:=sB
 sH:=sH
 sB:=sB.trans sH
 old:=λ_ _ _=>rfl
 len:=by
  unfold mr L2.start;have:=r.length;simp only[ac,ae,ah,aW,ao];lia
 vl:=λi t h=>by
  rcases ZS h with ⟨_,e⟩|⟨p,t',u,q,o⟩|e|⟨e,_⟩
  ·cases e
  ·cases o;subst u;obtain⟨v,Z,rv⟩:=r.at q;refine⟨v,?_,rv⟩;unfold L2.start;have hi:p<vs.length:=(aH.mp Z).1;rw[aD (by simpa using hi),aK,bP,aA,Z];rfl
  ·cases e
  ·cases e
 ow:=λi t h=>by
  rcases ZS h with ⟨_,e⟩|⟨p,t',u,q,o⟩|e|⟨e,_⟩
  ·cases e
  ·cases o
  ·cases e
  ·cases e
 xc:=λi t h=>by
  rcases ZS h with ⟨_,e⟩|⟨p,t',u,q,o⟩|e|⟨e,_⟩
  ·cases e
  ·cases o
  ·cases e
  ·cases e
 st:=by
  obtain⟨C,dx,us,O,P,c2,J,X,c5,U,c7⟩:=ob;refine⟨[x],λb=>(O b).map λm=>(0,m),cu _,λi os h=>?_,λi p os os' h h'=>?_,λi Q n h=>?_,λi Q fs0 h=>?_,λi os h n Q fs' e=>?_⟩
  ·rcases ZS h with ⟨_,e⟩|⟨_,_,_,_,e⟩|e|⟨e,_⟩<;>cases e
   rfl
  ·rcases ZS h with ⟨_,e⟩|⟨_,_,_,_,e⟩|e|⟨_,e⟩
   ·cases e
   ·cases e
   ·cases e
   ·rcases ZS h' with ⟨_,a⟩|⟨_,_,_,_,a⟩|a|⟨_,a⟩
    ·cases a
    ·cases a
    ·cases a
    ·rw[e,a]
  ·rcases ZS h with ⟨G,e⟩|⟨p,t',u,q,o⟩|e|⟨e,_⟩
   ·cases e;subst G;exact⟨x,C,dx,us,rfl,rfl,P,c2,J,X,U.2⟩
   ·cases o
   ·cases e
   ·cases e
  ·rcases ZS h with ⟨G,e⟩|⟨p,t',u,q,o⟩|e|⟨e,_⟩
   ·cases e
   ·cases o
   ·cases e
   ·cases e
  ·rcases ZS h with ⟨G,a⟩|⟨p,t',u,q,o⟩|a|⟨a,_⟩
   ·cases a
   ·cases o
   ·cases a
   ·cases a;cases n with
    |succ n=>cases e
    |zero=>
     cases e;refine⟨x,C,dx,us,rfl,P,c2,J,X,by rw[c5];rfl,U,λm f d z=>?_⟩
     obtain⟨v,z1,L⟩:=c7 m f d z;refine⟨v,z1,?_⟩;cases d with
     |tv t=>exact L
     |tl us'=>
      obtain⟨l,xs,p1,p2,p3,p4,p5,p6⟩:=L;refine⟨l,xs,p1,p2,p3,p4,p5,λj' us2 I=>?_,by show iO _ (O l)=_;rw[p6];rfl⟩
      rcases ZS I with ⟨_,e⟩|⟨_,_,_,_,e⟩|e|⟨e,_⟩<;>cases e
def BU (cl:Nat->Value)(k:Nat)(B i:Hp)(x:Addr)(r:R (T×List (Str×Fd)))(Q:VK)(E:XK):Prop:=match r with
 |.ok (t,j)=>∀v a f,zy i a->zy B f->zy f a->(∀b o,i b=some o->f b=B b)->vW cl k f i a x j->Rep f v t->Q v a
 |.ex c=>∀d a,zy i a->zy B a->E (cl c) d a
 |.bad=>False
def nc (cl:Nat->Value)(k n:Nat)(g:List (Str×Fd)->List T->R (T×List (Str×Fd))):Sp:=λvs H Q E=>∃(x:Addr) (a:List V) (ts:List T) (B d:Hp) (fs:List (Str×Fd)),vs=.ref x::a/\ts.length=n/\zy B d/\zy d H/\vW cl k B d H x fs/\zJ B a ts/\BU cl k B d x (g fs ts) Q E
def PoR (Y:Fx)(B:Hp)(r:R (T×En))(D:yg):Prop:=match r with
 |.ok (t,f)=>(∀v σ' d a,zy B a->SI Y a f σ' d->Rep a v t->D.rt v d)/\(t=.non->∀σ' d a,zy B a->SI Y a f σ' d->D.nx σ' d)
 |.ex c=>XP Y B c
 |.bad=>False
theorem XP.up {Y:Fx}{B f:Hp}{c:Nat}(s:zy B f)(h:XP Y B c):XP Y f c:=λd i a b=>h d i a (s.trans b)
theorem PoR.up {Y:Fx}{B i:Hp}{r:R (T×En)}{D:yg}(s:zy B i)(h:PoR Y B r D):PoR Y i r D:=by
 unfold PoR at h⊢;split
 ·exact⟨λv σ' d f a=>h.1 v σ' d f (s.trans a),λe σ' d f a=>h.2 e σ' d f (s.trans a)⟩
 ·exact XP.up s h
 ·exact h
structure vX (X:Cx) (Y:Fx) (body:List Stmt) (f:En->R (T×En)):Prop where
 mk::
 go:∀ρ,PSs X body λD σ H=>∃B,SI Y B ρ σ H/\PoR Y B (f ρ) D
def PoM (Y:Fx)(B:Hp)(r:R (T×En))(i:Sg)(Q:VK):Prop:=match r with
 |.ok (t,d)=>∀v f a,zy B a->SI Y a d i f->Rep a v t->Q v f
 |.ex c=>XP Y B c
 |.bad=>False
structure uJ (X:Cx) (Y:Fx) (e:Expr) (f:En->R (T×En)):Prop where
 mk::
 go:∀ρ,PE X e λσ H Q=>∃B,SI Y B ρ σ H/\PoM Y B (f ρ) σ Q
section
variable {X:Cx}{Y:Fx}{e:Expr}{st:Stmt}{rest:List Stmt}{pos:Pos}
def VZ (f:En->R T):En->R (T×En):=λρ=>(f ρ).bind λt=>.ok (t,ρ)
theorem Gv {f:En->R T}(h:Snd X Y e f):uJ X Y e (VZ f):=.mk λρ=>PE.imp (h ρ) λd H Q ⟨B,I,q⟩=>⟨B,I,by
 unfold VZ at q;revert q;cases f ρ with
 |ok t=>exact λq v a s r=>q v a _ (zS.ge I.sB s) (I.grow s) r
 |ex c=>exact λq=>q
 |bad=>exact λq=>q⟩
theorem Hn {f:En->R (T×En)}(h:uJ X Y e f):vX X Y [.Return (some e) pos] f:=.mk λρ=>PSs.imp (uL (WH (h.go ρ))) λD i H ⟨B,I,q⟩=>⟨B,I,by
 unfold PoR at q;unfold PoM;split at q
 ·exact λv j d a b c=>q.1 v i j d a b c
 ·exact q
 ·exact q⟩
def Ae:En->R (T×En):=λρ=>.ok (.non,ρ)
theorem HR:vX X Y [] Ae:=.mk λρ=>PSs.imp Y1 λD a H ⟨B,I,q⟩=>q.2 rfl a H B (zy.refl _) I
def j8 (f:En->RS)(g:En->R (T×En)):En->R (T×En):=λρ=>match f ρ with
 |.nx a=>g a
 |.ex c=>.ex c
 |_=>.bad
theorem Gw {f:En->RS}{g:En->R (T×En)}(j:jE X Y st f)(o:vX X Y rest g):vX X Y (st::rest) (j8 f g):=.mk λρ=>by
 refine PSs.imp (wN (u:=λD d H=>∃a B,SI Y B a d H/\PoR Y B (g a) D) (j ρ) ?_) ?_
 ·intro i s d H D I ⟨a,q⟩;exact o.go a _ s d H D I q
 ·intro D d H ⟨B,I,q⟩;refine⟨B,I,?_⟩;unfold j8 at q;revert q;cases f ρ with
  |nx a=>exact λq σ' p k s l=>⟨a,k,l,q.up s⟩
  |ex c=>exact λq=>q
  |rt t=>exact λq=>q.elim
  |rf t=>exact λq=>q.elim
  |bk ρ=>exact λq=>q.elim
  |ct ρ=>exact λq=>q.elim
  |bad=>exact λq=>q.elim
end
def wD (k j:Nat)(r:R (T×En)):R (T×List (Str×Fd)):=r.bind λp=>match p.2[j]? with
 |some (.st ((a,fs)::_))=>if a=k then .ok (p.1,fs)else .bad
 |_=>.bad
section
variable {P:Program}{w:World}{K:ag}{mg:Str->Option Value}{base:Heap}
theorem qm {cl:Nat->Value}{x a:Str}{st:Stmt}{f:Addr}{X:FuncData}{N U:List Str}{k n j kr:Nat}{L:En->R (T×En)}(F:Fun K x a st f X)(S:j5 N U (zx st))(hn:U.length=n+1)(hN:N.length=j+1)(hj:n+1<=j)
  (hb:∀(cdv:Value) (A:Around) (outer:List Env) (s:Shared) (H:Hp) (E:XK) (Y:Fx),Y.cl=cl->Y.E=E->ZN kr (A.deeper (envOfC a (zx st) s.1.1.size f cdv))->
   vX (WN (lh P w) P w K mg base N a (zx st) f cdv A outer s H E) Y (zP st) L):je P w K mg base (lh P w) (kr+1) f X U (nc cl k n λfs ts=>wD k j (L (mr k j fs ts))):=by
 refine Fun.okX F S (λvs H Q E z=>?_) λcdv A outer s H vs Q E hr z=>?_
 ·obtain⟨x,I,ts,B,G,fs,e,Z,_,_,_,r,_⟩:=z;rw[e,ac,r.length,Z,hn]
 obtain⟨x,I,ts,B,G,fs,e,Z,sB,sH,ob,r,q⟩:=z;subst e;refine⟨_,(hb cdv A _ s H E _ rfl rfl hr).go _,B,SI.startM hN (by lia) sB sH ob r,?_⟩
 have q:BU cl k B G x (wD k j _) Q E:=q;revert q;cases L _ with
 |bad=>exact λq=>q
 |ex c=>exact λq=>q
 |ok p=>
  obtain⟨t,u⟩:=p;show BU cl k B G x (match u[j]? with|some (.st ((k',fs)::_))=>(if k'=k then R.ok _ else R.bad)|_=>R.bad) Q E->_
  split
  ·rename_i k' fs' os ej;split
   ·rename_i hk;subst hk;intro q;have y:∀v σ' i d,zy B d->SI ⟨B,G,E,cl,[x]⟩ d u σ' i->Rep d v t->Q v i:=λv σ' i d J l rv=>q v i d l.sH J l.sB (λb o h=>l.old b o h) (l.obAt rfl ej) rv;exact⟨y,λet σ' i d J l=>y _ σ' i d J l (by rw[et];exact .non)⟩
   ·exact λq=>q.elim
  ·exact λq=>q.elim
end
def lI (k i j:Nat)(ρ:En):Option (Nat×List (Str×Fd)×List Ob):=match ρ[i]?,ρ[j]? with
 |some (.ob d n),some (.st os)=>match os[n]? with
  |some (a,fs)=>if d=k/\a=k then some (n,fs,os)else none
  |none=>none
 |_,_=>none
theorem wE {k i j:Nat}{ρ:En}{n:Nat}{fs:List (Str×Fd)}{os:List Ob}(h:lI k i j ρ=some (n,fs,os)):ρ[i]?=some (.ob k n)/\ρ[j]?=some (.st os)/\os[n]?=some (k,fs):=by
 unfold lI at h;split at h
 ·rename_i r u f a d;split at h
  ·rename_i q l p;split at h
   ·rename_i o;obtain⟨rfl,rfl⟩:=o;cases h;exact⟨a,d,p⟩
   ·cases h
  ·cases h
 ·cases h
theorem W8 {f:Str}{d:Fd}:∀{fs:List (Str×Fd)} {vs:List (Str×V)},(∀(m:Nat) (g:Str) (e:Fd),fs[m]?=some (g,e)->∃v,vs[m]?=some (g,v))->fs.lookup f=some d->∃(m:Nat) (v:V),fs[m]?=some (f,d)/\vs[m]?=some (f,v)/\vs.lookup f=some v
 |[],_,_,h=>by simp at h
 |(g,e)::fs,vs,k,h=>by
  obtain⟨v,j⟩:=k 0 g e rfl;cases vs with
  |nil=>cases j
  |cons w vs=>
   cases j;rw[aM]at h
   by_cases i:f=g
   ·subst i;rw[beq_self_eq_true]at h;cases h;exact⟨0,v,rfl,rfl,by rw[aM,beq_self_eq_true]⟩
   ·rw[beq_eq_false_iff_ne.mpr i]at h;obtain⟨m,l,a,b,c⟩:=W8 (λm=>k (m+1)) h;exact⟨m+1,l,a,b,by rw[aM,beq_eq_false_iff_ne.mpr i];exact c⟩
theorem uV {f:Str}:∀{fs:List (Str×Fd)} {vs:List (Str×V)},vs.length=fs.length->(∀(m:Nat) (g:Str) (e:Fd),fs[m]?=some (g,e)->∃v,vs[m]?=some (g,v))->fs.lookup f=none->vs.lookup f=none
 |[],vs,l,_,h=>by
  cases vs with
  |nil=>rfl
  |cons _ _=>cases l
 |(g,e)::fs,vs,l,i,h=>by
  obtain⟨v,a⟩:=i 0 g e rfl;cases vs with
  |nil=>cases a
  |cons w vs=>
   cases a;rw[aM]at h⊢
   by_cases d:f=g
   ·subst d;rw[beq_self_eq_true]at h;cases h
   ·rw[beq_eq_false_iff_ne.mpr d]at h⊢;exact uV (by simpa using l) (λm=>i (m+1)) h
section
variable {X:Cx}{Y:Fx}{B:Hp}{ρ:En}{σ:Sg}{H:Hp}
theorem SI.look (I:SI Y B ρ σ H){k i j n:Nat}{fs:List (Str×Fd)}{os:List Ob}{f:Str}{d:Fd}(h:lI k i j ρ=some (n,fs,os))(hl:fs.lookup f=some d):∃a C p vs v,∃m:Nat,∃o O,StI Y B ρ σ H o O/\σ[i]?=some (some (V.ref a))/\Y.cl k=.ref C/\H a=some (.ins C p vs)/\vs.lookup f=some v/\fs[m]?=some (f,d)/\vs[m]?=some (f,v)/\rP Y B ρ σ H (λl=>O l=some (n,m+1)) v d:=by
 obtain⟨N,Z,h3⟩:=wE h;obtain⟨o,O,s⟩:=I.st;obtain⟨a,C,p,vs,J,U,e3,e4,e5,e6,e7,G⟩:=s.st j os Z n k fs h3;obtain⟨a',C',dx',Q,r,L,_⟩:=s.ob i k n N;rw[J]at r;cases r;obtain⟨m,v,q,y,z3⟩:=W8 (λm g e he=>let ⟨v,z,_⟩:=G m g e he;⟨v,z⟩) hl;obtain⟨v',u,P⟩:=G m f d q;rw[y]at u;cases u;exact⟨a,C,p,vs,v,m,o,O,s,L,U,e3,z3,q,y,P⟩
def fldE (k i j:Nat)(f:Str):En->R T:=λρ=>match lI k i j ρ with
 |some (_,fs,_)=>match fs.lookup f with
  |some (.tv t)=>.ok t
  |_=>.bad
 |none=>.bad
def tZ (k i j:Nat)(f:Str):En->R T:=λρ=>match lI k i j ρ with
 |some (_,fs,_)=>match fs.lookup f with
  |some (.tl ts)=>.ok (.lst ts)
  |_=>.bad
 |none=>.bad
theorem Gx {k i j:Nat}{x f:Str}{d pos:Pos}{C:Addr}(N:PE X (.Name x d) (Jp i))(y:Y.cl k=.ref C)(c:L2.Cls X.K C)(n:L2.NoAttr X.K C f)(r:attributeBase (.Name x d) f X.env (eval (.Name x d) X.env)=eval (.Name x d) X.env:=by rfl):jC X Y (.Attribute (.Name x d) f pos) (tZ k i j f):=.mk λρ=>PE.imp (Je N r) λσ H Q ⟨B,I,q⟩=>by
 unfold tZ at q;split at q
 ·rename_i n' fs os e;split at q
  ·rename_i ts L;obtain⟨a,C',J,vs,v,m,as,O,s,p,o,U,u,e5,e6,l,xs,P,p2,p3,Z,G,_⟩:=I.look e L;rw[y]at o;cases o;subst P;exact⟨.ref a,p,a,C,J,vs,_,rfl,U,c,n,u,q _ H (zy.refl _) (.lst Z (G.mono I.sB))⟩
  ·exact q.elim
 ·exact q.elim
theorem SI.chgF (I:SI Y B ρ σ H){k i j n m:Nat}{fs:List (Str×Fd)}{os:List Ob}{f:Str}{ts us:List T}{ys:List V}{a C dx l:Addr}{vs:List (Str×V)}(h:lI k i j ρ=some (n,fs,os))(hm:fs[m]?=some (f,.tl ts))(ha:σ[i]?=some (some (V.ref a)))(hH:H a=some (.ins C dx vs))(hl:vs[m]?=some (f,.ref l))(r:zJ B ys us):
  SI Y B (ρ.set j (.st (os.set n (k,fs.set m (f,.tl us))))) σ (iV H l (.lst ys)):=by
 obtain⟨h1,h2,h3⟩:=wE h;obtain⟨as,O,s⟩:=I.st;obtain⟨a1,C1,dx1,vs1,e1,e2,e3,e4,e5,e6,e7,e8⟩:=s.st j os h2 n k fs h3;obtain⟨a',C',dx',vs',g1,g2,_⟩:=s.ob i k n h1;rw[e1]at g1;cases g1;rw[ha]at g2;cases g2;rw[hH]at e3;cases e3;obtain⟨v,z1,z2⟩:=e8 m f _ hm;rw[hl]at z1;cases z1;obtain⟨l',xs,p1,b0,h0,hh,p5,ok,ol⟩:=z2;cases p1;have nb:∀b o,B b=some o->b≠l:=λb o h z=>by subst z;rw[b0]at h;cases h
 have n0:∀b o,Y.H0 b=some o->b≠l:=λb o h z=>by subst z;rw[h0]at h;cases h
 have own:∀(p:Nat) (ws:List T),(ρ.set j (.st (os.set n (k,fs.set m (f,.tl us)))))[p]?=some (Sl.ow ws)->ρ[p]?=some _:=λp ws hw=>by
  rcases zr hw with ⟨_,z⟩|⟨_,z⟩
  ·cases z
  ·exact z
 have U:∀b,yx ρ σ b->yx _ σ b:=λb hb p ws hw=>hb p ws (own p ws hw);refine⟨I.s0,λb o h=>by rw[zA (n0 b o h)];exact I.sH b o h,λb o h=>by rw[zA (nb b o h)];exact I.sB b o h,I.old,by rw[aX];exact I.len,λp u h=>?_,λp ws h=>?_,λp c h=>?_,as,O,s.pre,λi' os' h=>?_,λi1 i2 G os2 q1 q2=>?_,λi' k' n' h=>?_,λi' k' fs0 h=>?_,λi' os' h n' k' fs' e=>?_⟩
 ·rcases zr h with ⟨_,z⟩|⟨_,z⟩
  ·cases z
  ·exact I.vl p u z
 ·have z:=own p ws h;obtain⟨b,xs',J,L,Z,y4,y5,y6⟩:=I.ow p ws z;have d:b≠l:=λw=>by subst w;exact ok p ws z J
  exact⟨b,xs',J,L,Z,by rw[zA d];exact y4,y5,λj2 y hj hw=>y6 j2 y hj (own j2 y hw)⟩
 ·rcases zr h with ⟨_,z⟩|⟨_,z⟩
  ·cases z
  ·exact I.xc p c z
 ·rcases zr h with ⟨_,z⟩|⟨_,z⟩
  ·cases z;rw[aX];exact s.len j os h2
  ·exact s.len _ _ z
 ·have one:∀i1 G,(ρ.set j (.st (os.set n (k,fs.set m (f,.tl us)))))[i1]?=some _->i1=j:=λi1 G q1=>by
   rcases zr q1 with ⟨e,_⟩|⟨_,z⟩
   ·exact e
   ·exact s.one i1 j G os z h2
  rw[one i1 G q1,one i2 os2 q2]
 ·rcases zr h with ⟨_,z⟩|⟨_,z⟩
  ·cases z
  ·obtain⟨b,C2,N,y,J,L,Z,y4,y5,y6⟩:=s.ob i' k' n' z;have d:b≠l:=λw=>by subst w;rw[hh]at y4;cases y4
   exact⟨b,C2,N,y,J,L,Z,by rw[zA d];exact y4,y5,y6⟩
 ·rcases zr h with ⟨_,z⟩|⟨_,z⟩
  ·cases z
  ·exact s.oc i' k' _ z
 ·rcases zr h with ⟨rfl,z⟩|⟨d,z⟩
  ·cases z;rcases zr e with ⟨rfl,z⟩|⟨hn,z⟩
   ·cases z;have d:a≠l:=λw=>by subst w;rw[hh]at hH;cases hH
    refine⟨a,C,dx,vs,e1,e2,by rw[zA d];exact hH,e4,e5,e6,⟨by rw[aX];exact e7.1,e7.2⟩,λm' f' d' z=>?_⟩
    rcases zr z with ⟨rfl,z'⟩|⟨hm',z'⟩
    ·cases z';exact⟨.ref l,hl,l,ys,rfl,b0,h0,zO,r,U l ok,ol⟩
    ·obtain⟨v',J,L⟩:=e8 m' f' d' z';refine⟨v',J,?_⟩;cases d' with
     |tv t=>exact L
     |tl ws=>
      obtain⟨Q,P,w1,w2,w3,w4,w5,w6,q⟩:=L;have d:Q≠l:=λw=>by
       subst w;rw[ol]at q;injection q with q;injection q with _ q;exact hm' (by lia)
      exact⟨Q,P,w1,w2,w3,by rw[zA d];exact w4,w5,U Q w6,q⟩
   ·obtain⟨b,C2,N,y,J,L,Z,y4,y5,y6,y7,y8⟩:=s.st i' os h2 n' k' fs' z;have d:b≠l:=λw=>by subst w;rw[hh]at Z;cases Z
    refine⟨b,C2,N,y,J,L,by rw[zA d];exact Z,y4,y5,y6,y7,λm' f' d' z=>?_⟩
    obtain⟨v',x1,x2⟩:=y8 m' f' d' z;refine⟨v',x1,?_⟩;cases d' with
    |tv t=>exact x2
    |tl ws=>
     obtain⟨Q,P,w1,w2,w3,w4,w5,w6,q⟩:=x2;have d:Q≠l:=λw=>by
      subst w;rw[ol]at q;injection q with q;injection q with q _;exact hn q.symm
     exact⟨Q,P,w1,w2,w3,by rw[zA d];exact w4,w5,U Q w6,q⟩
  ·exact absurd (s.one i' j os' os z h2) d
end
noncomputable def uf (f:Str)(d:Fd):List (Str×Fd)->List (Str×Fd)
 |[]=>[(f,d)]
 |(g,x)::r=>if g=f then (g,d)::r else (g,x)::uf f d r
noncomputable def QT (f:Str):List (Str×Fd)->Nat
 |[]=>0
 |(g,_)::r=>if g=f then 0 else QT f r+1
theorem UB {f:Str}{d:Fd}{v:V}:∀{fs:List (Str×Fd)} {vs:List (Str×V)},vs.length=fs.length->(∀(m:Nat) (g:Str) (e:Fd),fs[m]?=some (g,e)->∃v,vs[m]?=some (g,v))->(L2.putF f v vs).length=(uf f d fs).length
 |[],vs,l,_=>by
  cases vs with
  |nil=>rfl
  |cons _ _=>cases l
 |(g,e)::fs,vs,l,a=>by
  obtain⟨w,i⟩:=a 0 g e rfl;cases vs with
  |nil=>cases i
  |cons w vs=>
   cases i;unfold L2.putF uf;split
   ·simpa using l
   ·rw[ac,ac,UB (by simpa using l) (λm=>a (m+1))]
theorem UC {f:Str}{d:Fd}{v:V}:∀{fs:List (Str×Fd)} {vs:List (Str×V)},vs.length=fs.length->(∀(m:Nat) (g:Str) (e:Fd),fs[m]?=some (g,e)->∃v,vs[m]?=some (g,v))->∀{m:Nat} {g:Str} {e:Fd},(uf f d fs)[m]?=some (g,e)->
  (m=QT f fs/\g=f/\e=d/\(L2.putF f v vs)[m]?=some (f,v))\/(m≠QT f fs/\fs[m]?=some (g,e)/\∀j,vs[m]?=some (g,j)->(L2.putF f v vs)[m]?=some (g,j))
 |[],vs,l,_,m,g,e,h=>by
  cases vs with
  |cons _ _=>cases l
  |nil=>
   cases m with
   |zero=>cases h;exact .inl ⟨rfl,rfl,rfl,rfl⟩
   |succ m=>cases h
 |(o,r)::fs,vs,l,q,m,g,e,h=>by
  obtain⟨w,p⟩:=q 0 o r rfl;cases vs with
  |nil=>cases p
  |cons w vs=>
   cases p;unfold uf at h;unfold QT L2.putF
   by_cases i:o=f
   ·rw[if_pos i]at h⊢;rw[if_pos i];cases m with
    |zero=>cases h;exact .inl ⟨rfl,i,rfl,by rw[i];rfl⟩
    |succ m=>exact .inr ⟨im _,h,λj k=>k⟩
   ·rw[if_neg i]at h⊢;rw[if_neg i];cases m with
    |zero=>cases h;exact .inr ⟨(im _).symm,rfl,λj k=>k⟩
    |succ m=>
     rcases UC (by simpa using l) (λm=>q (m+1)) h with ⟨a,b,c,d⟩|⟨a,b,c⟩
     ·exact .inl ⟨by rw[a],b,c,d⟩
     ·exact .inr ⟨λz=>a (Nat.succ.inj z),b,c⟩
theorem qo {f:Str}{v:V}{vs:List (Str×V)}(d:f∈X1)(h:mY vs):mY (L2.putF f v vs):=λg a=>by
 rw[L2.lookup_putF,if_neg λz=>a (by rw[z];exact d)];exact h g a
section
variable {X:Cx}{Y:Fx}{B:Hp}{ρ:En}{σ:Sg}{H:Hp}
def FH (B H a:Hp)(v:V):Fd->Prop
 |.tv t=>a=H/\Rep B v t
 |.tl ts=>∃p xs,v=.ref p/\H p=none/\a=iV H p (.lst xs)/\zJ B xs ts
theorem SI.putF (I:SI Y B ρ σ H){k i j n:Nat}{fs:List (Str×Fd)}{os:List Ob}{f:Str}{d:Fd}{v:V}{a C dx:Addr}{vs:List (Str×V)}{H1:Hp}(hf:f∈X1)(h:lI k i j ρ=some (n,fs,os))(ha:σ[i]?=some (some (V.ref a)))(hH:H a=some (.ins C dx vs))(hd:FH B H H1 v d):
  SI Y B (ρ.set j (.st (os.set n (k,uf f d fs)))) σ (iV H1 a (.ins C dx (L2.putF f v vs))):=by
 obtain⟨h1,h2,h3⟩:=wE h;obtain⟨as,O,s⟩:=I.st;obtain⟨a1,C1,dx1,vs1,e1,e2,e3,e4,e5,e6,e7,e8⟩:=s.st j os h2 n k fs h3;obtain⟨a',C',dx',vs',g1,g2,_⟩:=s.ob i k n h1;rw[e1]at g1;cases g1;rw[ha]at g2;cases g2;rw[hH]at e3;cases e3;have al:∀(m:Nat) (g:Str) (e:Fd),fs[m]?=some _->∃v,vs[m]?=some _:=λm g e he=>let ⟨v,z,_⟩:=e8 m g e he;⟨v,z⟩;have sH1:zy H H1:=by
  cases d with
  |tv t=>rw[hd.1];exact zy.refl _
  |tl ts=>obtain⟨p,xs,_,hp,e,_⟩:=hd;rw[e];exact zy.new hp _
 have q:∀b o,H b=some o->b≠a->(iV H1 a (.ins C dx (L2.putF f v vs))) b=some o:=λb o N P=>by rw[zA P];exact sH1 b o N
 have nb:∀b o,B b=some o->b≠a:=λb o h z=>by subst z;rw[e4]at h;cases h
 have n0:∀b o,Y.H0 b=some o->b≠a:=λb o h z=>by subst z;rw[e5]at h;cases h
 have own:∀(r:Nat) (ws:List T),(ρ.set j (.st (os.set n (k,uf f d fs))))[r]?=some (Sl.ow ws)->ρ[r]?=some _:=λr ws hw=>by
  rcases zr hw with ⟨_,z⟩|⟨_,z⟩
  ·cases z
  ·exact z
 have ok':∀b,yx ρ σ b->yx _ σ b:=λb N r ws hw=>N r ws (own r ws hw);have y:∀{b:Addr} {xs:List V},H b=some (.lst xs)->b≠a:=λN z=>by subst z;rw[hH]at N;cases N
 obtain⟨O',hO1,hO2⟩:∃O':Addr->Option _,(∀b o,H b=some o->O' b=O b)/\∀b,v=.ref b->H b=none->O' b=some _:=by
  classical
  refine⟨λb=>if v=.ref b/\H b=none then some (n,QT f fs+1)else O b,?_,?_⟩
  ·intro b o N;exact if_neg λz=>by rw[N]at z;cases z.2
  ·intro b z1 z2;exact if_pos ⟨z1,z2⟩
 refine⟨I.s0,λb o h=>q b o (I.sH b o h) (n0 b o h),λb o h=>q b o (I.sB b o h) (nb b o h),I.old,by rw[aX];exact I.len,λr u h=>?_,λr ws h=>?_,λr c h=>?_,as,O',s.pre,λi' os' h=>?_,λi1 i2 Z os2 q1 q2=>?_,λi' k' n' h=>?_,λi' k' fs0 h=>?_,λi' os' h n' k' fs' e=>?_⟩
 ·rcases zr h with ⟨_,z⟩|⟨_,z⟩
  ·cases z
  ·exact I.vl r u z
 ·have z:=own r ws h;obtain⟨b,xs',U,L,y3,Q,y5,J⟩:=I.ow r ws z;exact⟨b,xs',U,L,y3,q b _ Q (y Q),y5,λj2 G hj hw=>J j2 G hj (own j2 G hw)⟩
 ·rcases zr h with ⟨_,z⟩|⟨_,z⟩
  ·cases z
  ·exact I.xc r c z
 ·rcases zr h with ⟨_,z⟩|⟨_,z⟩
  ·cases z;rw[aX];exact s.len j os h2
  ·exact s.len _ _ z
 ·have one:∀i1 Z,(ρ.set j (.st (os.set n (k,uf f d fs))))[i1]?=some _->i1=j:=λi1 Z q1=>by
   rcases zr q1 with ⟨e,_⟩|⟨_,z⟩
   ·exact e
   ·exact s.one i1 j Z os z h2
  rw[one i1 Z q1,one i2 os2 q2]
 ·rcases zr h with ⟨_,z⟩|⟨_,z⟩
  ·cases z
  ·obtain⟨b,C2,dx2,G,U,L,y3,Q,y5,J⟩:=s.ob i' k' n' z
   by_cases N:b=a
   ·subst N;rw[hH]at Q;cases Q;exact⟨b,C,dx,_,U,L,y3,zO,y5,J.1,qo hf J.2⟩
   ·exact⟨b,C2,dx2,G,U,L,y3,q b _ Q N,y5,J⟩
 ·rcases zr h with ⟨_,z⟩|⟨_,z⟩
  ·cases z
  ·exact s.oc i' k' _ z
 ·rcases zr h with ⟨rfl,z⟩|⟨P,z⟩
  ·cases z;have old:∀{n' m':Nat} {v':V} {d':Fd},rP Y B ρ σ H (λl=>O l=some (n',m'+1)) v' d'->rP Y B _ σ _ (λl=>O' l=some _) v' d':=λ{n' m' v' d'} L=>by
    cases d' with
    |tv t=>exact L
    |tl ws=>
     obtain⟨l2,xs2,w1,w2,w3,w4,w5,w6,w7⟩:=L;exact⟨l2,xs2,w1,w2,w3,q l2 _ w4 (y w4),w5,ok' l2 w6,by show O' l2=_;rw[hO1 l2 _ w4];exact w7⟩
   rcases zr e with ⟨rfl,z⟩|⟨hn,z⟩
   ·cases z;refine⟨a,C,dx,_,e1,e2,zO,e4,e5,by rw[hO1 a _ hH];exact e6,⟨UB e7.1 al,qo hf e7.2⟩,λm' f' d' z=>?_⟩
    rcases UC e7.1 al z with ⟨q1,q2,q3,q4⟩|⟨q1,q2,q3⟩
    ·subst q2 q3;refine⟨v,q4,?_⟩;cases d' with
     |tv t=>exact hd.2
     |tl ts=>
      obtain⟨p,xs,w1,w2,w3,w4⟩:=hd;have hpa:p≠a:=λz=>by rw[z,hH]at w2;cases w2
      refine⟨p,xs,w1,I.sB.free w2,I.sH.free w2,by rw[zA hpa,w3];exact zO,w4,λr ws hw=>?_,by show O' p=_;rw[hO2 p w1 w2,q1]⟩
      obtain⟨b,xs',U,L,y3,Q,_⟩:=I.ow r ws (own r ws hw);rw[U];intro z;injection z with z;injection z with z;injection z with z;rw[z,w2]at Q;cases Q
    ·obtain⟨v',U,L⟩:=e8 m' f' d' q2;exact⟨v',q3 v' U,old L⟩
   ·obtain⟨b,C2,dx2,G,U,L,y3,Q,y5,J,y7,y8⟩:=s.st i' os h2 n' k' fs' z;have P:b≠a:=λw=>by
     subst w;rw[e6]at J;injection J with J;injection J with J _;exact hn J.symm
    refine⟨b,C2,dx2,G,U,L,q b _ y3 P,Q,y5,by rw[hO1 b _ y3];exact J,y7,λm' f' d' z=>?_⟩
    obtain⟨v',x1,x2⟩:=y8 m' f' d' z;exact⟨v',x1,old x2⟩
  ·exact absurd (s.one i' j os' os z h2) P
end
theorem W9 {f:Str}{d:Fd}:∀{fs:List (Str×Fd)},fs.lookup f=some d->fs[QT f fs]?=some (f,d)/\∀j,uf f j fs=fs.set (QT f fs) (f,j)
 |[],h=>by simp at h
 |(g,e)::fs,h=>by
  rw[aM]at h;unfold QT uf
  by_cases i:g=f
  ·subst i;rw[beq_self_eq_true]at h;cases h;rw[if_pos rfl];exact⟨rfl,λj=>by rw[if_pos rfl];rfl⟩
  ·rw[beq_eq_false_iff_ne.mpr (bx i)]at h;obtain⟨a,b⟩:=W9 h;rw[if_neg i];exact⟨a,λj=>by rw[if_neg i,b];rfl⟩
theorem qp {f:Str}{v:V}:∀{fs:List (Str×Fd)} {vs:List (Str×V)},(∀(m:Nat) (g:Str) (e:Fd),fs[m]?=some (g,e)->∃v,vs[m]?=some (g,v))->(∃d,fs.lookup f=some d)->vs.lookup f=some v->vs[QT f fs]?=some (f,v)
 |[],_,_,h,_=>by simp at h
 |(g,e)::fs,vs,j,h,a=>by
  obtain⟨w,k⟩:=j 0 g e rfl;cases vs with
  |nil=>cases k
  |cons w vs=>
   cases k;rw[aM]at a;obtain⟨d,h⟩:=h;rw[aM]at h;unfold QT
   by_cases i:g=f
   ·subst i;rw[beq_self_eq_true]at a;cases a;rw[if_pos rfl];rfl
   ·rw[beq_eq_false_iff_ne.mpr (bx i)]at a h;rw[if_neg i];exact qp (λm=>j (m+1)) ⟨d,h⟩ a
section
variable {X:Cx}{Y:Fx}{B:Hp}{ρ:En}{σ:Sg}{H:Hp}{a:Expr}{fa:En->R T}{p p' pos:Pos}
theorem SI.obA (I:SI Y B ρ σ H){k i j n:Nat}{fs:List (Str×Fd)}{os:List Ob}(h:lI k i j ρ=some (n,fs,os)):∃a C d vs,σ[i]?=some (some (V.ref a))/\Y.cl k=.ref C/\H a=some (.ins C d vs)/\vs.length=fs.length/\∀(m:Nat) (g:Str) (e:Fd),fs[m]?=some (g,e)->∃v,vs[m]?=some (g,v):=by
 obtain⟨q,G,N⟩:=wE h;obtain⟨U,O,s⟩:=I.st;obtain⟨a,C,d,vs,l,u,P,e4,e5,e6,y,L⟩:=s.st j os G n k fs N;obtain⟨a',Z,J,r,f,o,_⟩:=s.ob i k n q;rw[l]at f;cases f;exact⟨a,C,d,vs,o,u,P,y.1,λm g e Q=>let ⟨v,z,_⟩:=L m g e Q;⟨v,z⟩⟩
def C0 (k i j:Nat)(f:Str)(fa:En->R T):En->RS:=λρ=>(fa ρ).s λt=>match lI k i j ρ with
 |some (n,fs,os)=>if fs.length<1000 then .nx (ρ.set j (.st (os.set n (k,uf f (.tv t) fs))))else .bad
 |none=>.bad
theorem F0 {k i j:Nat}{x f:Str}{l:Pos}{C:Addr}(U:PE X (.Name x l) (Jp i))(P:Y.cl k=.ref C)(c:L2.Cls X.K C)(n:L2.NoAttr X.K C f)(N:Snd X Y a fa)(Z:swapsWith a (some (.Attribute (.Name x l) f p')) pos.line X.env=pure false:=by rfl)(L:f∈X1:=by decide):jE X Y (.Assign [.Attribute (.Name x l) f p'] a pos) (C0 k i j f fa):=.mk λρ=>
 PS.imp (VD U (N ρ) Z) λD σ H ⟨B,I,q⟩=>jz I q λt v H1 _ s1 G u d=>by
  split at d
  ·rename_i n' fs os e;split at d
   ·rename_i hl;obtain⟨a,C',Q,vs,o,r,y,J,e5⟩:=u.obA e;rw[P]at r;cases r;exact⟨.ref a,o,a,C,Q,vs,rfl,y,c,n,by rw[J];exact hl,d _ _ _ (zy.refl _) (u.putF L e o y ⟨rfl,G⟩)⟩
   ·exact d.elim
  ·exact d.elim
def QU (k i j:Nat)(f:Str)(ga:En->R (List T)):En->RS:=λρ=>(ga ρ).s λts=>match lI k i j ρ with
 |some (n,fs,os)=>if fs.length<1000/\ts.length<=iT then .nx (ρ.set j (.st (os.set n (k,uf f (.tl ts) fs))))else .bad
 |none=>.bad
theorem Gy {k i j:Nat}{x f:Str}{o:Pos}{C:Addr}{v:List Expr}{ga:En->R (List T)}(hv:PE X (.Name x o) (Jp i))(hc:Y.cl k=.ref C)(c:L2.Cls X.K C)(n:L2.NoAttr X.K C f)(Z:wx X Y v ga)(hs:swapsWith (.List v p) (some (.Attribute (.Name x o) f p')) pos.line X.env=pure false:=by rfl)(U:f∈X1:=by decide):jE X Y (.Assign [.Attribute (.Name x o) f p'] (.List v p) pos) (QU k i j f ga):=.mk λρ=>
 PS.imp (VD hv (Yg (Z ρ)) hs) λD σ H ⟨B,I,q⟩=>jz I q λts vs H1 _ s1 y N d=>by
  split at d
  ·rename_i n' fs os e;split at d
   ·rename_i P;obtain⟨a,C',dx,r,G,L,l,Q,e5⟩:=N.obA e;rw[hc]at L;cases L;refine⟨by rw[y.length];exact Zj P.2,λq J=>?_⟩
    have u:a≠q:=λz=>by rw[z,J]at l;cases l
    exact⟨.ref a,G,a,C,dx,r,rfl,by rw[zA u];exact l,c,n,by rw[Q];exact P.1,d _ _ _ (zy.refl _) (N.putF U e G l ⟨q,vs,rfl,J,rfl,y⟩)⟩
   ·exact d.elim
  ·exact d.elim
def x6 (k i j:Nat)(f:Str)(fa:En->R T):En->RS:=λρ=>match lI k i j ρ with
 |some (n,fs,os)=>match fs.lookup f with
  |some (.tl ts)=>(fa ρ).s λt=>if ts.length<iT then .nx (ρ.set j (.st (os.set n (k,uf f (.tl (ts++[t])) fs))))else .bad
  |_=>.bad
 |none=>.bad
theorem Gz {k i j:Nat}{x f:Str}{d o r:Pos}{C:Addr}(hv:PE X (.Name x d) (Jp i))(hc:Y.cl k=.ref C)(c:L2.Cls X.K C)(n:L2.NoAttr X.K C f)(ha:Snd X Y a fa)(y:attributeBase (.Name x d) f X.env (eval (.Name x d) X.env)=eval (.Name x d) X.env:=by rfl)
  (L:attributeBase (.Attribute (.Name x d) f o) "append" X.env (eval (.Attribute (.Name x d) f o) X.env)=eval (.Attribute (.Name x d) f o) X.env:=by rfl) (Q:lu X a:=by exact li rfl)
  (hz:(r.endLine==p.line)=true:=by rfl) (hw:swapsWith (.Call (.Attribute (.Attribute (.Name x d) f o) "append" r) [a] [] p) none pos.line X.env=pure false:=by rfl):jE X Y (.Expr (.Call (.Attribute (.Attribute (.Name x d) f o) "append" r) [a] [] p) pos) (x6 k i j f fa):=.mk λρ=>by
 have e1:(((((backTo p (starEach [a] X.env)).all λx=> !x.fst)&&(backToKw p (keywordEach [] X.env)).all λx=>x.fst.isSome)&&decide (([a].length+([]:List Keyword).length+if ([]:List Keyword).isEmpty=true then 0 else 1)<30))=true):=by rw[Q];rfl
 refine PS.imp (JC (wk cx eG eH JG (Je hv y) (zF (ha ρ) zZ Q) L e1 hz Q rfl) hw) λD σ H ⟨B,I,q⟩=>?_;unfold x6 at q;split at q
 ·rename_i n' fs os e;split at q
  ·rename_i ts P;obtain⟨a',C',dx,vs,v,m,as,O,s,N,U,G,g4,g5,g6,l,xs,p1,b0,h0,Z,rr,_⟩:=I.look e P;rw[hc]at U;cases U;subst p1;obtain⟨_,_,_,vs2,y1,_,y3,_,al⟩:=I.obA e;rw[N]at y1;cases y1;rw[G]at y3;cases y3;have hi:=qp al ⟨_,P⟩ g4;obtain⟨j1,j2⟩:=W9 P;refine⟨.ref a',N,a',C,dx,vs,_,rfl,G,c,n,g4,.inl ⟨rfl,_,SqL.of Z⟩,?_⟩;refine jz I q λt w H1 _ J r1 I1 u=>?_;split at u
   ·rename_i L;refine⟨l,xs,w,rfl,rfl,J _ _ Z,by rw[rr.length];exact VI L,?_⟩
    have:=I1.chgF e j1 N (J _ _ G) hi ((rr.mono (zS.ge I.sB J)).append (.cons r1 .nil));rw[←j2]at this;exact u _ _ _ (zy.refl _) this
   ·exact u.elim
  ·exact q.elim
 ·exact q.elim
end
theorem PoM.up {Y:Fx}{B d:Hp}{r:R (T×En)}{f:Sg}{Q:VK}(s:zy B d)(h:PoM Y B r f Q):PoM Y d r f Q:=by
 unfold PoM at h⊢;split
 ·exact λv i j a=>h v i j (s.trans a)
 ·exact XP.up s h
 ·exact h
theorem XU {l o:Type}{Y:Fx}{j:Hp->Hp->o->l->Prop}{f:En->R l}{k:l->R (T×En)}{ρ:En}{B:Hp}{i:Sg}{H:Hp}{Q:VK}{K:o->Hp->Prop}(I:SI Y B ρ i H)(h:PoM Y B ((f ρ).bind k) i Q)
  (n:∀a b d,f ρ=.ok a->zy H d->j (zS B H d) d b a->SI Y (zS B H d) ρ i d->PoM Y (zS B H d) (k a) i Q->K b d):tS Y j f ρ i H K:=by
 refine⟨B,I,?_⟩;cases e:f ρ with
 |bad=>rw[e]at h;exact h
 |ex c=>rw[e]at h;exact h
 |ok a=>
  rw[e]at h;exact λb d s r=>n a b d e s r (I.grow s) (PoM.up (zS.ge I.sB s) h)
section
variable {Y:Fx}{B:Hp}{ρ:En}{σ:Sg}{H:Hp}
theorem SI.back (I:SI Y B ρ σ H){k i j n:Nat}{fs:List (Str×Fd)}{os:List Ob}(h:lI k i j ρ=some (n,fs,os)){a:Addr}(ha:σ[i]?=some (some (V.ref a))):
  ∃N,zy B N/\zy N H/\vW Y.cl k B N H a fs/\zy Y.H0 N/\∀(H' B':Hp) (fs':List (Str×Fd)),zy N H'->zy B B'->zy B' H'->(∀b o,N b=some o->B' b=B b)->vW Y.cl k B' N H' a fs'->SI Y B' (ρ.set j (.st (os.set n (k,fs')))) σ H':=by
 classical
 obtain⟨h1,h2,h3⟩:=wE h;obtain⟨as,O,s⟩:=I.st;obtain⟨a1,C,dx,vs,e1,e2,e3,e4,e5,e6,e7,e8⟩:=s.st j os h2 n k fs h3;obtain⟨a',C',dx',vs',g1,g2,_⟩:=s.ob i k n h1;rw[e1]at g1;cases g1;rw[ha]at g2;cases g2
 let P:Addr->Prop:=λb=>b=a\/∃(m:Nat) (f:Str) (ts:List T),fs[m]?=some (f,.tl ts)/\vs[m]?=some (f,V.ref b)
 have lP:∀b,P b->b≠a->∃m xs,H b=some (.lst xs)/\B b=none/\Y.H0 b=none/\yx ρ σ b/\O b=some (n,m+1):=λb p hne=>by
  rcases p with z|⟨m,f,ts,z1,z2⟩
  ·exact absurd z hne
  ·obtain⟨v,y,l,xs,p1,p2,p3,p4,p5,p6,p7⟩:=e8 m f _ z1;rw[z2]at y;cases y;cases p1;exact⟨m,xs,p4,p2,p3,p6,p7⟩
 have nB:∀b o,B b=some o->¬P b:=λb o p hp=>by
  by_cases z:b=a
  ·rw[z,e4]at p;cases p
  ·obtain⟨_,_,_,q,_⟩:=lP b hp z;rw[q]at p;cases p
 have n0:∀b o,Y.H0 b=some o->¬P b:=λb o p hp=>by
  by_cases z:b=a
  ·rw[z,e5]at p;cases p
  ·obtain⟨_,_,_,_,q,_⟩:=lP b hp z;rw[q]at p;cases p
 let N:Hp:=λb=>if P b then none else H b
 have Q:∀{b o},H b=some o->¬P b->N b=some o:=λ{b o} p hp=>by show (if P b then none else H b)=_;rw[if_neg hp];exact p
 have H0p:∀{b},P b->N b=none:=λ{b} hp=>if_pos hp;refine⟨N,λb o p=>Q (I.sB b o p) (nB b o p),λb o p=>?_,⟨C,dx,vs,λb=>(O b).map Prod.snd,e2,e3,e4,H0p (.inl rfl),by show iO _ (O a)=_;rw[e6];rfl,e7,λm f d z=>?_⟩,λb o p=>Q (I.sH b o p) (n0 b o p),λH' B' fs' s1 s2 s3 old ob'=>?_⟩
 ·have p:(if P b then none else H b)=some o:=p
  split at p
  ·cases p
  ·exact p
 ·obtain⟨v,y,J⟩:=e8 m f d z;refine⟨v,y,?_⟩;cases d with
  |tv t=>exact J
  |tl ts=>
   obtain⟨l,xs,p1,p2,p3,p4,p5,p6,p7⟩:=J;subst p1;exact⟨l,xs,rfl,p2,H0p (.inr ⟨m,f,ts,z,y⟩),p4,p5,by show iO _ (O l)=_;rw[p7];rfl⟩
 ·obtain⟨C',dx',us,O',c1,c2,c3,c4,c5,c6,c7⟩:=ob';rw[e2]at c1;cases c1;have r:∀{b o},H b=some o->¬P b->H' b=some o/\B' b=B b/\N b≠none:=λ{b o} p hp=>⟨s1 _ _ (Q p hp),old b o (Q p hp),by rw[Q p hp];exact fK _⟩
  have own:∀(G:Nat) (ws:List T),(ρ.set j (.st (os.set n (k,fs'))))[G]?=some (Sl.ow ws)->ρ[G]?=some (Sl.ow ws):=λG ws hw=>by
   rcases zr hw with ⟨_,z⟩|⟨_,z⟩
   ·cases z
   ·exact z
  have ok':∀b,yx ρ σ b->yx (ρ.set j _) σ b:=λb p G ws hw=>p G ws (own G ws hw);have owP:∀{G ws b xs},ρ[G]?=some (Sl.ow ws)->σ[G]?=some (some (V.ref b))->H b=some (.lst xs)->¬P b:=λ{G ws b xs} w1 w2 w3 hp=>by
   by_cases z:b=a
   ·rw[z,e3]at w3;cases w3
   ·obtain⟨_,_,_,_,_,q,_⟩:=lP b hp z;exact q G ws w1 w2
  obtain⟨O2,hO1,hO2⟩:∃O2:Addr->Option (Nat×Nat),(∀b,N b≠none->O2 b=O b)/\∀b m,N b=none->O' b=some m->O2 b=some (n,m):=by
   refine⟨λb=>if N b=none then (O' b).map λm=>(n,m)else O b,?_,?_⟩
   ·intro b p;exact if_neg p
   ·intro b m z1 z2;show (if N b=none then (O' b).map λm=>(n,m)else O b)=_
    rw[if_pos z1,z2];rfl
  refine⟨I.s0,λb o p=>(r (I.sH b o p) (n0 b o p)).1,s3,λb o p=>?_,by rw[aX];exact I.len,λG u h=>?_,λG ws h=>?_,λG c h=>?_,as,O2,s.pre,λi' os' h=>?_,λi1 i2 os1 os2 q1 q2=>?_,λi' k' n' h=>?_,λi' k' fs0 h=>?_,λi' os' h n' k' fs2 e=>?_⟩
  ·rw[(r (I.sH b o p) (n0 b o p)).2.1];exact I.old b o p
  ·rcases zr h with ⟨_,z⟩|⟨_,z⟩
   ·cases z
   ·obtain⟨v,y,J⟩:=I.vl G u z;exact⟨v,y,J.mono s2⟩
  ·have z:=own G ws h;obtain⟨b,xs',y,J,y3,U,y5,X⟩:=I.ow G ws z;obtain⟨w1,w2,_⟩:=r U (owP z y U);exact⟨b,xs',y,by rw[w2];exact J,y3,w1,y5.mono s2,λj2 L hj hw=>X j2 L hj (own j2 L hw)⟩
  ·rcases zr h with ⟨_,z⟩|⟨_,z⟩
   ·cases z
   ·obtain⟨b,y,J⟩:=I.xc G c z;exact⟨b,y,s2 _ _ J⟩
  ·rcases zr h with ⟨_,z⟩|⟨_,z⟩
   ·cases z;rw[aX];exact s.len j os h2
   ·exact s.len _ _ z
  ·have one:∀i1 os1,(ρ.set j (.st (os.set n (k,fs'))))[i1]?=some _->i1=j:=λi1 os1 q1=>by
    rcases zr q1 with ⟨e,_⟩|⟨_,z⟩
    ·exact e
    ·exact s.one i1 j os1 os z h2
   rw[one i1 os1 q1,one i2 os2 q2]
  ·rcases zr h with ⟨_,z⟩|⟨_,z⟩
   ·cases z
   ·obtain⟨b,C2,Z,L,y,J,y3,U,y5,X⟩:=s.ob i' k' n' z
    by_cases p:b=a
    ·subst p;rw[e3]at U;cases U;exact⟨b,_,dx',us,y,J,y3,c2,c3,X.1,c6.2⟩
    ·have hp:¬P b:=λhp=>by obtain⟨_,_,q,_⟩:=lP b hp p;rw[q]at U;cases U
     obtain⟨w1,w2,_⟩:=r U hp;exact⟨b,C2,Z,L,y,J,y3,w1,by rw[w2];exact y5,X⟩
  ·rcases zr h with ⟨_,z⟩|⟨_,z⟩
   ·cases z
   ·obtain⟨b,C2,Z,L,y,J,y3,U,y5⟩:=s.oc i' k' _ z;exact⟨b,C2,Z,L,y,J,y3,U,y5.mono s2 (zy.refl _)⟩
  ·rcases zr h with ⟨rfl,z⟩|⟨hne,z⟩
   ·cases z;rcases zr e with ⟨rfl,z⟩|⟨hn,z⟩
    ·cases z;refine⟨a,_,dx',us,e1,e2,c2,c3,e5,hO2 a 0 c4 c5,c6,λm f d z=>?_⟩;obtain⟨v,y,J⟩:=c7 m f d z;refine⟨v,y,?_⟩;cases d with
     |tv t=>exact J
     |tl ts=>
      obtain⟨l,xs,p1,p2,p3,p4,p5,p6⟩:=J;refine⟨l,xs,p1,p2,?_,p4,p5,λG ws hw=>?_,hO2 l _ p3 p6⟩
      ·cases q:Y.H0 l with
       |none=>rfl
       |some o=>rw[Q (I.sH l o q) (n0 l o q)]at p3;cases p3
      ·have w:=own G ws hw;obtain⟨b,xs',q1,q2,q3,q4,_⟩:=I.ow G ws w;rw[q1];intro z;injection z with z;injection z with z;injection z with z;exact(r q4 (owP w q1 q4)).2.2 (by rw[z];exact p3)
    ·obtain⟨b,C2,Z,L,y,J,y3,U,y5,X,y7,y8⟩:=s.st i' os h2 n' k' fs2 z;have p:b≠a:=λw=>by
      rw[w,e6]at X;injection X with X;injection X with X _;exact hn X.symm
     have hp:¬P b:=λhp=>by obtain⟨_,_,q,_⟩:=lP b hp p;rw[q]at y3;cases y3
     obtain⟨w1,w2,w3⟩:=r y3 hp;refine⟨b,C2,Z,L,y,J,w1,by rw[w2];exact U,y5,by rw[hO1 b w3];exact X,y7,λm' f' d' z=>?_⟩
     obtain⟨v',x1,x2⟩:=y8 m' f' d' z;refine⟨v',x1,?_⟩;cases d' with
     |tv t=>exact Rep.mono s2 x2
     |tl ws=>
      obtain⟨l2,xs2,q1,q2,q3,q4,q5,q6,q7⟩:=x2;have hp:¬P l2:=λhp=>by
       by_cases z:l2=a
       ·rw[z,e3]at q4;cases q4
       ·obtain⟨m2,_,_,_,_,_,q⟩:=lP l2 hp z;rw[q]at q7;injection q7 with q7;injection q7 with q7 _;exact hn q7.symm
      obtain⟨w1,w2,w3⟩:=r q4 hp;exact⟨l2,xs2,q1,by rw[w2];exact q2,q3,w1,q5.mono s2,ok' l2 q6,by show O2 l2=_;rw[hO1 l2 w3];exact q7⟩
   ·exact absurd (s.one i' j os' os z h2) hne
end
def wg (k i j:Nat)(m:Str)(nn:Nat)(g:List (Str×Fd)->List T->R (T×List (Str×Fd)))(ga:En->R (List T)):En->R (T×En):=λρ=>match lI k i j ρ with
 |some (n,fs,os)=>if (fs.lookup m).isNone=true then (ga ρ).bind λts=>if ts.length=nn then (g fs ts).bind λp=>.ok (p.1,ρ.set j (.st (os.set n (k,p.2))))else .bad else .bad
 |none=>.bad
section
variable {X:Cx}{Y:Fx}{a e:Expr}{cl:Nat->Value}{k i j kk kj nn:Nat}{x m:Str}{px ap pos p':Pos}{C f:Addr}{fd:FuncData}{ps:List Str}{es:List Expr}{ga:En->R (List T)}{pl:Sem Bool}
theorem GA {g:List (Str×Fd)->List T->R (T×List (Str×Fd))}(hv:PE X (.Name x px) (Jp i))(hy:Y.cl=cl)(hc:cl k=.ref C)(c:L2.Cls X.K C)(hm:L2.Meth X.K C m f)(F:je X.prog X.w X.K X.mg X.base (lh X.prog X.w) kj f fd ps (nc cl k nn g))(hr:ZN kk X.A)(hj:kj<=kk)(bd:L2.Binds X.K fd ps [])(hp:Zc (lh X.prog X.w) X Y.E)(ha:wx X Y (a::es) ga)
  (u:starEach (a::es) X.env=(false,eval a X.env)::starEach es X.env:=by exact zU rfl) (y:((backTo pos (starEach es X.env)).any λx=>x.fst)=false:=by exact Zn rfl)
  (ht:eval (.Call (.Attribute (.Name x px) m ap) (a::es) [] pos) X.env=(do
   let ov ←eval (.Name x px) X.env
   standAt ap.atName
   let (f,first) ←holding [ov] (getMethod ov m pl)
   callWith pos f first (backTo pos (starEach (a::es) X.env)) (backToKw pos (keywordEach [] X.env))):=by rfl):
  uJ X Y (.Call (.Attribute (.Name x px) m ap) (a::es) [] pos) (wg k i j m nn g ga):=.mk λρ=>PE.imp (Yi hv c hm F (hr.mono hj) bd .nil hp (ha ρ) u y ht) λσ H Q ⟨B,I,q⟩=>by
 unfold wg at q;split at q
 ·rename_i n fs os e;split at q
  ·rename_i hl;obtain⟨G,C',dx,vs,Z,U,e3,e4,al⟩:=I.obA e;subst hy;rw[hc]at U;cases U;have N:=uV e4 al (by simpa using hl)
   refine⟨.ref G,Z,G,dx,vs,rfl,e3,N,?_⟩;refine XU I q λts us H1 _ s1 r1 I1 l=>?_;split at l
   ·rename_i hn;rw[aY];obtain⟨H0,b1,b2,b3,b4,b5⟩:=I1.back e Z;refine⟨G,us,ts,_,H0,fs,rfl,hn,b1,b2,b3,r1,?_⟩;revert l;cases g fs ts with
    |bad=>exact λl=>l
    |ex c2=>exact λl d r L o=>l d r (b4.trans L) o
    |ok p=>
     obtain⟨t,J⟩:=p;exact λl v r P L o z3 z4 z5 z6=>l v r P o (b5 r P J L o z3 z4 z5) z6
   ·exact l.elim
  ·exact q.elim
 ·exact q.elim
theorem XV {g:List (Str×Fd)->List T->R (T×List (Str×Fd))}(hv:PE X (.Name x px) (Jp i))(hy:Y.cl=cl)(hc:cl k=.ref C)(c:L2.Cls X.K C)(hm:L2.Meth X.K C m f)(F:je X.prog X.w X.K X.mg X.base (lh X.prog X.w) kj f fd ps (nc cl k 0 g))(hr:ZN kk X.A)(hj:kj<=kk)(bd:L2.Binds X.K fd ps [])(hp:Zc (lh X.prog X.w) X Y.E)
  (Z:eval (.Call (.Attribute (.Name x px) m ap) [] [] pos) X.env=(do
   let ov ←eval (.Name x px) X.env
   standAt ap.atName
   let (f,first) ←holding [ov] (getMethod ov m pl)
   callWith pos f first (backTo pos (starEach [] X.env)) (backToKw pos (keywordEach [] X.env))):=by rfl):
  uJ X Y (.Call (.Attribute (.Name x px) m ap) [] [] pos) (wg k i j m 0 g zj):=.mk λρ=>PE.imp (Uh hv c hm F (hr.mono hj) bd .nil hp Z) λσ H Q ⟨B,I,q⟩=>by
 unfold wg at q;split at q
 ·rename_i n fs os e;split at q
  ·rename_i hl;obtain⟨y,C',dx,vs,L,P,e3,e4,al⟩:=I.obA e;subst hy;rw[hc]at P;cases P;have G:=uV e4 al (by simpa using hl)
   refine⟨.ref y,L,y,dx,vs,rfl,e3,G,?_⟩;have l:PoM Y B ((g fs []).bind λp=>.ok _) σ Q:=q;obtain⟨H0,b1,b2,b3,b4,U⟩:=I.back e L;refine⟨y,[],[],_,H0,fs,rfl,rfl,b1,b2,b3,.nil,?_⟩;revert l;cases g fs []with
   |bad=>exact λl=>l
   |ex c2=>exact λl d o u r=>l d o (b4.trans u) r
   |ok p=>
    obtain⟨t,J⟩:=p;exact λl v o N u r z3 z4 z5 z6=>l v o N r (U o N J u r z3 z4 z5) z6
  ·exact q.elim
 ·exact q.elim
def lS (f:En->R (T×En)):En->RS:=λρ=>(f ρ).s λp=>.nx p.2
theorem Hc {f:En->R (T×En)}(h:uJ X Y e f)(o:swapsWith e none pos.line X.env=pure false:=by rfl):jE X Y (.Expr e pos) (lS f):=.mk λρ=>PS.imp (JC (h.go ρ) o) λD l H ⟨B,I,q⟩=>⟨B,I,by
 unfold lS at q;revert q;cases f ρ with
 |bad=>exact λq=>q
 |ex c=>exact λq=>q
 |ok p=>exact λq v u r s d _=>q l u r s d⟩
def pR (i:Nat)(f:En->R (T×En)):En->RS:=λρ=>(f ρ).s λp=>.nx (p.2.set i (.vl p.1))
theorem HV {f:En->R (T×En)}(o:X.N.Nodup)(hi:X.N[i]?=some x)(d:L2.Loc X.env.scope x)(h:uJ X Y e f)(y:swapsWith e (some (.Name x p')) pos.line X.env=pure false:=by rfl)
  (u:X.fn x=true\/X.env.scope.names.lookup x=some .local:=by first|exact .inl rfl|exact .inr rfl|assumption):jE X Y (.Assign [.Name x p'] e pos) (pR i f):=.mk λρ=>PS.imp (wu o hi d (h.go ρ) y u) λD L H ⟨B,I,q⟩=>⟨B,I,by
 unfold pR at q;revert q;cases f ρ with
 |bad=>exact λq=>q
 |ex c=>exact λq=>q
 |ok p=>exact λq v J G s l r=>q _ J G s (l.setV i r)⟩
end
section
variable {X:Cx}{Y:Fx}{b:Expr}{fb:En->R T}{p pos:Pos}
def n9 (k i j:Nat)(f:Str)(fb:En->R T):En->R T:=λρ=>match lI k i j ρ with
 |some (_,fs,_)=>match fs.lookup f with
  |some (.tl ts)=>(fb ρ).bind λt=>match t with
   |.int q=>ly ts q
   |_=>.bad
  |_=>.bad
 |none=>.bad
theorem FR {k i j:Nat}{x f:Str}{o:Pos}{C:Addr}(hv:PE X (.Name x o) (Jp i))(hc:Y.cl k=.ref C)(c:L2.Cls X.K C)(n:L2.NoAttr X.K C f)(L:Snd X Y b fb)(u:attributeBase (.Name x o) f X.env (eval (.Name x o) X.env)=eval (.Name x o) X.env:=by rfl)(hs:wR b:=by exact λ_ _=>rfl):Snd X Y (.Subscript (.Attribute (.Name x o) f p) b pos) (n9 k i j f fb):=.mk λρ=>
 PE.imp (xW Yl (Je hv u) (L ρ) hs) λσ H Q ⟨B,I,q⟩=>by
  unfold n9 at q;split at q
  ·rename_i n' fs os e;split at q
   ·rename_i ts el;obtain⟨a,C',dx,vs,v,m,as,O,s,J,G,e3,N,e5,e6,l,xs,p1,p2,p3,U,P,_⟩:=I.look e el;rw[hc]at G;cases G;subst p1;refine⟨.ref a,J,a,C,dx,vs,_,rfl,e3,c,n,N,step I q λt' v' Z _ y r2 I2 d=>?_⟩;cases r2 with
    |int j=>
     have d:Po Y rC _ Z (ly ts j) Q:=d;unfold ly at d;split at d
     ·rename_i t e8;obtain⟨w,e9,r⟩:=WX (P.mono (zS.ge I.sB y)) e8;exact .inl ⟨_,xs,j,w,rfl,rfl,SqL.of (y _ _ U),e9,lq I2.sB d rfl r⟩
     ·exact d.elim
    |_=>exact d.elim
   ·exact q.elim
  ·exact q.elim
def x8 (k i j:Nat)(f:Str):En->R (T×En):=λρ=>match lI k i j ρ with
 |some (n,fs,os)=>match fs.lookup f with
  |some (.tl ts)=>match ts[ts.length-1]? with
   |some t=>.ok (t,ρ.set j (.st (os.set n (k,uf f (.tl ts.dropLast) fs))))
   |none=>.bad
  |_=>.bad
 |none=>.bad
theorem zJ.dropLast {B:Hp}:∀{vs:List V} {ts:List T},zJ B vs ts->zJ B vs.dropLast ts.dropLast
 |_,_,.nil=>.nil
 |_,_,.cons r .nil=>.nil
 |_,_,.cons r (.cons d a)=>.cons r (zJ.dropLast (.cons d a))
theorem GB {k i j:Nat}{x f:Str}{a d L:Pos}{C:Addr}(hv:PE X (.Name x a) (Jp i))(hc:Y.cl k=.ref C)(c:L2.Cls X.K C)(n:L2.NoAttr X.K C f)(o:attributeBase (.Name x a) f X.env (eval (.Name x a) X.env)=eval (.Name x a) X.env:=by rfl)
  (hb:attributeBase (.Attribute (.Name x a) f d) "pop" X.env (eval (.Attribute (.Name x a) f d) X.env)=eval (.Attribute (.Name x a) f d) X.env:=by rfl) (hz:(L.endLine==p.line)=true:=by rfl):uJ X Y (.Call (.Attribute (.Attribute (.Name x a) f d) "pop" L) [] [] p) (x8 k i j f):=.mk λρ=>
 PE.imp (KT cx PySem.F.slot_list_pop PySem.F.type_list_pop KU (Je hv o) hb hz) λσ H Q ⟨B,I,q⟩=>by
  unfold x8 at q;split at q
  ·rename_i n' fs os e;split at q
   ·rename_i ts J;split at q
    ·rename_i t et;obtain⟨a',C',dx,vs,v,m,as,O,s,G,N,u,Z,g5,g6,l,xs,p1,b0,h0,P,y,_⟩:=I.look e J;rw[hc]at N;cases N;subst p1;obtain⟨_,_,_,vs2,U,_,y3,_,al⟩:=I.obA e;rw[G]at U;cases U;rw[u]at y3;cases y3;have hi:=qp al ⟨_,J⟩ Z;obtain⟨j1,j2⟩:=W9 J;obtain⟨w,hw,r⟩:=y.at et;have:=I.chgF e j1 G u hi (zJ.dropLast y);rw[←j2]at this;exact⟨.ref a',G,a',C,dx,vs,_,rfl,u,c,n,Z,.inl ⟨rfl,_,SqL.of P⟩,l,xs,w,rfl,rfl,P,by rw[y.length];exact hw,q w _ B (zy.refl _) this r⟩
    ·exact q.elim
   ·exact q.elim
  ·exact q.elim
end
section
variable {Y:Fx}{B:Hp}{ρ:En}{σ:Sg}{H:Hp}
theorem SI.made (I:SI Y B ρ σ H){i j k:Nat}{x:Addr}{os:List Ob}{fs:List (Str×Fd)}{B' H' H0:Hp}(h2:ρ[j]?=some (.st os))(hij:i≠j)(hi:i<ρ.length)(sH:zy H H0)(s1:zy H0 H')(s2:zy B B')(s3:zy B' H')(old:∀b o,H0 b=some o->B' b=B b)(ob:vW Y.cl k B' H0 H' x fs):
  SI Y B' ((ρ.set j (.st (os++[(k,fs)]))).set i (.ob k os.length)) (σ.set i (some (V.ref x))) H':=by
 classical
 obtain⟨as,O,s⟩:=I.st;obtain⟨C,dx,us,O',c1,c2,c3,c4,c5,c6,c7⟩:=ob;have hlen:=s.len j os h2;have p:∀{b o},H b=some o->H' b=some o/\B' b=B b/\H0 b≠none:=λ{b o} Q=>⟨s1 _ _ (sH _ _ Q),old b o (sH _ _ Q),by rw[sH _ _ Q];exact fK _⟩
 have get:∀{G:Nat} {y:Sl},((ρ.set j _).set i (.ob k os.length))[G]?=some y->(G=i/\y=.ob k os.length)\/(G≠i/\G=j/\y=.st (os++[(k,fs)]))\/(G≠i/\G≠j/\ρ[G]?=some y):=λ{G y} h=>by
  rcases zr h with ⟨a,b⟩|⟨a,b⟩
  ·exact .inl ⟨a,b⟩
  ·rcases zr b with ⟨c,d⟩|⟨c,d⟩
   ·exact .inr (.inl ⟨a,c,d⟩)
   ·exact .inr (.inr ⟨a,c,d⟩)
 have sg:∀{G:Nat},G≠i->(σ.set i (some (V.ref x)))[G]?=σ[G]?:=λ{G} h=>aO (bx h);have own:∀{L:Nat} {ws:List T},((ρ.set j _).set i (.ob k os.length))[L]?=some (Sl.ow ws)->L≠i/\ρ[L]?=some (Sl.ow ws):=λ{L ws} hw=>by
  rcases get hw with ⟨_,z⟩|⟨_,_,z⟩|⟨a,_,z⟩
  ·cases z
  ·cases z
  ·exact⟨a,z⟩
 have ok':∀b,yx ρ σ b->yx _ _ b:=λb Q L ws hw=>by
  obtain⟨h1,h2⟩:=own hw;rw[sg h1];exact Q L ws h2
 obtain⟨O2,hO1,hO2⟩:∃O2:Addr->Option (Nat×Nat),(∀b,H0 b≠none->O2 b=O b)/\∀b m,H0 b=none->O' b=some m->O2 b=some (os.length,m):=by
  refine⟨λb=>if H0 b=none then (O' b).map λm=>(os.length,m)else O b,?_,?_⟩
  ·intro b Q;exact if_neg Q
  ·intro b m z1 z2;show (if H0 b=none then (O' b).map λm=>(os.length,m)else O b)=_
   rw[if_pos z1,z2];rfl
 have H0n:zy Y.H0 H0:=I.sH.trans sH;have asn:(as++[x])[os.length]?=some x:=by rw[az (by lia),hlen,dz];rfl
 have aso:∀{Z:Nat} {b:Addr},as[Z]?=some b->(as++[x])[Z]?=some b:=λ{Z b} h=>by
  rw[aD (aH.mp h).1];exact h
 refine⟨I.s0,λb o Q=>(p (I.sH b o Q)).1,s3,λb o Q=>?_,by rw[aX,aX,aX];exact I.len,λL u h=>?_,λL ws h=>?_,λL c h=>?_,as++[x],O2,s.pre.trans (List.prefix_append _ _),λG os' h=>?_,λi1 i2 U os2 q1 q2=>?_,λG k' Z h=>?_,λG k' fs0 h=>?_,λG os' h Z k' fs2 e=>?_⟩
 ·rw[(p (I.sH b o Q)).2.1];exact I.old b o Q
 ·rcases get h with ⟨_,z⟩|⟨_,_,z⟩|⟨a,_,z⟩
  ·cases z
  ·cases z
  ·obtain⟨v,P,N⟩:=I.vl L u z;exact⟨v,by rw[sg a];exact P,N.mono s2⟩
 ·obtain⟨a,z⟩:=own h;obtain⟨b,xs',P,N,y3,y4,y5,y6⟩:=I.ow L ws z;obtain⟨w1,w2,_⟩:=p y4;refine⟨b,xs',by rw[sg a];exact P,by rw[w2];exact N,y3,w1,y5.mono s2,λj2 J hj hw=>?_⟩
  obtain⟨q1,q2⟩:=own hw;rw[sg q1];exact y6 j2 J hj q2
 ·rcases get h with ⟨_,z⟩|⟨_,_,z⟩|⟨a,_,z⟩
  ·cases z
  ·cases z
  ·obtain⟨b,P,N⟩:=I.xc L c z;exact⟨b,by rw[sg a];exact P,s2 _ _ N⟩
 ·rcases get h with ⟨_,z⟩|⟨_,_,z⟩|⟨_,nj,z⟩
  ·cases z
  ·cases z;rw[ae,ae,hlen];rfl
  ·exact absurd (s.one G j os' os z h2) nj
 ·have one:∀i1 U,((ρ.set j _).set i _)[i1]?=some (Sl.st U)->i1=j:=λi1 U q1=>by
   rcases get q1 with ⟨_,z⟩|⟨_,e,_⟩|⟨_,nj,z⟩
   ·cases z
   ·exact e
   ·exact s.one i1 j U os z h2
  rw[one i1 U q1,one i2 os2 q2]
 ·rcases get h with ⟨e,z⟩|⟨_,_,z⟩|⟨a,_,z⟩
  ·cases z;subst e;refine⟨x,C,dx,us,asn,bn (by rw[←I.len];exact hi),c1,c2,c3,?_,c6.2⟩
   cases q:Y.H0 x with
   |none=>rfl
   |some o=>rw[H0n _ _ q]at c4;cases c4
  ·cases z
  ·obtain⟨b,C2,X,J,P,N,y3,y4,y5,y6⟩:=s.ob G k' Z z;obtain⟨w1,w2,_⟩:=p y4;exact⟨b,C2,X,J,aso P,by rw[sg a];exact N,y3,w1,by rw[w2];exact y5,y6⟩
 ·rcases get h with ⟨_,z⟩|⟨_,_,z⟩|⟨a,_,z⟩
  ·cases z
  ·cases z
  ·obtain⟨b,C2,X,J,P,N,y3,y4,y5⟩:=s.oc G k' _ z;exact⟨b,C2,X,J,by rw[sg a];exact P,N,y3,y4,y5.mono s2 (zy.refl _)⟩
 ·rcases get h with ⟨_,z⟩|⟨_,ej,z⟩|⟨_,nj,z⟩
  ·cases z
  ·cases z
   by_cases hn:Z<os.length
   ·rw[aD hn]at e;obtain⟨b,C2,X,J,P,N,y3,y4,y5,y6,y7,y8⟩:=s.st j os h2 Z k' fs2 e;obtain⟨w1,w2,w3⟩:=p y3;refine⟨b,C2,X,J,aso P,N,w1,by rw[w2];exact y4,y5,by rw[hO1 b w3];exact y6,y7,λm' f' d' z=>?_⟩
    obtain⟨v',x1,x2⟩:=y8 m' f' d' z;refine⟨v',x1,?_⟩;cases d' with
    |tv t=>exact Rep.mono s2 x2
    |tl ws=>
     obtain⟨l2,xs2,q1,q2,q3,q4,q5,q6,q7⟩:=x2;obtain⟨w1,w2,w3⟩:=p q4;exact⟨l2,xs2,q1,by rw[w2];exact q2,q3,w1,q5.mono s2,ok' l2 q6,by show O2 l2=_;rw[hO1 l2 w3];exact q7⟩
   ·rw[az (Nat.not_lt.mp hn)]at e;have hn':Z=os.length:=by
     cases q:Z-os.length with
     |zero=>lia
     |succ r=>rw[q]at e;cases e
    subst hn';rw[dz]at e;cases e;have h0x:Y.H0 x=none:=by
     cases q:Y.H0 x with
     |none=>rfl
     |some o=>rw[H0n _ _ q]at c4;cases c4
    refine⟨x,C,dx,us,asn,c1,c2,c3,h0x,hO2 x 0 c4 c5,c6,λm f d z=>?_⟩;obtain⟨v,P,N⟩:=c7 m f d z;refine⟨v,P,?_⟩;cases d with
    |tv t=>exact N
    |tl ts=>
     obtain⟨l,xs,p1,p2,p3,p4,p5,p6⟩:=N;refine⟨l,xs,p1,p2,?_,p4,p5,λL ws hw=>?_,hO2 l _ p3 p6⟩
     ·cases q:Y.H0 l with
      |none=>rfl
      |some o=>rw[H0n _ _ q]at p3;cases p3
     ·obtain⟨hj',w⟩:=own hw;obtain⟨b,xs',q1,q2,q3,q4,_⟩:=I.ow L ws w;rw[sg hj',q1];intro z;injection z with z;injection z with z;injection z with z;exact(p q4).2.2 (by rw[z];exact p3)
  ·exact absurd (s.one G j os' os z h2) nj
end
def nF (i j k nn:Nat)(g:List (Str×Fd)->List T->R (T×List (Str×Fd)))(ga:En->R (List T)):En->RS:=λρ=>(ga ρ).s λts=>if ts.length=nn/\i≠j/\i<ρ.length then (match ρ[j]? with
 |some (.st os)=>(match g [] ts with
  |.ok (.non,fs)=>.nx ((ρ.set j (.st (os++[(k,fs)]))).set i (.ob k os.length))
  |.ex c=>.ex c
  |_=>.bad)
 |_=>.bad)else .bad
section
variable {X:Cx}{Y:Fx}{a:Expr}{cl:Nat->Value}{k i j kk kj nn:Nat}{x c:Str}{pc p' pos pos':Pos}{C f:Addr}{fd:FuncData}{ps:List Str}{es:List Expr}{ga:En->R (List T)}
theorem Cr {g:List (Str×Fd)->List T->R (T×List (Str×Fd))}(hN:X.N.Nodup)(hi:X.N[i]?=some x)(hx:L2.Loc X.env.scope x)(hy:Y.cl=cl)(hc:cl k=.ref C)(M:L2.Mk X.K C f)(F:je X.prog X.w X.K X.mg X.base (lh X.prog X.w) kj f fd ps (nc cl k nn g))(hr:ZN kk X.A)(hj:kj+1<=kk)(gl:Gl X c)(mg:X.mg c=some (.ref C))(bd:L2.Binds X.K fd ps [])(hp:Zc (lh X.prog X.w) X Y.E)(ha:wx X Y (a::es) ga)
  (hd:(c==("__debug__":Str))=false:=by decide) (L:starEach (a::es) X.env=(false,eval a X.env)::starEach es X.env:=by exact zU rfl) (P:((backTo pos' (starEach es X.env)).any λx=>x.fst)=false:=by exact Zn rfl) (hs:swapsWith (.Call (.Name c pc) (a::es) [] pos') (some (.Name x p')) pos.line X.env=pure false:=by rfl)
  (hf:X.fn x=true\/X.env.scope.names.lookup x=some .local:=by first|exact .inl rfl|exact .inr rfl|assumption):jE X Y (.Assign [.Name x p'] (.Call (.Name c pc) (a::es) [] pos') pos) (nF i j k nn g ga):=.mk λρ=>
 PS.imp (wu hN hi hx (xQ M F (hr.mono hj) gl mg bd .nil hp (ha ρ) hd L P) hs hf) λD σ H ⟨B,I,q⟩=>jz I q λts vs G _ s1 r1 J l=>by
  subst hy;split at l
  ·rename_i hn;intro y u Z h2 h3;rw[aY];split at l
   ·rename_i os ej;have sd:zy G (iV G u (.own y)):=zy.new h2 _;have o:iV G u (.own y) y=none:=by rw[zA (bx h3)];exact Z
    refine⟨y,vs,ts,_,iV G u _,[],rfl,hn.1,J.sB.trans sd,zy.new o _,⟨C,u,[],λ_=>some 0,hc,zO,J.sB.free Z,o,rfl,⟨rfl,λ_ _=>rfl⟩,λm f d z=>by cases z⟩,r1,?_⟩
    revert l;cases g [] ts with
    |bad=>exact λl=>l
    |ex c2=>exact λl d U Q r=>l d U ((J.sH.trans sd).trans Q) r
    |ok p=>
     obtain⟨t,fs2⟩:=p;cases t with
     |non=>
      intro l v U B' Q r z3 z4 z5 z6;cases z6;exact⟨rfl,l _ U B' r (J.made ej hn.2.1 hn.2.2 sd Q r z3 z4 z5)⟩
     |_=>exact λl=>l.elim
   ·exact l.elim
  ·exact l.elim
end
def oj (cl:Nat->Value)(k p n:Nat)(g:List (Str×Fd)->List T->R T):Sp:=λvs H Q E=>∃(x C j:Addr) (us:List (Str×V)) (f i:List V) (a d:List T) (B:Hp) (fs:List (Str×Fd)),vs=f++ .ref x::i/\a.length=p/\(a++d).length=n/\cl k=.ref C/\H x=some (.ins C j us)/\mY us/\FsO B H us fs/\zy B H/\zJ B f a/\zJ B i d/\Po ⟨B,H,E,cl,[]⟩ rC B H (g fs (a++d)) Q
def ms (k m:Nat)(fs:List (Str×Fd))(a d:List T):En:=a.map Sl.vl++(.oc k fs::(d.map Sl.vl++av m .un))
theorem qq {k m:Nat}{fs:List (Str×Fd)}{a d:List T}{i:Nat}{s:Sl}(h:(ms k m fs a d)[i]?=some s):(i=a.length/\s=.oc k fs)\/(∃t,a[i]?=some t/\s=.vl t)\/(∃l t,i=a.length+1+l/\d[l]?=some t/\s=.vl t)\/s=.un:=by
 unfold ms at h
 by_cases j:i<a.length
 ·rw[aD (by simpa using j),aA,aw j]at h
  exact .inr (.inl ⟨_,aw j,(aJ h).symm⟩)
 ·obtain⟨q,o⟩:∃q,i=a.length+q:=⟨i-a.length,by lia⟩
  rw[az (by simpa using j),ah,o,eU]at h
  cases q with
  |zero=>exact .inl ⟨o,(aJ h).symm⟩
  |succ q=>
   rw[bP]at h
   by_cases f:q<d.length
   ·rw[aD (by simpa using f),aA,aw f]at h
    exact .inr (.inr (.inl ⟨q,_,by lia,aw f,(aJ h).symm⟩))
   ·rw[az (by simpa using f),aR]at h
    split at h
    ·exact .inr (.inr (.inr (aJ h).symm))
    ·cases h
theorem SI.startO {cl:Nat->Value}{k m:Nat}{B H:Hp}{x C G:Addr}{us:List (Str×V)}{fs:List (Str×Fd)}{E:XK}{d j:List V}{a f:List T}{N:List Str}(Z:N.length=(a++f).length+1+m)(y:zy B H)(hc:cl k=.ref C)(hx:H x=some (.ins C G us))(hi:mY us)(X:FsO B H us fs)(u:zJ B d a)(J:zJ B j f):
  SI ⟨B,H,E,cl,[]⟩ B (ms k m fs a f) (L2.start N (d++ .ref x::j)) H:=by
 have o:=u.length;have l2:=J.length;have l7:(L2.start N (d++ .ref x::j))[a.length]?=some (some (V.ref x)):=by
  unfold L2.start;rw[bF,aQ,az (by simp[o]),ah,o,dz];rfl
 refine⟨y,zy.refl _,y,λ_ _ _=>rfl,?_,λi t h=>?_,λi t h=>?_,λi t h=>?_,[],λ_=>none,cu _,λi os h=>?_,λi _ os _ h=>?_,λi L n h=>?_,λi L U h=>?_,λi os h=>?_⟩
 ·unfold ms L2.start;simp only[ae,ac,ah,aW]at Z⊢;lia
 ·rcases qq h with ⟨_,e⟩|⟨t',q,r⟩|⟨I,t',P,q,r⟩|e
  ·cases e
  ·cases r;obtain⟨v,l,p⟩:=u.at q;refine⟨v,?_,p⟩;have hi:=(aH.mp l).1;unfold L2.start;rw[bF,aQ,aD (by simpa using hi),aA,l];rfl
  ·cases r;obtain⟨v,l,p⟩:=J.at q;refine⟨v,?_,p⟩;have hi:=(aH.mp l).1;unfold L2.start;rw[P,bF,aQ,az (by simp[o];lia),ah,o,show a.length+1+I-a.length=I+1 by lia,aK,cB,bP,aD (by simpa using hi),aA,l];rfl
  ·cases e
 all_goals (rcases qq h with ⟨Q,e⟩|⟨_,_,e⟩|⟨_,_,_,_,e⟩|e<;>try (cases e;done))
 cases e;subst Q;exact⟨x,C,G,us,l7,hc,hx,hi,X⟩
def vY (Y:Fx)(B:Hp)(r:R (Bool×En))(i:Sg)(Q:Bool->Hp->Prop):Prop:=match r with
 |.ok (b,a)=>∀f d,zy B d->SI Y d a i f->Q b f
 |.ex c=>XP Y B c
 |.bad=>False
theorem vY.up {Y:Fx}{B d:Hp}{r:R (Bool×En)}{f:Sg}{Q:Bool->Hp->Prop}(s:zy B d)(h:vY Y B r f Q):vY Y d r f Q:=by
 unfold vY at h⊢;split
 ·exact λi j a=>h i j (s.trans a)
 ·exact XP.up s h
 ·exact h
structure XW (X:Cx) (Y:Fx) (e:Expr) (f:En->R (Bool×En)):Prop where
 mk::
 go:∀ρ,PT X e λσ H Q=>∃B,SI Y B ρ σ H/\vY Y B (f ρ) σ Q
theorem GC {l o:Type}{Y:Fx}{j:Hp->Hp->o->l->Prop}{f:En->R l}{k:l->R (Bool×En)}{ρ:En}{B:Hp}{i:Sg}{H:Hp}{Q:Bool->Hp->Prop}{K:o->Hp->Prop}(I:SI Y B ρ i H)(h:vY Y B ((f ρ).bind k) i Q)
  (n:∀a b d,f ρ=.ok a->zy H d->j (zS B H d) d b a->SI Y (zS B H d) ρ i d->vY Y (zS B H d) (k a) i Q->K b d):tS Y j f ρ i H K:=by
 refine⟨B,I,?_⟩;cases e:f ρ with
 |bad=>rw[e]at h;exact h
 |ex c=>rw[e]at h;exact h
 |ok a=>
  rw[e]at h;exact λb d s r=>n a b d e s r (I.grow s) (vY.up (zS.ge I.sB s) h)
section
variable {X:Cx}{Y:Fx}{a b c:Expr}{pos:Pos}{sts sts':List Stmt}
def XX (g:T->T->R Bool)(f:En->R (T×En))(d:En->R T):En->R (Bool×En):=λρ=>(f ρ).bind λp=>(d p.2).bind λt'=>(g p.1 t').bind λb=>.ok (b,p.2)
theorem GD {l:CmpOp}{g:T->T->R Bool}{j:En->R (T×En)}{k:En->R T}(nx:Nx g)(y:lc X (compareOp l) (wz g))(U:uJ X Y a j)(L:jC X Y b k)(Z:behindInMarks l b=false):XW X Y (.Compare a [l] [b] pos) (XX g j k):=.mk λρ=>
 PT.imp (Y9 (tb:=λi H Q=>∃d,tS Y rB k d i H Q) y (U.go ρ) (λo s i H Q I ⟨d,q⟩=>L d _ s i H Q I q) Z) λi H Q ⟨B,I,q⟩=>by
  refine⟨B,I,?_⟩;unfold XX at q;revert q;cases j ρ with
  |bad=>exact λq=>q
  |ex c=>exact λq=>q
  |ok p=>
   obtain⟨t,d⟩:=p;intro q v H1 B1 J r u;have q:=vY.up J q;refine⟨d,GC r q λt' v' N _ G r2 P f=>?_⟩;cases e:g t t' with
   |bad=>rw[e]at f;exact f.elim
   |ex c=>exact absurd e (nx _ _ _)
   |ok b=>
    rw[e]at f;exact⟨t,t',b,(u.mono r.sB).mono G,r2,e,b,rfl,f N _ (zy.refl _) P⟩
def nP (ga:En->R (Bool×En))(f g:En->RS):En->RS:=λρ=>(ga ρ).s λp=>if p.1=true then f p.2 else g p.2
theorem Hi {ga:En->R (Bool×En)}{f g:En->RS}(r:XW X Y c ga)(o:wm X Y sts f)(v:wm X Y sts' g):jE X Y (.If c sts sts' pos) (nP ga f g):=.mk λρ=>
 PS.imp (KA (t:=λD i H=>∃d,m5 Y f d D i H) (u:=λD i H=>∃d,m5 Y g d D i H) (r.go ρ) (λj s i H D I ⟨d,q⟩=>o d _ s i H D I q) (λj s i H D I ⟨d,q⟩=>v d _ s i H D I q)) λD i H ⟨B,I,q⟩=>by
  refine⟨B,I,?_⟩;unfold nP at q;revert q;cases ga ρ with
  |bad=>exact λq=>q
  |ex c=>exact λq=>q
  |ok p=>
   obtain⟨b,d⟩:=p;intro q y k s l;cases b with
   |true=>exact⟨d,k,l,PoS.up s q⟩
   |false=>exact⟨d,k,l,PoS.up s q⟩
end
section
variable {X:Cx}{Y:Fx}{a:Expr}{fa:En->R T}{p pos:Pos}
noncomputable def tH:T->R T
 |.lst xs=>.ok (.lst xs)
 |.tup xs=>.ok (.lst xs)
 |_=>.bad
theorem Et (o:Gl X "list")(j:X.mg "list"=none)(u:Snd X Y a fa)(k:lu X a:=by exact li rfl):Snd X Y (.Call (.Name "list" p) [a] [] pos) (gx tH fa):=
 WW Jf (λv t B H Q r f q=>by
  cases r with
  |@lst l xs ts h r=>exact⟨l,xs,rfl,.inl (SqL.of (f _ _ h)),λi d=>K6 f q rfl r d⟩
  |@tup l xs ts h r=>exact⟨l,xs,rfl,.inr (SqT.of (f _ _ h)),λi d=>K6 f q rfl r d⟩
  |_=>exact q.elim) o j (PyProof.Rows.Boot.«list») u k
end
theorem SI.st0 {Y:Fx}{B:Hp}{ρ:En}{l:Sg}{H:Hp}(I:SI Y B ρ l H)(G:Y.as=[])(d:∀(i:Nat) (s:Sl),s.isO=true->ρ[i]?≠some s)(j:Nat):SI Y B (ρ.set j (.st [])) l H where
 s0:=I.s0
 sH:=I.sH
 sB:=I.sB
 old:=I.old
 len:=by rw[aX];exact I.len
 vl:=λi t h=>by
  rcases zr h with ⟨_,z⟩|⟨_,z⟩
  ·cases z
  ·exact I.vl i t z
 ow:=λi ts h=>by
  rcases zr h with ⟨_,z⟩|⟨_,z⟩
  ·cases z
  ·obtain⟨a,xs,o,J,P,r,v,u⟩:=I.ow i ts z;refine⟨a,xs,o,J,P,r,v,λL us y q=>?_⟩;rcases zr q with ⟨_,z⟩|⟨_,z⟩
   ·cases z
   ·exact u L us y z
 xc:=λi t h=>by
  rcases zr h with ⟨_,z⟩|⟨_,z⟩
  ·cases z
  ·exact I.xc i t z
 st:=by
  have one:∀i os,(ρ.set j (.st []))[i]?=some (Sl.st os)->i=j/\os=[]:=λi os h=>by
   rcases zr h with ⟨e,z⟩|⟨_,z⟩
   ·cases z;exact⟨e,rfl⟩
   ·exact(d i _ rfl z).elim
  refine⟨[],λ_=>none,by rw[G];exact cu _,λi os h=>by rw[(one i os h).2];rfl,λi N os f h h'=>by rw[(one i os h).1,(one N f h').1],λi k n h=>?_,λi k p h=>?_,λi os h n k fs e=>?_⟩
  ·rcases zr h with ⟨_,z⟩|⟨_,z⟩
   ·cases z
   ·exact(d i _ rfl z).elim
  ·rcases zr h with ⟨_,z⟩|⟨_,z⟩
   ·cases z
   ·exact(d i _ rfl z).elim
  ·rw[(one i os h).2]at e;simp at e
def mS (n:Nat)(ts:List T):En:=(iW n ts).set (n-1) (.st [])
theorem SI.startS {Y:Fx}{N:List Str}{vs:List V}{ts:List T}(s:zy Y.B0 Y.H0)(r:zJ Y.B0 vs ts)(d:Y.as=[]):SI Y Y.B0 (mS N.length ts) (L2.start N vs) Y.H0:=
 (SI.start s r).st0 d (λi s a h=>uO (λt z=>by rw[z]at a;cases a) (λz=>by rw[z]at a;cases a) h) _
section
variable {P:Program}{w:World}{K:ag}{mg:Str->Option Value}{base:Heap}
theorem XY {cl:Nat->Value}{x d:Str}{st:Stmt}{f:Addr}{p:FuncData}{N j:List Str}{k n:Nat}{o:En->RS}{g:List T->R T}(F:Fun K x d st f p)(S:j5 N j (zx st))(hn:n=j.length)
  (y:∀(cdv:Value) (A:Around) (outer:List Env) (s:Shared) (H:Hp) (E:XK) (Y:Fx),Y.cl=cl->Y.E=E->ZN k (A.deeper (envOfC d (zx st) s.1.1.size f cdv))->
   wm (WN (lh P w) P w K mg base N d (zx st) f cdv A outer s H E) Y (zP st) o)
  (u:∀ts,ts.length=n->g ts=zw (o (mS N.length ts))):je P w K mg base (lh P w) (k+1) f p j (spP cl n g):=by
 subst hn;refine Fun.okX F S spP.len λcdv A outer s H vs Q E hr ⟨B,ts,U,G,r,q⟩=>?_;refine⟨_,y cdv A _ s H E ⟨B,H,E,cl,[]⟩ rfl rfl hr _,B,SI.startS G r rfl,?_⟩;rw[u ts U]at q;revert q;cases o _ with
 |rt t=>exact λq v i s r=>q v i s r
 |rf t=>exact λq a xs i I L n e r _ l=>q _ i L (.lst (by rw[Zd n];exact e) (r.mono l))
 |nx ρ=>exact λq σ' i I X J=>q _ i J.sH .non
 |bk ρ=>exact λq=>q.elim
 |ct ρ=>exact λq=>q.elim
 |ex c=>exact λq=>q
 |bad=>exact λq=>q
theorem x9 {cl:Nat->Value}{x d:Str}{st:Stmt}{f:Addr}{Z:FuncData}{N G:List Str}{k p n m kr:Nat}{X:En->RS}(F:Fun K x d st f Z)(S:j5 N G (zx st))(hn:G.length=n+1)(hN:N.length=n+1+m)
  (hb:∀(cdv:Value) (A:Around) (outer:List Env) (s:Shared) (H:Hp) (E:XK) (Y:Fx),Y.cl=cl->Y.E=E->ZN kr (A.deeper (envOfC d (zx st) s.1.1.size f cdv))->
   wm (WN (lh P w) P w K mg base N d (zx st) f cdv A outer s H E) Y (zP st) X):je P w K mg base (lh P w) (kr+1) f Z G (oj cl k p n λfs ts=>zw (X (ms k m fs (ts.take p) (ts.drop p)))):=by
 refine Fun.okX F S (λvs H Q E z=>?_) λcdv A outer s H vs Q E hr z=>?_
 ·obtain⟨x,C,dx,us,U,I,j,i,B,fs,e,L,o,_,_,_,_,_,y,J,_⟩:=z;rw[e,ae,ac,y.length,J.length,hn,←o,ae];rfl
 obtain⟨x,C,dx,us,U,I,j,i,B,fs,e,L,o,hc,hx,hi,hf,sB,y,J,q⟩:=z;subst e;have e1:(j++i).take p=j:=by rw[←L];simp
 have e2:(j++i).drop p=i:=by rw[←L];simp
 refine⟨_,hb cdv A _ s H E _ rfl rfl hr _,B,SI.startO (by rw[hN,o]) sB hc hx hi hf y J,?_⟩
 have q:Po _ rC B H (zw _) Q:=q;rw[e1,e2]at q;revert q;cases X _ with
 |rt t=>exact λq v u s r=>q v u s r
 |rf t=>exact λq a xs u B' s0 n e r _ l=>q _ u s0 (.lst (by rw[Zd n];exact e) (r.mono l))
 |nx ρ=>exact λq σ' u B' s' I'=>q _ u I'.sH .non
 |bk ρ=>exact λq=>q.elim
 |ct ρ=>exact λq=>q.elim
 |ex c=>exact λq=>q
 |bad=>exact λq=>q
end
section
variable {X:Cx}{Y:Fx}{a b:Expr}{cl:Nat->Value}{k i j kk kj nn:Nat}{x m:Str}{px ap p pos p':Pos}{C f:Addr}{fd:FuncData}{ps:List Str}{es:List Expr}{ga:En->R (List T)}{pl:Sem Bool}
def obL (k i j:Nat)(ρ:En):Option (List (Str×Fd)):=match ρ[i]? with
 |some (.oc d fs)=>if d=k then some fs else none
 |_=>(lI k i j ρ).map λx=>x.2.1
theorem SI.obL {B:Hp}{ρ:En}{P:Sg}{H:Hp}(I:SI Y B ρ P H){fs:List (Str×Fd)}(h:obL k i j ρ=some fs):∃a C o vs,P[i]?=some (some (V.ref a))/\Y.cl k=.ref C/\H a=some (.ins C o vs)/\mY vs/\FsO B H vs fs:=by
 unfold PV.obL at h;obtain⟨as,O,s⟩:=I.st;split at h
 ·rename_i k' u e;split at h
  ·rename_i hk;subst hk;cases h;obtain⟨a,C,o,vs,q,r,y,G,J⟩:=s.oc i _ _ e;exact⟨a,C,o,vs,q,r,I.sH _ _ y,G,J.mono (zy.refl _) I.sH⟩
  ·cases h
 ·cases e:lI k i j ρ with
  |none=>rw[e]at h;cases h
  |some x=>
   obtain⟨n,u,os⟩:=x;rw[e]at h;cases h;obtain⟨U,h2,h3⟩:=wE e;obtain⟨a,C,o,vs,q,r,y,G,J,e6,e7,e8⟩:=s.st j os h2 n k _ h3;obtain⟨a',C',dx',vs',L,Q,_⟩:=s.ob i k n U;rw[q]at L;cases L;refine⟨a,C,o,vs,Q,r,y,e7.2,λm f d z=>?_⟩;obtain⟨v,z1,N⟩:=e8 m f d z;refine⟨v,z1,?_⟩;cases d with
   |tv t=>exact N
   |tl ts=>obtain⟨l,xs,p1,_,_,p4,Z,_⟩:=N;exact⟨l,xs,p1,p4,Z⟩
def AA (k i j:Nat)(f:Str):En->R T:=λρ=>match obL k i j ρ with
 |some fs=>(match fs.lookup f with
  |some (.tv t)=>.ok t
  |_=>.bad)
 |none=>.bad
theorem GE (U:PE X (.Name x px) (Jp i))(G:Y.cl k=.ref C)(c:L2.Cls X.K C)(n:L2.NoAttr X.K C m)(u:attributeBase (.Name x px) m X.env (eval (.Name x px) X.env)=eval (.Name x px) X.env:=by rfl):Snd X Y (.Attribute (.Name x px) m pos) (AA k i j m):=.mk λρ=>PE.imp (Je U u) λσ H Q ⟨B,I,q⟩=>by
 unfold AA at q;split at q
 ·rename_i fs e;split at q
  ·rename_i t P;obtain⟨a,C',L,vs,r,o,e3,e4,d⟩:=I.obL e;rw[G]at o;cases o;obtain⟨y,v,z1,N,Z⟩:=W8 (λm g e he=>let ⟨v,z,_⟩:=d m g e he;⟨v,z⟩) P;obtain⟨v',l,J⟩:=d y _ _ z1;rw[N]at l;cases l;exact⟨.ref a,r,a,C,L,vs,v,rfl,e3,c,n,Z,lq I.sB q rfl J⟩
  ·exact q.elim
 ·exact q.elim
theorem A3 {B H:Hp}{I0:Hp}{r:R T}{Q:VK}(s:zy Y.H0 H)(q:Po Y rC B H r Q):Po ⟨B,H,Y.E,Y.cl,[]⟩ rC B H r Q:=by
 cases r with
 |bad=>exact q
 |ex c=>exact λd l u o=>q d l (s.trans u) o
 |ok t=>exact q
def ZZ (k i j nn:Nat)(g:List (Str×Fd)->List T->R T)(ga:En->R (List T)):En->R T:=λρ=>match obL k i j ρ with
 |some fs=>(ga ρ).bind λts=>if ts.length=nn then g fs ts else .bad
 |none=>.bad
theorem z3t {g:List (Str×Fd)->List T->R T}(hv:PE X (.Name x px) (Jp i))(hy:Y.cl=cl)(G:cl k=.ref C)(c:L2.Cls X.K C)(hm:L2.Meth X.K C m f)(F:je X.prog X.w X.K X.mg X.base (lh X.prog X.w) kj f fd ps (oj cl k 0 nn g))(hr:ZN kk X.A)(hj:kj<=kk)(bd:L2.Binds X.K fd ps [])(hp:Zc (lh X.prog X.w) X Y.E)(ha:wx X Y (a::es) ga)(v:m∉X1:=by decide)
  (l:starEach (a::es) X.env=(false,eval a X.env)::starEach es X.env:=by exact zU rfl) (o:((backTo pos (starEach es X.env)).any λx=>x.fst)=false:=by exact Zn rfl)
  (U:eval (.Call (.Attribute (.Name x px) m ap) (a::es) [] pos) X.env=(do
   let ov ←eval (.Name x px) X.env
   standAt ap.atName
   let (f,first) ←holding [ov] (getMethod ov m pl)
   callWith pos f first (backTo pos (starEach (a::es) X.env)) (backToKw pos (keywordEach [] X.env))):=by rfl):
  Snd X Y (.Call (.Attribute (.Name x px) m ap) (a::es) [] pos) (ZZ k i j nn g ga):=.mk λρ=>PE.imp (Yi hv c hm F (hr.mono hj) bd .nil hp (ha ρ) l o U) λσ H Q ⟨B,I,q⟩=>by
 unfold ZZ at q;split at q
 ·rename_i fs e;obtain⟨u,C',J,vs,e1,L,P,y,e5⟩:=I.obL e;subst hy;rw[G]at L;cases L;refine⟨.ref u,e1,u,J,vs,rfl,P,y m v,?_⟩;refine step I q λts us H1 _ d Z N r=>?_;split at r
  ·rename_i hn;rw[aY];exact⟨u,C,J,vs,[],us,[],ts,_,fs,rfl,rfl,hn,G,d _ _ P,y,e5.mono (zS.ge I.sB d) d,N.sB,.nil,Z,A3 (I0:=H) N.sH r⟩
  ·exact r.elim
 ·exact q.elim
theorem vZ {g:List (Str×Fd)->List T->R T}(P:PE X (.Name x px) (Jp i))(hy:Y.cl=cl)(y:cl k=.ref C)(c:L2.Cls X.K C)(N:L2.Meth X.K C m f)(F:je X.prog X.w X.K X.mg X.base (lh X.prog X.w) kj f fd ps (oj cl k 0 0 g))(hr:ZN kk X.A)(Z:kj<=kk)(L:L2.Binds X.K fd ps [])(hp:Zc (lh X.prog X.w) X Y.E)(l:m∉X1:=by decide)
  (G:eval (.Call (.Attribute (.Name x px) m ap) [] [] pos) X.env=(do
   let ov ←eval (.Name x px) X.env
   standAt ap.atName
   let (f,first) ←holding [ov] (getMethod ov m pl)
   callWith pos f first (backTo pos (starEach [] X.env)) (backToKw pos (keywordEach [] X.env))):=by rfl):
  Snd X Y (.Call (.Attribute (.Name x px) m ap) [] [] pos) (ZZ k i j 0 g zj):=.mk λρ=>PE.imp (Uh P c N F (hr.mono Z) L .nil hp G) λσ H Q ⟨B,I,q⟩=>by
 unfold ZZ at q;split at q
 ·rename_i fs e;obtain⟨d,C',o,vs,J,u,v,r,U⟩:=I.obL e;subst hy;rw[y]at u;cases u;exact⟨.ref d,J,d,o,vs,rfl,v,r m l,d,C,o,vs,[],[],[],[],_,fs,rfl,rfl,rfl,y,v,r,U,I.sB,.nil,.nil,A3 (I0:=H) I.sH q⟩
 ·exact q.elim
def V0 (k i j nn:Nat)(g:List (Str×Fd)->List T->R T)(ga:En->R (List T)):En->R T:=ZZ k i j nn g ga
theorem XZ {g:List (Str×Fd)->List T->R T}(hv:PE X (.Name x px) (Jp i))(hy:Y.cl=cl)(F:je X.prog X.w X.K X.mg X.base (lh X.prog X.w) kj f fd ps (oj cl k 0 nn g))(hr:ZN kk X.A)(P:kj<=kk)(U:Gl X m)(mg:X.mg m=some (.ref f))(kp:bE X.K (.ref f)=true)(bd:L2.Binds X.K fd ps [])(hp:Zc (lh X.prog X.w) X Y.E)(Z:wx X Y es ga)
  (hd:(m==("__debug__":Str))=false:=by decide) (d:starEach (.Name x px::es) X.env=(false,eval (.Name x px) X.env)::starEach es X.env:=by exact zU rfl) (o:((backTo pos (starEach es X.env)).any λx=>x.fst)=false:=by exact Zn rfl):
  Snd X Y (.Call (.Name m p) (.Name x px::es) [] pos) (V0 k i j nn g ga):=.mk λρ=>PE.imp (wQ F (hr.mono P) U mg kp bd .nil hp (zF hv (Z ρ) d) hd d o) λσ H Q ⟨B,I,q⟩=>by
 unfold V0 ZZ at q;split at q
 ·rename_i fs e;obtain⟨u,G,dx,vs,J,e2,e3,L,N⟩:=I.obL e;subst hy;refine⟨.ref u,J,?_⟩;refine step I q λts us H1 _ l y v r=>?_;split at r
  ·rename_i hn;rw[aY];exact⟨u,G,dx,vs,[],us,[],ts,_,fs,rfl,rfl,hn,e2,l _ _ e3,L,N.mono (zS.ge I.sB l) l,v.sB,.nil,y,A3 (I0:=H) v.sH r⟩
  ·exact r.elim
 ·exact q.elim
def QV (k i j nn:Nat)(g:List (Str×Fd)->List T->R (T×List (Str×Fd)))(ga:En->R (List T)):En->R (T×En):=λρ=>match lI k i j ρ with
 |some (n,fs,os)=>(ga ρ).bind λts=>if ts.length=nn then (g fs ts).bind λp=>.ok (p.1,ρ.set j (.st (os.set n (k,p.2))))else .bad
 |none=>.bad
theorem GF {g:List (Str×Fd)->List T->R (T×List (Str×Fd))}(hv:PE X (.Name x px) (Jp i))(hy:Y.cl=cl)(F:je X.prog X.w X.K X.mg X.base (lh X.prog X.w) kj f fd ps (nc cl k nn g))(hr:ZN kk X.A)(hj:kj<=kk)(gl:Gl X m)(mg:X.mg m=some (.ref f))(kp:bE X.K (.ref f)=true)(bd:L2.Binds X.K fd ps [])(hp:Zc (lh X.prog X.w) X Y.E)(ha:wx X Y es ga)
  (hd:(m==("__debug__":Str))=false:=by decide) (o:starEach (.Name x px::es) X.env=(false,eval (.Name x px) X.env)::starEach es X.env:=by exact zU rfl) (y:((backTo pos (starEach es X.env)).any λx=>x.fst)=false:=by exact Zn rfl):
  uJ X Y (.Call (.Name m p) (.Name x px::es) [] pos) (QV k i j nn g ga):=.mk λρ=>PE.imp (wQ F (hr.mono hj) gl mg kp bd .nil hp (zF hv (ha ρ) o) hd o y) λσ H Q ⟨B,I,q⟩=>by
 unfold QV at q;split at q
 ·rename_i n fs os e;obtain⟨N,C',dx,vs,P,e2,e3,e4,al⟩:=I.obA e;subst hy;refine⟨.ref N,P,?_⟩;refine XU I q λts us H1 _ s1 U I1 l=>?_;split at l
  ·rename_i hn;rw[aY];obtain⟨H0,Z,b2,b3,b4,b5⟩:=I1.back e P;refine⟨N,us,ts,_,H0,fs,rfl,hn,Z,b2,b3,U,?_⟩;revert l;cases g fs ts with
   |bad=>exact λl=>l
   |ex c2=>exact λl d u J r=>l d u (b4.trans J) r
   |ok p=>
    obtain⟨t,G⟩:=p;exact λl v u L J r z3 z4 z5 z6=>l v u L r (b5 u L G J r z3 z4 z5) z6
  ·exact l.elim
 ·exact q.elim
def GG (f:En->R (T×En)):En->RS:=λρ=>(f ρ).s λp=>.rt p.1
theorem GH {f:En->R (T×En)}(h:uJ X Y a f):jE X Y (.Return (some a) pos) (GG f):=.mk λρ=>PS.imp (WH (h.go ρ)) λD o H ⟨B,I,q⟩=>⟨B,I,by
 unfold GG at q;revert q;cases f ρ with
 |bad=>exact λq=>q
 |ex c=>exact λq=>q
 |ok p=>
  intro q v l u s d r;exact q v l d.sH (r.mono (by have:=YE d.sH d.old (zy.refl l) d.sB;rw[zS.self _ _ d.sB]at this;exact this))⟩
end
end PV
namespace PV
open PySem PySem.Spec PyProof.Rows L2
structure Fn (K:ag) (mg:Str->Option Value) (x:Str) (st:Stmt) (ps:List Str) (f:Addr) (fd:FuncData):Prop where
 F:Fun K x x st f fd
 b:L2.Binds K fd ps []
 m:mg x=some (.ref f)
structure nT (K:ag) (x qual:Str) (st:Stmt) (ps:List Str) (f:Addr) (fd:FuncData) (C:Addr):Prop where
 F:Fun K x qual st f fd
 b:L2.Binds K fd ps []
 m:L2.Meth K C x f
noncomputable abbrev FE (K:ag)(mg:Str->Option Value)(x:Str)(st:Stmt)(ps:List Str):Prop:=∃f fd,Fn K mg x st ps f fd
noncomputable abbrev FM (K:ag)(cl:Nat->Value)(c:Nat)(x:Str)(st:Stmt)(ps:List Str):Prop:=∃C qual f fd,cl c=.ref C/\nT K x qual st ps f fd C
noncomputable abbrev FI (K:ag)(mg:Str->Option Value)(cl:Nat->Value)(c:Nat)(y:Str)(st:Stmt)(ps:List Str):Prop:=∃C qual f fd,cl c=.ref C/\mg y=some (.ref C)/\L2.Mk K C f/\nT K "__init__" qual st ps f fd C
structure Zz where
 P:Program
 w:World
 K:ag
 mg:Str->Option Value
 base:Heap
 cl:Nat->Value
structure QQ (x:Str) (CX:l8) (k:Nat) (sp:Sp) (Z:Zz):Prop where
 ex:∃st ps f fd,Fn Z.K Z.mg x st ps f fd/\je Z.P Z.w Z.K Z.mg Z.base CX k f fd ps sp
structure CA (c:Nat) (as:List Str) (K:ag) (cl:Nat->Value):Prop where
 ex:∃C,cl c=.ref C/\L2.Cls K C/\∀f,as.contains f=true->L2.NoAttr K C f
structure QM (x:Str) (c k:Nat) (sp:Sp) (Z:Zz):Prop where
 ex:∃C qual st ps f fd,Z.cl c=.ref C/\L2.Cls Z.K C/\nT Z.K x qual st ps f fd C/\je Z.P Z.w Z.K Z.mg Z.base (lh Z.P Z.w) k f fd ps sp
structure QI (y:Str) (c k:Nat) (sp:Sp) (Z:Zz):Prop where
 ex:∃C qual st ps f fd,Z.cl c=.ref C/\Z.mg y=some (.ref C)/\L2.Mk Z.K C f/\nT Z.K "__init__" qual st ps f fd C/\je Z.P Z.w Z.K Z.mg Z.base (lh Z.P Z.w) k f fd ps sp
abbrev qP (Z:Zz)(x:Str)(n k:Nat)(c:List T->R T):Prop:=QQ x m7 k (spP Z.cl n c) Z
abbrev qM (Z:Zz)(c:Nat)(x:Str)(n k:Nat)(g:List (Str×Fd)->List T->R (T×List (Str×Fd))):Prop:=QM x c k (nc Z.cl c n g) Z
abbrev qO (Z:Zz)(c:Nat)(x:Str)(n k:Nat)(g:List (Str×Fd)->List T->R T):Prop:=QM x c k (oj Z.cl c 0 n g) Z
abbrev qI (Z:Zz)(c:Nat)(x:Str)(n k:Nat)(g:List (Str×Fd)->List T->R (T×List (Str×Fd))):Prop:=QI x c k (nc Z.cl c n g) Z
abbrev re (Z:Zz)(c:Nat)(x:Str)(n k:Nat)(g:List (Str×Fd)->List T->R (T×List (Str×Fd))):Prop:=QQ x (lh Z.P Z.w) k (nc Z.cl c n g) Z
abbrev sI (Z:Zz)(c p:Nat)(x:Str)(n k:Nat)(g:List (Str×Fd)->List T->R T):Prop:=QQ x (lh Z.P Z.w) k (oj Z.cl c p n g) Z
def oP (m:Nat)(b:En->RS):List T->R T:=λts=>zw (b (iW m ts))
def oS (m:Nat)(b:En->RS):List T->R T:=λts=>zw (b (mS m ts))
def oM (k j:Nat)(b:En->R (T×En)):List (Str×Fd)->List T->R (T×List (Str×Fd)):=λfs ts=>wD k j (b (mr k j fs ts))
def oO (k m p:Nat)(b:En->RS):List (Str×Fd)->List T->R T:=λfs ts=>zw (b (ms k m fs (ts.take p) (ts.drop p)))
section
variable {P:Program}{w:World}{K:ag}{mg:Str->Option Value}{base:Heap}{cl:Nat->Value}{x:Str}{CX:l8}{k c:Nat}{sp:Sp}{G:Prop}{as:List Str}
theorem QQ.go (O:QQ x CX k sp ⟨P,w,K,mg,base,cl⟩)(h:∀st d f a,Fn K mg x st d f a->je P w K mg base CX k f a d sp->G):G:=by
 obtain⟨⟨st,d,f,a,C,F⟩⟩:=O;exact h st d f a C F
theorem QM.go (O:QM x c k sp ⟨P,w,K,mg,base,cl⟩)(h:∀C q st d f a,cl c=.ref C->L2.Cls K C->nT K x q st d f a C->je P w K mg base (lh P w) k f a d sp->G):G:=by
 obtain⟨⟨C,q,st,d,f,a,e,c,M,F⟩⟩:=O;exact h C q st d f a e c M F
theorem QI.go (O:QI x c k sp ⟨P,w,K,mg,base,cl⟩)(h:∀C q st d f a,cl c=.ref C->mg x=some (.ref C)->L2.Mk K C f->nT K "__init__" q st d f a C->je P w K mg base (lh P w) k f a d sp->G):G:=by
 obtain⟨⟨C,q,st,d,f,a,e,g,M,O,F⟩⟩:=O;exact h C q st d f a e g M O F
theorem CA.go (A:CA c as K cl)(h:∀C,cl c=.ref C->L2.Cls K C->(∀f,as.contains f=true->L2.NoAttr K C f)->G):G:=by
 obtain⟨⟨C,e,c,n⟩⟩:=A;exact h C e c n
end
section
variable {Z:Zz}{x y:Str}{st:Stmt}{ps:List Str}{c k n m j:Nat}{fb:En->RS}{fm:En->R (T×En)}
abbrev Sc (N ps:List Str)(st:Stmt):Prop:=j5 N ps (zx st)
theorem i3 (C:FE Z.K Z.mg x st ps)(N:List Str) (i:∀(f:Addr) (cdv:Value) (A:Around) (outer:List Env) (s:Shared) (H:Hp) (E:XK) (Y:Fx),Y.cl=Z.cl->True->ZN k (A.deeper (envOfC x (zx st) s.1.1.size f cdv))->N.Nodup->True->
   wm (WN m7 Z.P Z.w Z.K Z.mg Z.base N x (zx st) f cdv A outer s H E).nox Y (zP st) fb)
  (S:Sc N ps st:=by refine⟨rfl,rfl,rfl,?_,rfl,?_,?_⟩<;>decide+kernel) (hn:n=ps.length:=by rfl) (d:m=N.length:=by rfl):qP Z x n (k+1) (oP m fb):=by
 obtain⟨f,a,C⟩:=C;subst d;exact⟨_,_,f,a,C,HL C.F S hn (λcdv A outer s H E Y hy hr=>i f cdv A outer s H E Y hy trivial hr S.nd trivial) λ_ _=>rfl⟩
abbrev BM (Z:Zz)(k:Nat)(qual:Str)(st:Stmt)(N:List Str)(G:Cx->Fx->Prop):Prop:=∀(f:Addr) (cdv:Value) (A:Around) (outer:List Env) (s:Shared) (H:Hp) (E:XK) (Y:Fx),Y.cl=Z.cl->Y.E=E->ZN k (A.deeper (envOfC qual (zx st) s.1.1.size f cdv))->N.Nodup->Zc (lh Z.P Z.w) (WN (lh Z.P Z.w) Z.P Z.w Z.K Z.mg Z.base N qual (zx st) f cdv A outer s H E) Y.E->
   G (WN (lh Z.P Z.w) Z.P Z.w Z.K Z.mg Z.base N qual (zx st) f cdv A outer s H E) Y
variable {as:List Str}
theorem o9 (ca:CA c as Z.K Z.cl)(C:FM Z.K Z.cl c x st ps)(N:List Str)(l:∀q,BM Z k q st N λX Y=>vX X Y (zP st) fm)
  (S:Sc N ps st:=by refine⟨rfl,rfl,rfl,?_,rfl,?_,?_⟩<;>decide+kernel) (hn:ps.length=n+1:=by rfl) (i:N.length=j+1:=by rfl) (o:n+1<=j:=by decide):qM Z c x n (k+1) (oM c j fm):=by
 obtain⟨C,q,f,d,e,M⟩:=C;obtain⟨p,a,cl,_⟩:=ca;rw[e]at a;cases a;exact⟨C,q,_,_,f,d,e,cl,M,qm M.F S hn i o λcdv A outer s H E Y hy hE hr=>l q f cdv A outer s H E Y hy hE hr S.nd (hE▸uN)⟩
theorem pG (ca:CA c as Z.K Z.cl)(C:FM Z.K Z.cl c x st ps)(N:List Str)(l:∀q,BM Z k q st N λX Y=>wm X Y (zP st) fb)
  (S:Sc N ps st:=by refine⟨rfl,rfl,rfl,?_,rfl,?_,?_⟩<;>decide+kernel) (hn:ps.length=n+1:=by rfl) (i:N.length=n+1+m:=by rfl):qO Z c x n (k+1) (oO c m 0 fb):=by
 obtain⟨C,q,f,d,e,M⟩:=C;obtain⟨o,a,cl,_⟩:=ca;rw[e]at a;cases a;exact⟨C,q,_,_,f,d,e,cl,M,x9 M.F S hn i λcdv A outer s H E Y hy hE hr=>l q f cdv A outer s H E Y hy hE hr S.nd (hE▸uN)⟩
theorem FW (C:FI Z.K Z.mg Z.cl c y st ps)(N:List Str)(i:∀q,BM Z k q st N λX Y=>vX X Y (zP st) fm)
  (S:Sc N ps st:=by refine⟨rfl,rfl,rfl,?_,rfl,?_,?_⟩<;>decide+kernel) (hn:ps.length=n+1:=by rfl) (d:N.length=j+1:=by rfl) (l:n+1<=j:=by decide):qI Z c y n (k+1) (oM c j fm):=by
 obtain⟨C,q,f,a,e,g,M,O⟩:=C;exact⟨C,q,_,_,f,a,e,g,M,O,qm O.F S hn d l λcdv A outer s H E Y hy hE hr=>i q f cdv A outer s H E Y hy hE hr S.nd (hE▸uN)⟩
theorem BR (C:FE Z.K Z.mg x st ps)(N:List Str)(i:BM Z k x st N λX Y=>vX X Y (zP st) fm)
  (S:Sc N ps st:=by refine⟨rfl,rfl,rfl,?_,rfl,?_,?_⟩<;>decide+kernel) (hn:ps.length=n+1:=by rfl) (d:N.length=j+1:=by rfl) (l:n+1<=j:=by decide):re Z c x n (k+1) (oM c j fm):=by
 obtain⟨f,a,C⟩:=C;exact⟨_,_,f,a,C,qm C.F S hn d l λcdv A outer s H E Y hy hE hr=>i f cdv A outer s H E Y hy hE hr S.nd (hE▸uN)⟩
theorem Bl {p:Nat}(C:FE Z.K Z.mg x st ps)(N:List Str)(i:BM Z k x st N λX Y=>wm X Y (zP st) fb)
  (S:Sc N ps st:=by refine⟨rfl,rfl,rfl,?_,rfl,?_,?_⟩<;>decide+kernel) (hn:ps.length=n+1:=by rfl) (d:N.length=n+1+m:=by rfl):sI Z c p x n (k+1) (oO c m p fb):=by
 obtain⟨f,a,C⟩:=C;exact⟨_,_,f,a,C,x9 C.F S hn d λcdv A outer s H E Y hy hE hr=>i f cdv A outer s H E Y hy hE hr S.nd (hE▸uN)⟩
theorem lN (C:FE Z.K Z.mg x st ps)(hn:n=ps.length:=by rfl):qP Z x n k (λ_=>.bad):=by
 obtain⟨f,a,C⟩:=C;exact⟨_,_,f,a,C,λvs H Q E h=>by rw[←hn];exact spP.len vs H Q E h,λA outer s H args us vs Q E _ _ _ _ ⟨B,ts,_,_,_,q⟩=>q.elim⟩
end
section
variable {Z:Zz}{x:Str}{st:Stmt}{ps:List Str}{k n m:Nat}{fb:En->RS}{f:Addr}{fd:FuncData}
theorem Bf (C:Fn Z.K Z.mg x st ps f fd)(N:List Str) (d:∀(cdv:Value) (A:Around) (outer:List Env) (s:Shared) (H:Hp) (E:XK) (Y:Fx),Y.cl=Z.cl->Y.E=E->ZN k (A.deeper (envOfC x (zx st) s.1.1.size f cdv))->N.Nodup->Zc (lh Z.P Z.w) (WN (lh Z.P Z.w) Z.P Z.w Z.K Z.mg Z.base N x (zx st) f cdv A outer s H E) Y.E->
   wm (WN (lh Z.P Z.w) Z.P Z.w Z.K Z.mg Z.base N x (zx st) f cdv A outer s H E) Y (zP st) fb)
  (S:Sc N ps st:=by refine⟨rfl,rfl,rfl,?_,rfl,?_,?_⟩<;>decide+kernel) (hn:n=ps.length:=by rfl) (a:m=N.length:=by rfl):je Z.P Z.w Z.K Z.mg Z.base (lh Z.P Z.w) (k+1) f fd ps (spP Z.cl n (oS m fb)):=by
 subst a;exact XY C.F S hn (λcdv A outer s H E Y hy hE hr=>d cdv A outer s H E Y hy hE hr S.nd (hE▸uN)) λ_ _=>rfl
end
section
variable {X:Cx}{Y:Fx}{cl:Nat->Value}{k j n:Nat}{g:List T->R T}{x:Str}{a:Expr}{es:List Expr}{ga:En->R (List T)}{p pos:Pos}
theorem cZ (hy:Y.cl=cl)(O:QQ x m7 j (spP cl n g) ⟨X.prog,X.w,X.K,X.mg,X.base,cl⟩)(hr:ZN k X.A)(o:wx X Y (a::es) ga)(d:j<=k:=by lia)(f:Gl X x:=by rfl)(hd:(x==("__debug__":Str))=false:=by decide)
  (l:starEach (a::es) X.env=(false,eval a X.env)::starEach es X.env:=by exact zU rfl) (i:((backTo pos (starEach es X.env)).any λx=>x.fst)=false:=by exact Zn rfl):Snd X Y (.Call (.Name x p) (a::es) [] pos) (za n g ga):=
 O.go λ_ _ _ _ C F=>Xv hy F hr d f C.m C.F.kp C.b o hd l i
end
noncomputable def nv (N:List Str)(js:List Nat):List Str:=js.map λj=>N.getD j ""
noncomputable def sw:List Str->Bool
 |[]=>true
 |x::r=> !(r.contains x)&&sw r
theorem UD:∀{l:List Str},sw l=true->l.Nodup
 |[],_=>.nil
 |x::r,h=>by
  rw[sw,ar]at h;exact dh.mpr ⟨by simpa using h.1,UD h.2⟩
def sP (N N':List Str)(a scope:Scope)(k:Nat)(js:List Nat):Bool:=(tq scope a&&sO N N' scope a k js)&&sw N'
section
variable {cl:Nat->Value}{X:Cx}{Y:Fx}{x y:Str}{p p' p2:Pos}{kk:Nat}{iter elt:Expr}{ifs:List Expr}{scope:Scope}{js:List Nat}{fi:En->R (List T)}{ft:En->R Bool}{fe:En->R T}
theorem Cw (hy:Y.cl=cl)(h:sP X.N (x::nv X.N js) X.env.scope scope 1 js=true)(d:((relabel scope X.env).names.lookup x==some .local)=true)(i:X.calm=true)(it:uI X Y (.Name x p) iter fi)(tt:∀a,a.cl=cl->VO X scope (x::nv X.N js) λf=>W0 f a ifs ft)
  (j:∀a,a.cl=cl->gJ X scope (x::nv X.N js) a.E λf=>Snd f a elt fe) (k:∀x,foldedSetIterable iter X.env x=pure x:=by intro _;rfl):wA X Y (.Name x p) iter elt ifs scope (x::nv X.N js) 1 js fi (wO 0) (zI 0) ft fe:=by
 subst hy;rw[sP,ar]at h;have d:(relabel scope X.env).names.lookup x=some .local:=eq_of_beq d;exact VQ _ _ _ rfl rfl h.1 i it (λ_ _ _ _ _ _=>jZ (UD h.2) rfl (.inl d) (.inr d)) (vw 0) (vz 0) tt j k
theorem FQ (hy:Y.cl=cl)(h:sP X.N (x::y::nv X.N js) X.env.scope scope 2 js=true)(d:((relabel scope X.env).names.lookup x==some .local&&(relabel scope X.env).names.lookup y==some .local)=true)(i:X.calm=true)(it:uI X Y (.Tuple [.Name x p,.Name y p'] kk p2) iter fi)(tt:∀a,a.cl=cl->VO X scope (x::y::nv X.N js) λf=>W0 f a ifs ft)
  (l:∀a,a.cl=cl->gJ X scope (x::y::nv X.N js) a.E λf=>Snd f a elt fe) (o:∀x,foldedSetIterable iter X.env x=pure x:=by intro _;rfl):wA X Y (.Tuple [.Name x p,.Name y p'] kk p2) iter elt ifs scope (x::y::nv X.N js) 2 js fi (rl X.K 2 (Y2 (wO 0) (Y2 (wO 1) A2))) (zV 0 1) ft fe:=by
 subst hy;rw[sP,ar]at h;rw[ar]at d;have k:(relabel scope X.env).names.lookup x=some .local:=eq_of_beq d.1;have j:(relabel scope X.env).names.lookup y=some .local:=eq_of_beq d.2;exact VQ _ _ _ rfl rfl h.1 i it (λ_ _ _ _ _ _=>VB i (Jq (jZ (UD h.2) rfl (.inl k) (.inr k)) (Jq (jZ (UD h.2) rfl (.inl j) (.inr j)) Y3))) (vx _ 0 1) (vA 0 1) tt l o
end
end PV
namespace L2
open PySem PySem.Spec PyProof.Rows
end L2
namespace PV
open PySem PySem.Spec PyProof.Rows L2 PySem.W
end PV
namespace PV
open PySem PySem.Spec PyProof.Rows L2
def Ca (ft:En->R Bool)(fa a:En->R (T×En)):En->R (T×En):=λρ=>(ft ρ).bind λc=>if c=true then fa ρ else a ρ
theorem Az {X:Cx}{Y:Fx}{a b c:Expr}{pos:Pos}{ft:En->R Bool}{fa f:En->R (T×En)}(k:WA X Y c ft)(o:uJ X Y a fa)(l:uJ X Y b f):uJ X Y (.IfExp c a b pos) (Ca ft fa f):=.mk λρ=>
 PE.imp (Ue (k ρ) (o.go ρ) (l.go ρ)) λu H Q ⟨B,I,q⟩=>XU I q λt v p _ r d i j=>by
  have d:v=t:=d;subst d;cases v with
  |true=>exact⟨_,i,j⟩
  |false=>exact⟨_,i,j⟩
end PV
namespace PV
open PySem PySem.Spec PyProof.Rows L2 PySem.W
section
variable {X:Cx}{Y:Fx}{b:Expr}{fb:En->R T}{k i j:Nat}{x f:Str}{px p pf pos:Pos}{C:Addr}
theorem V1 {B:Hp}{ρ:En}{r:Sg}{H:Hp}(I:SI Y B ρ r H){fs:List (Str×Fd)}{ts:List T}(h:obL k i j ρ=some fs)(Z:fs.lookup f=some (.tl ts)):∃a C d vs l xs,r[i]?=some (some (V.ref a))/\Y.cl k=.ref C/\H a=some (.ins C d vs)/\vs.lookup f=some (.ref l)/\H l=some (.lst xs)/\zJ B xs ts:=by
 obtain⟨a,C,d,vs,u,N,U,e4,o⟩:=I.obL h;obtain⟨G,v,y,L,P⟩:=W8 (λm g e he=>let ⟨v,z,_⟩:=o m g e he;⟨v,z⟩) Z;obtain⟨v',q,l,xs,rfl,J,Q⟩:=o G _ _ y;rw[L]at q;cases q;exact⟨a,C,d,vs,l,xs,u,N,U,P,J,Q⟩
def og (k i j:Nat)(f:Str):En->Option (List T):=λρ=>match obL k i j ρ with
 |some fs=>(match fs.lookup f with
  |some (.tl ts)=>some ts
  |_=>none)
 |none=>none
theorem qr {B:Hp}{ρ:En}{d:Sg}{H:Hp}(I:SI Y B ρ d H){ts:List T}(h:og k i j f ρ=some ts):∃a C o vs l xs,d[i]?=some (some (V.ref a))/\Y.cl k=.ref C/\H a=some (.ins C o vs)/\vs.lookup f=some (.ref l)/\H l=some (.lst xs)/\zJ B xs ts:=by
 unfold og at h;split at h
 ·rename_i fs e;split at h
  ·rename_i us q;cases h;exact V1 I e q
  ·cases h
 ·cases h
def k6 (k i j:Nat)(f:Str):En->R T:=λρ=>match og k i j f ρ with
 |some ts=>.ok (.lst ts)
 |none=>.bad
def ng (k i j:Nat)(f:Str)(fb:En->R T):En->R T:=λρ=>match og k i j f ρ with
 |some ts=>(fb ρ).bind λt=>match t with
  |.int q=>ly ts q
  |_=>.bad
 |none=>.bad
abbrev ph:=k6
theorem GI (G:PE X (.Name x px) (Jp i))(N:Y.cl k=.ref C)(c:L2.Cls X.K C)(n:L2.NoAttr X.K C f)(v:attributeBase (.Name x px) f X.env (eval (.Name x px) X.env)=eval (.Name x px) X.env:=by rfl):jC X Y (.Attribute (.Name x px) f pos) (k6 k i j f):=.mk λρ=>PE.imp (Je G v) λU H Q ⟨B,I,q⟩=>by
 unfold k6 at q;split at q
 ·rename_i ts e;obtain⟨a,P,u,vs,l,xs,r,d,J,y,L,o⟩:=qr I e;rw[N]at d;cases d;exact⟨.ref a,r,a,C,u,vs,_,rfl,J,c,n,y,q _ H (zy.refl _) (.lst L (o.mono I.sB))⟩
 ·exact q.elim
theorem DR (hv:PE X (.Name x px) (Jp i))(Z:Y.cl k=.ref C)(c:L2.Cls X.K C)(n:L2.NoAttr X.K C f)(J:Snd X Y b fb)(r:attributeBase (.Name x px) f X.env (eval (.Name x px) X.env)=eval (.Name x px) X.env:=by rfl)(hs:wR b:=by exact λ_ _=>rfl):Snd X Y (.Subscript (.Attribute (.Name x px) f p) b pos) (ng k i j f fb):=.mk λρ=>
 PE.imp (xW Yl (Je hv r) (J ρ) hs) λσ H Q ⟨B,I,q⟩=>by
  unfold ng at q;split at q
  ·rename_i ts e;obtain⟨a,C',dx,vs,l,xs,y,v,e3,G,N,L⟩:=qr I e;rw[Z]at v;cases v;refine⟨.ref a,y,a,C,dx,vs,_,rfl,e3,c,n,G,step I q λt' v' P _ u r2 U d=>?_⟩;cases r2 with
   |int j=>
    have d:Po Y rC _ P (ly ts j) Q:=d;unfold ly at d;split at d
    ·rename_i t e8;obtain⟨w,e9,o⟩:=WX (L.mono (zS.ge I.sB u)) e8;exact .inl ⟨_,xs,j,w,rfl,rfl,SqL.of (u _ _ N),e9,lq U.sB d rfl o⟩
    ·exact d.elim
   |_=>exact d.elim
  ·exact q.elim
theorem GJ (J:PE X (.Name x px) (Jp i))(Z:Y.cl k=.ref C)(c:L2.Cls X.K C)(n:L2.NoAttr X.K C f)(U:Gl X "list")(N:X.mg "list"=none)(o:attributeBase (.Name x px) f X.env (eval (.Name x px) X.env)=eval (.Name x px) X.env:=by rfl):Snd X Y (.Call (.Name "list" p) [.Attribute (.Name x px) f pf] [] pos) (ph k i j f):=.mk λρ=>
 PE.imp (jg Jf U N (PyProof.Rows.Boot.«list») (zF (Je J o) zZ (li rfl)) (by decide) (by decide) (li rfl) rfl) λσ H Q ⟨B,I,q⟩=>by
  have q:Po Y rC B H (k6 k i j f ρ) Q:=q;unfold k6 at q;split at q
  ·rename_i ts e;obtain⟨a,C',v,vs,l,xs,u,r,P,y,L,G⟩:=qr I e;rw[Z]at r;cases r;exact⟨.ref a,u,a,C,v,vs,_,rfl,P,c,n,y,l,xs,rfl,.inl (SqL.of L),λl' d=>q _ _ (zy.new d _) (.lst (by rw[Zd d];exact zO) (G.mono (zS.ge I.sB (zy.new d _))))⟩
  ·exact q.elim
end
end PV
namespace PV
open PySem PySem.Spec PyProof.Rows L2
end PV
namespace PV
open PySem PySem.Spec PyProof.Rows L2 PySem.W
def stFC (k i j a d:Nat)(f g:Str):En->RS:=λρ=>match og a d j g ρ,lI k i j ρ with
 |some ts,some (n,fs,os)=>if fs.length<1000 then .nx (ρ.set j (.st (os.set n (k,uf f (.tl ts) fs))))else .bad
 |_,_=>.bad
def Ah (cl:Nat->Value)(k:Nat)(B H:Hp)(r:R (List (Str×Fd)))(Q:VK):Prop:=match r with
 |.ok f=>∀y d a,zy H d->zy B a->zy a d->(∀b o,H b=some o->a b=B b)->vW cl k a H d y f->Q (.ref y) d
 |_=>False
structure GK (X:Cx) (Y:Fx) (body:List Stmt) (i:Nat) (f:En->R En):Prop where
 mk::
 go:∀ρ,PSs X body λD σ H=>∃B,SI Y B ρ σ H/\match f ρ with
  |.ok ρ'=>∀a σ' H' B',zy B B'->SI Y B' ρ' σ' H'->σ'[i]?=some (some (V.ref a))->D.rt (.ref a) H'
  |_=>False
section
variable {X:Cx}{Y:Fx}{st:Stmt}{rest:List Stmt}{pos px:Pos}{x:Str}{i:Nat}
def Ar (i:Nat):En->R En:=λρ=>match ρ[i]? with
 |some (.ob _ _)=>.ok ρ
 |_=>.bad
def Wa (f:En->RS)(g:En->R En):En->R En:=λρ=>match f ρ with
 |.nx a=>g a
 |_=>.bad
theorem D7 (j:PE X (.Name x px) (Jp i)):GK X Y [.Return (some (.Name x px)) pos] i (Ar i):=.mk λρ=>PSs.imp (uL (WH j)) λD f H ⟨B,I,q⟩=>by
 unfold Ar at q;cases e:ρ[i]? with
 |none=>rw[e]at q;exact q.elim
 |some s=>
  rw[e]at q;cases s with
  |ob k n=>
   obtain⟨l,O,s⟩:=I.st;obtain⟨a,C,o,vs,_,d,_⟩:=s.ob i k n e;exact⟨.ref a,d,q a f H B (zy.refl _) I d⟩
  |_=>exact q.elim
theorem GL {f:En->RS}{g:En->R En}(v:jE X Y st f)(N:GK X Y rest i g):GK X Y (st::rest) i (Wa f g):=.mk λρ=>by
 refine PSs.imp (wN (u:=λD k H=>∃d B,SI Y B d k H/\match g d with|.ok d=>∀a σ' o j,zy B j->SI Y j d σ' o->σ'[i]?=some (some (V.ref a))->D.rt (.ref a) o|_=>False) (v ρ) ?_) ?_
 ·intro p s k H D I ⟨d,q⟩;exact N.go d _ s k H D I q
 ·intro D k H ⟨B,I,q⟩;refine⟨B,I,?_⟩;unfold Wa at q;revert q;cases f ρ with
  |nx d=>
   intro q σ' o j s L;refine⟨d,j,L,?_⟩;revert q;show (match g d with|.ok d=>_|_=>False)->_
   cases g d with
   |ok J=>exact λq a l y G r=>q a l y G (s.trans r)
   |ex c=>exact λq=>q
   |bad=>exact λq=>q
  |ex c=>exact λq=>q.elim
  |rt t=>exact λq=>q.elim
  |rf t=>exact λq=>q.elim
  |bk ρ=>exact λq=>q.elim
  |ct ρ=>exact λq=>q.elim
  |bad=>exact λq=>q.elim
end
def GM (k i j:Nat)(r:R En):R (List (Str×Fd)):=r.bind λρ=>match ρ[i]?,ρ[j]? with
 |some (.ob d 0),some (.st [(a,fs)])=>if d=k/\a=k then .ok fs else .bad
 |_,_=>.bad
theorem SI.obAt0 {Y:Fx}{B:Hp}{ρ:En}{u:Sg}{H:Hp}(I:SI Y B ρ u H){i j k:Nat}{x:Addr}{fs:List (Str×Fd)}{os:List Ob}(hi:ρ[i]?=some (.ob k 0))(X:u[i]?=some (some (V.ref x)))(h:ρ[j]?=some (.st ((k,fs)::os))):vW Y.cl k B Y.H0 H x fs:=by
 obtain⟨as,O,s⟩:=I.st;obtain⟨a,C,Z,vs,G,e2,e3,L,P,N,e7,e8⟩:=s.st j _ h 0 k fs rfl;obtain⟨a',C',dx',vs',q,o,_⟩:=s.ob i k 0 hi;rw[G]at q;cases q;rw[X]at o;cases o;refine⟨C,Z,vs,λb=>(O b).bind λp=>if p.1=0 then some p.2 else none,e2,e3,L,P,by dsimp only;rw[N];rfl,e7,λm f d z=>?_⟩
 obtain⟨v,J,r⟩:=e8 m f d z;refine⟨v,J,?_⟩;cases d with
 |tv t=>exact r
 |tl ts=>
  obtain⟨l,xs,p1,p2,U,p4,Q,_,y⟩:=r;exact⟨l,xs,p1,p2,U,p4,Q,by dsimp only;rw[y];rfl⟩
end PV
namespace L2
open PySem PySem.Spec PyProof.Rows
end L2
namespace PV
open PySem PySem.Spec PyProof.Rows L2 PySem.W
end PV
namespace L2
open PySem PySem.Spec PyProof.Rows PySem.W
end L2
namespace PV
open PySem PySem.Spec PyProof.Rows L2 PySem.W
end PV
namespace PV
open PySem PySem.Spec PyProof.Rows L2 PySem.W PySem.Calls
end PV
namespace PV
open PySem PySem.Spec PyProof.Rows L2 PySem.W
end PV
namespace L2
open PySem PySem.Spec PyProof.Rows
end L2
namespace PV
open PySem PySem.Spec PyProof.Rows L2 PySem.W
end PV
namespace PV
open PySem PySem.Spec PyProof.Rows L2 PySem.W PySem.Calls
end PV
namespace PV
open PySem PySem.Spec PyProof.Rows L2 PySem.W
end PV
namespace PV
open PySem PySem.Spec PyProof.Rows L2 PySem.W PySem.Calls
end PV
namespace PV
open PySem PySem.Spec PyProof.Rows L2 PySem.W
section
variable {X:Cx}{Y:Fx}{ib is jf iw iy:Nat}{b s f wo wy pl:Str}{fi fw fs ft fp:En->R T}{gp:List T->R T}{cl:Nat->Value}
 {p1 p2 p3 p4 p5 p6 p7 p8 p9 p10 p11 p12 p13 p14 p15 p16 p17 p18 p19 p20 p21 p22 p23 p24 p25 p26 p27 p28 p29 p30 p31 p32 p33 p34 p35 p36 p37 p38 p39 p40 p41 p42 p43 p44 p45 p46 p47 p48 p49 p50 p51:Pos} {k1 k2 k3 k4 k5 c1 c2 kP kr:Nat} {EI EW ES ET EP:Expr}
end
end PV
namespace PySem
open Sem (wp)
end PySem
namespace PySem
open Sem (wp)
open PySem.W
end PySem
namespace L2
open PySem PySem.Spec PyProof.Rows
end L2
namespace PV
open PySem PySem.Spec PyProof.Rows L2 PySem.W
end PV
namespace PySem
open PySem PySem.Calls PySem.NumText PyProof.Rows PySem.W
end PySem
namespace PySem
open Sem (wp)
open PySem.W PyProof.Rows
end PySem
namespace PySem
open PySem.W PyProof.Rows
section
variable {prog:Program}{w:World}{A:Around}{E:Value->Shared->Prop}{s:Shared}{env:Env}
variable {nm q:Str}{C N:Addr}{bs bm:List Value}{hdct:Bool}{sn:List Str}{sub:List Value}{ab:Bool}{col:Option Bool}{dd:Option Addr}{k0 k1 k2 k3 k5:Option Value}{newId:String}
end
end PySem
namespace L2
open PySem PySem.Spec PyProof.Rows PySem.W
end L2
namespace PySem
open Sem (wp)
end PySem
namespace PV
open PySem PySem.Spec PyProof.Rows L2
end PV
namespace PySem.W
open PySem PySem.Calls PyProof.Rows
end PySem.W
namespace L2
open PySem PySem.Spec PyProof.Rows PySem.W
end L2
namespace PySem
open PySem.W PyProof.Rows
end PySem
namespace L2
open PySem PySem.Spec PyProof.Rows PySem.W
end L2
namespace PV
open PySem PySem.Spec PyProof.Rows L2 PySem.W
end PV
namespace PySem
open PySem.W PyProof.Rows
end PySem
namespace L2
open PySem PySem.Spec PyProof.Rows
end L2
namespace PV
open PySem PySem.Spec PyProof.Rows L2 PySem.W
end PV
namespace PV
open PySem PySem.Spec PyProof.Rows L2
end PV
namespace PV
open PySem PySem.Spec PyProof.Rows L2 PySem.W
def oA (cl:Nat->Value)(k n:Nat)(g:List T->R (List (Str×Fd))):Sp:=λvs H Q _=>∃B ts,ts.length=n/\zy B H/\zJ B vs ts/\Ah cl k B H (g ts) Q
abbrev tE (Z:Zz)(c:Nat)(x:Str)(n k:Nat)(g:List T->R (List (Str×Fd))):Prop:=QQ x (lh Z.P Z.w) k (oA Z.cl c n g) Z
def CT (k m i:Nat)(b:En->R En):List T->R (List (Str×Fd)):=λts=>GM k i (m-1) (b (mS m ts))
theorem A8 {Z:Zz}{x:Str}{st:Stmt}{c k m n i:Nat}{j:En->R En}{q:List Str}(C:FE Z.K Z.mg x st q)(N:List Str)(L:BM Z k x st N λX Y=>GK X Y (zP st) i j)
  (S:Sc N q st:=by refine⟨rfl,rfl,rfl,?_,rfl,?_,?_⟩<;>decide+kernel) (hn:n=q.length:=by rfl) (hm:m=N.length:=by rfl):tE Z c x n (k+1) (CT c m i j):=by
 obtain⟨f,I,C⟩:=C;subst hm hn;refine⟨_,_,f,I,C,Fun.okX C.F S (λvs H Q E ⟨B,ts,y,_,r,_⟩=>by rw[←y];exact r.length) λcdv A outer s H vs Q E hr ⟨B,ts,y,P,r,p⟩=>?_⟩
 refine⟨_,(L f cdv A _ s H E ⟨B,H,E,Z.cl,[]⟩ rfl rfl hr S.nd uN).go _,B,SI.startS P r rfl,?_⟩;have p:Ah Z.cl c B H (GM c i (N.length-1) (j (mS N.length ts))) Q:=p;show match j (mS N.length ts)with|.ok d=>_|_=>False
 revert p;cases j (mS N.length ts)with
 |bad=>exact λz=>z
 |ex c=>exact λz=>z
 |ok d=>
  unfold GM;show Ah Z.cl c B H (match d[i]?,d[N.length-1]? with|some (.ob u 0),some (.st [(v,fs)])=>(if u=c/\v=c then R.ok fs else R.bad)|_,_=>R.bad) Q->_
  split
  ·rename_i u v fs' G e2;split
   ·rename_i hk;obtain⟨rfl,rfl⟩:=hk;exact λz a σ' U B' J l ha=>z a U B' l.sH J l.sB (λb o h=>l.old b o h) (l.obAt0 G ha e2)
   ·exact λz=>z.elim
  ·exact λz=>z.elim
def se (i j k n:Nat)(g:List T->R (List (Str×Fd)))(ga:En->R (List T)):En->RS:=λρ=>(ga ρ).s λts=>if ts.length=n/\i≠j/\i<ρ.length then (match ρ[j]? with
 |some (.st os)=>(match g ts with
  |.ok a=>.nx ((ρ.set j (.st (os++[(k,a)]))).set i (.ob k os.length))
  |_=>.bad)
 |_=>.bad)else .bad
theorem GN {X:Cx}{Y:Fx}{cl:Nat->Value}{k i j n J v:Nat}{x y:Str}{a:Expr}{f:List Expr}{p G pos d:Pos}{g:List T->R (List (Str×Fd))}{ga:En->R (List T)}(U:X.N.Nodup)(hi:X.N[i]?=some x)(hx:L2.Loc X.env.scope x)(hy:Y.cl=cl)(hp:Zc (lh X.prog X.w) X Y.E)(O:QQ y (lh X.prog X.w) v (oA cl k n g) ⟨X.prog,X.w,X.K,X.mg,X.base,cl⟩)(hr:ZN J X.A)(ha:wx X Y (a::f) ga)(hj:v<=J:=by lia)(gl:Gl X y:=by rfl)(hd:(y==("__debug__":Str))=false:=by decide)
  (o:starEach (a::f) X.env=(false,eval a X.env)::starEach f X.env:=by exact zU rfl) (r:((backTo d (starEach f X.env)).any λx=>x.fst)=false:=by exact Zn rfl) (hs:swapsWith (.Call (.Name y p) (a::f) [] d) (some (.Name x G)) pos.line X.env=pure false:=by rfl)
  (hf:X.fn x=true\/X.env.scope.names.lookup x=some .local:=by first|exact .inl rfl|exact .inr rfl|assumption):
  jE X Y (.Assign [.Name x G] (.Call (.Name y p) (a::f) [] d) pos) (se i j k n g ga):=O.go λ_ _ _ _ C F=>.mk λρ=>
 PS.imp (wu U hi hx (wQ F (hr.mono hj) gl C.m C.F.kp C.b .nil hp (ha ρ) hd o r) hs hf) λD σ H ⟨B,I,q⟩=>jz I q λts vs H1 B1 s1 P L l=>by
  subst hy;split at l
  ·rename_i hn;rw[aY];split at l
   ·rename_i os ej;refine⟨_,ts,hn.1,L.sB,P,?_⟩;revert l;cases g ts with
    |bad=>exact λq=>q
    |ex c=>exact λq=>q
    |ok fs'=>exact λq y H' Z z1 u z3 z4 Q=>q _ H' Z u (L.made ej hn.2.1 hn.2.2 (zy.refl _) z1 u z3 z4 Q)
   ·exact l.elim
  ·exact l.elim
end PV
namespace G
open PySem PySem.Spec PyProof.Rows L2 PV
def pN:En->RS:=
  zz (iS (zB mL (vB 1) (gx Zb (vB 0))) (zC (zd fr (vE 0) (vE 1))) (iR))
  (zz (iS (zB iQ (vB 0) (jb (zj))) (zC (cE (.int 0))) (iR))
  (zC (zd zv (zd Z7 (zd fr (vE 0) (zd J7 (vE 1) (gx Zb (vB 0)))) (cE (.int 31))) (vE 1))))
def GO:List T->R T:=λts=>zw (pN  (iW 2 ts))
def Dd (a:List T->R T):En->RS:=
  zz (zH 3 (zd J7 (zd Z7 (zd zv (za 2 a (z9 (vE 0) (z9 (vE 1) (zj)))) (zd Z7 (cE (.int 6151)) (zd zv (vE 1) (cE (.int 1))))) (cE (.int 40692))) (cE (.int 2147483399))))
  (zC (zd J7 (zd J7 (zd zv (zd Z7 (vE 3) (vE 3)) (zd wV (vE 3) (cE (.int 31)))) (cE (.int 2147483629))) (vE 2)))
def lB:List T->R T:=λts=>zw (Dd (GO) (iW 4 ts))
def sM (a:List T->R T):En->RS:=
  zz (zH 2 (cE (.str "abcdefghijklmnopqrstuvwxyz")))
  (zz (iS (zB lL (za 3 a (z9 (vE 0) (z9 (vE 1) (z9 (cE (.int 6)) (zj))))) (cE (.int 0))) (zC (zd fr (jb (z9 (cE (.str "a")) (z9 (cE (.str "b")) (z9 (cE (.str "ab")) (z9 (cE (.str "cab")) (zj)))))) (za 3 a (z9 (vE 0) (z9 (zd zv (vE 1) (cE (.int 1))) (z9 (cE (.int 4)) (zj))))))) (iR))
  (zC (gx (jA "") (zL (Zs (zd zv (cE (.int 1)) (za 3 a (z9 (vE 0) (z9 (zd zv (vE 1) (cE (.int 1))) (z9 (cE (.int 3)) (zj))))))) (zI 0) (Z1) (zd fr (vE 3) (za 3 a (z9 (vE 1) (z9 (zd zv (zd zv (vE 2) (cE (.int 2))) (vE 0)) (z9 (cE (.int 26)) (zj)))))) 1 [0,1,2]))))
def Ka:List T->R T:=λts=>zw (sM (lB) (iW 3 ts))
def tT (a:List T->R T)(d:List T->R T):En->RS:=
  zz (iS (zB lL (za 3 a (z9 (vE 0) (z9 (vE 1) (z9 (cE (.int 3)) (zj))))) (cE (.int 0))) (zz (zH 2 (zd ZW (za 3 a (z9 (vE 0) (z9 (zd zv (vE 1) (cE (.int 1))) (z9 (cE (.int 7)) (zj))))) (cE (.int 3))))
  (zz (iS (zB iQ (za 3 a (z9 (vE 0) (z9 (zd zv (vE 1) (cE (.int 3))) (z9 (cE (.int 8)) (zj))))) (cE (.int 0))) (zH 2 (zd fr (jb (z9 (J8 (cE (.int 20))) (z9 (cE (.int 17)) (z9 (cE (.int 20)) (zj))))) (za 3 a (z9 (vE 0) (z9 (zd zv (vE 1) (cE (.int 4))) (z9 (cE (.int 3)) (zj))))))) (iR))
  (zC (Zm (z9 (cE (.str "whole")) (z9 (vE 2) (z9 (zd WY (cE (.int 20)) (zd zv (vE 2) (za 3 a (z9 (vE 0) (z9 (zd zv (vE 1) (cE (.int 2))) (z9 (cE (.int 4)) (zj))))))) (zj)))))))) (iR))
  (zz (Uo 3 (zj))
  (zz (ZR (Zs (zd zv (cE (.int 1)) (za 3 a (z9 (vE 0) (z9 (zd zv (vE 1) (cE (.int 1))) (z9 (cE (.int 4)) (zj))))))) (zI 4) (zz (zH 5 (za 2 d (z9 (vE 0) (z9 (zd zv (zd zv (vE 1) (cE (.int 5))) (zd Z7 (cE (.int 5)) (vE 4))) (zj)))))
  (iS (zB vk (vB 5) (vB 3)) (Up 3 (vE 5)) (iR))))
  (zC (Zm (z9 (cE (.str "pick")) (z9 (gx QP (zL (Xt (vE 3)) (zV 0 1) (Z1) (Zm (z9 (vE 1) (z9 (zd zv (cE (.int 1)) (za 3 a (z9 (vE 2) (z9 (zd zv (zd zv (vE 3) (cE (.int 30))) (vE 0)) (z9 (cE (.int 20)) (zj)))))) (zj)))) 2 [0,1])) (zj)))))))
def GP:List T->R T:=λts=>zw (tT (lB) (Ka) (iW 6 ts))
def sX (a:List T->R T)(f:List T->R T)(d:List T->R T):En->RS:=
  zz (zH 3 (za 3 a (z9 (vE 0) (z9 (vE 1) (z9 (cE (.int 5)) (zj))))))
  (zz (iS (lH (zB iQ (vB 2) (cE (.int 1))) (zB mL (vB 3) (cE (.int 2)))) (zC (za 2 f (z9 (vE 0) (z9 (zd zv (vE 1) (cE (.int 1))) (zj))))) (iR))
  (zz (iS (zB mL (vB 3) (cE (.int 4))) (zz (zH 4 (zL (Zs (zd zv (cE (.int 1)) (za 3 a (z9 (vE 0) (z9 (zd zv (vE 1) (cE (.int 1))) (z9 (cE (.int 3)) (zj))))))) (zI 0) (Z1) (za 3 d (z9 (vE 1) (z9 (zd zv (zd zv (zd Z7 (cE (.int 3)) (vE 2)) (cE (.int 40))) (zd Z7 (cE (.int 50)) (vE 0))) (z9 (zd ZW (vE 3) (cE (.int 1))) (zj))))) 1 [0,1,2]))
  (zC (Zm (z9 (cE (.str "row")) (z9 (gx QP (vE 4)) (zj)))))) (iR))
  (zz (zH 5 (za 3 a (z9 (vE 0) (z9 (zd zv (vE 1) (cE (.int 1))) (z9 (cE (.int 3)) (zj))))))
  (zC (Zm (z9 (cE (.str "many")) (z9 (za 3 d (z9 (vE 0) (z9 (zd zv (zd Z7 (cE (.int 3)) (vE 1)) (cE (.int 40))) (z9 (zd ZW (vE 2) (cE (.int 1))) (zj))))) (z9 (vE 5) (z9 (zd WY (cE (.int 3)) (zd zv (vE 5) (za 3 a (z9 (vE 0) (z9 (zd zv (vE 1) (cE (.int 2))) (z9 (cE (.int 3)) (zj))))))) (zj))))))))))
def mU:Nat->Nat->List T->R T
 |0,_=>λ_=>.bad
 |n+1,_=>λts=>zw (sX (lB) (GP) (mU n 0) (iW 6 ts))
abbrev nh (n:Nat):List T->R T:=mU n 0
def sC:En->RS:=
  zz (zH 1 (jb (z9 (Zm (zj)) (zj))))
  (zz (ZR (Z9 (vE 0)) (zI 2) (zz (Uo 3 (zj))
  (zz (ZR (Z9 (vE 1)) (zI 4) (QR 3 (zL (Z9 (vE 2)) (zI 0) (Z1) (zd zv (vE 1) (Zm (z9 (vE 0) (zj)))) 1 [4])))
  (sJ 1 3))))
  (zC (vE 1)))
def lJ:List T->R T:=λts=>zw (sC  (iW 5 ts))
def lV (d:List T->R T)(a:List T->R T):En->RS:=
  zz (iS (zB iQ (zd fr (vE 0) (cE (.int 0))) (cE (.str "whole"))) (zC (sx (Jn (zd fr (vE 0) (cE (.int 1))) (zd zv (zd fr (vE 0) (cE (.int 2))) (cE (.int 1)))))) (iR))
  (zz (iS (zB iQ (zd fr (vE 0) (cE (.int 0))) (cE (.str "pick"))) (zC (zL (Z9 (zd fr (vE 0) (cE (.int 1)))) (zV 0 1) (Z1) (vE 0) 2 [])) (iR))
  (zz (iS (zB iQ (zd fr (vE 0) (cE (.int 0))) (cE (.str "row"))) (zC (za 1 a (z9 (zL (Z9 (zd fr (vE 0) (cE (.int 1)))) (zI 0) (Z1) (za 1 d (z9 (vE 0) (zj))) 1 []) (zj)))) (iR))
  (zz (Uo 1 (zj))
  (zz (ZR (Jn (zd fr (vE 0) (cE (.int 2))) (zd zv (zd fr (vE 0) (cE (.int 3))) (cE (.int 1)))) (zI 2) (QR 1 (za 1 a (z9 (zd Z7 (jb (z9 (za 1 d (z9 (zd fr (vE 0) (cE (.int 1))) (zj))) (zj))) (vE 2)) (zj)))))
  (zC (vE 1))))))
def om:Nat->Nat->List T->R T
 |0,_=>λ_=>.bad
 |n+1,_=>λts=>zw (lV (om n 0) (lJ) (iW 3 ts))
abbrev mj (n:Nat):List T->R T:=om n 0
def mm (d:List T->R T)(a:List T->R T):En->RS:=
  zz (iS (zB lF (zd fr (vE 0) (cE (.int 0))) (Zm (z9 (cE (.str "whole")) (z9 (cE (.str "pick")) (zj))))) (zC (gx Zb (za 1 d (z9 (vE 0) (zj))))) (iR))
  (zz (zH 1 (lD (zB iQ (zd fr (vE 0) (cE (.int 0))) (cE (.str "row"))) (zL (Z9 (zd fr (vE 0) (cE (.int 1)))) (zI 0) (Z1) (za 1 a (z9 (vE 0) (zj))) 1 []) (jb (zj))))
  (zz (zH 2 (cE (.int 1)))
  (zz (ZR (Z9 (vE 1)) (zI 3) (zH 2 (zd Z7 (vE 2) (vE 3))))
  (zz (iS (zB iQ (zd fr (vE 0) (cE (.int 0))) (cE (.str "many"))) (zz (zH 4 (za 1 a (z9 (zd fr (vE 0) (cE (.int 1))) (zj))))
  (zz (zH 2 (zd zv (gx YO (ZD iQ (zd fr (vE 0) (cE (.int 2))) (cE (.int 0)))) (zd Z7 (vE 4) (gx YO (lU i4 i4 (zd fr (vE 0) (cE (.int 2))) (cE (.int 1)) (zd fr (vE 0) (cE (.int 3))))))))
  (zz (zH 2 (zd zv (vE 2) (zd Z7 (zd Z7 (vE 4) (vE 4)) (gx YO (lU i4 i4 (zd fr (vE 0) (cE (.int 2))) (cE (.int 2)) (zd fr (vE 0) (cE (.int 3))))))))
  (zH 2 (zd zv (vE 2) (zd Z7 (zd Z7 (zd Z7 (vE 4) (vE 4)) (vE 4)) (gx YO (ZD iQ (zd fr (vE 0) (cE (.int 3))) (cE (.int 3)))))))))) (iR))
  (zC (vE 2))))))
def tO:Nat->Nat->List T->R T
 |0,_=>λ_=>.bad
 |n+1,_=>λts=>zw (mm (mj 8) (tO n 0) (iW 5 ts))
abbrev oH (n:Nat):List T->R T:=tO n 0
def tN (a:List T->R T)(d:List T->R T):En->RS:=
  zz (zH 3 (za 3 a (z9 (vE 0) (z9 (vE 1) (z9 (cE (.int 3)) (zj))))))
  (zz (ZR (Zs (cE (.int 3))) (zI 4) (zz (iS (zB i4 (za 1 d (z9 (vE 3) (zj))) (vB 2)) (zC (vE 3)) (iR))
  (zH 3 (za 3 a (z9 (vE 0) (z9 (zd zv (zd zv (vE 1) (cE (.int 500))) (zd Z7 (cE (.int 700)) (vE 4))) (z9 (cE (.int 2)) (zj))))))))
  (zC (lD (zB i4 (za 1 d (z9 (vE 3) (zj))) (vB 2)) (vE 3) (Zm (z9 (cE (.str "whole")) (z9 (J8 (cE (.int 1))) (z9 (cE (.int 2)) (zj))))))))
def Kb:List T->R T:=λts=>zw (tN (nh 8) (oH 8) (iW 5 ts))
def C6:En->RS:=
  zC (jy (gx (wX "int") (vB 0)) (QO (gx (wX "bool") (vB 0))))
def ni:List T->R T:=λts=>zw (C6  (iW 1 ts))
def pq (a:List T->R T):En->RS:=
  zC (jy (za 1 a (z9 (vE 0) (zj))) (jy (za 1 a (z9 (vE 1) (zj))) (pk i4 i4 i4 (vB 2) (vB 0) (vB 1) (vB 3))))
def tM:List T->R T:=λts=>zw (pq (ni) (iW 4 ts))
def DD:En->RS:=
  zC (jy (gx (wX "tuple") (vB 0)) (lU i4 i4 (vB 1) (gx Zb (vB 0)) (vB 2)))
def mV:List T->R T:=λts=>zw (DD  (iW 3 ts))
def pp:En->RS:=
  zz (iS (lH (JI (ZQ (gx (wX "str") (vB 0)))) (JI (Dc i4 i4 (cE (.int 1)) (gx Zb (vB 0)) (cE (.int 3))))) (zC (cE (.bl false))) (iR))
  (zC (gx Xn (zL (Z9 (vE 0)) (zI 0) (Z1) (lU i4 i4 (cE (.str "a")) (vB 0) (cE (.str "z"))) 1 [])))
def k7:List T->R T:=λts=>zw (pp  (iW 1 ts))
def rA (d:List T->R T)(f:List T->R T)(a:List T->R T):En->RS:=
  zC (jy (za 3 f (z9 (vE 0) (z9 (cE (.int 2)) (z9 (cE (.int 2)) (zj))))) (jy (za 1 a (z9 (zd fr (vE 0) (cE (.int 0))) (zj))) (jy (za 1 d (z9 (zd fr (vE 0) (cE (.int 1))) (zj))) (lU i4 i4 (cE (.int 1)) (zd fr (vE 0) (cE (.int 1))) (cE (.int 20))))))
def GQ:List T->R T:=λts=>zw (rA (ni) (mV) (k7) (iW 1 ts))
def tw (d:List T->R T)(a:List T->R T):En->RS:=
  zz (iS (lH (JI (ZQ (za 3 d (z9 (vE 0) (z9 (cE (.int 1)) (z9 (cE (.int 4)) (zj))))))) (JI (ZQ (gx Xn (zL (Z9 (vE 0)) (zI 0) (Z1) (za 1 a (z9 (vE 0) (zj))) 1 []))))) (zC (cE (.bl false))) (iR))
  (zz (zH 1 (zL (Z9 (vE 0)) (zI 0) (Z1) (zd fr (vE 0) (cE (.int 0))) 1 []))
  (zC (ZD iQ (gx vF (vB 1)) (gx Zb (vB 1)))))
def GR:List T->R T:=λts=>zw (tw (mV) (GQ) (iW 2 ts))
def sU (a:List T->R T)(i:List T->R T)(d:List T->R T)(f:List T->R T):En->RS:=
  zz (iS (lH (zB iQ (vB 1) (cE (.int 0))) (lH (JI (ZQ (gx (wX "tuple") (vB 0)))) (zB iQ (gx Zb (vB 0)) (cE (.int 0))))) (zC (cE (.bl false))) (iR))
  (zz (iS (zB iQ (zd fr (vE 0) (cE (.int 0))) (cE (.str "whole"))) (zC (jy (ZD iQ (gx Zb (vB 0)) (cE (.int 3))) (za 4 a (z9 (zd fr (vE 0) (cE (.int 1))) (z9 (zd fr (vE 0) (cE (.int 2))) (z9 (J8 (cE (.int 20))) (z9 (cE (.int 20)) (zj)))))))) (iR))
  (zz (iS (zB iQ (zd fr (vE 0) (cE (.int 0))) (cE (.str "pick"))) (zC (jy (ZD iQ (gx Zb (vB 0)) (cE (.int 2))) (za 1 d (z9 (zd fr (vE 0) (cE (.int 1))) (zj))))) (iR))
  (zz (iS (zB iQ (zd fr (vE 0) (cE (.int 0))) (cE (.str "row"))) (zC (jy (ZD iQ (gx Zb (vB 0)) (cE (.int 2))) (za 2 f (z9 (zd fr (vE 0) (cE (.int 1))) (z9 (zd ZW (vE 1) (cE (.int 1))) (zj)))))) (iR))
  (zz (iS (zB iQ (zd fr (vE 0) (cE (.int 0))) (cE (.str "many"))) (zC (jy (ZD iQ (gx Zb (vB 0)) (cE (.int 4))) (jy (za 4 a (z9 (zd fr (vE 0) (cE (.int 2))) (z9 (zd fr (vE 0) (cE (.int 3))) (z9 (cE (.int 0)) (z9 (cE (.int 3)) (zj)))))) (za 2 i (z9 (zd fr (vE 0) (cE (.int 1))) (z9 (zd ZW (vE 1) (cE (.int 1))) (zj))))))) (iR))
  (zC (cE (.bl false)))))))
def tR (d:List T->R T)(a:List T->R T):En->RS:=
  zC (jy (za 3 d (z9 (vE 0) (z9 (cE (.int 1)) (z9 (cE (.int 3)) (zj))))) (gx Xn (zL (Z9 (vE 0)) (zI 0) (Z1) (za 2 a (z9 (vE 0) (z9 (vE 1) (zj)))) 1 [1])))
def lZ:Nat->Nat->List T->R T
 |0,_=>λ_=>.bad
 |n+1,0=>λts=>zw (sU (tM) (lZ n 0) (GR) (lZ n 1) (iW 2 ts))
 |n+1,_=>λts=>zw (tR (mV) (lZ n 0) (iW 2 ts))
abbrev AD (n:Nat):List T->R T:=lZ n 0
abbrev BB (n:Nat):List T->R T:=lZ n 1
def rX (a:List T->R T):En->RS:=
  zC (za 2 a (z9 (vE 0) (z9 (cE (.int 3)) (zj))))
def m3:List T->R T:=λts=>zw (rX (AD 20) (iW 1 ts))
def rK (a:List T->R T):En->RS:=
  iS (JI (ZQ (za 1 a (z9 (vE 0) (zj))))) (W4) (iR)
def Kc:List T->R T:=λts=>zw (rK (m3) (iW 1 ts))
def rO (a:List T->R T)(d:List T->R T):En->RS:=
  zz (iS (zB iQ (zd fr (vE 0) (cE (.int 0))) (cE (.str "whole"))) (zC (zd zv (zd ZW (zd fr (vE 0) (cE (.int 2))) (zd fr (vE 0) (cE (.int 1)))) (cE (.int 1)))) (iR))
  (zz (iS (zB iQ (zd fr (vE 0) (cE (.int 0))) (cE (.str "pick"))) (zC (gx Zb (zd fr (vE 0) (cE (.int 1))))) (iR))
  (zz (iS (zB iQ (zd fr (vE 0) (cE (.int 0))) (cE (.str "row"))) (zC (za 1 a (z9 (zd fr (vE 0) (cE (.int 1))) (zj)))) (iR))
  (zC (za 2 d (z9 (vE 0) (z9 (zd zv (zd fr (vE 0) (cE (.int 3))) (cE (.int 1))) (zj)))))))
def GS (a:List T->R T):En->RS:=
  zz (zH 1 (cE (.int 1)))
  (zz (ZR (Z9 (vE 0)) (zI 2) (zH 1 (zd Z7 (vE 1) (za 1 a (z9 (vE 2) (zj))))))
  (zC (vE 1)))
def pW (a:List T->R T):En->RS:=
  zC (gx XI (zL (Jn (zd fr (vE 0) (cE (.int 2))) (vE 1)) (zI 0) (Z1) (za 1 a (z9 (zd Z7 (jb (z9 (zd fr (vE 1) (cE (.int 1))) (zj))) (vE 0)) (zj))) 1 [0]))
def mo:Nat->Nat->List T->R T
 |0,_=>λ_=>.bad
 |n+1,0=>λts=>zw (rO (mo n 1) (mo n 2) (iW 1 ts))
 |n+1,1=>λts=>zw (GS (mo n 0) (iW 3 ts))
 |n+1,_=>λts=>zw (pW (mo n 1) (iW 2 ts))
abbrev mF (n:Nat):List T->R T:=mo n 0
abbrev An (n:Nat):List T->R T:=mo n 1
abbrev nY (n:Nat):List T->R T:=mo n 2
def sF:En->RS:=
  zC (zL (Z9 (zd fr (vE 0) (cE (.int 1)))) (zI 0) (Z1) (zd fr (vE 0) (cE (.int 0))) 1 [])
def GT:List T->R T:=λts=>zw (sF  (iW 1 ts))
def rg (d:List T->R T)(f:List T->R T)(a:List T->R T):En->RS:=
  zz (iS (zB iQ (zd fr (vE 0) (cE (.int 0))) (cE (.str "whole"))) (zC (zd zv (zd fr (vE 0) (cE (.int 1))) (vE 1))) (iR))
  (zz (iS (zB iQ (zd fr (vE 0) (cE (.int 0))) (cE (.str "pick"))) (zC (zd fr (za 1 d (z9 (vE 0) (zj))) (vE 1))) (iR))
  (zz (iS (zB iQ (zd fr (vE 0) (cE (.int 0))) (cE (.str "row"))) (zC (za 2 a (z9 (zd fr (vE 0) (cE (.int 1))) (z9 (vE 1) (zj))))) (iR))
  (zC (za 2 f (z9 (vE 0) (z9 (vE 1) (zj)))))))
def GU (d:List T->R T)(a:List T->R T):En->RS:=
  zz (zH 2 (zd fr (vE 0) (cE (.int 2))))
  (zz (ZX (zB i4 (za 2 d (z9 (vE 0) (z9 (zd zv (vE 2) (cE (.int 1))) (zj)))) (vB 1)) (zH 2 (zd zv (vE 2) (cE (.int 1)))) (8))
  (zC (za 2 a (z9 (zd Z7 (jb (z9 (zd fr (vE 0) (cE (.int 1))) (zj))) (vE 2)) (z9 (zd ZW (vE 1) (za 2 d (z9 (vE 0) (z9 (vE 2) (zj))))) (zj))))))
def GV (d:List T->R T)(a:List T->R T):En->RS:=
  zz (Uo 2 (zj))
  (zz (zH 3 (vE 1))
  (zz (ZR (AE (vE 0)) (zI 4) (zz (zH 5 (za 1 d (z9 (vE 4) (zj))))
  (zz (Up 2 (za 2 a (z9 (vE 4) (z9 (zd J7 (vE 3) (vE 5)) (zj)))))
  (zH 3 (zd wV (vE 3) (vE 5))))))
  (zC (gx vO (vE 2)))))
def mq:Nat->Nat->List T->R T
 |0,_=>λ_=>.bad
 |n+1,0=>λts=>zw (rg (GT) (mq n 1) (mq n 2) (iW 2 ts))
 |n+1,1=>λts=>zw (GU (nY 20) (mq n 2) (iW 3 ts))
 |n+1,_=>λts=>zw (GV (mF 20) (mq n 0) (iW 6 ts))
abbrev ox (n:Nat):List T->R T:=mq n 0
abbrev BA (n:Nat):List T->R T:=mq n 1
abbrev A6 (n:Nat):List T->R T:=mq n 2
def rS (a:List T->R T)(f:List T->R T)(d:List T->R T):En->RS:=
  zz (JJ (za 1 a (z9 (vE 0) (zj))))
  (zz (zH 1 (za 1 f (z9 (vE 0) (zj))))
  (zz (iS (zB lL (vB 1) (cE (.int 500))) (W4) (iR))
  (rY (Zs (vE 1)) (zI 0) (Z1) (za 2 d (z9 (vE 1) (z9 (vE 0) (zj)))) 1 [0])))
def xa:List T->R T:=λts=>zw (rS (Kc) (mF 20) (ox 20) (iW 2 ts))
def sQ (a:List T->R T):En->R (T×En):=
  j8 (C0 101 0 2 "kind" (vE 1))
  (j8 (QU 101 0 2 "remaining" (z9 (za 1 a (z9 (vE 1) (zj))) (zj)))
  (j8 (QU 101 0 2 "done" (zj))
  (j8 (QU 101 0 2 "undone" (zj))
  (Ae))))
def mJ:List (Str×Fd)->List T->R (T×List (Str×Fd)):=λfs ts=>wD 101 2 (sQ (xa) (mr 101 2 fs ts))
def Cu (a:List T->R T):En->RS:=
  zC (jy (za 1 a (z9 (vE 0) (zj))) (lU i4 i4 (J8 (cE (.int 50))) (vB 0) (cE (.int 50))))
def rN:List T->R T:=λts=>zw (Cu (ni) (iW 1 ts))
def sk (f:List T->R T)(d:List T->R T)(a:List T->R T):En->RS:=
  zz (iS (lH (zB iQ (vB 1) (cE (.int 0))) (lH (JI (ZQ (gx (wX "tuple") (vB 0)))) (zB iQ (gx Zb (vB 0)) (cE (.int 0))))) (zC (cE (.bl false))) (iR))
  (zz (iS (lH (zB iQ (zd fr (vE 0) (cE (.int 0))) (cE (.str "sum"))) (zB iQ (zd fr (vE 0) (cE (.int 0))) (cE (.str "size")))) (zC (jy (ZD iQ (gx Zb (vB 0)) (cE (.int 3))) (jy (za 1 a (z9 (zd fr (vE 0) (cE (.int 1))) (zj))) (za 1 a (z9 (zd fr (vE 0) (cE (.int 2))) (zj)))))) (iR))
  (zz (iS (zB iQ (zd fr (vE 0) (cE (.int 0))) (cE (.str "word"))) (zC (jy (ZD iQ (gx Zb (vB 0)) (cE (.int 2))) (za 1 f (z9 (zd fr (vE 0) (cE (.int 1))) (zj))))) (iR))
  (zz (iS (lH (zB iQ (zd fr (vE 0) (cE (.int 0))) (cE (.str "rising"))) (zB iQ (zd fr (vE 0) (cE (.int 0))) (cE (.str "unlike")))) (zC (ZD iQ (gx Zb (vB 0)) (cE (.int 1)))) (iR))
  (zz (iS (zB iQ (zd fr (vE 0) (cE (.int 0))) (cE (.str "no"))) (zC (jy (ZD iQ (gx Zb (vB 0)) (cE (.int 2))) (za 2 d (z9 (zd fr (vE 0) (cE (.int 1))) (z9 (zd ZW (vE 1) (cE (.int 1))) (zj)))))) (iR))
  (zz (iS (lH (zB iQ (zd fr (vE 0) (cE (.int 0))) (cE (.str "all"))) (zB iQ (zd fr (vE 0) (cE (.int 0))) (cE (.str "some")))) (zC (jy (ZD iQ (gx Zb (vB 0)) (cE (.int 3))) (jy (za 2 d (z9 (zd fr (vE 0) (cE (.int 1))) (z9 (zd ZW (vE 1) (cE (.int 1))) (zj)))) (za 2 d (z9 (zd fr (vE 0) (cE (.int 2))) (z9 (zd ZW (vE 1) (cE (.int 1))) (zj))))))) (iR))
  (zC (cE (.bl false))))))))
def oG:Nat->Nat->List T->R T
 |0,_=>λ_=>.bad
 |n+1,_=>λts=>zw (sk (k7) (oG n 0) (rN) (iW 2 ts))
abbrev ri (n:Nat):List T->R T:=oG n 0
def tm (a:List T->R T):En->RS:=
  zC (za 2 a (z9 (vE 0) (z9 (cE (.int 3)) (zj))))
def nH:List T->R T:=λts=>zw (tm (ri 8) (iW 1 ts))
def sm (a:List T->R T):En->RS:=
  iS (JI (ZQ (za 1 a (z9 (vE 0) (zj))))) (W4) (iR)
def k8:List T->R T:=λts=>zw (sm (nH) (iW 1 ts))
def oV:En->RS:=
  zC (gx Zb (ng 101 0 1 "remaining" (J8 (cE (.int 1)))))
def GW:List (Str×Fd)->List T->R T:=λfs ts=>zw (oV  (ms 101 1 fs (ts.take 0) (ts.drop 0)))
def tI (a:List T->R T):En->RS:=
  zz (iS (JI (ZQ (gx (wX "tuple") (vB 0)))) (zC (jb (z9 (vE 0) (zj)))) (iR))
  (zz (Uo 1 (zj))
  (zz (ZR (Z9 (vE 0)) (zI 2) (QR 1 (za 1 a (z9 (vE 2) (zj)))))
  (zC (vE 1))))
def oK:Nat->Nat->List T->R T
 |0,_=>λ_=>.bad
 |n+1,_=>λts=>zw (tI (oK n 0) (iW 3 ts))
abbrev oy (n:Nat):List T->R T:=oK n 0
def A4 (a:List T->R T)(d:List T->R T):En->RS:=
  zC (zL (Z9 (za 1 d (z9 (vE 0) (zj)))) (zI 0) (ZQ (za 1 a (z9 (vE 0) (zj)))) (vE 0) 1 [])
def sh:List T->R T:=λts=>zw (A4 (ni) (oy 8) (iW 1 ts))
def o0:En->RS:=
  zC (lD (ZQ (gx (wX "tuple") (vB 0))) (vE 0) (Zm (z9 (vE 0) (zj))))
def rH:List T->R T:=λts=>zw (o0  (iW 1 ts))
def Bx:En->RS:=
  zC (gx Xn (zL (Ac (vE 0) (lR (vE 0) (zT (cE (.int 1))) (lE))) (zV 0 1) (Z1) (ZD i4 (vB 0) (vB 1)) 2 []))
def BG:List T->R T:=λts=>zw (Bx  (iW 1 ts))
def BL:En->RS:=
  zC (QO (gx BK (zL (Uz (vE 0)) (zV 0 1) (Z1) (ZD lF (vB 1) (lR (vE 2) (lE) (zT (vE 0)))) 2 [0])))
def AG:List T->R T:=λts=>zw (BL  (iW 1 ts))
def sV (a:List T->R T)(j:List T->R T)(d:List T->R T)(i:List T->R T)(f:List T->R T):En->RS:=
  zz (iS (zB iQ (zd fr (vE 0) (cE (.int 0))) (cE (.str "sum"))) (zC (lU i4 i4 (zd fr (vE 0) (cE (.int 1))) (gx XI (za 1 d (z9 (vE 1) (zj)))) (zd fr (vE 0) (cE (.int 2))))) (iR))
  (zz (iS (zB iQ (zd fr (vE 0) (cE (.int 0))) (cE (.str "size"))) (zC (lU i4 i4 (zd fr (vE 0) (cE (.int 1))) (gx Zb (za 1 a (z9 (vE 1) (zj)))) (zd fr (vE 0) (cE (.int 2))))) (iR))
  (zz (iS (zB iQ (zd fr (vE 0) (cE (.int 0))) (cE (.str "word"))) (zC (ZD lF (zd fr (vE 0) (cE (.int 1))) (za 1 j (z9 (vE 1) (zj))))) (iR))
  (zz (iS (zB iQ (zd fr (vE 0) (cE (.int 0))) (cE (.str "rising"))) (zC (za 1 i (z9 (za 1 d (z9 (vE 1) (zj))) (zj)))) (iR))
  (zC (za 1 f (z9 (za 1 a (z9 (vE 1) (zj))) (zj)))))))
def GX:List T->R T:=λts=>zw (sV (rH) (oy 8) (sh) (BG) (AG) (iW 2 ts))
def sE (a:List T->R T)(d:List T->R T):En->RS:=
  zz (iS (zB iQ (zd fr (vE 0) (cE (.int 0))) (cE (.str "no"))) (zC (QO (za 2 a (z9 (zd fr (vE 0) (cE (.int 1))) (z9 (vE 1) (zj)))))) (iR))
  (zz (iS (zB iQ (zd fr (vE 0) (cE (.int 0))) (cE (.str "all"))) (zC (jy (za 2 a (z9 (zd fr (vE 0) (cE (.int 1))) (z9 (vE 1) (zj)))) (za 2 a (z9 (zd fr (vE 0) (cE (.int 2))) (z9 (vE 1) (zj)))))) (iR))
  (zz (iS (zB iQ (zd fr (vE 0) (cE (.int 0))) (cE (.str "some"))) (zC (mM (za 2 a (z9 (zd fr (vE 0) (cE (.int 1))) (z9 (vE 1) (zj)))) (za 2 a (z9 (zd fr (vE 0) (cE (.int 2))) (z9 (vE 1) (zj)))))) (iR))
  (zC (za 2 d (z9 (vE 0) (z9 (vE 1) (zj)))))))
def mE:Nat->Nat->List T->R T
 |0,_=>λ_=>.bad
 |n+1,_=>λts=>zw (sE (mE n 0) (GX) (iW 2 ts))
abbrev pS (n:Nat):List T->R T:=mE n 0
def rk (a:List T->R T):En->RS:=
  zz (zH 2 (ZD iQ (zd fr (vE 0) (cE (.int 0))) (cE (.str "keep"))))
  (zC (zL (Z9 (vE 1)) (zI 0) (zB iQ (za 2 a (z9 (zd fr (vE 1) (cE (.int 1))) (z9 (vE 0) (zj)))) (vB 2)) (vE 0) 1 [0,2]))
def GY:List T->R T:=λts=>zw (rk (pS 8) (iW 3 ts))
def tU (a:List T->R T):En->R (T×En):=
  j8 (x6 101 0 2 "remaining" (za 2 a (z9 (vE 1) (z9 (n9 101 0 2 "remaining" (J8 (cE (.int 1)))) (zj)))))
  (j8 (x6 101 0 2 "done" (vE 1))
  (Ae))
def mB:List (Str×Fd)->List T->R (T×List (Str×Fd)):=λfs ts=>wD 101 2 (tU (GY) (mr 101 2 fs ts))
def rR (d:List T->R T)(a:List (Str×Fd)->List T->R T)(f:List (Str×Fd)->List T->R (T×List (Str×Fd))):En->R (T×En):=
  j8 (JJ (za 1 d (z9 (vE 2) (zj))))
  (j8 (zH 3 (ZZ 101 0 4 0 a zj))
  (j8 (lS (wg 101 0 4 "do_step" 1 f (z9 (Zm (z9 (vE 1) (z9 (vE 2) (zj)))) (zj))))
  (j8 (QU 101 0 4 "undone" (zj))
  (VZ (zd ZW (vE 3) (ZZ 101 0 4 0 a zj))))))
def k9:List (Str×Fd)->List T->R (T×List (Str×Fd)):=λfs ts=>wD 101 4 (rR (k8) (GW) (mB) (mr 101 4 fs ts))
def oJ (a:List (Str×Fd)->List T->R (T×List (Str×Fd))):En->R (T×En):=
  wg 101 0 2 "new_step" 2 a (z9 (cE (.str "keep")) (z9 (vE 1) (zj)))
def GZ:List (Str×Fd)->List T->R (T×List (Str×Fd)):=λfs ts=>wD 101 2 (oJ (k9) (mr 101 2 fs ts))
def oI (a:List (Str×Fd)->List T->R (T×List (Str×Fd))):En->R (T×En):=
  wg 101 0 2 "new_step" 2 a (z9 (cE (.str "bar")) (z9 (vE 1) (zj)))
def oR:List (Str×Fd)->List T->R (T×List (Str×Fd)):=λfs ts=>wD 101 2 (oI (k9) (mr 101 2 fs ts))
def sS (d:List (Str×Fd)->List T->R (T×List (Str×Fd)))(a:List (Str×Fd)->List T->R (T×List (Str×Fd))):En->R (T×En):=
  Ca (zB iQ (zd fr (vE 1) (cE (.int 0))) (cE (.str "keep"))) (wg 101 0 2 "keep" 1 d (z9 (zd fr (vE 1) (cE (.int 1))) (zj))) (wg 101 0 2 "bar" 1 a (z9 (zd fr (vE 1) (cE (.int 1))) (zj)))
def QW:List (Str×Fd)->List T->R (T×List (Str×Fd)):=λfs ts=>wD 101 2 (sS (GZ) (oR) (mr 101 2 fs ts))
def tK (a:List T->R T)(d:List T->R T):En->RS:=
  zz (zH 3 (za 3 a (z9 (vE 0) (z9 (vE 1) (z9 (cE (.int 9)) (zj))))))
  (zz (iS (Yz (zB lL (vB 2) (cE (.int 1))) (zB lL (vB 3) (cE (.int 5)))) (zz (zH 4 (za 3 d (z9 (vE 0) (z9 (zd zv (zd Z7 (cE (.int 2)) (vE 1)) (cE (.int 11))) (z9 (zd ZW (vE 2) (cE (.int 1))) (zj))))))
  (zz (iS (zB iQ (vB 3) (cE (.int 6))) (zC (Zm (z9 (cE (.str "no")) (z9 (vE 4) (zj))))) (iR))
  (zC (Zm (z9 (zd fr (jb (z9 (cE (.str "all")) (z9 (cE (.str "some")) (zj)))) (zd ZW (vE 3) (cE (.int 7)))) (z9 (vE 4) (z9 (za 3 d (z9 (vE 0) (z9 (zd zv (zd Z7 (cE (.int 2)) (vE 1)) (cE (.int 24))) (z9 (zd ZW (vE 2) (cE (.int 1))) (zj))))) (zj)))))))) (iR))
  (zz (zH 5 (zd ZW (za 3 a (z9 (vE 0) (z9 (zd zv (vE 1) (cE (.int 1))) (z9 (cE (.int 9)) (zj))))) (cE (.int 4))))
  (zz (iS (zB mL (zd J7 (vE 3) (cE (.int 6))) (cE (.int 2))) (zC (Zm (z9 (cE (.str "sum")) (z9 (vE 5) (z9 (zd ZW (zd zv (vE 5) (za 3 a (z9 (vE 0) (z9 (zd zv (vE 1) (cE (.int 2))) (z9 (cE (.int 5)) (zj)))))) (cE (.int 1))) (zj)))))) (iR))
  (zz (iS (zB iQ (zd J7 (vE 3) (cE (.int 6))) (cE (.int 2))) (zC (Zm (z9 (cE (.str "size")) (z9 (za 3 a (z9 (vE 0) (z9 (zd zv (vE 1) (cE (.int 1))) (z9 (cE (.int 3)) (zj))))) (z9 (za 3 a (z9 (vE 0) (z9 (zd zv (vE 1) (cE (.int 2))) (z9 (cE (.int 4)) (zj))))) (zj)))))) (iR))
  (zz (iS (zB iQ (zd J7 (vE 3) (cE (.int 6))) (cE (.int 3))) (zC (Zm (z9 (cE (.str "word")) (z9 (zd fr (jb (z9 (cE (.str "a")) (z9 (cE (.str "b")) (z9 (cE (.str "ab")) (z9 (cE (.str "zz")) (zj)))))) (za 3 a (z9 (vE 0) (z9 (zd zv (vE 1) (cE (.int 1))) (z9 (cE (.int 4)) (zj)))))) (zj))))) (iR))
  (zC (lD (zB iQ (zd J7 (vE 3) (cE (.int 6))) (cE (.int 4))) (Zm (z9 (cE (.str "rising")) (zj))) (Zm (z9 (cE (.str "unlike")) (zj))))))))))
def na:Nat->Nat->List T->R T
 |0,_=>λ_=>.bad
 |n+1,_=>λts=>zw (tK (lB) (na n 0) (iW 6 ts))
abbrev Am (n:Nat):List T->R T:=na n 0
def t7 (d:List T->R T)(a:List T->R T):En->RS:=
  zC (Zm (z9 (zd fr (jb (z9 (cE (.str "keep")) (z9 (cE (.str "bar")) (zj)))) (za 3 d (z9 (vE 0) (z9 (vE 1) (z9 (cE (.int 2)) (zj)))))) (z9 (za 3 a (z9 (vE 0) (z9 (zd zv (zd Z7 (cE (.int 4)) (vE 1)) (cE (.int 30))) (z9 (cE (.int 2)) (zj))))) (zj))))
def pd:List T->R T:=λts=>zw (t7 (lB) (Am 8) (iW 2 ts))
def ro:En->R (T×En):=
  j8 (iS (zB iQ (gx Zb (tZ 101 0 2 "done")) (cE (.int 0))) (W4) (iR))
  (j8 (pR 1 (x8 101 0 2 "done"))
  (j8 (lS (x8 101 0 2 "remaining"))
  (j8 (x6 101 0 2 "undone" (vE 1))
  (VZ (zd fr (vE 1) (cE (.int 0)))))))
def xb:List (Str×Fd)->List T->R (T×List (Str×Fd)):=λfs ts=>wD 101 2 (ro  (mr 101 2 fs ts))
def mI (a:List T->R T):En->RS:=
  zz (iS (zB iQ (zd fr (vE 0) (cE (.int 0))) (cE (.str "pick"))) (zC (zd zv (zd zv (cE (.str "{")) (gx (jA " ") (zL (Z9 (zd fr (vE 0) (cE (.int 1)))) (zV 0 1) (Z1) (zd zv (zd zv (vE 0) (cE (.str ":"))) (gx ub (vE 1))) 2 []))) (cE (.str "}")))) (iR))
  (zz (iS (zB iQ (zd fr (vE 0) (cE (.int 0))) (cE (.str "row"))) (zC (zd zv (zd zv (cE (.str "(")) (gx (jA " ") (zL (Z9 (zd fr (vE 0) (cE (.int 1)))) (zI 0) (Z1) (za 1 a (z9 (vE 0) (zj))) 1 []))) (cE (.str ")")))) (iR))
  (zz (zH 1 (lD (zB iQ (zd fr (vE 0) (cE (.int 0))) (cE (.str "many"))) (zd zv (zd zv (cE (.str "[")) (za 1 a (z9 (zd fr (vE 0) (cE (.int 1))) (zj)))) (cE (.str "]"))) (cE (.str ""))))
  (zC (zd zv (zd zv (zd zv (vE 1) (gx ub (zd fr (vE 0) (J8 (cE (.int 2)))))) (cE (.str ".."))) (gx ub (zd fr (vE 0) (J8 (cE (.int 1)))))))))
def mG:Nat->Nat->List T->R T
 |0,_=>λ_=>.bad
 |n+1,_=>λts=>zw (mI (mG n 0) (iW 2 ts))
abbrev oi (n:Nat):List T->R T:=mG n 0
def Dk:En->RS:=
  zC (ph 101 0 1 "done")
def mO:List (Str×Fd)->List T->R T:=λfs ts=>zw (Dk  (ms 101 1 fs (ts.take 0) (ts.drop 0)))
def nZ (a:List T->R T):En->RS:=
  zz (iS (zB lF (zd fr (vE 0) (cE (.int 0))) (Zm (z9 (cE (.str "no")) (z9 (cE (.str "all")) (z9 (cE (.str "some")) (zj)))))) (zC (zd zv (zd zv (zd zv (zd fr (vE 0) (cE (.int 0))) (cE (.str "("))) (gx (jA ", ") (zL (Z9 (lR (vE 0) (zT (cE (.int 1))) (lE))) (zI 0) (Z1) (za 1 a (z9 (vE 0) (zj))) 1 []))) (cE (.str ")")))) (iR))
  (zC (gx (jA " ") (zL (Z9 (vE 0)) (zI 0) (Z1) (gx ub (vE 0)) 1 [])))
def nU:Nat->Nat->List T->R T
 |0,_=>λ_=>.bad
 |n+1,_=>λts=>zw (nZ (nU n 0) (iW 1 ts))
abbrev ou (n:Nat):List T->R T:=nU n 0
def pj:En->RS:=
  zC (Zm (z9 (gx Zb (k6 101 0 1 "done")) (z9 (gx Zb (k6 101 0 1 "undone")) (zj))))
def V2:List (Str×Fd)->List T->R T:=λfs ts=>zw (pj  (ms 101 1 fs (ts.take 0) (ts.drop 0)))
def pP:En->RS:=
  zC (gx tH (ng 101 0 1 "remaining" (J8 (cE (.int 1)))))
def V3:List (Str×Fd)->List T->R T:=λfs ts=>zw (pP  (ms 101 1 fs (ts.take 0) (ts.drop 0)))
def oW:En->RS:=
  zC (nD ".." (vE 0) (vE 1))
def V4:List T->R T:=λts=>zw (oW  (iW 2 ts))
def mP (d:List T->R T)(a:List T->R T):En->RS:=
  zz (iS (zB iQ (zd fr (vE 0) (cE (.int 0))) (cE (.str "whole"))) (zC (za 2 a (z9 (zd fr (vE 0) (cE (.int 1))) (z9 (zd fr (vE 0) (cE (.int 2))) (zj))))) (iR))
  (zz (iS (zB iQ (zd fr (vE 0) (cE (.int 0))) (cE (.str "pick"))) (zC (zd zv (zd zv (cE (.str "{")) (gx (jA " ") (zL (Z9 (zd fr (vE 0) (cE (.int 1)))) (zV 0 1) (Z1) (nD ":" (vE 0) (vE 1)) 2 []))) (cE (.str "}")))) (iR))
  (zz (iS (zB iQ (zd fr (vE 0) (cE (.int 0))) (cE (.str "row"))) (zC (zd zv (zd zv (cE (.str "(")) (gx (jA " ") (zL (Z9 (zd fr (vE 0) (cE (.int 1)))) (zI 0) (Z1) (za 1 d (z9 (vE 0) (zj))) 1 []))) (cE (.str ")")))) (iR))
  (zC (zd zv (zd zv (zd zv (cE (.str "[")) (za 1 d (z9 (zd fr (vE 0) (cE (.int 1))) (zj)))) (cE (.str "]"))) (za 2 a (z9 (zd fr (vE 0) (cE (.int 2))) (z9 (zd fr (vE 0) (cE (.int 3))) (zj))))))))
def nk:Nat->Nat->List T->R T
 |0,_=>λ_=>.bad
 |n+1,_=>λts=>zw (mP (nk n 0) (V4) (iW 1 ts))
abbrev CK (n:Nat):List T->R T:=nk n 0
def rF (a:List T->R T)(d:List T->R T):En->RS:=
  zz (JJ (za 1 a (z9 (vE 0) (zj))))
  (zC (za 1 d (z9 (vE 0) (zj))))
def pF:List T->R T:=λts=>zw (rF (Kc) (CK 20) (iW 1 ts))
def oF:En->RS:=
  zC (AA 101 0 1 "kind")
def ka:List (Str×Fd)->List T->R T:=λfs ts=>zw (oF  (ms 101 1 fs (ts.take 0) (ts.drop 0)))
def C7:En->RS:=
  zC (mM (ZD iQ (vB 0) (cE (.str "no"))) (mM (ZD iQ (vB 0) (cE (.str "all"))) (ZD iQ (vB 0) (cE (.str "some")))))
def mw:List T->R T:=λts=>zw (C7  (iW 1 ts))
def ot (d:List T->R T)(a:List T->R T):En->RS:=
  zz (iS (ZQ (za 1 a (z9 (zd fr (vE 0) (cE (.int 0))) (zj)))) (zC (zd zv (zd zv (zd zv (zd fr (vE 0) (cE (.int 0))) (cE (.str "("))) (gx (jA ", ") (zL (Z9 (lR (vE 0) (zT (cE (.int 1))) (lE))) (zI 0) (Z1) (za 1 d (z9 (vE 0) (zj))) 1 []))) (cE (.str ")")))) (iR))
  (zC (gx (jA " ") (zL (Z9 (vE 0)) (zI 0) (Z1) (gx ub (vE 0)) 1 [])))
def nJ:Nat->Nat->List T->R T
 |0,_=>λ_=>.bad
 |n+1,_=>λts=>zw (ot (nJ n 0) (mw) (iW 1 ts))
abbrev Cy (n:Nat):List T->R T:=nJ n 0
def rz (a:List T->R T)(d:List T->R T):En->RS:=
  zz (JJ (za 1 a (z9 (vE 0) (zj))))
  (zC (za 1 d (z9 (vE 0) (zj))))
def o4:List T->R T:=λts=>zw (rz (k8) (Cy 8) (iW 1 ts))
def rm (i:List T->R T)(d:List T->R T)(a:List (Str×Fd)->List T->R T)(f:List (Str×Fd)->List T->R T):En->RS:=
  zz (zH 1 (zd zv (jb (z9 (za 1 i (z9 (ZZ 101 0 2 0 a zj) (zj))) (zj))) (zL (Z9 (ZZ 101 0 2 0 f zj)) (zV 0 1) (Z1) (zd zv (zd zv (vE 0) (cE (.str " "))) (za 1 d (z9 (vE 1) (zj)))) 2 [])))
  (zC (gx (jA "") (zL (Z9 (vE 1)) (zI 0) (Z1) (zd zv (vE 0) (cE (.str "\n"))) 1 [])))
def V5:List (Str×Fd)->List T->R T:=λfs ts=>zw (rm (pF) (o4) (ka) (mO) (ms 101 2 fs (ts.take 0) (ts.drop 0)))
def DE:En->RS:=
  iS (JI (ZQ (gx (wX "str") (vB 0)))) (W4) (iR)
def nE:List T->R T:=λts=>zw (DE  (iW 1 ts))
def rJ (a:List T->R T):En->RS:=
  zz (JJ (za 1 a (z9 (vE 0) (zj))))
  (zz (iS (JI (ZQ (lw K8 (vE 0) (cE (.str "\n"))))) (W4) (iR))
  (zC (lw K9 (WD (vE 0) (lE) (zT (J8 (cE (.int 1))))) (cE (.str "\n")))))
def pr:List T->R T:=λts=>zw (rJ (nE) (iW 1 ts))
def tQ:En->RS:=
  zz (iS (zB lL (gx Zb (vB 0)) (cE (.int 3))) (W4) (iR))
  (zz (Gs (zH 1 (gx su (vE 0))))
  (zz (iS (zB lj (gx ub (vE 1)) (vB 0)) (W4) (iR))
  (zC (vE 1))))
def mN:List T->R T:=λts=>zw (tQ  (iW 2 ts))
def tF (a:List T->R T):En->RS:=
  zz (zH 1 (lw qb (vE 0) (cE (.str ":"))))
  (zC (Zm (z9 (zd fr (vE 1) (cE (.int 0))) (z9 (za 1 a (z9 (zd fr (vE 1) (cE (.int 2))) (zj))) (zj)))))
def xf:List T->R T:=λts=>zw (tF (mN) (iW 2 ts))
def tY:En->RS:=
  zz (iS (lH (JI (ZQ (lw VU (vE 0) (vE 1)))) (JI (ZQ (lw K8 (vE 0) (vE 2))))) (W4) (iR))
  (zC (WD (vE 0) (zT (gx Zb (vB 1))) (zT (J8 (gx Zb (vB 2))))))
def mf:List T->R T:=λts=>zw (tY  (iW 3 ts))
def sy:En->RS:=
  zz (Uo 2 (zj))
  (zz (zH 3 (cE (.int 0)))
  (zz (zH 4 (cE (.int 0)))
  (zz (ZR (qf (vE 0)) (zV 5 6) (zz (iS (zB UA (vB 6) (cE (.str "([{"))) (zH 4 (zd zv (vE 4) (cE (.int 1)))) (iR))
  (zz (iS (zB UA (vB 6) (cE (.str ")]}"))) (zH 4 (zd ZW (vE 4) (cE (.int 1)))) (iR))
  (iS (Yz (zB iQ (vB 4) (cE (.int 0))) (ZQ (qc (vE 0) (vE 1) (vE 5)))) (zz (Up 2 (WD (vE 0) (zT (vE 3)) (zT (vE 5))))
  (zH 3 (zd zv (vE 5) (gx Zb (vB 1))))) (iR)))))
  (zz (Up 2 (WD (vE 0) (zT (vE 3)) (lE)))
  (zC (vE 2))))))
def mv:List T->R T:=λts=>zw (sy  (iW 7 ts))
def rh (a:List T->R T):En->RS:=
  zz (zH 1 (lw qb (vE 0) (cE (.str ".."))))
  (zC (Zm (z9 (za 1 a (z9 (zd fr (vE 1) (cE (.int 0))) (zj))) (z9 (za 1 a (z9 (zd fr (vE 1) (cE (.int 2))) (zj))) (zj)))))
def QX:List T->R T:=λts=>zw (rh (mN) (iW 2 ts))
def mQ (i:List T->R T)(j:List T->R T)(f:List T->R T)(d:List T->R T)(a:List T->R T):En->RS:=
  zz (iS (zB iQ (vB 1) (cE (.int 0))) (W4) (iR))
  (zz (iS (ZQ (lw VU (vE 0) (cE (.str "{")))) (zC (Zm (z9 (cE (.str "pick")) (z9 (gx QP (zL (Z9 (lw K9 (za 3 i (z9 (vE 0) (z9 (cE (.str "{")) (z9 (cE (.str "}")) (zj))))) (cE (.str " ")))) (zI 0) (Z1) (za 1 d (z9 (vE 0) (zj))) 1 [])) (zj))))) (iR))
  (zz (iS (ZQ (lw VU (vE 0) (cE (.str "(")))) (zz (zH 2 (za 2 j (z9 (za 3 i (z9 (vE 0) (z9 (cE (.str "(")) (z9 (cE (.str ")")) (zj))))) (z9 (cE (.str " ")) (zj)))))
  (zC (Zm (z9 (cE (.str "row")) (z9 (gx QP (zL (Z9 (vE 2)) (zI 0) (Z1) (za 2 f (z9 (vE 0) (z9 (zd ZW (vE 1) (cE (.int 1))) (zj)))) 1 [1])) (zj)))))) (iR))
  (zz (iS (ZQ (lw VU (vE 0) (cE (.str "[")))) (zz (zH 3 (lw Ct (vE 0) (cE (.str "]"))))
  (zC (zd zv (Zm (z9 (cE (.str "many")) (z9 (za 2 f (z9 (WD (zd fr (vE 3) (cE (.int 0))) (zT (cE (.int 1))) (lE)) (z9 (zd ZW (vE 1) (cE (.int 1))) (zj)))) (zj)))) (za 1 a (z9 (zd fr (vE 3) (cE (.int 2))) (zj)))))) (iR))
  (zC (zd zv (Zm (z9 (cE (.str "whole")) (zj))) (za 1 a (z9 (vE 0) (zj))))))))
def mR:Nat->Nat->List T->R T
 |0,_=>λ_=>.bad
 |n+1,_=>λts=>zw (mQ (mf) (mv) (mR n 0) (xf) (QX) (iW 4 ts))
abbrev sT (n:Nat):List T->R T:=mR n 0
def rc (f:List T->R T)(d:List T->R T)(a:List T->R T):En->RS:=
  zz (JJ (za 1 d (z9 (vE 0) (zj))))
  (zz (zH 1 (za 2 a (z9 (vE 0) (z9 (cE (.int 3)) (zj)))))
  (zz (iS (JI (ZQ (za 1 f (z9 (vE 1) (zj))))) (W4) (iR))
  (zC (vE 1))))
def pQ:List T->R T:=λts=>zw (rc (m3) (nE) (sT 20) (iW 2 ts))
def Ke (a:List T->R T):En->RS:=
  zz (iS (lH (zB iQ (zd fr (vE 0) (cE (.int 0))) (cE (.str "sum"))) (zB iQ (zd fr (vE 0) (cE (.int 0))) (cE (.str "size")))) (zC (zd zv (Zm (z9 (zd fr (vE 0) (cE (.int 0))) (zj))) (gx QP (zL (Z9 (lR (vE 0) (zT (cE (.int 1))) (lE))) (zI 0) (Z1) (za 1 a (z9 (vE 0) (zj))) 1 [])))) (iR))
  (zC (gx QP (vE 0)))
def V6:List T->R T:=λts=>zw (Ke (mN) (iW 1 ts))
def n8 (j:List T->R T)(i:List T->R T)(d:List T->R T)(f:List T->R T)(a:List T->R T):En->RS:=
  zz (iS (zB iQ (vB 1) (cE (.int 0))) (W4) (iR))
  (zz (zH 2 (lw qb (vE 0) (cE (.str "("))))
  (zz (iS (ZQ (za 1 d (z9 (zd fr (vE 2) (cE (.int 0))) (zj)))) (zz (zH 3 (za 2 i (z9 (za 3 j (z9 (vE 0) (z9 (zd zv (zd fr (vE 2) (cE (.int 0))) (cE (.str "("))) (z9 (cE (.str ")")) (zj))))) (z9 (cE (.str ", ")) (zj)))))
  (zC (zd zv (Zm (z9 (zd fr (vE 2) (cE (.int 0))) (zj))) (gx QP (zL (Z9 (vE 3)) (zI 0) (Z1) (za 2 f (z9 (vE 0) (z9 (zd ZW (vE 1) (cE (.int 1))) (zj)))) 1 [1]))))) (iR))
  (zC (za 1 a (z9 (lw K9 (vE 0) (cE (.str " "))) (zj))))))
def nz:Nat->Nat->List T->R T
 |0,_=>λ_=>.bad
 |n+1,_=>λts=>zw (n8 (mf) (mv) (mw) (nz n 0) (V6) (iW 4 ts))
abbrev sY (n:Nat):List T->R T:=nz n 0
def rQ (f:List T->R T)(a:List T->R T)(d:List T->R T):En->RS:=
  zz (JJ (za 1 a (z9 (vE 0) (zj))))
  (zz (zH 1 (za 2 d (z9 (vE 0) (z9 (cE (.int 3)) (zj)))))
  (zz (iS (JI (ZQ (za 1 f (z9 (vE 1) (zj))))) (W4) (iR))
  (zC (vE 1))))
def tX:List T->R T:=λts=>zw (rQ (nH) (nE) (sY 8) (iW 2 ts))
def sj (a:List T->R T):En->RS:=
  zz (zH 1 (lw qb (vE 0) (cE (.str " "))))
  (zz (iS (Yz (zB lj (zd fr (vE 1) (cE (.int 0))) (cE (.str "keep"))) (zB lj (zd fr (vE 1) (cE (.int 0))) (cE (.str "bar")))) (W4) (iR))
  (zC (Zm (z9 (zd fr (vE 1) (cE (.int 0))) (z9 (za 1 a (z9 (zd fr (vE 1) (cE (.int 2))) (zj))) (zj))))))
def Kf:List T->R T:=λts=>zw (sj (tX) (iW 2 ts))
def sZ (k:List T->R T)(f:List T->R T)(d:List T->R T)(a:List T->R T)(i:List (Str×Fd)->List T->R (T×List (Str×Fd)))(j:List (Str×Fd)->List T->R (T×List (Str×Fd))):En->R En:=
  Wa (zH 1 (za 1 d (z9 (vE 0) (zj))))
  (Wa (zH 2 (za 1 f (z9 (zd fr (vE 1) (cE (.int 0))) (zj))))
  (Wa (iS (zB lL (za 1 k (z9 (vE 2) (zj))) (cE (.int 500))) (W4) (iR))
  (Wa (nF 3 5 101 1 i (z9 (vE 2) (zj)))
  (Wa (ZR (Z9 (zL (Z9 (lR (vE 1) (zT (cE (.int 1))) (lE))) (zI 0) (Z1) (za 1 a (z9 (vE 0) (zj))) 1 [])) (zI 4) (lS (wg 101 3 5 "do_step" 1 j (z9 (vE 4) (zj)))))
  (Ar 3)))))
def Kg:List T->R (List (Str×Fd)):=λts=>GM 101 3 5 (sZ (mF 20) (pQ) (pr) (Kf) (mJ) (mB) (mS 6 ts))
def r9 (a:List T->R T):En->RS:=
  zz (iS (JI (ZQ (gx (wX "tuple") (vB 0)))) (zC (jb (z9 (vE 0) (zj)))) (iR))
  (zz (zH 1 (jb (zj)))
  (zz (ZR (Z9 (vE 0)) (zI 2) (zH 1 (zd zv (vE 1) (za 1 a (z9 (vE 2) (zj))))))
  (zC (vE 1))))
def oB:Nat->Nat->List T->R T
 |0,_=>λ_=>.bad
 |n+1,_=>λts=>zw (r9 (oB n 0) (iW 3 ts))
abbrev pB (n:Nat):List T->R T:=oB n 0
def rd (d:List T->R T)(a:List T->R T):En->RS:=
  zz (zH 2 (zL (Z9 (za 1 d (z9 (vE 1) (zj)))) (zI 0) (ZQ (gx (wX "int") (vB 0))) (vE 0) 1 []))
  (zz (zH 3 (lD (ZQ (gx (wX "tuple") (vB 1))) (vE 1) (Zm (z9 (vE 1) (zj)))))
  (zz (iS (zB iQ (zd fr (vE 0) (cE (.int 0))) (cE (.str "sum"))) (zz (zH 4 (cE (.int 0)))
  (zz (ZR (Z9 (vE 2)) (zI 5) (zH 4 (zd zv (vE 4) (vE 5))))
  (zC (jy (ZD i4 (zd fr (vE 0) (cE (.int 1))) (vB 4)) (ZD i4 (vB 4) (zd fr (vE 0) (cE (.int 2)))))))) (iR))
  (zz (iS (zB iQ (zd fr (vE 0) (cE (.int 0))) (cE (.str "size"))) (zC (jy (ZD oa (gx Zb (vB 3)) (zd fr (vE 0) (cE (.int 1)))) (ZD i4 (gx Zb (vB 3)) (zd fr (vE 0) (cE (.int 2)))))) (iR))
  (zz (iS (zB iQ (zd fr (vE 0) (cE (.int 0))) (cE (.str "word"))) (zC (ZD lj (zL (Z9 (za 1 d (z9 (vE 1) (zj)))) (zI 0) (zB iQ (vB 0) (zd fr (vE 1) (cE (.int 1)))) (vE 0) 1 [0]) (jb (zj)))) (iR))
  (zz (iS (zB iQ (zd fr (vE 0) (cE (.int 0))) (cE (.str "rising"))) (zC (ZD iQ (vB 2) (gx vP (vB 2)))) (iR))
  (zz (iS (zB iQ (zd fr (vE 0) (cE (.int 0))) (cE (.str "unlike"))) (zC (ZD iQ (zL (Zs (gx Zb (vB 3))) (zI 0) (zB lF (zd fr (vE 1) (vE 0)) (lR (vE 1) (lE) (zT (vE 0)))) (vE 0) 1 [3]) (jb (zj)))) (iR))
  (zz (iS (zB iQ (zd fr (vE 0) (cE (.int 0))) (cE (.str "no"))) (zC (QO (za 2 a (z9 (zd fr (vE 0) (cE (.int 1))) (z9 (vE 1) (zj)))))) (iR))
  (zz (zH 6 (zL (Z9 (lR (vE 0) (zT (cE (.int 1))) (lE))) (zI 0) (Z1) (za 2 a (z9 (vE 0) (z9 (vE 1) (zj)))) 1 [1]))
  (zC (lD (zB iQ (zd fr (vE 0) (cE (.int 0))) (cE (.str "all"))) (jy (zd fr (vE 6) (cE (.int 0))) (zd fr (vE 6) (cE (.int 1)))) (mM (zd fr (vE 6) (cE (.int 0))) (zd fr (vE 6) (cE (.int 1))))))))))))))
def lY:Nat->Nat->List T->R T
 |0,_=>λ_=>.bad
 |n+1,_=>λts=>zw (rd (pB 8) (lY n 0) (iW 7 ts))
abbrev o7 (n:Nat):List T->R T:=lY n 0
def rn (a:List T->R T):En->RS:=
  zC (zL (Z9 (vE 0)) (zI 0) (zB iQ (za 2 a (z9 (zd fr (vE 1) (cE (.int 1))) (z9 (vE 0) (zj)))) (ZD iQ (zd fr (vE 1) (cE (.int 0))) (cE (.str "keep")))) (vE 0) 1 [1])
def Kh:List T->R T:=λts=>zw (rn (o7 8) (iW 2 ts))
def sL (B:List T->R T)(G:List T->R T)(u:List T->R T)(p:List T->R T)(v:List T->R T)(j:List T->R T)(q:List T->R T)(r:List T->R (List (Str×Fd)))(y:List (Str×Fd)->List T->R (T×List (Str×Fd)))(a:List (Str×Fd)->List T->R T)(o:List (Str×Fd)->List T->R T)(l:List (Str×Fd)->List T->R T)(i:List (Str×Fd)->List T->R (T×List (Str×Fd)))(d:List (Str×Fd)->List T->R T)(f:List (Str×Fd)->List T->R T)(k:List (Str×Fd)->List T->R (T×List (Str×Fd))):En->RS:=
  zz (zH 1 (za 3 u (z9 (vE 0) (z9 (cE (.int 10)) (z9 (cE (.int 40)) (zj))))))
  (zz (nF 2 12 101 1 y (z9 (vE 1) (zj)))
  (zz (ZR (Zs (cE (.int 5))) (zI 3) (lS (QV 101 2 12 1 k (z9 (za 2 j (z9 (vE 0) (z9 (zd zv (cE (.int 1000)) (zd Z7 (cE (.int 100)) (vE 3))) (zj)))) (zj)))))
  (zz (ZR (Zs (za 3 B (z9 (vE 0) (z9 (cE (.int 0)) (z9 (cE (.int 3)) (zj)))))) (zI 3) (lS (wg 101 2 12 "back" 0 i zj)))
  (zz (zH 4 (zd zv (za 1 p (z9 (vE 1) (zj))) (cE (.str "\n"))))
  (zz (ZR (Z9 (ZZ 101 2 12 0 l zj)) (zV 5 6) (zH 4 (zd zv (zd zv (zd zv (zd zv (vE 4) (vE 5)) (cE (.str " "))) (za 1 v (z9 (vE 6) (zj)))) (cE (.str "\n")))))
  (zz (gR 7 8 (z9 (ZZ 101 2 12 0 d zj) (z9 (ZZ 101 2 12 0 a zj) (zj))))
  (zz (iS (zB lj (V0 101 2 12 0 f (zj)) (vB 4)) (zC (cE (.bl false))) (iR))
  (zz (se 9 12 101 1 r (z9 (vE 4) (zj)))
  (zz (iS (lH (zB lj (ZZ 101 9 12 0 a zj) (vB 8)) (lH (zB lj (ZZ 101 9 12 0 l zj) (ZZ 101 2 12 0 l zj)) (zB lj (ZZ 101 9 12 0 d zj) (Zm (z9 (zd fr (vE 7) (cE (.int 0))) (z9 (cE (.int 0)) (zj))))))) (zC (cE (.bl false))) (iR))
  (zz (iS (zB lj (ZZ 101 9 12 0 o zj) (vB 1)) (zC (cE (.bl false))) (iR))
  (zz (ZR (Zs (cE (.int 2))) (zI 3) (zz (zH 10 (za 2 j (z9 (vE 0) (z9 (zd zv (cE (.int 3000)) (zd Z7 (cE (.int 100)) (vE 3))) (zj)))))
  (zz (zH 11 (za 2 q (z9 (vE 8) (z9 (vE 10) (zj)))))
  (zz (nP (XX lj (QV 101 9 12 1 k (z9 (vE 10) (zj))) (zd ZW (gx Zb (vB 8)) (gx Zb (vB 11)))) (zC (cE (.bl false))) (iR))
  (zz (zH 8 (vE 11))
  (zH 4 (zd zv (zd zv (zd zv (zd zv (vE 4) (zd fr (vE 10) (cE (.int 0)))) (cE (.str " "))) (za 1 v (z9 (zd fr (vE 10) (cE (.int 1))) (zj)))) (cE (.str "\n")))))))))
  (zz (iS (lH (zB lj (V0 101 9 12 0 f (zj)) (vB 4)) (lH (zB lj (ZZ 101 9 12 0 a zj) (vB 8)) (zB lj (ZZ 101 2 12 0 d zj) (vB 7)))) (zC (cE (.bl false))) (iR))
  (zz (ZX (zB lL (zd fr (ZZ 101 9 12 0 d zj) (cE (.int 0))) (cE (.int 0))) (lS (wg 101 9 12 "back" 0 i zj)) (12))
  (GG (VZ (jy (ZD iQ (ZZ 101 9 12 0 a zj) (za 1 G (z9 (vE 1) (zj)))) (ZD iQ (V0 101 9 12 0 f (zj)) (zd zv (za 1 p (z9 (vE 1) (zj))) (cE (.str "\n"))))))))))))))))))))
def np:List T->R T:=λts=>zw (sL (lB) (mj 8) (Kb) (oi 8) (ou 8) (pd) (Kh) (Kg) (mJ) (V3) (ka) (mO) (xb) (V2) (V5) (QW) (mS 13 ts))
end G
namespace G
open PySem L2 PV
noncomputable abbrev iZ (ns:List Int):T:=.fz (ns.map T.int)
theorem kb (ns:List Int)(k:Int)(u:0<=k):∃c,GO [iZ ns,.int k]=.ok (.int c):=by
 have o:GO [iZ ns,.int k]=zw (if decide (k<((ns.map T.int).length))=true then (ly (ns.map T.int) k).s (λt=>.rt t)else
   match (iQ (iZ ns) (.lst [])).s (λb=>if b=true then RS.rt (.int 0)else .nx [.vl (iZ ns),.vl (.int k)])with
   |.nx d=>zC (zd zv (zd Z7 (zd fr (vE 0) (zd J7 (vE 1) (gx Zb (vB 0)))) (cE (.int 31))) (vE 1)) d
   |r=>r):=by
  show zw (match (if decide _=true then (ly _ k).s (λt=>RS.rt t)else .nx _)with
   |.nx d=>_
   |r=>r)=_
  cases decide (k<((ns.map _).length:Int))with
  |true=>
   unfold ly;cases lQ _ k<;>rfl
  |false=>rfl
 rw[o,ah]
 by_cases j:k<(ns.length)
 ·obtain⟨v,f⟩:∃v,ns[k.toNat]?=some v:=⟨ns[k.toNat]'(by lia),aw (by lia)⟩
  have i:lQ (ns.map T.int) k=some (.int v):=by
   have:k=((k.toNat):Int):=by lia
   rw[this];exact jh (by rw[aA,f];rfl)
  rw[decide_eq_true j];exact⟨v,by unfold ly;rw[i];rfl⟩
 ·rw[decide_eq_false j];cases ns with
  |nil=>exact⟨0,rfl⟩
  |cons x xs=>
   have p:=iG k (show (((x::xs).length):Int)≠0 by simp only[ac];lia)
   have q:=fS k (show (0)<(((x::xs).length):Int) by simp only[ac];lia)
   obtain⟨v,f⟩:∃v,(x::xs)[(k%(((x::xs).length):Int)).toNat]?=some v:=⟨_,aw (by lia)⟩
   have i:lQ ((x::xs).map T.int) (k%(((x::xs).length):Int))=some (.int v):=by
    have e:k%(((x::xs).length):Int)=(((k%(((x::xs).length):Int)).toNat:Nat):Int):=by lia
    rw[e];exact jh (by rw[aA,f];rfl)
   have l:uG v 31:=.inr ⟨by decide,by decide⟩
   have hp:(0:Int)<(((x::xs).map T.int).length):=by simp only[ah,ac];lia
   refine⟨v*31+k,?_⟩;show zw (((((if 0<(((x::xs).map _).length:Int)then R.ok _ else .bad).bind λy=>fr _ y).bind λa=>Z7 a _).bind λa=>zv a _).s λt=>.rt t)=_
   rw[if_pos hp];show zw ((((ly _ _).bind λa=>Z7 a _).bind λa=>zv a _).s λt=>.rt t)=_;rw[ah];unfold ly;rw[i];show zw ((((if uG v 31 then R.ok _ else .bad)).bind λa=>zv a _).s λt=>.rt t)=_
   rw[if_pos l];rfl
theorem zR (ns:List Int)(k m:Int)(o:0<=k)(j:0<m):∃p,lB [iZ ns,.int k,.int m]=.ok (.int p)/\0<=p/\p<m:=by
 obtain⟨c,q⟩:=kb ns k o;have i:uG (c+6151*(k+1)) 40692:=.inr ⟨by decide,by decide⟩
 generalize hd:(c+6151*(k+1))*40692%2147483399=d;have f:uG d d:=.inl ⟨by lia,by lia⟩
 refine⟨(d*d+d/31)%2147483629%m,?_,iG _ (by lia),fS _ j⟩
 have l:lB [iZ ns,.int k,.int m]=zw (match ((((((GO _).bind λx=>(Z7 (.int 6151) (.int _)).bind λy=>zv x y).bind λx=>Z7 x _).bind λx=>J7 x _)).s λt=>RS.nx _)with
   |.nx a=>zC _ a
   |r=>r):=rfl
 rw[l,q];show zw (match ((((if uG _ _ then R.ok _ else .bad)).bind λx=>J7 x _).s λt=>RS.nx _)with
   |.nx a=>_
   |r=>r)=_
 rw[if_pos i];show zw (zC _ _)=_;rw[hd];show zw (((((if uG d d then R.ok _ else .bad).bind λx=>zv x _).bind λx=>J7 x _).bind λx=>J7 x _).s λt=>RS.rt t)=_
 rw[if_pos f];show zw ((if 0<m then R.ok _ else .bad).s λt=>RS.rt t)=_
 rw[if_pos j];rfl
theorem qt {ft:En->R Bool}{fe:En->R T}:∀(ts:List T) (ρ:En) (x:Sl),zQ (zI 0) ft fe ts (ρ.set 0 x)=zQ (zI 0) ft fe ts ρ
 |[],_,_=>rfl
 |t::ts,ρ,x=>by
  unfold zQ zI;rw[List.set_set]
theorem jk {ft:En->R Bool}{fe:En->R T}{p:T->Bool}{h:T->T}:∀(ts:List T) (ρ:En),(∀t∈ts,ft (ρ.set 0 (.vl t))=.ok (p t)/\(p t=true->fe (ρ.set 0 (.vl t))=.ok (h t)))->zQ (zI 0) ft fe ts ρ=.ok ((ts.filter p).map h)
 |[],_,_=>rfl
 |t::ts,ρ,H=>by
  obtain⟨d,a⟩:=H t aj;have f:=jk ts ρ λu i=>H u (ai _ i);have e:zQ (zI 0) ft fe (t::ts) ρ=(ft _).bind λk=>if k=true then (fe _).bind λv=>(zQ _ ft fe ts _).bind λvs=>.ok _ else zQ _ ft fe ts _:=rfl
  rw[e,d,qt,f];show (if p t=true then _ else _)=_
  cases hp:p t with
  |true=>rw[a hp,List.filter_cons_of_pos hp];rfl
  |false=>rw[if_neg ay,List.filter_cons_of_neg (by rw[hp];exact ay)]
theorem qu {fe:En->R T}{h:T->T}(ts:List T)(ρ:En)(H:∀t∈ts,fe (ρ.set 0 (.vl t))=.ok (h t)):zQ (zI 0) Z1 fe ts ρ=.ok (ts.map h):=by
 have:=jk (ft:=Z1) ts ρ λt a=>⟨rfl,λ_=>H t a⟩;rw[this,List.filter_eq_self.mpr (λ_ _=>rfl)]
theorem Ze {fe:En->R T}{h:T->T}{k:Nat}{js:List Nat}{ρ:En}(ts:List T)(a:ts.length<=iT)(H:∀t∈ts,fe ((WC k js ρ).set 0 (.vl t))=.ok (h t)):zK (zI 0) Z1 fe k js ρ ts=.ok (ts.map h):=by
 unfold zK;rw[if_pos a,qu ts _ H];rfl
theorem Js (p:T->Bool):∀ts:List T,uH (ts.map λt=>T.bl (p t))=some (ts.all p)
 |[]=>rfl
 |t::ts=>by
  show (match uH (ts.map λt=>T.bl _)with|some j=>some _|none=>none)=_
  rw[Js p ts];rfl
noncomputable def BS:T->Bool
 |.int _=>true
 |_=>false
theorem UE (t:T):ni [t]=.ok (.bl (BS t)):=by cases t<;>rfl
noncomputable def V7 (a b:Nat):T->Bool
 |.tup xs=>decide (a<=xs.length)&&decide (xs.length<=b)
 |_=>false
theorem jF (t:T)(a b:Nat):mV [t,.int a,.int b]=.ok (.bl (V7 a b t)):=by
 cases t with
 |tup xs=>
  show zw ((if decide _=true then R.ok _ else .ok _).s λt=>.rt t)=_
  have d:decide ((a:Int)<=(xs.length))=decide (a<=xs.length):=by simp
  have f:decide ((xs.length:Int)<=(b))=decide (xs.length<=b):=by simp
  rw[d,f];show _=R.ok (T.bl (decide _&&decide _));cases decide (a<=xs.length)<;>rfl
 |_=>rfl
noncomputable def Jg (lo hi:Int):T->T->Bool
 |.int i,.int j=>decide (lo<=i)&&decide (i<=j)&&decide (j<=hi)
 |_,_=>false
theorem qv (t u:T)(lo hi:Int):tM [t,u,.int lo,.int hi]=.ok (.bl (Jg lo hi t u)):=by
 cases t with
 |int i=>
  cases u with
  |int j=>
   show zw ((if decide _=true then (if decide _=true then R.ok _ else .ok _)else .ok _).s λt=>.rt t)=_
   show _=R.ok (T.bl (decide _&&decide _&&decide _));cases decide (lo<=i)<;>cases decide (i<=j)<;>rfl
  |_=>rfl
 |_=>cases u<;>rfl
noncomputable def Zo (c:Nat):Bool:=decide (97<=c)&&decide (c<=122)
def Zf:T->Bool
 |.str x=>decide (1<=x.length)&&decide (x.length<=3)&&x.cps.toList.all Zo
 |_=>false
theorem xg (a b:Nat):decide ([a]<[b])=decide (a<b):=by
 by_cases h:a<b
 ·rw[decide_eq_true h];exact decide_eq_true (List.Lex.rel h)
 ·rw[decide_eq_false h];refine decide_eq_false λz=>?_;cases z with
  |rel h'=>exact h h'
  |cons h'=>cases h'
theorem kd (c:Nat)(ρ:En):lU i4 i4 (cE (.str "a")) (vB 0) (cE (.str "z")) ((Sl.vl (.str ⟨#[c]⟩))::ρ)=.ok (.bl (Zo c)):=by
 have d:i4 (.str "a") (.str ⟨#[c]⟩)=.ok (decide (97<=c)):=by
  show R.ok (!decide ([c]<[97]))=_;rw[xg]
  by_cases h:c<97
  ·rw[decide_eq_true h,decide_eq_false (by lia)];rfl
  ·rw[decide_eq_false h,decide_eq_true (by lia)];rfl
 have f:i4 (.str ⟨#[c]⟩) (.str "z")=.ok (decide (c<=122)):=by
  show R.ok (!decide ([122]<[c]))=_;rw[xg]
  by_cases h:122<c
  ·rw[decide_eq_true h,decide_eq_false (by lia)];rfl
  ·rw[decide_eq_false h,decide_eq_true (by lia)];rfl
 show (i4 (.str "a") (.str _)).bind (λk=>if k=true then (i4 (.str _) (.str "z")).bind λa=>R.ok (T.bl a)else R.ok _)=_
 rw[d,f];unfold Zo;cases decide (97<=c)<;>rfl
def ke:T->Prop
 |.str x=>x.length<=iT
 |_=>True
theorem qw (t:T)(d:ke t):k7 [t]=.ok (.bl (Zf t)):=by
 cases t with
 |str x=>
  have f:=d;have l:Zb (.str x)=.ok _:=if_pos f;have q:zK (zI 0) Z1 (lU i4 i4 (cE (.str "a")) (vB 0) (cE (.str "z"))) 1 [] [.vl (.str x)] (j7 x)=.ok (x.cps.toList.map λc=>T.bl (Zo c)):=by
   have p:(j7 x).length<=iT:=by unfold j7;rw[ah];exact f
   have:=Ze (h:=λt=>match t with|.str y=>T.bl (Zo (y.cps.toList.headD 0))|t=>t) (k:=1) (js:=[]) (ρ:=[.vl (.str x)]) _ p λt d=>by
    obtain⟨c,_,rfl⟩:=aF.mp d;exact kd c []
   rw[this];unfold j7;rw[aS];rfl
  have o:uH (x.cps.toList.map λc=>T.bl (Zo c))=some (x.cps.toList.all Zo):=by
   have:=Js (λt=>match t with|.str y=>Zo (y.cps.toList.headD 0)|_=>true) (j7 x)
   unfold j7 at this;rw[aS,g_]at this;exact this
  have j:k7 [.str x]=zw (match ((((Zb (.str x)).bind λy=>(i4 _ y).bind λk=>if k=true then i4 y _ else .ok _).bind λb=>.ok _).s λk=>if k=true then RS.rt _ else .nx _)with
    |.nx a=>zC _ a
    |r=>r):=rfl
  rw[j,l];have u:decide ((1:Int)<=(x.length))=decide (1<=x.length):=by
   by_cases h:1<=x.length
   ·rw[decide_eq_true h];exact decide_eq_true (by lia)
   ·rw[decide_eq_false h];exact decide_eq_false (by lia)
  have i:decide ((x.length:Int)<=(3))=decide (x.length<=3):=by
   by_cases h:x.length<=3
   ·rw[decide_eq_true h];exact decide_eq_true (by lia)
   ·rw[decide_eq_false h];exact decide_eq_false (by lia)
  show zw (match ((((if decide _=true then R.ok _ else .ok _)).bind λb=>.ok _).s λk=>if k=true then RS.rt _ else .nx _)with
    |.nx a=>_
    |r=>r)=_
  rw[u,i];show _=R.ok (T.bl (decide _&&decide _&&x.cps.toList.all _));cases decide (1<=x.length)with
  |false=>rfl
  |true=>
   cases decide (x.length<=3)with
   |false=>rfl
   |true=>
    show zw ((((zK _ _ _ 1 [] [.vl _] _).bind λvs=>.ok _).bind Xn).s λt=>.rt t)=_;rw[q];show zw ((match uH (x.cps.toList.map λc=>T.bl _)with|some k=>R.ok _|none=>.bad).s λt=>.rt t)=_
    rw[o];rfl
 |_=>rfl
theorem af {d i:Type}(a:d)(f:d->R i):(R.ok a).bind f=f a:=rfl
theorem ZF {d:Type}(a:d)(f:d->RS):(R.ok a).s f=f a:=rfl
theorem Jh (r:R T):zw (r.s λt=>.rt t)=r:=by cases r<;>rfl
theorem Zp (f:En->R T)(ρ:En):zC f ρ=(f (frz ρ)).s λt=>.rt t:=rfl
theorem zG {g:List T->R T}{f:En->R T}{ρ:En}:za 1 g (z9 f zj) ρ=(f ρ).bind λx=>g [x]:=by
 unfold za z9 zj;cases f ρ<;>rfl
theorem zW {g:List T->R T}{f d:En->R T}{ρ:En}:za 2 g (z9 f (z9 d zj)) ρ=(f ρ).bind λx=>(d ρ).bind λy=>g [x,y]:=by
 unfold za z9 zj;cases f ρ with
 |ok a=>cases d ρ<;>rfl
 |ex c=>rfl
 |bad=>rfl
theorem Zt {g:List T->R T}{f i d:En->R T}{ρ:En}:za 3 g (z9 f (z9 i (z9 d zj))) ρ=(f ρ).bind λx=>(i ρ).bind λy=>(d ρ).bind λz=>g [x,y,z]:=by
 unfold za z9 zj;cases f ρ with
 |ok a=>
  cases i ρ with
  |ok b=>cases d ρ<;>rfl
  |ex c=>rfl
  |bad=>rfl
 |ex c=>rfl
 |bad=>rfl
theorem F7 {g:List T->R T}{f i d j:En->R T}{ρ:En}:za 4 g (z9 f (z9 i (z9 d (z9 j zj)))) ρ=(f ρ).bind λx=>(i ρ).bind λy=>(d ρ).bind λz=>(j ρ).bind λw=>g [x,y,z,w]:=by
 unfold za z9 zj;cases f ρ with
 |ok a=>
  cases i ρ with
  |ok b=>
   cases d ρ with
   |ok c=>cases j ρ<;>rfl
   |ex c=>rfl
   |bad=>rfl
  |ex c=>rfl
  |bad=>rfl
 |ex c=>rfl
 |bad=>rfl
def sN (r k:R T):R T:=r.bind λx=>match x with
 |.bl true=>k
 |.bl false=>.ok (.bl false)
 |_=>.bad
theorem wF (f g:En->R T)(ρ:En):jy f g ρ=sN (f ρ) (g ρ):=rfl
theorem ZT (a:Bool)(k:R T):sN (.ok (.bl a)) k=if a=true then k else .ok (.bl false):=by cases a<;>rfl
theorem v0 {t:T}{ρ:En}:vE 0 (.vl t::ρ)=.ok t:=rfl
theorem v1 {t:T}{a:Sl}{ρ:En}:vE 1 (a::.vl t::ρ)=.ok t:=rfl
theorem w0 {t:T}{ρ:En}:vB 0 (.vl t::ρ)=.ok t:=rfl
theorem w1 {t:T}{a:Sl}{ρ:En}:vB 1 (a::.vl t::ρ)=.ok t:=rfl
theorem zY {t:T}{ρ:En}:cE t ρ=.ok t:=rfl
theorem zu {g:T->T->R T}{f a:En->R T}{ρ:En}:zd g f a ρ=(f ρ).bind λx=>(a ρ).bind λy=>g x y:=rfl
theorem jl {t:T}{ρ:En}:frz (.vl t::ρ)=.vl t::frz ρ:=rfl
theorem Wb {ρ:En}:frz (.un::ρ)=.un::frz ρ:=rfl
theorem jG:frz []=[]:=rfl
theorem V8 {g f:T->T->R Bool}{fa a d:En->R T}{ρ:En}:lU g f fa a d ρ=(fa ρ).bind λx=>(a ρ).bind λy=>(g x y).bind λk=>if k=true then (d ρ).bind λz=>(f y z).bind λi=>.ok (.bl i)else .ok (.bl false):=rfl
theorem ZU {g:T->R T}{f:En->R T}{ρ:En}:gx g f ρ=(f ρ).bind g:=rfl
theorem ug {i j:Int}:i4 (.int i) (.int j)=.ok (decide (i<=j)):=rfl
theorem Zq {g:T->T->R Bool}{f a:En->R T}{ρ:En}:ZD g f a ρ=(f ρ).bind λx=>(a ρ).bind λy=>(g x y).bind λb=>.ok (.bl b):=rfl
theorem uW {xs:List T}:Zb (.tup xs)=.ok (.int xs.length):=rfl
theorem Dm {xs:List T}:Zb (.lst xs)=.ok (.int xs.length):=rfl
mutual
noncomputable def sOk:T->Prop
 |.str x=>x.length<=iT
 |.tup xs=>UF xs
 |.lst xs=>UF xs
 |.fz xs=>UF xs
 |_=>True
noncomputable def UF:List T->Prop
 |[]=>True
 |t::ts=>sOk t/\UF ts
end
theorem jR:∀{ts:List T} {t:T},UF ts->t∈ts->sOk t
 |u::ts,t,h,a=>by
  have h':=by simpa only[UF]using h
  rcases am.mp a with rfl|a
  ·exact h'.1
  ·exact jR h'.2 a
theorem sOk.str {t:T}(h:sOk t):ke t:=by
 cases t with
 |str x=>
  have h':=by simpa only[sOk]using h
  exact h'
 |_=>trivial
theorem Wc {xs:List T}(h:sOk (.tup xs)):UF xs:=by simpa only[sOk]using h
def Z4:T->Bool
 |.tup [w,.int i]=>Zf w&&decide (1<=i)&&decide (i<=20)
 |_=>false
theorem qx (t:T)(a:sOk t):GQ [t]=.ok (.bl (Z4 t)):=by
 have e:GQ [t]=zw (rA _ _ _ [.vl t]):=rfl;rw[e,rA];simp only[Zp,Jh,jl,jG,wF,Zt,zG,v0,zY,af,zu,V8];rw[show mV [t,.int 2,.int 2]=.ok _ from jF t 2 2,ZT];cases t with
 |tup xs=>
  match xs,a with
  |[],_=>rfl
  |[_],_=>rfl
  |_::_::_::_,_=>simp[V7,Z4]
  |[w,n],a=>
   have d:sOk w:=jR (Wc a) (by simp)
   show (if true=true then sN (k7 [w]) (sN (ni [n]) ((i4 _ n).bind λk=>if k=true then (i4 n _).bind λf=>R.ok _ else .ok _))else _)=_
   rw[qw w d.str,UE,ZT,ZT];cases n with
   |int i=>
    show (if Zf w=true then (if true=true then (if decide _=true then R.ok _ else .ok _)else _)else _)=R.ok (T.bl (Zf w&&decide _&&decide _))
    cases Zf w<;>cases decide (1<=i)<;>rfl
   |_=>
    cases Zf w<;>rfl
 |_=>rfl
theorem Z6 (f g:En->RS)(ρ:En):zz f g ρ=match f ρ with|.nx a=>g a|r=>r:=rfl
theorem jc (g:En->R Bool)(d a:En->RS)(ρ:En):iS g d a ρ=(g ρ).s λk=>if k=true then d ρ else a ρ:=rfl
theorem Wd (f g:En->R Bool)(ρ:En):lH f g ρ=(f ρ).bind λx=>if x=true then .ok true else g ρ:=rfl
theorem jS (f:En->R Bool)(ρ:En):JI f ρ=(f ρ).bind λx=>.ok (!x):=rfl
theorem ZJ (f:En->R T)(ρ:En):ZQ f ρ=(f ρ).bind pT:=rfl
theorem Ji (k:Bool):pT (.bl k)=.ok k:=rfl
theorem Jj (i:Nat)(f:En->R T)(ρ:En):zH i f ρ=(f ρ).s λt=>.nx (ρ.set i (.vl t)):=rfl
theorem zN {g:T->T->R Bool}{f a:En->R T}{ρ:En}:zB g f a ρ=(f ρ).bind λx=>(a ρ).bind λy=>g x y:=rfl
theorem Z5 {fi:En->R (List T)}{g:T->En->R En}{ft:En->R Bool}{fe:En->R T}{k:Nat}{js:List Nat}{ρ:En}:zL fi g ft fe k js ρ=(fi ρ).bind λts=>(zK g ft fe k js ρ ts).bind λvs=>.ok (.lst vs):=rfl
theorem jm {f:En->R T}{ρ:En}:Z9 f ρ=(f ρ).bind jP:=rfl
noncomputable def j0:T->Str
 |.tup (.str w::_)=>w
 |_=>⟨#[]⟩
def UG:T->Bool
 |.tup a=>decide (1<=a.length)&&decide (a.length<=4)&&a.all Z4&&decide ((dd [] (a.map j0)).length=a.length)
 |_=>false
theorem uh {c:T}(h:Z4 c=true):∃w n,c=.tup [.str w,n]:=by
 unfold Z4 at h;split at h
 ·rename_i w i;cases w with
  |str x=>exact⟨x,_,rfl⟩
  |_=>cases h
 ·cases h
theorem wG:∀{a:List T},a.all Z4=true->uQ (a.map λc=>T.str (j0 c))=some (a.map j0)
 |[],_=>rfl
 |c::a,h=>by
  rw[df,ar]at h;have d:=wG h.2;show (match uQ (a.map λc=>T.str _)with|some f=>some _|none=>none)=_
  rw[d];rfl
theorem yG (t:T)(o:sOk t):GR [t]=.ok (.bl (UG t)):=by
 have e:GR [t]=zw (tw _ _ [.vl t,.un]):=rfl;rw[e,tw];simp only[Z6,jc,Wd,jS,ZJ,Zt,v0,zY,af];rw[show mV [t,.int 1,.int 4]=.ok _ from jF t 1 4];cases t with
 |tup a=>
  have v:V7 1 4 (.tup a)=(decide _&&decide _):=rfl;rw[v];show _=R.ok (T.bl (decide _&&decide _&&a.all _&&decide _));cases f:(decide (1<=a.length)&&decide (a.length<=4))with
  |false=>rfl
  |true=>
   rw[ar,decide_eq_true_eq,decide_eq_true_eq]at f;have j:a.length<=iT:=aG f.2 (by decide)
   have p:zK _ _ (za 1 GQ (z9 (vE 0) zj)) 1 [] [.vl (.tup a),.un] a=.ok (a.map λc=>T.bl _):=
    Ze a j λc i=>by
     exact qx c (jR (Wc o) i)
   simp only[eI,aZ,if_false,ZU,Z5,jm,v0,af,jP,p];have u:Xn (.lst (a.map λc=>T.bl (Z4 c)))=.ok (.bl (a.all Z4)):=by
    show (match uH (a.map λc=>T.bl _)with|some k=>R.ok _|none=>.bad)=_
    rw[Js]
   rw[u];simp only[af,Ji,ZF];cases d:a.all _ with
   |false=>rfl
   |true=>
    have q:zK _ _ (zd fr (vE 0) (cE (.int 0))) 1 [] [.vl (.tup a),.un] a=.ok (a.map λc=>T.str (j0 c)):=
     Ze a j λc i=>by
      obtain⟨w,n,rfl⟩:=uh (aU.mp d c i);rfl
    simp only[eI,aZ,if_false,iR,Jj,Z5,jm,v0,af,jP,q,ZF,Zp];show zw (((vF (.lst (a.map λc=>T.str _))).bind λx=>(Zb (.lst (a.map λc=>T.str _))).bind λy=>(iQ x y).bind λb=>R.ok _).s λt=>.rt t)=_;have r:vF (.lst (a.map λc=>T.str (j0 c)))=.ok (.int (dd [] (a.map j0)).length):=by
     show (match uQ (a.map λc=>T.str _)with|some B=>if (a.map λc=>T.str _).length+1<4096 then R.ok _ else .bad|none=>.bad)=_
     rw[wG d];exact if_pos (by rw[ah];lia)
    rw[r,Dm,ah];show R.ok _=_;congr 2
    by_cases l:(dd [] (a.map j0)).length=a.length
    ·rw[l];simp
    ·rw[decide_eq_false l];simp only[fN,beq_eq_false_iff_ne];lia
 |_=>rfl
noncomputable def isS (w:Str):T->Bool
 |.str s=>s==w
 |_=>false
theorem EK (h:T)(w:Str):iQ h (.str w)=.ok (isS w h):=by cases h<;>rfl
theorem md (i j:Int):iQ (.int i) (.int j)=.ok (i==j):=rfl
theorem l7 {h:T}{r:List T}:fr (.tup (h::r)) (.int 0)=.ok h:=by
 show ly _ 0=_;unfold ly;rw[show lQ _ 0=some h from jh rfl]
theorem nO {h a:T}{r:List T}:fr (.tup (h::a::r)) (.int 1)=.ok a:=by
 show ly _ 1=_;unfold ly;rw[show lQ _ 1=some a from jh rfl]
theorem AU {h a b:T}{r:List T}:fr (.tup (h::a::b::r)) (.int 2)=.ok b:=by
 show ly _ 2=_;unfold ly;rw[show lQ _ 2=some b from jh rfl]
theorem CS {h a b c:T}{r:List T}:fr (.tup (h::a::b::c::r)) (.int 3)=.ok c:=by
 show ly _ 3=_;unfold ly;rw[show lQ _ 3=some c from jh rfl]
noncomputable def JR (k:T->Bool):T->Bool
 |.tup a=>decide (1<=a.length)&&decide (a.length<=3)&&a.all k
 |_=>false
def ui:List T->Bool
 |[a,b]=>Jg (-20) 20 a b
 |_=>false
def qy:List T->Bool
 |[c]=>UG c
 |_=>false
def pI (k:T->Bool):List T->Bool
 |[c]=>JR k c
 |_=>false
def qz (k:T->Bool):List T->Bool
 |[c,a,b]=>Jg 0 3 a b&&k c
 |_=>false
def yH (k:T->Bool):T->Bool
 |.tup (h::r)=>if isS "whole" h=true then ui r else if isS "pick" h=true then qy r else if isS "row" h=true then pI k r else if isS "many" h=true then qz k r else false
 |_=>false
def l0:Nat->T->Bool
 |0,_=>false
 |d+1,t=>yH (l0 d) t
theorem qA {a:Type}(xs:List a)(n:Nat):((xs.length:Int)==(n:Int))=decide (xs.length=n):=by
 by_cases h:xs.length=n
 ·rw[h];simp
 ·rw[decide_eq_false h,beq_eq_false_iff_ne];lia
theorem xh {f:En->R T}{ρ:En}:J8 f ρ=(f ρ).bind λx=>match x with|.int i=>.ok (.int (-i))|_=>.bad:=rfl
theorem Zy {i j:Int}:ZW (.int i) (.int j)=.ok (.int (i-j)):=rfl
set_option maxHeartbeats 1000000 in
theorem kf {n:Nat}{d:Nat}{k:T->Bool}(o:∀t,sOk t->lZ n 0 [t,.int d]=.ok (.bl (k t)))(y:∀t,sOk t->lZ n 1 [t,.int d]=.ok (.bl (JR k t)))(t:T)(l:sOk t):
  lZ (n+1) 0 [t,.int ((d+1:Nat):Int)]=.ok (.bl (yH k t)):=by
 have e:lZ (n+1) 0 [t,.int ((d+1:Nat))]=zw (sU tM _ GR _ [.vl t,.vl (.int _)]):=rfl;have q:(((d+1:Nat):Int)==0)=false:=by rw[beq_eq_false_iff_ne];lia
 have i:((d+1:Nat))-1=(d:Int):=by lia
 rw[e,sU];simp only[Z6,jc,Wd,jS,ZJ,zN,w0,w1,zY,af,md,q,aZ,if_false,ZU];cases t with
 |tup xs=>
  cases xs with
  |nil=>rfl
  |cons h r=>
   have G:=Wc l;have f:∀u∈r,sOk u:=λu B=>jR G (ai _ B);have p:(((h::r).length:Int)==0)=false:=by rw[beq_eq_false_iff_ne];simp only[ac];lia
   have v:wX "tuple" (.tup (h::r))=.ok (.bl true):=rfl;simp only[v,af,Ji,eI,aZ,if_false,uW,md,p,ZF,iR,zu,v0,v1,zY,l7,EK,Zp,jl,jG,wF,Zq,ZU,w0,F7,zG,zW,xh,Zy,i];show _=R.ok (T.bl (if isS "whole" h=true then ui r else if isS "pick" h=true then qy r else if isS "row" h=true then pI k r else if isS "many" h=true then qz k r else false))
   have l3:(((h::r).length:Int)==3)=decide _:=qA (h::r) 3;have j:(((h::r).length:Int)==2)=decide _:=qA (h::r) 2;have l4:(((h::r).length:Int)==4)=decide _:=qA _ 4;simp only[j,l3,l4,ZT];cases isS _ h with
   |true=>
    match r,f with
    |[],_=>rfl
    |[_],_=>rfl
    |_::_::_::_,_=>simp[ui,ZF,zw]
    |[a,b],_=>
     simp only[nO,AU,af,qv];rfl
   |false=>
    simp only[aZ,if_false,v0,v1,w0,af,l7,ZF,jl,jG,uW,md,j,l4,ZT,Zy,i];cases isS _ h with
    |true=>
     match r,f with
     |[],_=>rfl
     |_::_::_,_=>simp[qy,ZF,zw]
     |[c],f=>
      simp only[nO,af,yG c (f c (by simp))]
      rfl
    |false=>
     simp only[aZ,if_false,v0,v1,w0,af,l7,ZF,jl,jG,uW,md,j,l4,ZT,Zy,i];cases isS _ h with
     |true=>
      match r,f with
      |[],_=>rfl
      |_::_::_,_=>simp[pI,ZF,zw]
      |[c],f=>
       simp only[nO,af,y c (f c (by simp))]
       rfl
     |false=>
      simp only[aZ,if_false,v0,v1,w0,af,l7,ZF,jl,jG,uW,md,j,l4,ZT,Zy,i];cases isS _ h with
      |true=>
       match r,f with
       |[],_=>rfl
       |[_],_=>rfl
       |[_,_],_=>rfl
       |_::_::_::_::_,_=>simp[qz,ZF,zw]
       |[c,a,b],f=>
        simp only[nO,AU,CS,af,qv,o c (f c (by simp)),ZT]
        show zw (match (if Jg 0 3 a b=true then R.ok _ else .ok _).s (λt=>RS.rt t)with|.nx _=>RS.rt _|r=>r)=R.ok (T.bl (Jg 0 3 a b&&k c))
        cases Jg 0 3 a b<;>rfl
      |false=>rfl
 |_=>rfl
theorem Ex {n:Nat}{d:Nat}{k:T->Bool}(j:∀t,sOk t->lZ n 0 [t,.int d]=.ok (.bl (k t)))(t:T)(i:sOk t):lZ (n+1) 1 [t,.int d]=.ok (.bl (JR k t)):=by
 have e:lZ (n+1) 1 [t,.int d]=zw (tR mV (lZ n 0) [.vl t,.vl (.int d)]):=rfl;rw[e,tR];simp only[Zp,Jh,jl,jG,wF,Zt,v0,zY,af];rw[show mV [t,.int 1,.int 3]=.ok (.bl (V7 1 3 t)) from jF t 1 3,ZT];cases t with
 |tup a=>
  show (if (decide (1<=a.length)&&decide (a.length<=3))=true then _ else _)=R.ok (T.bl (decide (1<=a.length)&&decide (a.length<=3)&&a.all k))
  cases f:(decide (1<=a.length)&&decide (a.length<=3))with
  |false=>rfl
  |true=>
   rw[ar,decide_eq_true_eq,decide_eq_true_eq]at f;have l:a.length<=iT:=aG f.2 (by decide)
   have o:zK (zI 0) Z1 (za 2 (lZ n 0) (z9 (vE 0) (z9 (vE 1) zj))) 1 [1] [.vl (.tup a),.vl (.int d)] a=.ok (a.map λc=>T.bl (k c)):=
    Ze (h:=λc=>T.bl (k c)) a l λc p=>by
     show za 2 (lZ n 0) (z9 (vE 0) (z9 (vE 1) zj)) [.vl c,.vl (.int d)]=_;rw[zW,v0,v1,af,af];exact j c (jR (Wc i) p)
   simp only[if_true,ZU,Z5,jm,v0,af,jP,o];show (match uH (a.map λc=>T.bl (k c))with|some k=>R.ok (T.bl k)|none=>.bad)=_
   rw[Js];rfl
 |_=>rfl
theorem uX:∀(d n:Nat),2*d+1<=n->∀t,sOk t->lZ n 0 [t,.int d]=.ok (.bl (l0 d t))
 |0,n+1,_,t,_=>rfl
 |d+1,n+2,h,t,i=>kf (n:=n+1) (λu a=>uX d (n+1) (by lia) u a) (λu a=>Ex (λv f=>uX d n (by lia) v f) u a) t i
theorem wH (t:T)(a:sOk t):m3 [t]=.ok (.bl (l0 3 t)):=by
 have e:m3 [t]=zw (rX (AD 20) [.vl t]):=rfl;rw[e,rX];simp only[Zp,Jh,jl,jG,zW,v0,zY,af];exact uX 3 20 (by lia) t a
noncomputable def o6 (lo hi:Int):T->Bool
 |.int i=>decide (lo<=i)&&decide (i<=hi)
 |_=>false
theorem FG (xs:List T):iQ (.lst xs) (.lst [])=.ok xs.isEmpty:=by cases xs<;>rfl
theorem uj:∀(ws acc:List Str),(dd acc ws).length<=acc.length+ws.length
 |[],acc=>au _
 |w::ws,acc=>by
  unfold dd;have:=uj ws (if w∈acc then acc else acc++[w])
  by_cases h:w∈acc
  ·rw[if_pos h]at this⊢;simp only[ac];lia
  ·rw[if_neg h]at this⊢;rw[ae,aL]at this;simp only[ac];lia
theorem We:∀(ws acc:List Str),((dd acc ws).length=acc.length+ws.length)↔∀(k:Nat) (w:Str),ws[k]?=some w->w∉acc++ws.take k
 |[],acc=>by simp[dd]
 |w::ws,acc=>by
  unfold dd
  by_cases h:w∈acc
  ·rw[if_pos h];have:=uj ws acc;constructor
   ·intro e;simp only[ac]at e;lia
   ·intro H;exact absurd (bM _ h) (H 0 w rfl)
  ·rw[if_neg h];have a:=We ws (acc++[w]);rw[ae,aL]at a;rw[show acc.length+(w::ws).length=acc.length+1+ws.length by simp only[ac];lia,a]
   constructor
   ·intro H k v e;cases k with
    |zero=>simp at e;subst e;simpa using h
    |succ k=>
     have:=H k v (by simpa using e)
     simpa[aQ]using this
   ·intro H k v e;have:=H (k+1) v (by simpa using e)
    simpa[aQ]using this
theorem AH (i j:Int):mL (.int i) (.int j)=.ok (decide (i<j)):=rfl
theorem v2 {t:T}{a b:Sl}{ρ:En}:vE 2 (a::b::.vl t::ρ)=.ok t:=rfl
theorem v3 {t:T}{a b c:Sl}{ρ:En}:vE 3 (a::b::c::.vl t::ρ)=.ok t:=rfl
theorem w2 {t:T}{a b:Sl}{ρ:En}:vB 2 (a::b::.vl t::ρ)=.ok t:=rfl
theorem w3 {t:T}{a b c:Sl}{ρ:En}:vB 3 (a::b::c::.vl t::ρ)=.ok t:=rfl
theorem w5 {t:T}{a b c d e:Sl}{ρ:En}:vB 5 (a::b::c::d::e::.vl t::ρ)=.ok t:=rfl
theorem v4 {t:T}{a b c d:Sl}{ρ:En}:vE 4 (a::b::c::d::.vl t::ρ)=.ok t:=rfl
theorem Wf (f g:En->R Bool)(ρ:En):Yz f g ρ=(f ρ).bind λx=>if x=true then g ρ else .ok false:=rfl
theorem UH (w:Str):∀ws:List Str,WB (λy=>iX 30 y (.str w)) (ws.map T.str)=some (decide (w∈ws))
 |[]=>rfl
 |x::ws=>by
  have a:=UH w ws;show (match WB (λy=>iX 30 y (.str w)) (ws.map T.str)with|none=>none|some c=>some ((x==w)||c))=_
  rw[a];show some ((x==w)||decide (w∈ws))=_
  congr 1
  by_cases h:x=w
  ·subst h;simp
  ·have h':¬w=x:=λz=>h z.symm;simp[h,h']
theorem ER {i j:Nat}{f d:En->R T}{ρ:En}:gR i j (z9 f (z9 d zj)) ρ=(f ρ).s λx=>(d ρ).s λy=>.nx ((ρ.set i (.vl x)).set j (.vl y)):=by
 unfold gR z9 zj;cases f ρ with
 |ok a=>cases d ρ<;>rfl
 |ex c=>rfl
 |bad=>rfl
theorem Dn (i j:Int):lL (.int i) (.int j)=.ok (decide (i>j)):=rfl
theorem Z8 (i j:Int):zv (.int i) (.int j)=.ok (.int (i+j)):=rfl
theorem EX (p:Int)(a:0<=p)(d:p<26):fr (.str "abcdefghijklmnopqrstuvwxyz") (.int p)=.ok (.str ⟨#[97+p.toNat]⟩):=by
 obtain⟨n,rfl⟩:=cC a;have h:n<26:=by lia
 iterate 26 (refine(Nat.lt_or_eq_of_le (Nat.le_of_lt_succ h)).elim (λh=>?_) (λe=>e▸rfl))
 exact absurd h (dI _)
abbrev oZ:En->R T:=zd fr (vE 3) (za 3 lB (z9 (vE 1) (z9 (zd zv (zd zv (vE 2) (cE (.int 2))) (vE 0)) (z9 (cE (.int 26)) (zj)))))
theorem Hx (ns:List Int)(k:Int)(f:0<=k)(j:Nat):∃c:Nat,(97<=c/\c<=122)/\oZ [.vl (.int (j:Int)),.vl (iZ ns),.vl (.int k),.vl (.str "abcdefghijklmnopqrstuvwxyz")]=.ok (.str ⟨#[c]⟩):=by
 obtain⟨p,e,d,a⟩:=zR ns (k+2+j) 26 (by lia) (by lia)
 refine⟨97+p.toNat,⟨by lia,by lia⟩,?_⟩
 simp only[oZ,zu,v3,af,Zt,v1,v2,v0,zY,Z8,e];exact EX p d a
theorem yI (ns:List Int)(k:Int)(o:0<=k):∃w:Str,Ka [iZ ns,.int k]=.ok (.str w)/\Zf (.str w)=true:=by
 have e:Ka [iZ ns,.int k]=zw (sM _ [.vl _,.vl _,.un]):=rfl;obtain⟨p,y,J,L⟩:=zR ns k 6 o (by lia)
 have f:∀t,([Sl.vl (iZ ns),Sl.vl (.int k),.un]).set 2 _=[Sl.vl _,Sl.vl _,.vl t]:=λ_=>rfl;rw[e,sM];simp only[Z6,jc,Jj,zY,ZF,f,zN,Zt,v0,v1,af,y,Dn];cases hp:decide (p>0)with
 |true=>
  obtain⟨q,i,u,I⟩:=zR ns (k+1) 4 (by lia) (by lia)
  simp only[if_true,Zp,jl,jG,zu,Zt,v0,v1,zY,af,Z8,i];have l:q=0\/q=1\/q=2\/q=3:=by lia
  rcases l with rfl|rfl|rfl|rfl
  ·exact⟨"a",rfl,by decide⟩
  ·exact⟨"b",rfl,by decide⟩
  ·exact⟨"ab",rfl,by decide⟩
  ·exact⟨"cab",rfl,by decide⟩
 |false=>
  obtain⟨q,i,u,I⟩:=zR ns (k+1) 3 (by lia) (by lia)
  simp only[aZ,if_false,iR,Zp,Jh,jl,jG,ZU,Z5];obtain⟨g,r⟩:=io.mp (Hx ns k o);have B:Zs (zd zv (cE (.int 1)) (za 3 lB (z9 (vE 0) (z9 (zd zv (vE 1) (cE (.int 1))) (z9 (cE (.int 3)) (zj)))))) [Sl.vl (iZ ns),Sl.vl (.int k),.vl (.str "abcdefghijklmnopqrstuvwxyz")]=.ok (rng 0 (1+q).toNat):=by
   unfold Zs;simp only[zu,Zt,v0,v1,zY,af,Z8,i];rw[if_pos ⟨by lia,by lia⟩]
  have G:∀n,n<=3->zK _ _ _ 1 [0,1,2] [Sl.vl _,Sl.vl _,.vl _] _=.ok ((rng 0 n).map λt=>match t with|.int j=>.str ⟨#[g j.toNat]⟩|t=>t):=λn hn=>
   Ze _ (by unfold rng;rw[ah,bi];exact aG hn (by decide)) λt v=>by
    obtain⟨j,_,rfl⟩:=aF.mp v;rw[hV];exact(r j).2
  rw[B,af,G _ (by lia),af]
  have d:∀j,Zo _=true:=λj=>by
   obtain⟨a,b⟩:=(r j).1;unfold Zo;rw[decide_eq_true a,decide_eq_true b];rfl
  have l:q=0\/q=1\/q=2:=by lia
  rcases l with rfl|rfl|rfl
  ·refine⟨⟨#[g 0]⟩,rfl,?_⟩;show (Zo _&&true)=true;rw[d 0];rfl
  ·refine⟨⟨#[g 0,g 1]⟩,rfl,?_⟩;show (Zo _&&(Zo _&&true))=true;rw[d 0,d 1];rfl
  ·refine⟨⟨#[g 0,g 1,g 2]⟩,rfl,?_⟩;show (Zo _&&(Zo _&&(Zo _&&true)))=true;rw[d 0,d 1,d 2];rfl
theorem Ev (j:Int):Z7 (.int 5) (.int j)=.ok (.int (5*j)):=by
 show (if uG 5 j then R.ok _ else .bad)=_
 rw[if_pos (.inl ⟨by decide,by decide⟩)]
theorem WF {f g:En->R T}{ρ:En}{x y:T}(a:f ρ=.ok x)(d:g ρ=.ok y):Zm (z9 f (z9 g zj)) ρ=.ok (.tup [x,y]):=by
 unfold Zm z9 zj;rw[a,d];rfl
theorem o5 {f g h:En->R T}{ρ:En}{x y z:T}(d:f ρ=.ok x)(i:g ρ=.ok y)(a:h ρ=.ok z):Zm (z9 f (z9 g (z9 h zj))) ρ=.ok (.tup [x,y,z]):=by
 unfold Zm z9 zj;rw[d,i,a];rfl
theorem Al {f g h i:En->R T}{ρ:En}{x y z w:T}(d:f ρ=.ok x)(j:g ρ=.ok y)(a:h ρ=.ok z)(hi:i ρ=.ok w):Zm (z9 f (z9 g (z9 h (z9 i zj)))) ρ=.ok (.tup [x,y,z,w]):=by
 unfold Zm z9 zj;rw[d,j,a,hi];rfl
noncomputable def Dst (ws:List Str):Prop:=∀(k:Nat) (w:Str),ws[k]?=some w->w∉ws.take k
theorem Dst.add {ws:List Str}(h:Dst ws){w:Str}(i:w∉ws):Dst (ws++[w]):=λk x a=>by
 by_cases f:k<ws.length
 ·rw[aD f]at a;rw[dE (by lia)]
  exact h k x a
 ·rw[az (by lia)]at a
  have d:k=ws.length:=by
   rcases Nat.lt_or_ge (k-ws.length) 1 with z|z
   ·lia
   ·rw[b9 (by simpa using z)]at a;cases a
  subst d;rw[dz]at a;cases a;rw[List.take_left']
  ·exact i
  ·rfl
abbrev uk:En->RS:=zz (zH 5 (za 2 Ka (z9 (vE 0) (z9 (zd zv (zd zv (vE 1) (cE (.int 5))) (zd Z7 (cE (.int 5)) (vE 4))) (zj)))))
  (iS (zB vk (vB 5) (vB 3)) (Up 3 (vE 5)) (iR))
theorem JS (ns:List Int)(k:Int)(U:0<=k):∀(js:List Nat) (ws:List Str) (o l:Sl),js.length+ws.length<=4->Dst ws->(∀w∈ws,Zf (.str w)=true)->
  ∃d u p,Zr (zI 4) uk (js.map λ(j:Nat)=>T.int (0+(j:Int))) [.vl (iZ ns),.vl (.int k),.un,.ow (ws.map T.str),o,l]=.nx [.vl (iZ ns),.vl (.int k),.un,.ow (d.map T.str),u,p]/\d.length<=4/\Dst d/\(∀w∈d,Zf (.str w)=true)/\(0<js.length+ws.length->0<d.length)
 |[],ws,o,l,Q,hd,v=>⟨ws,o,l,rfl,by simpa using Q,hd,v,λh=>by simpa using h⟩
 |j::js,ws,o,l,Q,hd,v=>by
  obtain⟨w,ew,G⟩:=yI ns (k+5+5*(0+(j:Int))) (by lia)
  have Z:js.length+ws.length+1<=4:=by simpa[ac,Nat.add_right_comm]using Q
  have e:Zr (zI 4) uk ((j::js).map λ(j:Nat)=>T.int (0+(j:Int))) [.vl (iZ ns),.vl (.int k),.un,.ow (ws.map T.str),o,l]=match uk [.vl (iZ ns),.vl (.int k),.un,.ow (ws.map T.str),.vl (.int (0+(j:Int))),l]with
   |.nx f=>Zr (zI 4) uk (js.map λ(j:Nat)=>T.int (0+(j:Int))) f
   |.ct f=>Zr (zI 4) uk (js.map λ(j:Nat)=>T.int (0+(j:Int))) f
   |.bk f=>.nx f
   |r=>r:=rfl
  have eb:uk [.vl (iZ ns),.vl (.int k),.un,.ow (ws.map T.str),.vl (.int (0+(j:Int))),l]=.nx [.vl (iZ ns),.vl (.int k),.un,.ow ((if w∈ws then ws else ws++[w]).map T.str),.vl (.int (0+(j:Int))),.vl (.str w)]:=by
   have L:∀(a b c:Sl) (ts:List T) (ρ:En),vB 3 (a::b::c::.ow ts::ρ)=.ok _:=λ_ _ _ _ _=>rfl;have q:∀t,([.vl _,.vl (.int k),.un,.ow (ws.map T.str),.vl (.int (0+(j:Int))),l]:En).set 5 (.vl t)=[.vl (iZ ns),.vl (.int k),.un,.ow (ws.map T.str),.vl _,.vl t]:=λ_=>rfl;have en:vk (.str w) (.lst (ws.map T.str))=.ok (!decide (w∈ws)):=by
    show ((match WB (λy=>iX 30 y (.str w)) (ws.map _)with|some b=>R.ok b|none=>.bad)).bind (λb=>R.ok _)=_
    rw[UH];rfl
   simp only[uk,Z6,Jj,zW,v0,v1,v4,zu,zY,af,Z8,Ev,ew,ZF,q,jc,zN,w5,L,en]
   by_cases i:w∈ws
   ·rw[decide_eq_true i,if_pos i];rfl
   ·rw[decide_eq_false i,if_neg i];have X:(ws.map T.str).length<iT:=by rw[ah];exact bW (show ws.length<=4 by lia) (by decide)
    show (if (ws.map _).length<iT then RS.nx _ else .bad)=_
    rw[if_pos X,bF];rfl
  rw[e,eb]
  by_cases i:w∈ws
  ·rw[if_pos i];obtain⟨d,u,p,B,N,J,I,P⟩:=JS ns k U js ws _ _ (by lia) hd v
   exact⟨d,u,p,B,N,J,I,λ_=>P (by have:=List.length_pos_of_mem i;lia)⟩
  ·rw[if_neg i];obtain⟨d,u,p,B,N,J,I,P⟩:=JS ns k U js _ _ _ (by simp only[ae,ac,ao];lia) (hd.add i) (λx hx=>by
    rcases aT.mp hx with z|z
    ·exact v x z
    ·rw[ax.mp z];exact G)
   exact⟨d,u,p,B,N,J,I,λ_=>P (by simp only[ae,ac,ao];lia)⟩
abbrev rD:En->R T:=Zm (z9 (vE 1) (z9 (zd zv (cE (.int 1)) (za 3 lB (z9 (vE 2) (z9 (zd zv (zd zv (vE 3) (cE (.int 30))) (vE 0)) (z9 (cE (.int 20)) (zj)))))) (zj)))
theorem UI (ns:List Int)(k:Int)(r:0<=k):∀(ws:List Str) (i:Nat) (f d:Sl),(∀w∈ws,Zf (.str w)=true)->∃a:List T,zQ (zV 0 1) Z1 rD (((ws.map T.str).zipIdx i).map λp=>T.tup [.int (p.2:Nat),p.1]) [f,d,.vl (iZ ns),.vl (.int k)]=.ok a/\a.all Z4=true/\a.map j0=ws
 |[],i,f,d,_=>⟨[],rfl,rfl,rfl⟩
 |w::ws,i,f,d,j=>by
  obtain⟨p,e,I,J⟩:=zR ns (k+30+i) 20 (by lia) (by lia)
  obtain⟨a,l,B,y⟩:=UI ns k r ws _ _ _ λx o=>j x (ai _ o);have u:rD [.vl (.int (i)),.vl (.str w),.vl (iZ ns),.vl (.int k)]=.ok (.tup [.str w,.int (1+p)]):=by
   have G:za 3 lB (z9 (vE 2) (z9 (zd zv (zd zv (vE 3) (cE (.int 30))) (vE 0)) (z9 (cE (.int 20)) (zj)))) [.vl (.int (i)),.vl (.str w),.vl (iZ ns),.vl (.int k)]=.ok (.int p):=by
    simp only[Zt,v2,v3,v0,zu,zY,af,Z8,e]
   have q:zd zv (cE (.int 1)) (za 3 lB (z9 (vE 2) (z9 (zd zv (zd zv (vE 3) (cE (.int 30))) (vE 0)) (z9 (cE (.int 20)) (zj))))) [.vl (.int (i)),.vl (.str w),.vl (iZ ns),.vl (.int k)]=.ok (.int (1+p)):=by
    rw[zu,G];rfl
   exact WF v1 q
  refine⟨.tup [.str w,.int (1+p)]::a,?_,?_,?_⟩
  ·show ((rD [.vl _,.vl _,.vl _,.vl _]).bind λv=>(zQ _ _ _ (((ws.map _).zipIdx _).map λp=>T.tup _) [.vl _,.vl _,.vl _,.vl _]).bind λvs=>R.ok _)=_;rw[u,l];rfl
  ·rw[df,B,Bool.and_true];show (Zf _&&decide _&&decide _)=true;rw[j w aj,decide_eq_true (by lia),decide_eq_true (by lia)];rfl
  ·rw[aK,y];rfl
theorem xi (i j:Int):WY (.int i) (.int j)=.ok (.int (if j<i then j else i)):=rfl
theorem kg (ns:List Int)(k:Int)(G:0<=k):∃t,GP [iZ ns,.int k]=.ok t/\∀d,l0 (d+1) t=true:=by
 have e:GP [iZ ns,.int k]=zw (tT lB Ka [.vl (iZ ns),.vl (.int k),.un,.un,.un,.un]):=rfl;obtain⟨p,X,p0,p1⟩:=zR ns k 3 G (by lia)
 rw[e,tT,Z6];simp only[jc,zN,Zt,v0,v1,zY,af,X,Dn,ZF];cases hp:decide (p>0)with
 |true=>
  obtain⟨q,B,q0,q1⟩:=zR ns (k+1) 7 (by lia) (by lia)
  obtain⟨q3,e3,_,_⟩:=zR ns (k+3) 8 (by lia) (by lia)
  obtain⟨v,u,a4,b4⟩:=zR ns (k+4) 3 (by lia) (by lia)
  obtain⟨N,e2,a2,b2⟩:=zR ns (k+2) 4 (by lia) (by lia)
  have f:∀t x,([.vl (iZ ns),.vl (.int k),x,.un,.un,.un]:En).set 2 (.vl t)=[.vl (iZ ns),.vl (.int k),.vl t,.un,.un,.un]:=λ_ _=>rfl;have j:∀a:Int, -20<=a->a<=20->∃t,zw (zC (Zm (z9 (cE (.str "whole")) (z9 (vE 2) (z9 (zd WY (cE (.int 20)) (zd zv (vE 2) (za 3 lB (z9 (vE 0) (z9 (zd zv (vE 1) (cE (.int 2))) (z9 (cE (.int 4)) (zj))))))) (zj))))) [.vl (iZ ns),.vl (.int k),.vl (.int a),.un,.un,.un])=.ok t/\∀d,l0 (d+1) t=true:=by
   intro a y hl2;refine⟨.tup [.str "whole",.int a,.int (if a+N<20 then a+N else 20)],?_,λd=>?_⟩
   ·rw[Zp,Jh];refine o5 rfl rfl ?_;simp only[jl,Wb,jG,zu,v2,v0,v1,Zt,zY,af,Z8,e2,xi]
   ·show (decide (-20<=a)&&decide (a<=_)&&decide (_<=(20:Int)))=true;rw[decide_eq_true y,decide_eq_true (by split<;>lia),decide_eq_true (by split<;>lia)];rfl
  simp only[if_true,Z6,Jj,jc,zu,Zt,v0,v1,zY,af,Z8,B,Zy,ZF,f,zN,e3,md];cases hq:(q3==0)with
  |true=>
   have h3:v=0\/v=1\/v=2:=by lia
   rcases h3 with rfl|rfl|rfl
   ·obtain⟨t,r,s⟩:=j (-20) (by lia) (by lia)
    refine⟨t,?_,s⟩;rw[←r];simp only[if_true,u,af];have o:∀ρ,(jb (z9 (J8 (cE (.int 20))) (z9 (cE (.int 17)) (z9 (cE (.int 20)) (zj)))) ρ)=.ok (.lst [.int (-20),.int 17,.int 20]):=λ_=>rfl;simp only[o,af];have l:fr (.lst [.int (-20),.int 17,.int 20]) (.int 0)=.ok (.int (-20)):=rfl;simp only[l,ZF,f,Zp];generalize Zm _ _=z;cases z<;>rfl
   ·obtain⟨t,r,s⟩:=j (17) (by lia) (by lia)
    refine⟨t,?_,s⟩;rw[←r];simp only[if_true,u,af];have o:∀ρ,(jb (z9 (J8 (cE (.int 20))) (z9 (cE (.int 17)) (z9 (cE (.int 20)) (zj)))) ρ)=.ok (.lst [.int (-20),.int 17,.int 20]):=λ_=>rfl;simp only[o,af];have l:fr (.lst [.int (-20),.int 17,.int 20]) (.int 1)=.ok (.int (17)):=rfl;simp only[l,ZF,f,Zp];generalize Zm _ _=z;cases z<;>rfl
   ·obtain⟨t,r,s⟩:=j (20) (by lia) (by lia)
    refine⟨t,?_,s⟩;rw[←r];simp only[if_true,u,af];have o:∀ρ,(jb (z9 (J8 (cE (.int 20))) (z9 (cE (.int 17)) (z9 (cE (.int 20)) (zj)))) ρ)=.ok (.lst [.int (-20),.int 17,.int 20]):=λ_=>rfl;simp only[o,af];have l:fr (.lst [.int (-20),.int 17,.int 20]) (.int 2)=.ok (.int (20)):=rfl;simp only[l,ZF,f,Zp];generalize Zm _ _=z;cases z<;>rfl
  |false=>
   obtain⟨t,r,s⟩:=j (q-3) (by lia) (by lia)
   refine⟨t,?_,s⟩;rw[←r];simp only[aZ,if_false,iR,Zp];generalize Zm _ _=z;cases z<;>rfl
 |false=>
  obtain⟨q,B,q0,q1⟩:=zR ns (k+1) 4 (by lia) (by lia)
  simp only[aZ,if_false,iR,Z6];have ei:Zs (zd zv (cE (.int 1)) (za 3 lB (z9 (vE 0) (z9 (zd zv (vE 1) (cE (.int 1))) (z9 (cE (.int 4)) (zj)))))) [.vl (iZ ns),.vl (.int k),.un,.ow [],.un,.un]=.ok (rng 0 (1+q).toNat):=by
   unfold Zs;simp only[zu,Zt,v0,v1,zY,af,Z8,B];rw[if_pos ⟨by lia,by lia⟩]
  have el:Uo 3 zj [.vl (iZ ns),.vl (.int k),.un,.un,.un,.un]=.nx [.vl (iZ ns),.vl (.int k),.un,.ow [],.un,.un]:=rfl;rw[el];have hn:(b6 (1+q).toNat).length=(1+q).toNat:=bi;obtain⟨ws,L,J,U,r2,r3,r4,r5⟩:=JS ns k G (b6 (1+q).toNat) [] .un .un (by rw[hn,ao];lia) (λk w h=>by cases h) (λw h=>by cases h)
  have P:0<ws.length:=r5 (by rw[hn,ao];lia)
  have Q:ZR (Zs (zd zv (cE (.int 1)) (za 3 lB (z9 (vE 0) (z9 (zd zv (vE 1) (cE (.int 1))) (z9 (cE (.int 4)) (zj))))))) (zI 4) uk [.vl (iZ ns),.vl (.int k),.un,.ow [],.un,.un]=.nx [.vl (iZ ns),.vl (.int k),.un,.ow (ws.map T.str),L,J]:=by
   unfold ZR;rw[ei,ZF];exact U
  obtain⟨i,s1,s2,s3⟩:=UI ns k G ws 0 .un .un r4;have I:i.length=ws.length:=by rw[←s3,ah]
  refine⟨.tup [.str "pick",.tup i],?_,λd=>?_⟩
  ·dsimp only;rw[Q];dsimp only;rw[Zp,Jh];refine WF rfl ?_;rw[ZU,Z5];have ee:Xt (vE 3) (frz [.vl (iZ ns),.vl (.int k),.un,.ow (ws.map T.str),L,J])=.ok (ZY (ws.map T.str)):=rfl;rw[ee,af];unfold zK;rw[if_pos (by unfold ZY;rw[ah,fT,ah];exact aG r2 (by decide))]
   have Z:zQ (zV 0 1) Z1 rD (ZY (ws.map T.str)) (WC 2 [0,1] (frz [.vl (iZ ns),.vl (.int k),.un,.ow (ws.map T.str),L,J]))=.ok i:=s1;rw[Z];rfl
  ·show (decide (1<=i.length)&&decide (i.length<=4)&&i.all Z4&&decide ((dd [] (i.map j0)).length=i.length))=true;have hd:(dd [] (i.map j0)).length=i.length:=by
    rw[s3,I];have:=(We ws []).mpr (λk w h=>by simpa using r3 k w h)
    simpa using this
   rw[decide_eq_true (by lia),decide_eq_true (by lia),s2,decide_eq_true hd];rfl
theorem uY (c:Int)(j:Int)(a:uG c j):Z7 (.int c) (.int j)=.ok (.int (c*j)):=by
 show (if uG c j then R.ok _ else .bad)=_
 rw[if_pos a]
theorem Dq (j:Int):Z7 (.int 3) (.int j)=.ok (.int (3*j)):=uY _ _ (.inl ⟨by decide,by decide⟩)
theorem Eu (j:Int):Z7 (.int 50) (.int j)=.ok (.int (50*j)):=uY _ _ (.inl ⟨by decide,by decide⟩)
abbrev tV (c:List T->R T):En->R T:=za 3 c (z9 (vE 1) (z9 (zd zv (zd zv (zd Z7 (cE (.int 3)) (vE 2)) (cE (.int 40))) (zd Z7 (cE (.int 50)) (vE 0))) (z9 (zd ZW (vE 3) (cE (.int 1))) (zj))))
theorem uZ (ns:List Int):∀(d n:Nat),d<=n->1<=d->∀k:Int,0<=k->∃t,mU n 0 [iZ ns,.int k,.int (d:Int)]=.ok t/\l0 d t=true
 |d+1,n+1,hn,_,k,h0=>by
  have e:mU (n+1) 0 [iZ ns,.int k,.int ((d+1:Nat))]=zw (sX lB GP (mU n 0) [.vl (iZ ns),.vl (.int k),.vl _,.un,.un,.un]):=rfl;obtain⟨p,e0,p0,p1⟩:=zR ns k 5 h0 (by lia)
  obtain⟨l,el,hl⟩:=kg ns (k+1) (by lia)
  have v:([.vl (iZ ns),.vl (.int k),.vl (.int ((d+1:Nat))),.un,.un,.un]:En).set 3 (.vl (.int p))=[.vl (iZ ns),.vl (.int k),.vl _,.vl (.int p),.un,.un]:=rfl;rw[e,sX];simp only[Z6,Jj,jc,Wd,zN,Zt,zW,v0,v1,v2,zY,af,e0,ZF,v,w2,w3,md,AH,Z8,Zp,jl,Wb,jG,zu,el];have J:((((d+1:Nat):Int)==1))=decide (d=0):=by
   by_cases h:d=0
   ·subst h;rfl
   ·rw[decide_eq_false h,beq_eq_false_iff_ne];lia
  rw[J]
  by_cases f:d=0\/p<2
  ·refine⟨l,?_,hl d⟩;rcases f with h|h
   ·rw[decide_eq_true h];rfl
   ·rw[decide_eq_true h];cases decide (d=0)<;>rfl
  ·have N:¬d=0:=λz=>f (.inl z);have I:¬p<2:=λz=>f (.inr z);have i:((d+1:Nat))-1=(d:Int):=by lia
   rw[decide_eq_false N,decide_eq_false I];simp only[aZ,if_false,ZF,iR,w3,v0,v1,v2,af,AH,zY];cases hp:decide (p<4)with
   |true=>
    obtain⟨q,G,q0,q1⟩:=zR ns (k+1) 3 (by lia) (by lia)
    have hj:∀j:Nat,∃t,tV (mU n 0) [.vl (.int (0+(j:Int))),.vl (iZ ns),.vl (.int k),.vl (.int ((d+1:Nat)))]=.ok t/\l0 d t=true:=λj=>by
     obtain⟨t,r,s⟩:=uZ ns d n (by lia) (by lia) (3*k+40+50*(0+(j:Int))) (by lia)
     refine⟨t,?_,s⟩;simp only[tV,Zt,v0,v1,v2,v3,zu,zY,af,Dq,Eu,Z8,Zy,i,r]
    obtain⟨g,Q⟩:=io.mp hj;have ei:Zs (zd zv (cE (.int 1)) (za 3 lB (z9 (vE 0) (z9 (zd zv (vE 1) (cE (.int 1))) (z9 (cE (.int 3)) (zj)))))) [.vl (iZ ns),.vl (.int k),.vl (.int ((d+1:Nat))),.vl (.int p),.un,.un]=.ok (rng 0 (1+q).toNat):=by
     unfold Zs;simp only[zu,Zt,v0,v1,zY,af,Z8,G];rw[if_pos ⟨by lia,by lia⟩]
    have X:zK (zI 0) Z1 (tV (mU n 0)) 1 [0,1,2] [.vl (iZ ns),.vl (.int k),.vl _,.vl (.int p),.un,.un] _=.ok ((rng 0 (1+q).toNat).map λt=>match t with|.int j=>g j.toNat|t=>t):=
     Ze _ (by unfold rng;rw[ah,bi];exact aG (show (1+q).toNat<=3 by lia) (by decide)) λt B=>by
      obtain⟨j,_,rfl⟩:=aF.mp B;show tV (mU n 0) [.vl _,.vl (iZ ns),.vl (.int k),.vl _]=.ok (g _);rw[(Q j).1,hV,bA]
    generalize o:((rng 0 (1+q).toNat).map λt=>match t with|.int j=>g j.toNat|t=>t)=cs at X
    have Z:cs.length=(1+q).toNat:=by rw[←o];unfold rng;rw[ah,ah,bi]
    have y:∀t∈cs,l0 d t=true:=λt B=>by
     rw[←o]at B;obtain⟨u,hu,rfl⟩:=aF.mp B;obtain⟨j,_,rfl⟩:=aF.mp hu;exact(Q _).2
    refine⟨.tup [.str "row",.tup cs],?_,?_⟩
    ·have P:([.vl (iZ ns),.vl (.int k),.vl (.int ((d+1:Nat))),.vl (.int p),.un,.un]:En).set 4 (.vl (.lst cs))=[.vl (iZ ns),.vl (.int k),.vl _,.vl (.int p),.vl (.lst cs),.un]:=rfl;simp only[if_true,Z5,ei,af,X,ZF,P,jl,Wb,jG];rfl
    ·show (decide _&&decide _&&cs.all _)=true;rw[decide_eq_true (by lia),decide_eq_true (by lia),aU.mpr y];rfl
   |false=>
    obtain⟨q,G,q0,q1⟩:=zR ns (k+1) 3 (by lia) (by lia)
    obtain⟨U,e2,_,_⟩:=zR ns (k+2) 3 (by lia) (by lia)
    obtain⟨t,r,s⟩:=uZ ns d n (by lia) (by lia) (3*k+40) (by lia)
    refine⟨.tup [.str "many",t,.int q,.int (if q+U<3 then q+U else 3)],?_,?_⟩
    ·have L:([.vl (iZ ns),.vl (.int k),.vl (.int ((d+1:Nat))),.vl (.int p),.un,.un]:En).set 5 (.vl (.int q))=[.vl _,.vl _,.vl _,.vl _,.un,.vl _]:=rfl;simp only[aZ,if_false,v0,v1,zu,zY,af,Z8,G,ZF,L,jl,Wb,jG,Jh];refine Al rfl ?_ rfl ?_
     ·simp only[Zt,v0,v1,v2,zu,zY,af,Dq,Z8,Zy,i,r]
     ·have v5:∀{t:T} {a b c d e:Sl} {ρ:En},vE 5 (a::b::c::d::e::.vl t::ρ)=.ok t:=rfl;simp only[Zt,v0,v1,v5,zu,zY,af,Z8,e2,xi]
    ·show (Jg 0 3 _ _&&l0 d t)=true;rw[s,Bool.and_true];show (decide _&&decide _&&decide _)=true;rw[decide_eq_true (by lia),decide_eq_true (by split<;>lia),decide_eq_true (by split<;>lia)];rfl
mutual
noncomputable def nQ:T->Nat
 |.tup xs=>QY xs+1
 |.lst xs=>QY xs+1
 |_=>1
noncomputable def QY:List T->Nat
 |[]=>0
 |t::ts=>max (nQ t) (QY ts)
end
mutual
noncomputable def nV:T->Nat
 |.tup xs=>QZ xs+1
 |.lst xs=>QZ xs+1
 |_=>1
noncomputable def QZ:List T->Nat
 |[]=>0
 |t::ts=>nV t+QZ ts
end
theorem Jk {w:Str}{t:T}(h:isS w t=true):t=.str w:=by
 cases t with
 |str s=>
  have:=h;rw[eq_of_beq this]
 |_=>cases h
theorem kh {lo hi:Int}{t:T}(h:o6 lo hi t=true):∃i,t=.int i:=by
 cases t with
 |int i=>exact⟨i,rfl⟩
 |_=>cases h
theorem Jt {lo hi:Int}{a b:T}(h:Jg lo hi a b=true):∃i j,a=.int i/\b=.int j:=by
 cases a with
 |int i=>
  cases b with
  |int j=>exact⟨i,j,rfl,rfl⟩
  |_=>cases h
 |_=>cases h
structure BQ (D S:Nat) (t:T):Prop where
 so:sOk t
 dp:nQ t<=D
 sz:nV t<=S
theorem yJ {c:T}(h:Z4 c=true):BQ 2 3 c:=by
 unfold Z4 at h;split at h
 ·rename_i w i;have d:=by
   rw[ar,ar]at h;exact h.1.1
  cases w with
  |str x=>
   have a:(decide _&&decide _&&x.cps.toList.all _)=true:=d;rw[ar,ar,decide_eq_true_eq,decide_eq_true_eq]at a;refine⟨?_,?_,?_⟩
   ·simp only[sOk,UF,and_true];exact aG a.1.2 (by decide)
   ·simp[nQ,QY]
   ·simp[nV,QZ]
  |_=>cases d
 ·cases h
theorem Cp {D S:Nat}:∀{f:List T},(∀c∈f,BQ D S c)->UF f/\QY f<=D/\QZ f<=S*f.length
 |[],_=>⟨by simp only[UF],bj _,bj _⟩
 |c::f,h=>by
  obtain⟨a,b,d⟩:=Cp λx i=>h x (ai _ i);obtain⟨x,y,z⟩:=h c aj;refine⟨?_,?_,?_⟩
  ·exact⟨x,a⟩
  ·simp only[QY];lia
  ·simp only[QZ,ac,Nat.mul_add,Nat.mul_one];lia
theorem Ju:∀(d:Nat) (t:T),l0 d t=true->BQ (2*d+2) (15*4^d) t
 |0,_,h=>by cases h
 |d+1,t,h=>by
  have k:1<=4^d:=Nat.pow_pos (by lia)
  have h:yH _ t=true:=h;unfold yH at h;split at h
  ·rename_i hd r;split at h
   ·rename_i e;rw[Jk e];unfold ui at h;split at h
    ·obtain⟨i,j,rfl,rfl⟩:=Jt h;refine⟨by simp only[sOk,UF,and_true];decide,by simp only[nQ,QY];lia,by simp only[nV,QZ];lia⟩
    ·cases h
   ·split at h
    ·rename_i e;rw[Jk e];unfold qy at h;split at h
     ·unfold UG at h;split at h
      ·rw[ar,ar,ar,decide_eq_true_eq,decide_eq_true_eq]at h;obtain⟨a,b,z⟩:=Cp λc f=>yJ (aU.mp h.1.2 c f);refine⟨by simp only[sOk,UF,and_true];exact⟨by decide,a⟩,by simp only[nQ,QY];lia,by simp only[nV,QZ];lia⟩
      ·cases h
     ·cases h
    ·split at h
     ·rename_i e;rw[Jk e];unfold pI at h;split at h
      ·unfold JR at h;split at h
       ·rename_i l;rw[ar,ar,decide_eq_true_eq,decide_eq_true_eq]at h;obtain⟨a,b,z⟩:=Cp λc f=>Ju d c (aU.mp h.2 c f);have:15*4^d*l.length<=15*4^d*3:=Nat.mul_le_mul_left _ h.1.2;refine⟨by simp only[sOk,UF,and_true];exact⟨by decide,a⟩,by simp only[nQ,QY];lia,by simp only[nV,QZ];lia⟩
       ·cases h
      ·cases h
     ·split at h
      ·rename_i e;rw[Jk e];unfold qz at h;split at h
       ·rename_i c a b;rw[ar]at h;obtain⟨i,j,rfl,rfl⟩:=Jt h.1;obtain⟨x,y,z⟩:=Ju d c h.2;refine⟨by simp only[sOk,UF,and_true];exact⟨by decide,x⟩,by simp only[nQ,QY];lia,by simp only[nV,QZ];lia⟩
       ·cases h
      ·cases h
  ·cases h
theorem Aw {f:En->R T}{ρ:En}{x:T}(a:f ρ=.ok x):Zm (z9 f zj) ρ=.ok (.tup [x]):=by
 unfold Zm z9 zj;rw[a];rfl
theorem DN {xs a:List T}(h:xs.length+a.length<=iT):zv (.tup xs) (.tup a)=.ok (.tup (xs++a)):=if_pos h
theorem wI (ρ:En):iR ρ=.nx ρ:=rfl
inductive Kd where
 |whole (lo hi:Int)
 |pick (cs:List (Str×Int))
 |row (ks:List Kd)
 |many (k:Kd) (lo hi:Nat)
noncomputable def wj (c:Str×Int):T:=.tup [.str c.1,.int c.2]
mutual
noncomputable def Kd.t:Kd->T
 |.whole lo hi=>.tup [.str "whole",.int lo,.int hi]
 |.pick d=>.tup [.str "pick",.tup (d.map wj)]
 |.row a=>.tup [.str "row",.tup (Kd.ts a)]
 |.many k lo hi=>.tup [.str "many",k.t,.int (lo:Int),.int (hi:Int)]
noncomputable def Kd.ts:List Kd->List T
 |[]=>[]
 |k::a=>k.t::Kd.ts a
end
theorem Kd.ts_map:∀a:List Kd,Kd.ts a=a.map Kd.t
 |[]=>by simp only[Kd.ts,cJ]
 |k::a=>by simp only[Kd.ts,aK,Kd.ts_map a]
def Kd.Ok:Nat->Kd->Prop
 |0,_=>False
 |_+1,.whole lo hi=> -20<=lo/\lo<=hi/\hi<=20
 |_+1,.pick a=>1<=a.length/\a.length<=4/\(∀c∈a,Zf (.str c.1)=true/\1<=c.2/\c.2<=20)/\Dst (a.map (·.1))
 |d+1,.row f=>1<=f.length/\f.length<=3/\∀k∈f,Kd.Ok d k
 |d+1,.many k lo hi=>lo<=hi/\hi<=3/\Kd.Ok d k
theorem qB {c:T}(h:Z4 c=true):∃p:Str×Int,c=wj p/\Zf (.str p.1)=true/\1<=p.2/\p.2<=20:=by
 unfold Z4 at h;split at h
 ·rename_i w i;rw[ar,ar,decide_eq_true_eq,decide_eq_true_eq]at h;cases w with
  |str x=>exact⟨(x,i),rfl,h.1.1,h.1.2,h.2⟩
  |_=>cases h.1.1
 ·cases h
theorem U0 {j:Type}{P:T->Prop}{Q:j->Prop}{f:j->T}(H:∀t,P t->∃a,t=f a/\Q a):∀(ts:List T),(∀t∈ts,P t)->∃d:List j,ts=d.map f/\∀a∈d,Q a
 |[],_=>⟨[],rfl,λ_ h=>nomatch h⟩
 |t::ts,h=>by
  obtain⟨a,rfl,l⟩:=H t (h t aj);obtain⟨d,rfl,has⟩:=U0 H ts λu k=>h u (ai _ k);exact⟨a::d,rfl,λb i=>by
   rcases am.mp i with rfl|i
   ·exact l
   ·exact has b i⟩
theorem U1:∀(d:Nat) (t:T),l0 d t=true->∃k:Kd,t=k.t/\k.Ok d
 |0,_,h=>by cases h
 |d+1,t,h=>by
  have h:yH _ t=true:=h;unfold yH at h;split at h
  ·rename_i hd r;split at h
   ·rename_i e;rw[Jk e];unfold ui at h;split at h
    ·obtain⟨i,j,rfl,rfl⟩:=Jt h;have h:(decide _&&decide _&&decide _)=true:=h;rw[ar,ar,decide_eq_true_eq,decide_eq_true_eq,decide_eq_true_eq]at h;exact⟨.whole i j,by simp only[Kd.t],h.1.1,h.1.2,h.2⟩
    ·cases h
   ·split at h
    ·rename_i e;rw[Jk e];unfold qy at h;split at h
     ·unfold UG at h;split at h
      ·rename_i v;rw[ar,ar,ar,decide_eq_true_eq,decide_eq_true_eq,decide_eq_true_eq]at h;obtain⟨⟨⟨f,l⟩,L⟩,B⟩:=h;obtain⟨o,rfl,has⟩:=U0 (λt p=>qB p) v λc q=>aU.mp L c q;rw[ah]at f l;refine⟨.pick o,by simp only[Kd.t],f,l,has,?_⟩
       have G:(o.map wj).map j0=o.map (·.1):=by rw[aS];rfl
       rw[G]at B;have:=(We _ []).mp (by rw[B,ah];simp)
       exact λk w I J=>this k w I (by simpa using J)
      ·cases h
     ·cases h
    ·split at h
     ·rename_i e;rw[Jk e];unfold pI at h;split at h
      ·unfold JR at h;split at h
       ·rename_i v;rw[ar,ar,decide_eq_true_eq,decide_eq_true_eq]at h;obtain⟨P,rfl,u⟩:=U0 (λt p=>U1 d t p) v λc q=>aU.mp h.2 c q;rw[ah]at h;exact⟨.row P,by simp only[Kd.t,Kd.ts_map],h.1.1,h.1.2,u⟩
       ·cases h
      ·cases h
     ·split at h
      ·rename_i e;rw[Jk e];unfold qz at h;split at h
       ·rename_i c a b;rw[ar]at h;obtain⟨f,l⟩:=h;obtain⟨i,j,rfl,rfl⟩:=Jt f;obtain⟨k,rfl,N⟩:=U1 d c l;have f:(decide _&&decide _&&decide _)=true:=f;rw[ar,ar,decide_eq_true_eq,decide_eq_true_eq,decide_eq_true_eq]at f;obtain⟨⟨y,Q⟩,U⟩:=f;obtain⟨m,rfl⟩:=cC y;obtain⟨n,rfl⟩:=cC (Int.le_trans y Q);exact⟨.many k m n,by simp only[Kd.t],by lia,by lia,N⟩
       ·cases h
      ·cases h
  ·cases h
noncomputable def ZH (made:List (List T)):List (List T)->List (List T)
 |[]=>made
 |ls::r=>ZH (made.flatMap λa=>ls.map λx=>a++[x]) r
abbrev yU (ls:List (List T)):List T:=(ZH [[]] ls).map T.tup
mutual
noncomputable def Kd.all:Kd->List T
 |.whole lo hi=>(b6 (hi+1-lo).toNat).map λ(i:Nat)=>T.int (lo+(i:Int))
 |.pick d=>d.map λc=>T.str c.1
 |.row a=>yU (Kd.alls a)
 |.many k lo hi=>(b6 (hi+1-lo)).flatMap λi=>yU (av (lo+i) k.all)
noncomputable def Kd.alls:List Kd->List (List T)
 |[]=>[]
 |k::a=>k.all::Kd.alls a
end
theorem Kd.alls_map:∀a:List Kd,Kd.alls a=a.map Kd.all
 |[]=>by simp only[Kd.alls,cJ]
 |k::a=>by simp only[Kd.alls,aK,Kd.alls_map a]
noncomputable def lm:List Nat->Nat
 |[]=>1
 |n::r=>n*lm r
theorem JT:∀{ns:List Nat},(∀n∈ns,1<=n)->1<=lm ns
 |[],_=>au _
 |n::ns,h=>eF (h n aj) (JT λm a=>h m (ai _ a))
theorem Jv {i j:Type}(f:i->List j)(n:Nat):∀d:List i,(∀a∈d,(f a).length=n)->(d.flatMap f).length=d.length*n
 |[],_=>by simp
 |a::d,h=>by
  rw[bB,ae,h a aj,Jv f n d λb k=>h b (ai _ k),ac,fG,cg,Nat.add_comm]
theorem JU:∀(ls:List (List T)) (made:List (List T)),(ZH made ls).length=made.length*lm (ls.map (·.length))
 |[],made=>by simp[ZH,lm]
 |l::ls,made=>by
  rw[ZH,JU ls,Jv _ _ _ λa _=>ah ..,aK,lm,cQ]
abbrev sW:En->RS:=QR 3 (zL (Z9 (vE 2)) (zI 0) (Z1) (zd zv (vE 1) (Zm (z9 (vE 0) (zj)))) 1 [4])
theorem UJ {L M:T}{l:List T}(j:l.length<=iT):∀(f:List (List T)) (acc:List T) (x:Sl),(∀a∈f,a.length<=1000)->acc.length+f.length*l.length<=iT->
  ∃y,Zr (zI 4) sW (f.map T.tup) [.vl L,.vl M,.vl (.lst l),.ow acc,x]=.nx [.vl L,.vl M,.vl (.lst l),.ow (acc++(f.flatMap λa=>l.map λx=>a++[x]).map T.tup),y]
 |[],acc,x,_,_=>⟨x,by simp[Zr]⟩
 |a::f,acc,x,k,i=>by
  have q:=k a aj;have u:iT=16777216:=rfl;rw[ac,fG]at i;have p:zK _ _ (zd zv (vE 1) (Zm (z9 (vE 0) (zj)))) 1 [4] [.vl L,.vl M,.vl (.lst l),.ow acc,.vl (.tup a)] l=.ok (l.map λx=>T.tup _):=
   Ze l j λx B=>by
    exact DN (by rw[aL];lia)
  have o:sW [.vl L,.vl M,.vl (.lst l),.ow acc,.vl (.tup a)]=.nx [.vl L,.vl M,.vl (.lst l),.ow (acc++l.map λx=>T.tup (a++[x])),.vl (.tup a)]:=by
   show (((zK _ _ _ _ _ _ l).bind _).s _)=_;rw[p,af];show (if _ then _ else _)=_
   rw[if_pos (by rw[ah];lia)]
   rfl
  obtain⟨y,v⟩:=UJ j f (acc++l.map λx=>T.tup _) _ (λb i=>k b (ai _ i)) (by rw[ae,ah];lia)
  refine⟨y,?_⟩;have e:Zr (zI 4) _ ((a::f).map T.tup) [.vl L,.vl M,.vl (.lst l),.ow acc,x]=match sW [.vl L,.vl M,.vl _,.ow acc,.vl _]with
   |.nx d=>Zr _ _ _ d
   |.ct d=>Zr _ _ _ d
   |.bk d=>.nx d
   |r=>r:=rfl
  rw[e,o];dsimp only;rw[v,bB,bF,aS,aQ];rfl
abbrev V9:En->RS:=(zz (Uo 3 (zj))
  (zz (ZR (Z9 (vE 1)) (zI 4) sW)
  (sJ 1 3)))
theorem ul {L:T}(m:Nat):∀(ls:List (List T)) (made:List (List T)) (k:Nat) (x y z:Sl),(∀a∈made,a.length<=k)->k+ls.length<=1000->(∀l∈ls,1<=l.length)->made.length*lm (ls.map (·.length))<=iT->1<=made.length->
  ∃J v q,Zr (zI 2) V9 (ls.map T.lst) [.vl L,.vl (.lst (made.map T.tup)),x,y,z]=.nx [.vl L,.vl (.lst ((ZH made ls).map T.tup)),J,v,q]
 |[],made,k,x,y,z,_,_,_,_,_=>⟨x,y,z,by simp[Zr,ZH]⟩
 |l::ls,made,k,x,y,z,Q,B,d,j,P=>by
  have p:=JT λn hn=>by
   obtain⟨o,i,rfl⟩:=aF.mp hn;exact d o (ai _ i)
  rw[aK,lm,←cQ]at j;have N:=aG (cD _ p) j;have I:=aG (Nat.le_mul_of_pos_left _ P) N;rw[ac]at B;obtain⟨w,er⟩:=UJ I _ [] z (λa G=>aG (Q a G) (by lia)) (by rw[ao];lia)
  have es:V9 [.vl L,.vl (.lst (made.map T.tup)),.vl (.lst l),y,z]=.nx [.vl L,.vl (.lst ((made.flatMap λa=>l.map λx=>a++[x]).map T.tup)),.vl (.lst l),.vl (.lst ((made.flatMap λa=>l.map λx=>a++[x]).map T.tup)),w]:=by
   have X:Uo 3 (zj) [.vl L,.vl (.lst (made.map T.tup)),.vl (.lst l),y,z]=.nx [.vl L,.vl _,.vl _,.ow [],z]:=rfl;have U:ZR (Z9 (vE 1)) _ _ [.vl L,.vl (.lst _),.vl _,.ow [],z]=.nx [.vl L,.vl _,.vl _,.ow ((made.flatMap λa=>l.map λx=>a++[x]).map _),w]:=er;unfold V9;rw[Z6,X];dsimp only;rw[Z6,U];rfl
  obtain⟨J,v,q,ih⟩:=ul m ls (made.flatMap λa=>l.map λx=>a++[x]) (k+1) _ (.vl (.lst ((made.flatMap λa=>l.map λx=>a++[x]).map _))) w (λa G=>by
   obtain⟨b,j,Z⟩:=d5.mp G;obtain⟨u,_,rfl⟩:=aF.mp Z;have:=Q b j;rw[ae,aL];lia) (by lia) (λo i=>d o (ai _ i)) (by
    rw[Jv _ _ _ λa _=>ah ..];exact j) (by
    rw[Jv _ _ _ λa _=>ah ..];exact eF P (d l aj))
  refine⟨J,v,q,?_⟩;have e:Zr (zI 2) _ ((l::ls).map T.lst) [.vl L,.vl (.lst (made.map T.tup)),x,y,z]=match V9 [.vl L,.vl _,.vl _,y,z]with
   |.nx f=>Zr _ _ _ f
   |.ct f=>Zr _ _ _ f
   |.bk f=>.nx f
   |r=>r:=rfl
  rw[e,es];exact ih
theorem qC (ls:List (List T))(u:ls.length<=1000)(d:∀l∈ls,1<=l.length)(k:lm (ls.map (·.length))<=iT):lJ [.lst (ls.map T.lst)]=.ok (.lst (yU ls)):=by
 obtain⟨p,r,q,j⟩:=ul 0 ls [[]] 0 .un .un .un (λa o=>by rw[ax.mp o];exact au _) (by lia) d (by rw[aL,cg];exact k) (au _)
 have e:lJ [.lst (ls.map T.lst)]=zw (sC [.vl _,.un,.un,.un,.un]):=rfl;have i:zH 1 (jb (z9 (Zm (zj)) (zj))) [.vl (.lst (ls.map T.lst)),.un,.un,.un,.un]=.nx [.vl _,.vl _,.un,.un,.un]:=rfl;have f:ZR (Z9 (vE 0)) _ _ [.vl (.lst _),.vl (.lst [.tup []]),.un,.un,.un]=.nx _:=j;rw[e,sC,Z6,i];dsimp only;rw[Z6,f];rfl
theorem jo (n:Nat):∀m:Nat,lm (av m n)=n^m
 |0=>rfl
 |m+1=>by rw[bS,lm,jo n m,hW,d3]
theorem Jw (ls:List (List T)):(yU ls).length=lm (ls.map (·.length)):=by
 rw[ah,JU,aL,cg]
noncomputable def pw (n lo hi:Nat):Nat:=((b6 (hi+1-lo)).map λi=>n^(lo+i)).sum
theorem jw (k:Kd)(lo hi:Nat):(Kd.many k lo hi).all.length=pw k.all.length lo hi:=by
 rw[Kd.all,List.length_flatMap,pw];congr 1
 refine ck λi _=>?_;rw[Jw,be,jo]
theorem Ja (a:List Kd):(Kd.row a).all.length=lm (a.map λk=>k.all.length):=by
 rw[Kd.all,Jw,Kd.alls_map,aS];rfl
theorem jT (lo hi:Int):(Kd.whole lo hi).all.length=(hi+1-lo).toNat:=by
 rw[Kd.all,ah,bi]
theorem Wg (a:List (Str×Int)):(Kd.pick a).all.length=a.length:=by
 rw[Kd.all,ah]
theorem ki {lo hi:Nat}(h:lo<=hi)(a:hi<=3):(lo=0/\hi=0)\/(lo=0/\hi=1)\/(lo=0/\hi=2)\/(lo=0/\hi=3)\/(lo=1/\hi=1)\/(lo=1/\hi=2)\/(lo=1/\hi=3)\/(lo=2/\hi=2)\/(lo=2/\hi=3)\/(lo=3/\hi=3):=(by decide:∀hi lo:Fin 4,lo.1<=hi.1->(lo.1=0/\hi.1=0)\/(lo.1=0/\hi.1=1)\/(lo.1=0/\hi.1=2)\/(lo.1=0/\hi.1=3)\/(lo.1=1/\hi.1=1)\/(lo.1=1/\hi.1=2)\/(lo.1=1/\hi.1=3)\/(lo.1=2/\hi.1=2)\/(lo.1=2/\hi.1=3)\/(lo.1=3/\hi.1=3)) ⟨hi,hZ a⟩ ⟨lo,hZ (aG h a)⟩ h
noncomputable def iv (b:Bool):Nat:=if b then 1 else 0
theorem kl (n:Nat){lo hi:Nat}(h:lo<=hi)(a:hi<=3):pw n lo hi=iv (lo==0)+n*iv (decide (lo<=1)&&decide (1<=hi))+n*n*iv (decide (lo<=2)&&decide (2<=hi))+n*n*n*iv (hi==3):=by
 rcases ki h a with ⟨rfl,rfl⟩|⟨rfl,rfl⟩|⟨rfl,rfl⟩|⟨rfl,rfl⟩|⟨rfl,rfl⟩|⟨rfl,rfl⟩|⟨rfl,rfl⟩|⟨rfl,rfl⟩|⟨rfl,rfl⟩|⟨rfl,rfl⟩<;>
  simp[pw,iH,iv,hW]
 all_goals lia
theorem He {n:Nat}(hn:1<=n){lo hi:Nat}(h:lo<=hi)(a:hi<=3):1<=pw n lo hi:=by
 have d:=eF hn hn;have f:=eF d hn;rw[kl n h a];rcases ki h a with ⟨rfl,rfl⟩|⟨rfl,rfl⟩|⟨rfl,rfl⟩|⟨rfl,rfl⟩|⟨rfl,rfl⟩|⟨rfl,rfl⟩|⟨rfl,rfl⟩|⟨rfl,rfl⟩|⟨rfl,rfl⟩|⟨rfl,rfl⟩<;>
  simp[iv]<;>lia
theorem Ey {n N:Nat}(hn:n<=N){lo hi:Nat}(h:lo<=hi)(a:hi<=3):pw n lo hi<=1+N+N*N+N*N*N:=by
 have d:=bY hn hn;have f:=bY d hn;rw[kl n h a];rcases ki h a with ⟨rfl,rfl⟩|⟨rfl,rfl⟩|⟨rfl,rfl⟩|⟨rfl,rfl⟩|⟨rfl,rfl⟩|⟨rfl,rfl⟩|⟨rfl,rfl⟩|⟨rfl,rfl⟩|⟨rfl,rfl⟩|⟨rfl,rfl⟩<;>
  simp[iv]<;>lia
theorem xj {N:Nat}(d:1<=N):∀(ns:List Nat),(∀n∈ns,n<=N)->lm ns<=N^ns.length
 |[],_=>au _
 |n::ns,h=>by
  rw[lm,d3];exact bY (xj d ns λm a=>h m (ai _ a)) (h n aj)
theorem ZK:∀(d:Nat) (k:Kd),k.Ok d->1<=k.all.length
 |0,_,h=>h.elim
 |d+1,.whole lo hi,h=>by
  obtain⟨_,j,_⟩:=h;rw[jT];lia
 |d+1,.pick f,h=>by
  rw[Wg];exact h.1
 |d+1,.row i,h=>by
  rw[Ja];refine JT λn hn=>?_;obtain⟨k,a,rfl⟩:=aF.mp hn;exact ZK d k (h.2.2 k a)
 |d+1,.many k lo hi,h=>by
  rw[jw];exact He (ZK d k h.2.2) h.1 h.2.1
noncomputable def mx:Nat->Nat
 |0=>0
 |1=>41
 |d+1=>1+mx d+mx d*mx d+mx d*mx d*mx d
theorem xk (d:Nat):41<=mx (d+1):=by
 induction d with
 |zero=>exact au _
 |succ d a=>
  show 41<=1+mx _+mx _*mx _+mx _*mx _*mx _;lia
theorem qD (d:Nat)(n:Nat)(h:n<=41):n<=mx (d+1):=aG h (xk d)
theorem km {N m:Nat}(a:1<=N)(h:m<=3):N^m<=1+N+N*N+N*N*N:=by
 have:m=0\/m=1\/m=2\/m=3:=by lia
 rcases this with rfl|rfl|rfl|rfl<;>simp[hW]<;>lia
theorem jD:∀(d:Nat) (k:Kd),k.Ok d->k.all.length<=mx d
 |0,_,h=>h.elim
 |d+1,.whole lo hi,h=>by
  obtain⟨i,f,a⟩:=h;rw[jT];exact qD d _ (by lia)
 |d+1,.pick o,h=>by
  rw[Wg];exact qD d _ (aG h.2.1 (by lia))
 |1,.row j,h=>by
  obtain⟨i,f,a⟩:=h
  match j,i,a with
  |k::_,_,a=>exact(a k aj).elim
 |d+2,.row j,h=>by
  obtain⟨i,f,a⟩:=h;rw[Ja];have hp:=aG (by lia:1<=41) (xk d)
  have:=xj hp (j.map λk=>k.all.length) λn hn=>by
   obtain⟨k,l,rfl⟩:=aF.mp hn;exact jD _ k (a k l)
  rw[ah]at this;exact aG this (km hp f)
 |1,.many k lo hi,h=>h.2.2.elim
 |d+2,.many k lo hi,h=>by
  rw[jw];exact Ey (jD _ k h.2.2) h.1 h.2.1
theorem zb {f g:En->RS}{ρ a:En}(h:f ρ=.nx a):zz f g ρ=g a:=by rw[Z6,h]
theorem lC {x w:Str}{r:List T}{ρ:En}:zB iQ (zd fr (vE 0) (cE (.int 0))) (cE (.str w)) (.vl (.tup (.str x::r))::ρ)=.ok (x==w):=by
 rw[zN,zu,v0,af,zY,af,l7,zY,af];rfl
theorem jY {a b:T}{r:List T}{ρ:En}:zd fr (vE 0) (cE (.int 1)) (.vl (.tup (a::b::r))::ρ)=.ok b:=by
 rw[zu,v0,af,zY,af,nO]
theorem um {a b c:T}{r:List T}{ρ:En}:zd fr (vE 0) (cE (.int 2)) (.vl (.tup (a::b::c::r))::ρ)=.ok c:=by
 rw[zu,v0,af,zY,af,AU]
theorem Ki {a b c d:T}{r:List T}{ρ:En}:zd fr (vE 0) (cE (.int 3)) (.vl (.tup (a::b::c::d::r))::ρ)=.ok d:=by
 rw[zu,v0,af,zY,af,CS]
theorem qE {f:En->R T}{ρ:En}{i:Int}(h:f ρ=.ok (.int i)):zd zv f (cE (.int 1)) ρ=.ok (.int (i+1)):=by
 rw[zu,h,af,zY,af,Z8]
theorem U2 {f g:En->R T}{ρ:En}{i j:Int}(a:f ρ=.ok (.int i))(d:g ρ=.ok (.int j))(h: -1000000<i/\i<1000000/\ -1000000<j/\j<1000000):Jn f g ρ=.ok (rng i (j-i).toNat):=by
 unfold Jn;rw[a,d];exact if_pos h
theorem qF:∀(a:List (Str×Int)) (x y:Sl),zQ (zV 0 1) Z1 (vE 0) (a.map wj) [x,y]=.ok (a.map λc=>T.str c.1)
 |[],_,_=>rfl
 |c::a,x,y=>by
  have e:zQ (zV 0 1) Z1 (vE 0) ((c::a).map wj) [x,y]=(zQ _ _ _ _ [.vl _,.vl _]).bind λvs=>.ok _:=rfl;rw[e,qF a];rfl
theorem qG {x:T}{m:Nat}(h:m<=3):Z7 (.lst [x]) (.int (m:Int))=.ok (.lst (av m [x]).flatten):=by
 unfold Z7;dsimp only;have c:0<=(m:Int)/\(m:Int)<1000000/\[x].length*(m:Int).toNat<=iT:=by
  have a:3<=iT:=by decide
  refine⟨by lia,by lia,?_⟩
  rw[aL,cg];exact aG h a
 rw[if_pos c,bA]
theorem Jx {a:Type}(x:a):∀m:Nat,(av m [x]).flatten=av m x
 |0=>rfl
 |m+1=>by rw[bS,eB,Jx x m];rfl
abbrev U3 (ca cr:List T->R T):En->RS:=QR 1 (za 1 cr (z9 (zd Z7 (jb (z9 (za 1 ca (z9 (zd fr (vE 0) (cE (.int 1))) (zj))) (zj))) (vE 2)) (zj)))
theorem rW {f:En->R T}{ρ:En}{x:T}(a:f ρ=.ok x):jb (z9 f zj) ρ=.ok (.lst [x]):=by
 unfold jb z9 zj;rw[a];rfl
theorem uo {ca:List T->R T}{k:Kd}{t:T}{lo:Nat}{ws:List T}(p:ca [t]=.ok (.lst ws))(f:1<=ws.length){a b c:T}:∀(js:List Nat) (acc:List T) (x:Sl),(∀j∈js,lo+j<=3)->acc.length+(js.map λj=>ws.length^(lo+j)).sum<=iT->
  ∃y,Zr (zI 2) (U3 ca lJ) (js.map λ(j:Nat)=>T.int ((lo:Int)+(j:Int))) [.vl (.tup [a,t,b,c]),.ow acc,x]=.nx [.vl (.tup [a,t,b,c]),.ow (acc++js.flatMap λj=>yU (av (lo+j) ws)),y]
 |[],acc,x,_,_=>⟨x,by simp[Zr]⟩
 |j::js,acc,x,q,G=>by
  have J:=q j aj;rw[aK,dg]at G;have N:lJ [.lst ((av (lo+j) ws).map _)]=.ok _:=qC _ (by rw[aW];lia) (λl P=>by rw[cj P];exact f) (by rw[be,jo];lia)
  have u:(yU (av (lo+j) ws)).length=ws.length^(lo+j):=by rw[Jw,be,jo]
  have v:Z7 (.lst [.lst ws]) (.int ((lo)+(j)))=.ok (.lst ((av (lo+j) ws).map T.lst)):=by
   have o:(lo:Int)+(j)=((lo+j:Nat)):=by lia
   rw[o,qG (by lia),Jx,be]
  have I:U3 ca lJ [.vl (.tup [a,t,b,c]),.ow acc,.vl (.int ((lo)+(j)))]=.nx [.vl (.tup [a,t,b,c]),.ow (acc++yU (av (lo+j) ws)),.vl (.int ((lo)+(j)))]:=by
   have o:za 1 lJ (z9 (zd Z7 (jb (z9 (za 1 ca (z9 (zd fr (vE 0) (cE (.int 1))) (zj))) (zj))) (vE 2)) (zj)) [.vl (.tup [a,t,b,c]),.ow acc,.vl (.int ((lo)+(j)))]=.ok (.lst (yU (av (lo+j) ws))):=by
    have B:za 1 ca (z9 (zd fr (vE 0) (cE (.int 1))) (zj)) [.vl (.tup [a,t,b,c]),.ow acc,.vl (.int ((lo)+(j)))]=.ok (.lst ws):=by
     rw[zG,jY,af,p]
    rw[zG,zu,rW B,af,v2,af,v,af,N]
   show ((za 1 _ _ _).s λt=>match t with|.lst us=>if acc.length+us.length<=iT then RS.nx _ else .bad|_=>.bad)=_
   rw[o];show (if _ then _ else _)=_
   rw[if_pos (by lia)]
   rfl
  obtain⟨y,L⟩:=uo (k:=k) p f js (acc++yU (av (lo+j) ws)) _ (λi hi=>q i (ai _ hi)) (by rw[ae];lia)
  refine⟨y,?_⟩;have e:Zr (zI 2) (U3 ca lJ) ((j::js).map λ(j:Nat)=>T.int ((lo)+(j))) [.vl (.tup [a,t,b,c]),.ow acc,x]=match U3 ca _ [.vl _,.ow acc,.vl _]with
   |.nx d=>Zr _ _ (js.map λ(j)=>T.int _) d
   |.ct d=>Zr _ _ (js.map λ(j)=>T.int _) d
   |.bk d=>.nx d
   |r=>r:=rfl
  rw[e,I];dsimp only;rw[L,bB,aQ]
theorem Va {ca:List T->R T}{a t:T}{lo hi:Nat}(k:lo<=hi)(i:hi<=3){x:Sl}{acc:List T}{r:RS}
  (d:Zr (zI 2) (U3 ca lJ) ((b6 (hi+1-lo)).map λ(j:Nat)=>T.int ((lo:Int)+(j:Int))) [.vl (.tup [a,t,.int (lo:Int),.int (hi:Int)]),.ow acc,x]=r):
  ZR (Jn (zd fr (vE 0) (cE (.int 2))) (zd zv (zd fr (vE 0) (cE (.int 3))) (cE (.int 1)))) (zI 2) (U3 ca lJ) [.vl (.tup [a,t,.int (lo:Int),.int (hi:Int)]),.ow acc,x]=r:=by
 have hn:((hi:Int)+1-(lo)).toNat=hi+1-lo:=by lia
 have f: -1000000<(lo:Int)/\(lo:Int)<1000000/\ -1000000<(hi:Int)+1/\(hi:Int)+1<1000000:=by lia
 have e:ZR (Jn (zd fr (vE 0) (cE (.int 2))) (zd zv (zd fr (vE 0) (cE (.int 3))) (cE (.int 1)))) (zI 2) (U3 ca lJ) [.vl (.tup [a,t,.int (lo),.int (hi)]),.ow acc,x]=(Jn _ _ _).s λts=>Zr _ _ ts _:=rfl;rw[e,U2 um (qE Ki) f,hn];exact d
theorem HF {n L lo hi:Nat}(e:L=pw n lo hi)(h:L<=1000000):([]:List T).length+((b6 (hi+1-lo)).map λj=>n^(lo+j)).sum<=iT:=by
 have h':pw n lo hi<=iT:=aG (e▸h) (by decide)
 rw[ao,h_];exact h'
theorem qH {ca:List T->R T}(d:Nat)(lo hi:Int)(h:(Kd.whole lo hi).Ok (d+1))(f:(Kd.whole lo hi).all.length<=1000000)(H:∀a:Kd,a.Ok d->ca [a.t]=.ok (.lst a.all)):zw (lV ca lJ (iW 3 [(Kd.whole lo hi).t]))=.ok (.lst (Kd.whole lo hi).all):=by
 have e:zw (lV ca lJ (iW 3 [(Kd.whole lo hi).t]))=zw (lV ca _ [.vl _,.un,.un]):=rfl;rw[e,lV,Z6,jc];obtain⟨k,j,i⟩:=h;simp only[Kd.t];rw[Zp,jl,Wb];unfold sx;rw[U2 jY (qE um) ⟨by lia,by lia,by lia,by lia⟩]
 rfl
theorem Vb {ca:List T->R T}(d:Nat)(a:List (Str×Int))(h:(Kd.pick a).Ok (d+1))(l:(Kd.pick a).all.length<=1000000)(H:∀f:Kd,f.Ok d->ca [f.t]=.ok (.lst f.all)):zw (lV ca lJ (iW 3 [(Kd.pick a).t]))=.ok (.lst (Kd.pick a).all):=by
 have j:iT=16777216:=rfl;have e:zw (lV ca lJ (iW 3 [(Kd.pick a).t]))=zw (lV ca _ [.vl _,.un,.un]):=rfl;rw[e,lV,Z6,jc];simp only[Kd.t];rw[lC,ZF,show (("pick":Str)=="whole")=false from rfl,if_neg ay,wI];dsimp only;rw[Z6,jc,Zp,jl,Wb,Wb,jG,Z5,jm,jY];have o:=h.2.1;have i:zK (zV 0 1) Z1 (vE 0) 2 [] [.vl (.tup [.str "pick",.tup (a.map wj)]),.un,.un] (a.map wj)=.ok (a.map λc=>T.str c.1):=by
  unfold zK;rw[if_pos (by rw[ah];lia)]
  show quiet (zQ _ _ _ _ [.un,.un])=_;rw[qF];rfl
 show zw (match ((((R.ok _).bind λts=>(zK _ _ _ 2 [] _ ts).bind λvs=>.ok _)).s λt=>.rt t)with|.nx k=>_|r=>r)=_
 rw[af,i];rfl
theorem kn {ca:List T->R T}(d:Nat)(a:List Kd)(h:(Kd.row a).Ok (d+1))(q:(Kd.row a).all.length<=1000000)(H:∀f:Kd,f.Ok d->ca [f.t]=.ok (.lst f.all)):zw (lV ca lJ (iW 3 [(Kd.row a).t]))=.ok (.lst (Kd.row a).all):=by
 have B:iT=16777216:=rfl;have e:zw (lV ca lJ (iW 3 [(Kd.row a).t]))=zw (lV ca _ [.vl _,.un,.un]):=rfl;rw[e,lV,Z6,jc];obtain⟨N,L,o⟩:=h;simp only[Kd.t];rw[lC,ZF,show (("row":Str)=="whole")=false from rfl,if_neg ay,wI];dsimp only;rw[Z6,jc,lC,ZF,show (("row":Str)=="pick")=false from rfl,if_neg ay,wI];dsimp only;rw[Z6,jc,Zp,jl,Wb,Wb,jG,zG,Kd.ts_map];have y:zK (zI 0) Z1 (za 1 ca (z9 (vE 0) (zj))) 1 [] [.vl (.tup [.str "row",.tup (a.map Kd.t)]),.un,.un] (a.map Kd.t)=.ok ((a.map Kd.all).map T.lst):=by
  unfold zK;rw[if_pos (by rw[ah];lia)]
  show quiet (zQ _ _ _ _ [.un])=_;have:∀(a:List Kd) (x:Sl),(∀k∈a,k.Ok d)->zQ (zI 0) Z1 (za 1 ca (z9 (vE 0) (zj))) (a.map Kd.t) [x]=.ok ((a.map Kd.all).map T.lst):=by
   intro a
   induction a with
   |nil=>intro _ _;rfl
   |cons k a I=>
    intro x i;have u:zQ (zI 0) Z1 (za 1 ca (z9 (vE 0) (zj))) ((k::a).map _) [x]=(za 1 ca _ [.vl k.t]).bind λv=>(zQ _ _ _ _ [.vl k.t]).bind λvs=>.ok _:=rfl;rw[u,zG,v0,af,H k (i k aj),I _ λf j=>i f (ai _ j)];rfl
  rw[this a .un o];rfl
 have p:=Ja a;have J:lJ [.lst ((a.map Kd.all).map _)]=.ok _:=qC _ (by rw[ah];lia) (λl q=>by
  obtain⟨k,i,rfl⟩:=aF.mp q;exact ZK d k (o k i)) (by
  rw[aS];show lm (a.map λk=>k.all.length)<=iT;lia)
 show zw (match ((((R.ok _).bind λts=>(zK _ _ _ 1 [] _ ts).bind λvs=>.ok _).bind λx=>lJ [x]).s λt=>.rt t)with|.nx G=>_|r=>r)=_
 rw[af,y,af,af,J,Kd.all,Kd.alls_map];rfl
theorem Vc {ca:List T->R T}(d:Nat)(k:Kd)(lo hi:Nat)(h:(Kd.many k lo hi).Ok (d+1))(G:(Kd.many k lo hi).all.length<=1000000)(H:∀f:Kd,f.Ok d->ca [f.t]=.ok (.lst f.all)):zw (lV ca lJ (iW 3 [(Kd.many k lo hi).t]))=.ok (.lst (Kd.many k lo hi).all):=by
 have v:iT=16777216:=rfl;have e:zw (lV ca lJ (iW 3 [(Kd.many k lo hi).t]))=zw (lV ca lJ [.vl (Kd.many k lo hi).t,.un,.un]):=rfl;rw[e,lV,Z6,jc];obtain⟨u,r,o⟩:=h;have i:=jw k lo hi;simp only[Kd.t];rw[lC,ZF,show (("many":Str)=="whole")=false from rfl,if_neg ay,wI];dsimp only;rw[Z6,jc,lC,ZF,show (("many":Str)=="pick")=false from rfl,if_neg ay,wI];dsimp only;rw[Z6,jc,lC,ZF,show (("many":Str)=="row")=false from rfl,if_neg ay,wI];dsimp only;have p:Uo 1 (zj) [.vl (.tup [.str "many",k.t,.int (lo:Int),.int (hi:Int)]),.un,.un]=.nx [.vl (.tup [.str "many",k.t,.int (lo:Int),.int (hi:Int)]),.ow [],.un]:=rfl;rw[Z6,p];dsimp only;obtain⟨y,q⟩:=uo (k:=k) (lo:=lo) (H k o) (ZK d k o) (a:=.str "many") (b:=.int (lo:Int)) (c:=.int (hi:Int)) (b6 (hi+1-lo)) [] .un (λj B=>by have:=bg.mp B;lia) (HF i G)
 have l:=Va (ca:=ca) (t:=k.t) u r q;rw[bL]at l;rw[zb l,Kd.all];rfl
theorem Vd {ca:List T->R T}(d:Nat)(k:Kd)(h:k.Ok (d+1))(a:k.all.length<=1000000)(H:∀f:Kd,f.Ok d->ca [f.t]=.ok (.lst f.all)):zw (lV ca lJ (iW 3 [k.t]))=.ok (.lst k.all):=by
 cases k with
 |whole lo hi=>exact qH d lo hi h a H
 |pick i=>exact Vb d i h a H
 |row j=>exact kn d j h a H
 |many k lo hi=>exact Vc d k lo hi h a H
theorem qJ:∀(d n:Nat),d<=n->d<=3->∀k:Kd,k.Ok d->k.all.length<=1000000->om n 0 [k.t]=.ok (.lst k.all)
 |0,_,_,_,_,h,_=>h.elim
 |d+1,0,hn,_,_,_,_=>by lia
 |d+1,n+1,hn,hd,k,h,i=>by
  have e:om (n+1) 0 [k.t]=zw (lV (om n 0) lJ (iW 3 [k.t])):=rfl;rw[e];refine Vd d k h i λf a=>qJ d n (by lia) (by lia) f a ?_
  have j:=jD d f a;have:mx d<=1000000:=by
   have:d=0\/d=1\/d=2:=by lia
   rcases this with rfl|rfl|rfl<;>decide
  lia
theorem DQ {x a b:Str}{r:List T}{ρ:En}:zB lF (zd fr (vE 0) (cE (.int 0))) (Zm (z9 (cE (.str a)) (z9 (cE (.str b)) (zj)))) (.vl (.tup (.str x::r))::ρ)=lF (.str x) (.tup [.str a,.str b]):=by
 rw[zN,zu,v0,af,zY,af,l7,af,WF zY zY,af]
theorem j3 {g:En->R Bool}{a d:En->RS}{ρ:En}(h:g ρ=.ok true):iS g a d ρ=a ρ:=by rw[jc,h,ZF,if_pos rfl]
theorem AL {g:En->R Bool}{d a:En->RS}{ρ:En}(h:g ρ=.ok false):iS g d a ρ=a ρ:=by rw[jc,h,ZF,if_neg ay]
theorem zt {g:En->R Bool}{a:En->RS}{ρ:En}(h:g ρ=.ok false):iS g a iR ρ=.nx ρ:=by rw[AL h];rfl
theorem zD {i:Nat}{f:En->R T}{ρ:En}{t:T}(h:f ρ=.ok t):zH i f ρ=.nx (ρ.set i (.vl t)):=by rw[Jj,h,ZF]
theorem zq {f:En->R T}{ρ:En}{t:T}(h:f (frz ρ)=.ok t):zC f ρ=.rt t:=by rw[Zp,h,ZF]
theorem ZM {g:T->En->R En}{d:En->RS}{t:T}{ts:List T}{ρ ρ1 a:En}(i:g t ρ=.ok ρ1)(f:d ρ1=.nx a):Zr g d (t::ts) ρ=Zr g d ts a:=by
 rw[Zr,i];dsimp only;rw[f]
theorem zE {f g:En->RS}{ρ:En}{t:T}(h:f ρ=.rt t):zz f g ρ=.rt t:=by rw[Z6,h]
theorem qK {i j:Nat}(h:i<2^60):Z7 (.int (i:Int)) (.int (j:Int))=.ok (.int ((i*j:Nat):Int)):=by
 rw[uY _ _ (.inl ⟨by lia,by lia⟩),iE]
theorem CW {d n:Nat}(h:n<=mx d)(hd:d<=3):n<2^60:=by
 have:d=0\/d=1\/d=2\/d=3:=by lia
 have a:mx 3<2^60:=by decide
 have i:mx 2<2^60:=by decide
 have j:mx 1<2^60:=by decide
 have f:mx 0<2^60:=by decide
 rcases this with rfl|rfl|rfl|rfl<;>lia
theorem UK {a b:Sl}:∀(ns:List Nat) (m:Nat) (x y:Sl),(∀n∈ns,1<=n)->m*lm ns<2^60->∃j,Zr (zI 3) (zH 2 (zd Z7 (vE 2) (vE 3))) (ns.map λ(n:Nat)=>T.int (n:Int)) [a,b,.vl (.int (m:Int)),x,y]=.nx [a,b,.vl (.int ((m*lm ns:Nat):Int)),j,y]
 |[],m,x,y,_,_=>⟨x,by simp[Zr,lm]⟩
 |n::ns,m,x,y,hp,f=>by
  have d:=JT λk l=>hp k (ai _ l);have hn:=hp n aj;have i:m<=m*lm (n::ns):=cD _ (eF hn d);have o:=bW i f;rw[lm,←cQ]at f;obtain⟨j,p⟩:=UK ns _ _ y (λk l=>hp k (ai _ l)) f;refine⟨j,?_⟩;have q:zH 2 (zd Z7 (vE 2) (vE 3)) [a,b,.vl (.int (m)),.vl (.int (n)),y]=.nx [a,b,.vl (.int ((m*n):Int)),.vl (.int (n)),y]:=by
   rw[Jj,zu,v2,af,v3,af,qK o];rfl
  have s3:zI 3 (T.int (n)) [a,b,.vl (.int (m)),x,y]=.ok _:=rfl;rw[aK,ZM s3 q,lm,←cQ];exact p
theorem Ve:∀(d:Nat) (lo hi:Int),(Kd.whole lo hi).Ok (d+1)->(Kd.whole lo hi).Ok 1
 |_,_,_,h=>h
theorem Vf:∀(d:Nat) (a:List (Str×Int)),(Kd.pick a).Ok (d+1)->(Kd.pick a).Ok 1
 |_,_,h=>h
theorem uq {a:List T->R T}(k:Kd)(h:k.Ok 1){x:Str}{r:List T}(d:k.t=.tup (.str x::r))(f:lF (.str x) (.tup [.str "whole",.str "pick"])=.ok true):zw (mm (mj 8) a (iW 5 [k.t]))=.ok (.int (k.all.length:Int)):=by
 have l:mj 8 _=.ok _:=qJ 1 8 (by lia) (by lia) k h (aG (jD 1 k h) (by decide))
 have e:zw (mm (mj 8) a (iW 5 [k.t]))=zw (mm _ a [.vl k.t,.un,.un,.un,.un]):=rfl;have i:zB lF (zd fr (vE 0) (cE (.int 0))) (Zm (z9 (cE (.str "whole")) (z9 (cE (.str "pick")) (zj)))) [.vl k.t,.un,.un,.un,.un]=.ok true:=by
  rw[d,DQ,f]
 have j:zC (gx Zb (za 1 (mj 8) (z9 (vE 0) (zj)))) [.vl k.t,.un,.un,.un,.un]=.rt (.int (k.all.length)):=by
  refine zq ?_;rw[jl,ZU,zG,v0,af,l,af,Dm]
 rw[e,mm,zE (by rw[j3 i,j])]
 rfl
theorem EE (b:Bool):b2 b=(iv b:Int):=by cases b<;>rfl
theorem Vg {i:List T->R T}{d:Nat}(hd:d+1<=3)(f:List Kd)(h:(Kd.row f).Ok (d+1))(H:∀k:Kd,k.Ok d->i [k.t]=.ok (.int (k.all.length:Int))):zw (mm (mj 8) i (iW 5 [(Kd.row f).t]))=.ok (.int ((Kd.row f).all.length:Int)):=by
 have j:=CW (jD _ _ h) hd;rw[Ja]at j⊢;obtain⟨P,J,r⟩:=h;simp only[Kd.t,Kd.ts_map];have e:zw (mm (mj 8) i (iW 5 [.tup [.str "row",.tup (f.map Kd.t)]]))=zw (mm _ i [.vl _,.un,.un,.un,.un]):=rfl;have o:zB lF (zd fr (vE 0) (cE (.int 0))) (Zm (z9 (cE (.str "whole")) (z9 (cE (.str "pick")) (zj)))) [.vl (.tup [.str "row",.tup (f.map Kd.t)]),.un,.un,.un,.un]=.ok false:=by
  rfl
 have I:zK (zI 0) Z1 (za 1 i (z9 (vE 0) (zj))) 1 [] [.vl (.tup [.str "row",.tup (f.map Kd.t)]),.un,.un,.un,.un] (f.map Kd.t)=.ok ((f.map λk=>k.all.length).map λ(n:Nat)=>T.int (n)):=by
  unfold zK;rw[if_pos (by rw[ah];exact aG J (by decide))]
  have:∀(f:List Kd) (x:Sl),(∀k∈f,k.Ok d)->zQ (zI 0) Z1 (za 1 i (z9 (vE 0) (zj))) (f.map Kd.t) [x]=.ok ((f.map λk=>k.all.length).map λ(n:Nat)=>T.int (n)):=by
   intro f
   induction f with
   |nil=>intro _ _;rfl
   |cons k f L=>
    intro x l;have o:zQ (zI 0) Z1 (za 1 i (z9 (vE 0) (zj))) ((k::f).map _) [x]=(za 1 i _ [.vl k.t]).bind λv=>(zQ _ _ _ _ [.vl k.t]).bind λvs=>.ok _:=rfl;rw[o,zG,v0,af,H k (l k aj),L _ λu p=>l u (ai _ p)];rfl
  show quiet (zQ _ _ _ _ [.un])=_;rw[this f .un r];rfl
 have G:lD (zB iQ (zd fr (vE 0) (cE (.int 0))) (cE (.str "row"))) (zL (Z9 (zd fr (vE 0) (cE (.int 1)))) (zI 0) (Z1) (za 1 i (z9 (vE 0) (zj))) 1 []) (jb (zj)) [.vl (.tup [.str "row",.tup (f.map Kd.t)]),.un,.un,.un,.un]=.ok (.lst ((f.map λk=>k.all.length).map λ(n:Nat)=>T.int (n))):=by
  unfold lD;rw[lC,af,show (("row":Str)=="row")=true from rfl,if_pos rfl,Z5,jm,jY];show ((R.ok _).bind _)=_;rw[af,I,af]
 obtain⟨Q,q⟩:=UK (a:=.vl _) (f.map λk=>k.all.length) 1 .un .un (λn hn=>by
  obtain⟨k,l,rfl⟩:=aF.mp hn;exact ZK d k (r k l)) (by rw[cg];exact j)
 rw[cg]at q;have N:ZR (Z9 (vE 1)) _ _ [.vl _,.vl (.lst ((f.map λk=>k.all.length).map λ(n:Nat)=>T.int (n))),.vl (.int 1),.un,.un]=_:=q;rw[e,mm,zb (zt o),zb (zD G)];have B:([.vl (.tup [.str "row",.tup (f.map Kd.t)]),.un,.un,.un,.un]:En).set 1 (.vl (.lst ((f.map λk=>k.all.length).map λ(n:Nat)=>T.int (n))))=[.vl _,.vl (.lst ((f.map λk=>k.all.length).map λ(n:Nat)=>T.int (n))),.un,.un,.un]:=rfl;rw[B,zb (zD zY)];have y:([.vl (.tup [.str "row",.tup (f.map Kd.t)]),.vl (.lst ((f.map λk=>k.all.length).map λ(n:Nat)=>T.int (n))),.un,.un,.un]:En).set 2 (.vl (.int 1))=[.vl _,.vl (.lst ((f.map λk=>k.all.length).map λ(n)=>T.int _)),.vl _,.un,.un]:=rfl;rw[y,zb N];rfl
theorem Dr {f g:En->R T}{ρ:En}{i j c:Int}(a:f ρ=.ok (.int i))(d:g ρ=.ok (.int j)):lU i4 i4 f (cE (.int c)) g ρ=.ok (.bl (decide (i<=c)&&decide (c<=j))):=by
 rw[V8,a,af,zY,af,ug,d];cases decide (i<=c)<;>rfl
theorem wJ (a b:Nat):decide ((a:Int)<=(b:Int))=decide (a<=b):=by
 by_cases h:a<=b
 ·rw[decide_eq_true h];exact decide_eq_true (by lia)
 ·rw[decide_eq_false h];exact decide_eq_false (by lia)
theorem qL (a b:Nat):((a:Int)==(b:Int))=(a==b):=by
 by_cases h:a=b
 ·subst h;simp
 ·rw[beq_eq_false_iff_ne.mpr h,beq_eq_false_iff_ne];lia
theorem rL {f:En->R T}{ρ:En}{b:Bool}(h:f ρ=.ok (.bl b)):gx YO f ρ=.ok (.int ((iv b:Nat):Int)):=by
 rw[ZU,h];show R.ok _=_;rw[EE]
theorem qN {f g:En->R T}{ρ:En}{i j:Nat}(a:f ρ=.ok (.int (i:Int)))(d:g ρ=.ok (.int (j:Int))):zd zv f g ρ=.ok (.int ((i+j:Nat):Int)):=by
 rw[zu,a,af,d,af,Z8,Int.natCast_add]
theorem Jb {f g:En->R T}{ρ:En}{i j:Nat}(h:i<2^60)(a:f ρ=.ok (.int (i:Int)))(d:g ρ=.ok (.int (j:Int))):zd Z7 f g ρ=.ok (.int ((i*j:Nat):Int)):=by
 rw[zu,a,af,d,af,qK h]
theorem ko {d n:Nat}(h:n<=mx d)(hd:d+1<=3)(o:1<=d):n*n*n<2^60/\n*n<2^60/\n<2^60:=by
 have a:n<=70644:=by
  have:d=1\/d=2:=by lia
  have f:mx 2=70644:=by decide
  have a:mx 1=41:=by decide
  rcases this with rfl|rfl<;>lia
 have f:=bY a a;have j:=bY f a;have k:70644*70644*70644<2^60:=by decide
 have i:70644*70644<2^60:=by decide
 have l:70644<2^60:=by decide
 exact⟨bW j k,bW f i,bW a l⟩
noncomputable abbrev mt (t:T)(lo hi:Nat):T:=.tup [.str "many",t,.int (lo:Int),.int (hi:Int)]
theorem oz {t:T}{a b c d:Sl}{ρ:En}:vE 4 (a::b::c::d::.vl t::ρ)=.ok t:=rfl
theorem qQ {t:T}{a x:Sl}{lo hi n:Nat}(y:n*n*n<2^60)(u:n*n<2^60)(f:n<2^60):
  zz (zH 2 (zd zv (gx YO (ZD iQ (zd fr (vE 0) (cE (.int 2))) (cE (.int 0)))) (zd Z7 (vE 4) (gx YO (lU i4 i4 (zd fr (vE 0) (cE (.int 2))) (cE (.int 1)) (zd fr (vE 0) (cE (.int 3))))))))
  (zz (zH 2 (zd zv (vE 2) (zd Z7 (zd Z7 (vE 4) (vE 4)) (gx YO (lU i4 i4 (zd fr (vE 0) (cE (.int 2))) (cE (.int 2)) (zd fr (vE 0) (cE (.int 3))))))))
  (zH 2 (zd zv (vE 2) (zd Z7 (zd Z7 (zd Z7 (vE 4) (vE 4)) (vE 4)) (gx YO (ZD iQ (zd fr (vE 0) (cE (.int 3))) (cE (.int 3))))))))
  [.vl (mt t lo hi),a,.vl (.int 1),x,.vl (.int (n:Int))]=.nx [.vl (mt t lo hi),a,.vl (.int ((iv (lo==0)+n*iv (decide (lo<=1)&&decide (1<=hi))+n*n*iv (decide (lo<=2)&&decide (2<=hi))+n*n*n*iv (hi==3):Nat):Int)),x,.vl (.int (n:Int))]:=by
 have d:∀{p q r s:Sl},gx _ (lU i4 i4 _ _ _) [.vl (mt t lo hi),p,q,r,s]=.ok (.int ((iv (decide (lo<=1)&&decide (1<=hi))):Int)):=λ{p q r s}=>rL (by
  rw[Dr um Ki];rw[show decide ((lo:Int)<=1)=decide _ from wJ lo 1,show decide ((1:Int)<=(hi))=decide _ from wJ 1 hi])
 have k:∀{p q r s:Sl},gx _ (lU i4 i4 _ _ _) [.vl (mt t lo hi),p,q,r,s]=.ok (.int ((iv (decide (lo<=2)&&decide (2<=hi))):Int)):=λ{p q r s}=>rL (by
  rw[Dr um Ki];rw[show decide ((lo:Int)<=2)=decide _ from wJ lo 2,show decide ((2:Int)<=(hi))=decide _ from wJ 2 hi])
 have j:∀{p q r s:Sl},gx _ (ZD iQ (zd fr _ _) (cE _)) [.vl (mt t lo hi),p,q,r,s]=.ok _:=λ{p q r s}=>rL (by
  rw[Zq,um,af,zY,af,md,af,show ((lo:Int)==0)=(lo==0) from qL lo 0])
 have o:∀{p q r s:Sl},gx _ (ZD iQ (zd fr _ _) (cE _)) [.vl (mt t lo hi),p,q,r,s]=.ok _:=λ{p q r s}=>rL (by
  rw[Zq,Ki,af,zY,af,md,af,show ((hi:Int)==3)=(hi==3) from qL hi 3])
 have l:=zD (i:=2) (qN (j (p:=a) (q:=.vl (.int 1)) (r:=x)) (Jb f oz d));have l:zH 2 _ _=.nx [.vl _,a,.vl _,x,.vl _]:=l;rw[zb l];generalize iv _+n*iv _=m1;have B:=zD (i:=2) (qN (v2 (t:=.int (m1)) (b:=a) (ρ:=[x,.vl _])) (Jb u (Jb f oz oz) k));rw[zb B];generalize m1+n*n*iv _=m2;have v:=zD (i:=2) (qN (v2 (t:=.int (m2)) (b:=a) (ρ:=[x,.vl _])) (Jb y (Jb u (Jb f oz oz) oz) o));exact v
theorem qR {f:List T->R T}{d:Nat}(hd:d+1<=3)(k:Kd)(lo hi:Nat)(h:(Kd.many k lo hi).Ok (d+1))(H:∀k:Kd,k.Ok d->f [k.t]=.ok (.int (k.all.length:Int))):zw (mm (mj 8) f (iW 5 [(Kd.many k lo hi).t]))=.ok (.int ((Kd.many k lo hi).all.length:Int)):=by
 obtain⟨I,y,j⟩:=h;have i:1<=d:=by
  cases d with
  |zero=>exact j.elim
  |succ d=>lia
 obtain⟨v,l,G⟩:=ko (jD d k j) hd i;rw[jw,kl _ I y];simp only[Kd.t];have N:=H k j;generalize k.all.length=n at*;generalize k.t=t at*;have e:zw (mm (mj 8) f (iW 5 [mt t lo hi]))=zw (mm _ f [.vl _,.un,.un,.un,.un]):=rfl;have o:zB lF (zd fr (vE 0) (cE (.int 0))) (Zm (z9 (cE (.str "whole")) (z9 (cE (.str "pick")) (zj)))) [.vl (mt t lo hi),.un,.un,.un,.un]=.ok false:=by
  rfl
 have u:lD (zB iQ (zd fr (vE 0) (cE (.int 0))) (cE (.str "row"))) (zL (Z9 (zd fr (vE 0) (cE (.int 1)))) (zI 0) (Z1) (za 1 f (z9 (vE 0) (zj))) 1 []) (jb (zj)) [.vl (mt t lo hi),.un,.un,.un,.un]=.ok (.lst []):=by
  rfl
 have q:([.vl (mt t lo hi),.un,.un,.un,.un]:En).set 1 (.vl (.lst []))=[.vl _,.vl _,.un,.un,.un]:=rfl;have p:([.vl (mt t lo hi),.vl (.lst []),.un,.un,.un]:En).set 2 (.vl (.int 1))=[.vl _,.vl _,.vl _,.un,.un]:=rfl;have Q:ZR (Z9 (vE 1)) (zI 3) (zH 2 (zd Z7 (vE 2) (vE 3))) [.vl (mt t lo hi),.vl (.lst []),.vl (.int 1),.un,.un]=.nx _:=rfl;have r:zB iQ (zd fr (vE 0) (cE (.int 0))) (cE (.str "many")) [.vl (mt t lo hi),.vl (.lst []),.vl (.int 1),.un,.un]=.ok true:=by
  rfl
 have L:za 1 f (z9 (zd fr (vE 0) (cE (.int 1))) (zj)) [.vl (mt t lo hi),.vl (.lst []),.vl (.int 1),.un,.un]=.ok (.int (n)):=by
  rw[zG,jY,af,N]
 have s5:([.vl (mt t lo hi),.vl (.lst []),.vl (.int 1),.un,.un]:En).set 4 (.vl (.int (n)))=[.vl _,.vl _,.vl _,.un,.vl _]:=rfl;have J:=qQ (t:=t) (a:=.vl (.lst [])) (x:=.un) (lo:=lo) (hi:=hi) v l G;rw[e,mm,zb (zt o),zb (zD u),q,zb (zD zY),p,zb Q];have B:∀(P:En->RS),iS _ (zz _ P) iR _=P _:=λP=>by
  rw[j3 r,zb (zD L),s5]
 rw[zb (iP (B _) J)];rfl
theorem qS:∀(d n:Nat),d<=n->d<=3->∀k:Kd,k.Ok d->tO n 0 [k.t]=.ok (.int (k.all.length:Int))
 |0,_,_,_,_,h=>h.elim
 |d+1,0,hn,_,_,_=>by lia
 |d+1,n+1,hn,hd,k,h=>by
  have H:=λi a=>qS d n (by lia) (by lia) i a
  cases k with
  |whole lo hi=>exact uq _ (Ve d lo hi h) (x:="whole") (r:=[.int lo,.int hi]) (by simp only[Kd.t]) rfl
  |pick f=>exact uq _ (Vf d f h) (x:="pick") (r:=[.tup (f.map wj)]) (by simp only[Kd.t]) rfl
  |row j=>exact Vg (by lia) j h H
  |many k lo hi=>exact qR (by lia) k lo hi h H
theorem Ok.mono:∀(d:Nat) (k:Kd),k.Ok d->k.Ok (d+1)
 |0,_,h=>h.elim
 |d+1,.whole _ _,h=>h
 |d+1,.pick _,h=>h
 |d+1,.row f,h=>⟨h.1,h.2.1,λk a=>Ok.mono d k (h.2.2 k a)⟩
 |d+1,.many k _ _,h=>⟨h.1,h.2.1,Ok.mono d k h.2.2⟩
theorem kq (j:Int):Z7 (.int 700) (.int j)=.ok (.int (700*j)):=uY _ _ (.inl ⟨by decide,by decide⟩)
theorem CU (ns:List Int)(d:Nat)(l:1<=d)(i:d<=8)(k:Int)(f:0<=k):∃q:Kd,nh 8 [iZ ns,.int k,.int (d:Int)]=.ok q.t/\q.Ok d:=by
 obtain⟨t,a,hi⟩:=uZ ns d 8 i l k f;obtain⟨q,rfl,j⟩:=U1 d t hi;exact⟨q,a,j⟩
abbrev nK:En->RS:=zz (iS (zB i4 (za 1 (oH 8) (z9 (vE 3) (zj))) (vB 2)) (zC (vE 3)) (iR))
  (zH 3 (za 3 (nh 8) (z9 (vE 0) (z9 (zd zv (zd zv (vE 1) (cE (.int 500))) (zd Z7 (cE (.int 700)) (vE 4))) (z9 (cE (.int 2)) (zj))))))
abbrev mD (ns:List Int)(a:Int)(m:Nat)(k:Kd)(x:Sl):En:=[.vl (iZ ns),.vl (.int a),.vl (.int (m:Int)),.vl k.t,x]
theorem qT {ns:List Int}{a:Int}{m:Nat}{k:Kd}{x:Sl}(d:k.Ok 3):zB i4 (za 1 (oH 8) (z9 (vE 3) (zj))) (vB 2) (mD ns a m k x)=.ok (decide (k.all.length<=m)):=by
 have e:oH 8 _=.ok _:=qS 3 8 (by lia) (by lia) k d
 rw[zN,zG,v3,af,e,af,w2,af,ug,wJ]
theorem ku (ns:List Int){a:Int}{m:Nat}(o:0<=a){k:Kd}(i:k.Ok 3)(j:Nat):(k.all.length<=m/\nK (mD ns a m k (.vl (.int (0+(j:Int)))))=.rt k.t)\/∃f:Kd,f.Ok 3/\nK (mD ns a m k (.vl (.int (0+(j:Int)))))=.nx (mD ns a m f (.vl (.int (0+(j:Int))))):=by
 by_cases h:k.all.length<=m
 ·refine .inl ⟨h,?_⟩;refine zE ?_;rw[j3 (by rw[qT i,decide_eq_true h])]
  exact zq rfl
 ·obtain⟨q,d,l⟩:=CU ns 2 (by lia) (by lia) (a+500+700*(0+(j))) (by lia)
  refine .inr ⟨q,Ok.mono 2 q l,?_⟩;unfold nK;rw[zb (zt (by rw[qT i,decide_eq_false h]))]
  have d:nh 8 [iZ ns,.int _,.int 2]=.ok q.t:=d;have e:za 3 (nh 8) (z9 (vE 0) (z9 (zd zv (zd zv (vE 1) (cE (.int 500))) (zd Z7 (cE (.int 700)) (vE 4))) (z9 (cE (.int 2)) (zj)))) (mD ns a m k (.vl (.int (0+(j)))))=.ok q.t:=by
   rw[Zt,v0,af,zu,zu,v1,af,zY,af,Z8,af,zu,zY,af,v4,af,kq,af,Z8,af,zY,af,d]
  rw[zD e];rfl
theorem E9 {g:T->En->R En}{a:En->RS}{t:T}{ts:List T}{ρ ρ1:En}{r:T}(f:g t ρ=.ok ρ1)(d:a ρ1=.rt r):Zr g a (t::ts) ρ=.rt r:=by
 rw[Zr,f];dsimp only;rw[d]
theorem qU (ns:List Int){a:Int}{m:Nat}(o:0<=a):∀(js:List Nat) (k:Kd) (x:Sl),k.Ok 3->(∃d:Kd,d.Ok 3/\d.all.length<=m/\Zr (zI 4) nK (js.map λ(j:Nat)=>T.int (0+(j:Int))) (mD ns a m k x)=.rt d.t)\/
  ∃(d:Kd) (p:Sl),d.Ok 3/\Zr (zI 4) nK (js.map λ(j:Nat)=>T.int (0+(j:Int))) (mD ns a m k x)=.nx (mD ns a m d p)
 |[],k,x,f=>.inr ⟨k,x,f,rfl⟩
 |j::js,k,x,f=>by
  have s3:zI 4 (T.int (0+(j))) (mD ns a m k x)=.ok _:=rfl;rw[aK];rcases ku ns o f j with ⟨l,i⟩|⟨d,l,i⟩
  ·exact .inl ⟨k,f,l,E9 s3 i⟩
  ·rw[ZM s3 i];exact qU ns o js d _ l
theorem Vh (ns:List Int)(a:Int)(o:0<=a)(m:Nat)(u:4<=m):∃k:Kd,k.Ok 3/\k.all.length<=m/\Kb [iZ ns,.int a,.int (m:Int)]=.ok k.t:=by
 obtain⟨q,f,r⟩:=CU ns 3 (by lia) (by lia) a o
 have f:nh 8 [iZ ns,.int a,.int 3]=.ok q.t:=f;have e:Kb [iZ ns,.int a,.int (m)]=zw (tN _ _ [.vl _,.vl _,.vl _,.un,.un]):=rfl;have p:za 3 (nh 8) (z9 (vE 0) (z9 (vE 1) (z9 (cE (.int 3)) (zj)))) [.vl (iZ ns),.vl (.int a),.vl (.int (m)),.un,.un]=.ok q.t:=by
  rw[Zt,v0,af,v1,af,zY,af,f]
 have v:([.vl _,.vl _,.vl _,.un,.un]:En).set 3 _=mD ns a m q .un:=rfl;rw[e,tN,zb (zD p),v];rcases qU ns o _ q .un r with ⟨k,d,y,j⟩|⟨k,x,d,j⟩
 ·refine⟨k,d,y,?_⟩;have i:ZR (Zs (cE (.int 3))) (zI 4) nK _=.rt k.t:=j;rw[zE i];rfl
 ·have i:ZR (Zs (cE (.int 3))) (zI 4) nK _=.nx _:=j;rw[zb i];have l:zB i4 _ _ (frz (mD ns a m k x))=.ok _:=qT d
  by_cases h:k.all.length<=m
  ·refine⟨k,d,h,?_⟩;rw[zq]
   ·rfl
   ·unfold lD;rw[l,decide_eq_true h];rfl
  ·refine⟨.whole (-1) 2,⟨by lia,by lia,by lia⟩,by exact u,?_⟩
   rw[zq]
   ·rfl
   ·unfold lD;rw[l,af,decide_eq_false h,if_neg ay];rfl
mutual
noncomputable def Kd.has:Kd->T->Bool
 |.whole lo hi=>λt=>o6 lo hi t
 |.pick d=>λt=>match t with|.str x=>d.any λc=>c.1==x|_=>false
 |.row a=>λt=>match t with|.tup xs=>xs.length==a.length&&Kd.hass a xs|_=>false
 |.many k lo hi=>λt=>match t with|.tup xs=>decide (lo<=xs.length)&&decide (xs.length<=hi)&&xs.all k.has|_=>false
noncomputable def Kd.hass:List Kd->List T->Bool
 |[]=>λ_=>true
 |k::a=>λxs=>match xs with|[]=>true|x::xs=>k.has x&&Kd.hass a xs
end
noncomputable def yK:List (List T)->List T->Prop
 |[],[]=>True
 |l::ls,x::xs=>x∈l/\yK ls xs
 |_,_=>False
theorem JV:∀(ls made:List (List T)) (xs:List T),xs∈ZH made ls↔∃a∈made,∃b,yK ls b/\xs=a++b
 |[],made,xs=>by
  rw[ZH];constructor
  ·exact λh=>⟨xs,h,[],trivial,by simp⟩
  ·rintro⟨a,f,b,d,rfl⟩
   cases b with
   |nil=>simpa using f
   |cons=>exact d.elim
 |l::ls,made,xs=>by
  rw[ZH,JV ls];constructor
  ·rintro⟨o,i,b,d,rfl⟩
   obtain⟨a,f,j⟩:=d5.mp i;obtain⟨x,k,e⟩:=aF.mp j;exact⟨a,f,x::b,⟨k,d⟩,by rw[←e];simp⟩
  ·rintro⟨a,f,b,d,rfl⟩
   cases b with
   |nil=>exact d.elim
   |cons x b=>exact⟨a++[x],d5.mpr ⟨a,f,aF.mpr ⟨x,d.1,rfl⟩⟩,b,d.2,by simp⟩
theorem Wh (ls:List (List T))(t:T):t∈yU ls↔∃xs,yK ls xs/\t=.tup xs:=by
 rw[aF];constructor
 ·rintro⟨xs,h,rfl⟩
  obtain⟨a,f,b,d,rfl⟩:=(JV ls _ xs).mp h;rw[ax.mp f];exact⟨b,d,rfl⟩
 ·rintro⟨xs,h,rfl⟩
  exact⟨xs,(JV ls _ xs).mpr ⟨[],ax.mpr rfl,xs,h,rfl⟩,rfl⟩
theorem Wi (l:List T):∀(m:Nat) (xs:List T),yK (av m l) xs↔xs.length=m/\∀x∈xs,x∈l
 |0,[]=>by simp[yK]
 |0,x::xs=>by simp[yK]
 |m+1,[]=>by simp[yK,bS]
 |m+1,x::xs=>by
  show x∈l/\yK _ xs↔_;rw[Wi l m xs];simp;constructor
  ·rintro⟨a,b,c⟩;exact⟨b,a,c⟩
  ·rintro⟨a,b,c⟩;exact⟨b,a,c⟩
theorem ur:∀(d:List Kd),(∀k∈d,∀x,x∈k.all↔k.has x=true)->∀xs,yK (d.map Kd.all) xs↔(xs.length==d.length&&Kd.hass d xs)=true
 |[],_,[]=>by simp[yK,Kd.hass]
 |[],_,x::xs=>by simp[yK]
 |k::d,h,[]=>by simp[yK]
 |k::d,h,x::xs=>by
  show x∈k.all/\yK _ xs↔_;rw[ur d (λi f=>h i (ai _ f)) xs,h k aj x];simp[Kd.hass];constructor
  ·rintro⟨a,b,c⟩;exact⟨b,a,c⟩
  ·rintro⟨a,b,c⟩;exact⟨b,a,c⟩
mutual
theorem Wj:∀(k:Kd) (x:T),x∈k.all↔k.has x=true
 |.whole lo hi,x=>by
  rw[Kd.all,Kd.has,aF];constructor
  ·rintro⟨i,a,rfl⟩
   rw[bg]at a;simp[o6];lia
  ·intro h;obtain⟨i,rfl⟩:=kh h;simp[o6]at h;exact⟨(i-lo).toNat,by rw[bg];lia,by congr 1;lia⟩
 |.pick j,x=>by
  rw[Kd.all,Kd.has,aF];constructor
  ·rintro⟨c,d,rfl⟩
   simp only[ip];exact⟨c,d,by simp⟩
  ·intro h;dsimp only at h;split at h
   ·rw[ip]at h;obtain⟨c,d,e⟩:=h;exact⟨c,d,by rw[eq_of_beq e]⟩
   ·cases h
 |.row f,x=>by
  rw[Kd.all,Kd.has,Wh,Kd.alls_map];have:=ur f (UL f);constructor
  ·rintro⟨xs,h,rfl⟩
   exact(this xs).mp h
  ·intro h;dsimp only at h;split at h
   ·rename_i xs;exact⟨xs,(this xs).mpr h,rfl⟩
   ·cases h
 |.many k lo hi,x=>by
  rw[Kd.all,Kd.has,d5];constructor
  ·rintro⟨i,a,h⟩
   rw[Wh]at h;obtain⟨xs,h,rfl⟩:=h;rw[Wi]at h;rw[bg]at a;simp only[ar,decide_eq_true_eq,aU];exact⟨⟨by lia,by lia⟩,λy hy=>(Wj k y).mp (h.2 y hy)⟩
  ·intro h;dsimp only at h;split at h
   ·rename_i xs;simp only[ar,decide_eq_true_eq,aU]at h;refine⟨xs.length-lo,by rw[bg];lia,?_⟩
    rw[Wh];exact⟨xs,(Wi _ _ _).mpr ⟨by lia,λy hy=>(Wj k y).mpr (h.2 y hy)⟩,rfl⟩
   ·cases h
theorem UL:∀(a:List Kd),∀k∈a,∀x,x∈k.all↔k.has x=true
 |[],_,h=>nomatch h
 |k::a,d,h=>by
  rcases am.mp h with e|h
  ·intro x;rw[e];exact Wj k x
  ·exact UL a d h
end
theorem UM {d:Type}(p:d->Bool):∀a:List d,uH (a.map λq=>T.bl (p q))=some (a.all p)
 |[]=>rfl
 |q::a=>by
  have e:uH ((q::a).map λq=>T.bl (p q))=match uH (a.map λq=>T.bl _)with|some j=>some _|none=>none:=rfl
  rw[e,UM p a];rfl
theorem Vi (a:List (Str×Int))(h:a.length<=4):GT [(Kd.pick a).t]=.ok (.lst (a.map λc=>T.str c.1)):=by
 have e:GT [(Kd.pick a).t]=zw (sF [.vl (.tup [.str "pick",.tup (a.map wj)])]):=by rfl
 have f:(a.map wj).length<=iT:=by rw[ah];exact aG h (by decide)
 have i:zK _ _ (zd fr (vE 0) (cE (.int 0))) 1 [] [.vl (.tup [.str "pick",.tup (a.map wj)])] _=.ok ((a.map wj).map λc=>match c with|.tup (w::_)=>w|_=>c):=
  Ze _ f λt d=>by
   obtain⟨c,_,rfl⟩:=aF.mp d;rfl
 rw[e,sF,zq]
 ·rfl
 ·show zL _ _ _ _ _ _ [.vl _]=_;show ((zK _ _ _ _ _ _ _).bind _)=_;rw[i,aS];rfl
abbrev lg (a b:T):En:=[.vl a,.vl b]
theorem Kj {x w:Str}{r:List T}{b:T}(h:(x==w)=false){f:En->RS}:iS (zB iQ (zd fr (vE 0) (cE (.int 0))) (cE (.str w))) f iR (lg (.tup (.str x::r)) b)=.nx (lg (.tup (.str x::r)) b):=
 zt (by rw[lC,h])
theorem oE {x:Str}{r:List T}{b:T}{f:En->RS}:iS (zB iQ (zd fr (vE 0) (cE (.int 0))) (cE (.str x))) f iR (lg (.tup (.str x::r)) b)=f (lg (.tup (.str x::r)) b):=
 j3 (by rw[lC,beq_self_eq_true])
theorem UN:∀(d:Nat) (k:Kd),k.Ok d->l0 d k.t=true
 |0,_,h=>h.elim
 |d+1,.whole lo hi,h=>by
  have e:l0 (d+1) (Kd.whole lo hi).t=(decide (-20<=lo)&&decide (lo<=hi)&&decide (hi<=20)):=by rfl
  obtain⟨l,j,i⟩:=h;rw[e];simp;lia
 |d+1,.pick f,h=>by
  have e:l0 (d+1) (Kd.pick f).t=(decide (1<=(f.map wj).length)&&decide ((f.map wj).length<=4)&&(f.map wj).all Z4&&decide ((dd [] ((f.map wj).map j0)).length=(f.map wj).length)):=by rfl
  obtain⟨l,j,i,u⟩:=h;have r:(f.map wj).map j0=f.map (·.1):=by rw[aS];rfl
  have y:=(We _ []).mpr λk w v=>by simpa using u k w v
  rw[e,r,y,ah];simp only[ar,decide_eq_true_eq,aU];refine⟨⟨⟨l,j⟩,λc q=>?_⟩,by simp⟩
  obtain⟨p,hp,rfl⟩:=aF.mp q;obtain⟨a,b,c⟩:=i p hp;show (Zf _&&decide _&&decide _)=true;rw[a];simp;lia
 |d+1,.row o,h=>by
  have e:l0 (d+1) (Kd.row o).t=(decide (1<=(o.map Kd.t).length)&&decide ((o.map Kd.t).length<=3)&&(o.map Kd.t).all (l0 d)):=by rw[Kd.t,Kd.ts_map];rfl
  obtain⟨l,j,i⟩:=h;rw[e,ah];simp only[ar,decide_eq_true_eq,aU];refine⟨⟨l,j⟩,λc q=>?_⟩;obtain⟨k,B,rfl⟩:=aF.mp q;exact UN d k (i k B)
 |d+1,.many k lo hi,h=>by
  have e:l0 (d+1) (Kd.many k lo hi).t=((decide ((0:Int)<=(lo:Int))&&decide ((lo:Int)<=(hi))&&decide ((hi:Int)<=3))&&l0 d k.t):=by rfl
  obtain⟨l,j,i⟩:=h;rw[e,UN d k i];simp;lia
theorem UO:∀(a:List Kd) (xs:List T),xs.length=a.length->Kd.hass a xs=true->∀x∈xs,∃k∈a,k.has x=true
 |[],[],_,_,_,h=>nomatch h
 |k::a,[],h,_,_,_=>by cases h
 |[],x::xs,h,_,_,_=>by cases h
 |k::a,x::xs,j,h,y,hy=>by
  rw[Kd.hass]at h;rw[ar]at h;rcases am.mp hy with rfl|hy
  ·exact⟨k,aj,h.1⟩
  ·obtain⟨d,i,f⟩:=UO a xs (by simpa using j) h.2 y hy
   exact⟨d,ai _ i,f⟩
theorem UP {l p:Type}(f:l->List p)(m:Nat):∀(d:List l) (i j:Nat),(∀a∈d,(f a).length=m)->j<m->(d.flatMap f)[i*m+j]?=(d[i]?).bind λa=>(f a)[j]?
 |[],i,j,_,_=>by simp
 |a::d,0,j,h,k=>by
  have o:=h a aj;rw[bB,Nat.zero_mul,h_,aD (by lia)]
  rfl
 |a::d,i+1,j,h,k=>by
  have o:=h a aj;have e:(i+1)*m=i*m+m:=by rw[fG,cg]
  rw[bB,az (by lia),o,e,show i*m+m+j-m=i*m+j by lia,UP f m d i j (λb q=>h b (ai _ q)) k]
  rfl
theorem ut {k l:Type}(f:k->List l):∀(d:List k) (q j:Nat) (a:k),d[q]?=some a->j<(f a).length->(d.flatMap f)[((d.take q).map λb=>(f b).length).sum+j]?=(f a)[j]?
 |[],q,j,a,h,_=>by simp at h
 |b::d,0,j,a,h,i=>by
  have e:=by simpa using h
  subst e;rw[bB,List.take_zero,cJ,List.sum_nil,h_,aD i]
 |b::d,q+1,j,a,h,i=>by
  rw[bB,List.take_succ_cons,aK,dg,Nat.add_assoc,az (by lia),eU]
  exact ut f d q j a (by simpa using h) i
theorem wK:∀(ls made:List (List T)) (l:List T),ZH made (ls++[l])=(ZH made ls).flatMap λa=>l.map λx=>a++[x]
 |[],made,l=>rfl
 |_::ls,made,l=>by
  rw[cB,ZH,ZH,wK ls]
theorem Vj {ls:List (List T)}{l:List T}{i j:Nat}{xs:List T}{x:T}(h:(ZH [[]] ls)[i]?=some xs)(d:l[j]?=some x):(ZH [[]] (ls++[l]))[i*l.length+j]?=some (xs++[x]):=by
 have f:=(aH.mp d).1;rw[wK,UP _ _ _ i j (λa _=>ah ..) f,h];show (l.map λx=>xs++[x])[j]?=_;rw[aA,d];rfl
theorem UQ:∀(ns:List Nat) (n:Nat),lm (ns++[n])=lm ns*n
 |[],n=>by simp[lm]
 |m::ns,n=>by rw[cB,lm,lm,UQ ns n,cQ]
theorem wL (ls:List (List T)):(ZH [[]] ls).length=lm (ls.map (·.length)):=by rw[JU,aL,cg]
theorem UR {a:Type}{xs:List a}{i:Nat}(h:i<xs.length):∃x,xs[i]?=some x:=⟨_,aw h⟩
theorem qV {xs:List T}{j:Nat}{v:T}(h:xs[j]?=some v):ly xs (j:Int)=.ok v:=by unfold ly;rw[jh h]
noncomputable def lX (c lo q:Nat):Nat:=((b6 q).map λi=>c^(lo+i)).sum
theorem Vk (c lo q:Nat):lX c lo (q+1)=lX c lo q+c^(lo+q):=by
 unfold lX;rw[iH,bF];simp
theorem kv {k:Kd}{lo hi q j:Nat}{xs:List T}(a:q<hi+1-lo)(h:(ZH [[]] (av (lo+q) k.all))[j]?=some xs):(Kd.many k lo hi).all[lX k.all.length lo q+j]?=some (.tup xs):=by
 have d:=(aH.mp h).1;have e:=ut (λi=>yU (av _ _)) _ q j q (by rw[da a]) (by rw[ah];exact d)
 have f:(((b6 (hi+1-lo)).take q).map λb=>(yU (av (lo+b) k.all)).length).sum=lX k.all.length lo q:=by
  rw[List.take_range,iI (eW a),lX];congr 1
  refine ck λi _=>?_;rw[Jw,be,jo]
 rw[f]at e;rw[Kd.all,e];rw[aA,h];rfl
abbrev sD (c:List T->R T):En->RS:=zH 1 (zd Z7 (vE 1) (za 1 c (z9 (vE 2) (zj))))
theorem qW {c:List T->R T}{S:Sl}:∀(d:List Kd) (m:Nat) (x:Sl),(∀k∈d,c [k.t]=.ok (.int (k.all.length:Int))/\1<=k.all.length)->m*lm (d.map λk=>k.all.length)<2^60->
  ∃y,Zr (zI 2) (sD c) (d.map Kd.t) [S,.vl (.int (m:Int)),x]=.nx [S,.vl (.int ((m*lm (d.map λk=>k.all.length):Nat):Int)),y]
 |[],m,x,_,_=>⟨x,by simp[Zr,lm]⟩
 |k::d,m,x,H,i=>by
  obtain⟨q,o⟩:=H k aj;have hp:=JT λn hn=>by
   obtain⟨f,a,rfl⟩:=aF.mp hn;exact(H f (ai _ a)).2
  rw[aK,lm,←cQ]at i;have j:m<2^60:=by
   have r:m<=m*k.all.length:=cD _ o;have u:m*k.all.length<=m*k.all.length*lm (d.map λk=>k.all.length):=cD _ hp;lia
  have l:sD c [S,.vl (.int (m)),.vl k.t]=.nx [S,.vl (.int ((m*k.all.length:Nat))),.vl k.t]:=by
   rw[sD,zD]
   ·rfl
   ·rw[zu,v1,af,zG,v2,af,q,af,qK j]
  obtain⟨y,p⟩:=qW (S:=S) d _ _ (λf a=>H f (ai _ a)) i;refine⟨y,?_⟩;rw[aK,ZM rfl l,p,aK,lm,cQ]
theorem JW {c:List T->R T}{s:T}(a:List Kd)(j:jP s=.ok (a.map Kd.t))(H:∀k∈a,c [k.t]=.ok (.int (k.all.length:Int))/\1<=k.all.length)(i:lm (a.map λk=>k.all.length)<2^60):
  zw (GS c (iW 3 [s]))=.ok (.int ((lm (a.map λk=>k.all.length):Nat):Int)):=by
 obtain⟨y,e⟩:=qW a 1 .un H (by rw[cg];exact i)
 rw[cg]at e;have f:zH 1 (cE (.int 1)) [.vl s,.un,.un]=.nx [.vl s,.vl _,.un]:=rfl;have d:ZR (Z9 (vE 0)) (zI 2) (sD c) [.vl s,.vl (.int 1),.un]=.nx [.vl s,.vl (.int ((lm (a.map λk=>k.all.length)):Int)),y]:=by
  show ((jP s).s λts=>Zr _ _ ts _)=_;rw[j];exact e
 show zw (GS c [.vl s,.un,.un])=_;rw[GS,zb f,zb d];rfl
theorem qX {d:Type}(g:d->Nat):∀l:List d,ZL (l.map λa=>T.int ((g a:Nat):Int))=some (l.map λa=>((g a:Nat):Int))
 |[]=>rfl
 |a::l=>by
  show (match ZL (l.map λa=>T.int _)with|some l=>some _|none=>none)=_
  rw[qX g l];rfl
theorem US {d:Type}(g:d->Nat):∀l:List d,(l.map λa=>((g a:Nat):Int)).sum=(((l.map g).sum:Nat):Int)
 |[]=>rfl
 |a::l=>by rw[aK,dg,aK,dg,US g l];lia
theorem Hr {d:Type}(g:d->Nat)(l:List d):XI (.lst (l.map λa=>T.int ((g a:Nat):Int)))=.ok (.int (((l.map g).sum:Nat):Int)):=by
 unfold XI;dsimp only;rw[qX,←US]
theorem J4 (k:Kd)(m:Nat):((av m k).map λk=>k.all.length)=av m k.all.length:=by rw[be]
theorem qY {c:List T->R T}{t:T}{n lo hi q:Nat}(r:lo+q<=4)(H:∀m,m<=3->c [.lst (av m t)]=.ok (.int ((n^m:Nat):Int))):
  zw (pW c (iW 2 [mt t lo hi,.int ((lo+q:Nat):Int)]))=.ok (.int ((lX n lo q:Nat):Int)):=by
 have p:Jn (zd fr (vE 0) (cE (.int 2))) (vE 1) [.vl (mt t lo hi),.vl (.int ((lo+q:Nat)))]=.ok (rng (lo) q):=by
  rw[U2 rfl rfl ⟨by lia,by lia,by lia,by lia⟩]
  congr 2;lia
 have l:zK _ _ (za 1 c (z9 (zd _ _ _) _)) 1 [0] [.vl _,.vl (.int ((lo+q:Nat)))] _=.ok ((rng (lo) q).map λx=>match x with|.int i=>T.int ((n^i.toNat:Nat))|y=>y):=
  Ze _ (by unfold rng;rw[ah,bi];have:iT=16777216:=rfl;lia) λx d=>by
   obtain⟨i,a,rfl⟩:=aF.mp d;have o:=bg.mp a;show za 1 c _ [.vl _,.vl _]=_;have f:zd Z7 (jb (z9 (zd fr (vE 1) (cE (.int 1))) (zj))) (vE 0) [.vl (.int ((lo)+(i))),.vl (mt t lo hi)]=.ok (.lst (av (lo+i) t)):=by
    have j:zd fr (vE 1) (cE (.int 1)) [.vl (.int ((lo)+(i))),.vl (mt t lo hi)]=.ok t:=rfl;rw[zu,rW j,af,v0,af,show (lo:Int)+(i)=((lo+i:Nat)) by lia,qG (by lia),Jx]
   rw[zG,f,af,H _ (by lia)]
   show _=R.ok (T.int _);rw[show ((lo:Int)+(i)).toNat=lo+i by lia]
 rw[pW,zq]
 ·rfl
 ·show gx _ _ [.vl _,.vl _]=_;rw[ZU,Z5,p,af,l,af,af];have k:((rng (lo) q).map λx=>match x with|.int i=>T.int ((n^i.toNat:Nat))|y=>y)=(b6 q).map λi=>T.int ((n^(lo+i):Nat)):=by
   unfold rng;rw[aS];refine ck λi _=>?_;show T.int _=_;rw[show ((lo:Int)+(i)).toNat=lo+i by lia]
  rw[k,Hr (λi=>n^(lo+i))];rfl
theorem xl {d n m:Nat}(h:n<=mx d)(hd:d<=2)(a:m<=3):n^m<2^60:=by
 have f:mx d<=70644:=by
  have:d=0\/d=1\/d=2:=by lia
  rcases this with rfl|rfl|rfl<;>decide
 have i:=aG (Nat.pow_le_pow_left (aG h f) m) (cV (by lia) a)
 lia
theorem UT:∀(d n:Nat),3*d<=n->d<=3->∀k:Kd,k.Ok d->mo n 0 [k.t]=.ok (.int (k.all.length:Int))
 |0,_,_,_,_,h=>h.elim
 |d+1,n+3,hn,hd,k,h=>by
  have y:=UT d n (by lia) (by lia)
  have f:=UT d (n+1) (by lia) (by lia)
  have e:mo (n+3) 0 [k.t]=zw (rO _ _ [.vl k.t]):=rfl;have v:∀s u,mo (n+2) 2 [s,u]=zw _:=λs u=>rfl;rw[e,rO];cases k with
  |whole lo hi=>
   obtain⟨j,i,a⟩:=h;rw[jT];simp only[Kd.t];rw[zE (t:=.int _)]
   ·rfl
   ·rw[j3 (by rw[lC,beq_self_eq_true]),zq]
    show R.ok _=_;congr 2;lia
  |pick G=>
   rw[Wg];simp only[Kd.t];rw[zb (zt (by rfl)),zE]
   ·rfl
   ·rw[j3 (by rw[lC,beq_self_eq_true]),zq]
    show R.ok _=_;rw[ah]
  |row p=>
   obtain⟨j,i,a⟩:=h;rw[Ja];simp only[Kd.t];rw[Kd.ts_map,zb (zt (by rfl)),zb (zt (by rfl)),zE]
   ·rfl
   ·rw[j3 (by rw[lC,beq_self_eq_true]),zq]
    have q:=jD (d+1) (.row p) ⟨j,i,a⟩;rw[Ja]at q;exact JW p rfl (λk o=>⟨f k (a k o),ZK d k (a k o)⟩) (CW q hd)
  |many k lo hi=>
   obtain⟨j,i,a⟩:=h;rw[jw];simp only[Kd.t];rw[zb (zt (by rfl)),zb (zt (by rfl)),zb (zt (by rfl)),zq]
   ·rfl
   ·show za 2 _ _ [.vl _]=_;rw[zW,v0,af,qE Ki,af,v,show (hi:Int)+1=((lo+(hi+1-lo):Nat)) by lia]
    refine qY (by lia) λm r=>?_
    have hp:lm ((av m k).map λk=>k.all.length)=k.all.length^m:=by rw[J4,jo]
    rw[←hp];refine JW _ (by rw[be];rfl) (λB l=>?_) (by rw[hp];exact xl (jD d k a) (by lia) r)
    rw[cj l];exact⟨y k a,ZK d k a⟩
theorem jv {d:Nat}(hd:d<=3){k:Kd}(h:k.Ok d):mF 20 [k.t]=.ok (.int (k.all.length:Int)):=UT d 20 (by lia) hd k h
theorem UU {d:Nat}(hd:d<=2){k:Kd}(h:k.Ok d){lo hi q:Nat}(i:lo+q<=4):nY 20 [mt k.t lo hi,.int ((lo+q:Nat):Int)]=.ok (.int ((lX k.all.length lo q:Nat):Int)):=by
 have e:nY 20 [mt k.t lo hi,.int ((lo+q:Nat))]=zw (pW (mo 19 1) (iW 2 [mt k.t lo hi,.int ((lo+q):Int)])):=rfl;rw[e];refine qY i λm f=>?_;have hp:lm ((av m k).map λk=>k.all.length)=k.all.length^m:=by rw[J4,jo]
 rw[←hp];refine JW _ (by rw[be];rfl) (λj a=>?_) (by rw[hp];exact xl (jD d k h) hd f)
 rw[cj a];exact⟨UT d 18 (by lia) (by lia) k h,ZK d k h⟩
abbrev rj (cc cw:List T->R T):En->RS:=zz (zH 5 (za 1 cc (z9 (vE 4) (zj))))
  (zz (Up 2 (za 2 cw (z9 (vE 4) (z9 (zd J7 (vE 3) (vE 5)) (zj)))))
  (zH 3 (zd wV (vE 3) (vE 5))))
structure pU (cc cw:List T->R T) (k:Kd):Prop where
 cnt:cc [k.t]=.ok (.int (k.all.length:Int))
 at_:∀(i:Nat) x,k.all[i]?=some x->cw [k.t,.int (i:Int)]=.ok x
 pos:1<=k.all.length
 le:k.all.length<1000000
theorem CO {t:T}{a b c d e:Sl}{ρ:En}:vE 5 (a::b::c::d::e::.vl t::ρ)=.ok t:=rfl
theorem xm {n c:Nat}(h:1<=c):J7 (.int (n:Int)) (.int (c:Int))=.ok (.int ((n%c:Nat):Int)):=by
 unfold J7;dsimp only;rw[if_pos (by lia)];rfl
theorem kx {n c:Nat}(h:1<=c)(h':c<1000000):wV (.int (n:Int)) (.int (c:Int))=.ok (.int ((n/c:Nat):Int)):=by
 unfold wV;dsimp only;rw[if_pos (by lia)];rfl
theorem Em {i:Nat}{f:En->R T}{ρ:En}{ts:List T}{t:T}(hi:ρ[i]?=some (.ow ts))(a:ts.length<iT)(h:f ρ=.ok t):Up i f ρ=.nx (ρ.set i (.ow (ts++[t]))):=by
 unfold Up;rw[hi];dsimp only;rw[h,ZF,if_pos a]
theorem qZ {f i:List T->R T}{S N:Sl}:∀(rs:List Kd) (acc:List T) (n:Nat) (x y:Sl),(∀k∈rs,pU f i k)->n<lm (rs.map λk=>k.all.length)->acc.length+rs.length<=1000->
  ∃xs r q o,(ZH [[]] (rs.reverse.map Kd.all))[n]?=some xs/\Zr (zI 4) (rj f i) (rs.map Kd.t) [S,N,.ow acc,.vl (.int (n:Int)),x,y]=.nx [S,N,.ow (acc++xs.reverse),r,q,o]
 |[],acc,n,x,y,_,hn,_=>⟨[],.vl (.int (n)),x,y,by
   have:=by simp[lm]at hn;exact hn
   subst this;rfl,by simp[Zr]⟩
 |k::rs,acc,n,x,y,H,hn,X=>by
  obtain⟨L,J,j,p⟩:=H k aj;rw[ac]at X;have Z:iT=16777216:=rfl;have a:n%k.all.length<k.all.length:=Nat.mod_lt _ j;obtain⟨v,u⟩:=UR a;have d:=Nat.div_lt_of_lt_mul hn;obtain⟨xs,r,q,o,G,Q⟩:=qZ rs (acc++[v]) _ _ _ (λB l=>H B (ai _ l)) d (by rw[ae,aL];lia)
  have I:zH 5 (za 1 f (z9 (vE 4) (zj))) [S,N,.ow acc,.vl (.int (n)),.vl k.t,y]=.nx [S,N,.ow acc,.vl (.int (n)),.vl k.t,.vl (.int (k.all.length))]:=by
   rw[zD]
   ·rfl
   ·rw[zG,v4,af,L]
  have b2:Up 2 (za 2 i (z9 (vE 4) (z9 (zd J7 (vE 3) (vE 5)) (zj)))) [S,N,.ow acc,.vl (.int (n)),.vl k.t,.vl (.int (k.all.length))]=.nx [S,N,.ow (acc++[v]),.vl (.int (n)),.vl k.t,.vl (.int (k.all.length))]:=by
   rw[Em rfl (by lia)]
   ·rfl
   ·rw[zW,v4,af,zu,v3,af,CO,af,xm j,af,J _ v u]
  have U:zH 3 (zd wV (vE 3) (vE 5)) [S,N,.ow (acc++[v]),.vl (.int (n)),.vl k.t,.vl (.int (k.all.length))]=.nx [S,N,.ow (acc++[v]),.vl (.int ((n/k.all.length:Nat))),.vl k.t,.vl (.int (k.all.length))]:=by
   rw[zD]
   ·rfl
   ·rw[zu,v3,af,CO,af,kx j p]
  have P:rj f i [S,N,.ow acc,.vl (.int (n)),.vl k.t,y]=.nx [S,N,.ow (acc++[v]),.vl (.int ((n/k.all.length:Nat))),.vl k.t,.vl (.int (k.all.length))]:=by
   rw[rj,zb I,zb b2,U]
  refine⟨xs++[v],r,q,o,?_,?_⟩
  ·have:=Vj G u;rw[d3,Nat.div_add_mod]at this;rw[cf,bF];exact this
  ·rw[aK,ZM rfl P,Q];simp
theorem Q0:∀ns:List Nat,lm ns.reverse=lm ns
 |[]=>rfl
 |n::ns=>by rw[cf,UQ,Q0 ns,lm,d3]
theorem JX {j p:List T->R T}{s:T}(d:List Kd)(U:W2 s=.ok (d.map Kd.t))(Z:d.length<=3)(H:∀k∈d,pU j p k){n:Nat}{xs:List T}(q:(ZH [[]] (d.map Kd.all))[n]?=some xs):
  zw (GV j p (iW 6 [s,.int (n:Int)]))=.ok (.tup xs):=by
 have hn:=(aH.mp q).1;rw[wL,aS]at hn;have hr:(d.reverse.map λk=>k.all.length)=(d.map λk=>k.all.length).reverse:=by rw[iq]
 obtain⟨X,r,L,G,u,J⟩:=qZ _ [] n .un .un (λk P=>H k (List.mem_reverse.mp P)) (by rw[hr,Q0];exact hn) (by rw[bT,ao];lia)
 rw[fH,q]at u;cases u;have v:Uo 2 (zj) [.vl s,.vl (.int (n)),.un,.un,.un,.un]=.nx [.vl s,.vl _,.ow [],.un,.un,.un]:=rfl;have Q:zH 3 (vE 1) [.vl s,.vl (.int (n)),.ow [],.un,.un,.un]=.nx [.vl s,.vl _,.ow [],.vl _,.un,.un]:=rfl;have y:ZR (AE (vE 0)) (zI 4) (rj j p) [.vl s,.vl (.int (n)),.ow [],.vl (.int (n)),.un,.un]=.nx [.vl s,.vl (.int (n)),.ow xs.reverse,r,L,G]:=by
  show (((W2 s).bind λxs=>R.ok _).s λts=>Zr _ _ ts _)=_;rw[U,af,←iq];exact J
 have i:xs.reverse.length<=iT:=by
  have:∀(ls made:List _) (m:Nat),(∀a∈made,a.length<=m)->∀a∈ZH made ls,a.length<=m+ls.length:=by
   intro ls
   induction ls with
   |nil=>intro made m h a f;exact h a f
   |cons l ls N=>
    intro made m h a f;have:=N (made.flatMap λa=>l.map λx=>a++[x]) (m+1) (λb o=>by
     obtain⟨c,I,o⟩:=d5.mp o;obtain⟨z,_,rfl⟩:=aF.mp o;have:=h c I;rw[ae,aL];lia) a f
    rw[ac];lia
  have B:=this _ _ 0 (λa f=>by rw[ax.mp f];exact au _) xs (cb q)
  rw[ah]at B;rw[bT];have o:iT=16777216:=rfl;lia
 show zw (GV j p [.vl s,.vl _,.un,.un,.un,.un])=_;rw[GV,zb v,zb Q,zb y,zq]
 ·rfl
 ·show vO (.lst _)=_;unfold vO;dsimp only;rw[if_pos i,fH]
abbrev nC:En->R Bool:=zB i4 (za 2 (nY 20) (z9 (vE 0) (z9 (zd zv (vE 2) (cE (.int 1))) (zj)))) (vB 1)
abbrev nS:En->RS:=zH 2 (zd zv (vE 2) (cE (.int 1)))
theorem EO {t:T}{a:Sl}{ρ:En}:vB 1 (a::.vl t::ρ)=.ok t:=rfl
theorem Q1 {d:Nat}(hd:d<=2){k:Kd}(h:k.Ok d){lo hi n:Nat}(v:lo<=hi)(y:hi<=3)(hn:n<lX k.all.length lo (hi+1-lo)):∀(f q:Nat),q<=hi-lo->hi-lo-q<f->lX k.all.length lo q<=n->
  ∃j,j<=hi-lo/\lX k.all.length lo j<=n/\n<lX k.all.length lo (j+1)/\ZX nC nS f [.vl (mt k.t lo hi),.vl (.int (n:Int)),.vl (.int ((lo+q:Nat):Int))]=.nx [.vl (mt k.t lo hi),.vl (.int (n:Int)),.vl (.int ((lo+j:Nat):Int))]
 |0,q,_,B,_=>by lia
 |f+1,q,u,B,G=>by
  have I:nC [.vl (mt k.t lo hi),.vl (.int (n)),.vl (.int ((lo+q:Nat)))]=.ok (decide (lX k.all.length lo (q+1)<=n)):=by
   rw[nC,zN,zW,v0,af,qE v2,af,show ((lo+q:Nat):Int)+1=((lo+(q+1):Nat)) by lia,UU hd h (by lia),af,EO,af,ug,wJ]
  have p:ZX nC nS (f+1) [.vl (mt k.t lo hi),.vl (.int (n)),.vl (.int ((lo+q:Nat)))]=(nC _).s λo=>if o=true then match nS [.vl _,.vl _,.vl (.int _)]with
    |.nx a=>ZX nC nS f a
    |.ct a=>ZX nC nS f a
    |.bk a=>.nx a
    |r=>r
   else .nx _:=rfl
  rw[p,I,ZF]
  by_cases i:lX k.all.length lo (q+1)<=n
  ·rw[if_pos (decide_eq_true i)];have l:q+1<=hi-lo:=by
    rcases Nat.lt_or_ge q _ with z|z
    ·exact z
    ·have:q=hi-lo:=by lia
     rw[this,show hi-lo+1=hi+1-lo by lia]at i
     lia
   have J:nS [.vl (mt k.t lo hi),.vl (.int (n)),.vl (.int ((lo+q:Nat)))]=.nx [.vl (mt k.t lo hi),.vl (.int (n)),.vl (.int ((lo+(q+1):Nat)))]:=by
    rw[nS,zD]
    ·rfl
    ·rw[qE v2,show ((lo+q:Nat):Int)+1=((lo+(q+1):Nat)) by lia]
   exact Q1 hd h v y hn f _ l (by lia) i
  ·rw[if_neg (by simpa using i)]
   exact⟨q,u,G,by lia,rfl⟩
theorem FU {i j:Nat}(h:j<=i):ZW (.int (i:Int)) (.int (j:Int))=.ok (.int ((i-j:Nat):Int)):=by
 rw[Zy];congr 2;lia
theorem yL {d:Nat}(hd:d<=2){k:Kd}(h:k.Ok d){cp:List T->R T}{lo hi n:Nat}(r:lo<=hi)(v:hi<=3)(hn:n<lX k.all.length lo (hi+1-lo))
  (H:∀(m:Nat),m<=3->∀(j:Nat) (xs:List T),(ZH [[]] (av m k.all))[j]?=some xs->cp [.lst (av m k.t),.int (j:Int)]=.ok (.tup xs)):
  ∃x,(Kd.many k lo hi).all[n]?=some x/\zw (GU (nY 20) cp (iW 3 [mt k.t lo hi,.int (n:Int)]))=.ok x:=by
 obtain⟨q,y,o,a,e⟩:=Q1 hd h r v hn 8 0 (by lia) (by lia) (by unfold lX;simp)
 rw[Vk]at a;have u:n-lX k.all.length lo q<(ZH [[]] (av (lo+q) k.all)).length:=by
  rw[wL,be,jo];lia
 obtain⟨xs,f⟩:=UR u;have i:=kv (hi:=hi) (by lia) f
 rw[show lX _ lo q+(n-lX _ lo q)=n by lia]at i
 refine⟨_,i,?_⟩;have p:zH 2 (zd fr (vE 0) (cE (.int 2))) [.vl (mt k.t lo hi),.vl (.int (n:Int)),.un]=.nx [.vl _,.vl _,.vl (.int ((lo+0:Nat)))]:=rfl;show zw (GU _ cp [.vl _,.vl _,.un])=_;rw[GU,zb p,zb e,zq]
 ·rfl
 ·show za 2 cp _ [.vl _,.vl _,.vl _]=_;have l:zd Z7 (jb (z9 (zd fr (vE 0) (cE (.int 1))) (zj))) (vE 2) [.vl (mt k.t lo hi),.vl (.int (n)),.vl (.int ((lo+q:Nat)))]=.ok (.lst (av (lo+q) k.t)):=by
   rw[zu,rW jY,af,v2,af,qG (by lia),Jx]
  rw[zW,l,af,zu,v1,af,zW,v0,af,v2,af,UU hd h (by lia),af,FU o,af,H _ (by lia) _ xs f]
theorem Q2 {d:Nat}(hd:d<=2){k:Kd}(h:k.Ok d):k.all.length<1000000:=by
 have f:=jD d k h;have a:mx d<=70644:=by
  have:d=0\/d=1\/d=2:=by lia
  rcases this with rfl|rfl|rfl<;>decide
 lia
theorem jH:∀(d n:Nat),3*d<=n->d<=3->∀k:Kd,k.Ok d->∀(i:Nat) (x:T),k.all[i]?=some x->mq n 0 [k.t,.int (i:Int)]=.ok x
 |0,_,_,_,_,h=>h.elim
 |d+1,n+3,hn,hd,k,h=>by
  intro i x a;have J:=jH d n (by lia) (by lia)
  have q:=jH d (n+1) (by lia) (by lia)
  have e:mq (n+3) 0 [k.t,.int (i:Int)]=zw (rg GT _ _ (lg k.t (.int (i:Int)))):=rfl;have l:=(aH.mp a).1;rw[e,rg];cases k with
  |whole lo hi=>
   rw[Kd.all,aA]at a;rw[jT]at l;rw[da l]at a;cases a;rw[zE]
   ·rfl
   ·rfl
  |pick I=>
   have v:=Vi I h.2.1;simp only[Kd.t]at v⊢;rw[zb (Kj (by decide)),zE]
   ·rfl
   ·rw[oE,zq];show zd fr _ _ (lg _ _)=_;rw[zu,zG,v0,af,v,v1];exact qV a
  |row L=>
   obtain⟨y,u,f⟩:=h;rw[Kd.all,Kd.alls_map,aA]at a;cases hr:(ZH _ _)[i]? with
   |none=>rw[hr]at a;cases a
   |some xs=>
    rw[hr]at a;cases a;simp only[Kd.t];rw[Kd.ts_map,zb (Kj (by decide)),zb (Kj (by decide)),zE]
    ·rfl
    ·rw[oE,zq];refine JX L rfl u (λk p=>⟨jv (by lia) (f k p),q k (f k p),ZK d k (f k p),Q2 (by lia) (f k p)⟩) hr
  |many k lo hi=>
   obtain⟨y,u,f⟩:=h;rw[jw]at l;obtain⟨P,o,G⟩:=yL (cp:=mq (n+1) 2) (by lia) f y u l (λm B j xs hr=>by
    refine JX _ (by rw[be];rfl) (by rw[aW];exact B) (λN r=>?_) (by rw[be];exact hr)
    rw[cj r];exact⟨jv (by lia) f,J k f,ZK d k f,Q2 (by lia) f⟩)
   rw[a]at o;cases o;simp only[Kd.t];rw[zb (Kj (by decide)),zb (Kj (by decide)),zb (Kj (by decide)),zq]
   ·rfl
   ·show za 2 _ _ (lg _ _)=_;rw[zW,v0,af,v1,af];exact G
theorem HJ {k:Kd}(h:k.Ok 3){i:Nat}{x:T}(a:k.all[i]?=some x):ox 20 [k.t,.int (i:Int)]=.ok x:=jH 3 20 (by lia) (by lia) k h i x a
noncomputable def Pl:Nat->T->Prop
 |0,_=>False
 |n+1,.tup xs=>∀x∈xs,Pl n x
 |n+1,.lst xs=>∀x∈xs,Pl n x
 |_+1,.fz _=>False
 |_+1,_=>True
theorem Jy {f:T->T->Option Bool}:∀(xs a:List T),(∀x∈xs,∀y,∃b,f x y=some b)->∃b,lT f xs a=some b
 |[],[],_=>⟨_,rfl⟩
 |[],_::_,_=>⟨_,rfl⟩
 |_::_,[],_=>⟨_,rfl⟩
 |x::xs,y::a,h=>by
  obtain⟨b,d⟩:=h x aj y;obtain⟨c,j⟩:=Jy xs a λz i=>h z (ai _ i);exact⟨b&&c,by unfold lT;rw[d,j]⟩
theorem Zu {f:T->T->Option Bool}:∀(xs:List T),(∀x∈xs,f x x=some true)->lT f xs xs=some true
 |[],_=>rfl
 |x::xs,h=>by
  unfold lT;rw[h x aj,Zu xs λz a=>h z (ai _ a)];rfl
theorem Jz:∀(n:Nat) (y x:T),Pl n y->∃b,iX n y x=some b
 |0,_,_,h=>h.elim
 |n+1,y,x,h=>by
  cases y with
  |tup xs=>
   cases x with
   |tup a=>exact Jy xs a λz d u=>Jz n z u (h z d)
   |_=>exact⟨false,by rw[iX]<;>intros<;>first|rfl|contradiction|(intro z)⟩
  |lst xs=>
   cases x with
   |lst a=>exact Jy xs a λz d u=>Jz n z u (h z d)
   |fz a=>exact Jy xs a λz d u=>Jz n z u (h z d)
   |_=>exact⟨false,by rw[iX]<;>intros<;>first|rfl|contradiction|(intro z)⟩
  |fz xs=>exact h.elim
  |non=>cases x<;>exact⟨_,rfl⟩
  |bl b=>cases x<;>exact⟨_,rfl⟩
  |int i=>cases x<;>exact⟨_,rfl⟩
  |str i=>cases x<;>exact⟨_,rfl⟩
theorem Za:∀(n:Nat) (y:T),Pl n y->iX n y y=some true
 |0,_,h=>h.elim
 |n+1,y,h=>by
  cases y with
  |tup xs=>exact Zu xs λz a=>Za n z ((h) z a)
  |lst xs=>exact Zu xs λz a=>Za n z ((h) z a)
  |fz xs=>exact h.elim
  |non=>rfl
  |bl b=>show some _=_;simp
  |int i=>show some _=_;simp
  |str i=>show some _=_;simp
theorem Pl.up:∀(n:Nat) (y:T),Pl n y->Pl (n+1) y
 |0,_,h=>h.elim
 |n+1,y,h=>by
  cases y with
  |tup xs=>exact λz a=>Pl.up n z ((h) z a)
  |lst xs=>exact λz a=>Pl.up n z ((h) z a)
  |fz xs=>exact h.elim
  |_=>exact trivial
theorem Pl.le {n m:Nat}{y:T}(a:n<=m)(h:Pl n y):Pl m y:=by
 obtain⟨j,rfl⟩:∃j,m=n+j:=⟨m-n,by lia⟩
 clear a
 induction j with
 |zero=>exact h
 |succ j d=>exact Pl.up _ _ d
theorem Q3 {t:T}(h:Pl 30 t):lj t t=.ok false:=by unfold lj;rw[Za 30 t h];rfl
theorem Vl {t:T}(h:Pl 30 t):iQ t t=.ok true:=by unfold iQ;rw[Za 30 t h]
theorem uu {f:T->Option Bool}:∀(ts:List T),(∀t∈ts,∃b,f t=some b)->∃b,WB f ts=some b/\(b=false->∀t∈ts,f t=some false)
 |[],_=>⟨false,rfl,λ_ _ h=>nomatch h⟩
 |t::ts,h=>by
  obtain⟨b,d⟩:=h t aj;obtain⟨c,i,h'⟩:=uu ts λu a=>h u (ai _ a);refine⟨b||c,by unfold WB;rw[d,i],λe u a=>?_⟩
  rw[dF]at e;rcases am.mp a with rfl|a
  ·rw[d,e.1]
  ·exact h' e.2 u a
theorem jI {f:En->R T}{ρ:En}{t:T}(h:f ρ=.ok t):JJ f ρ=.nx ρ:=by unfold JJ;rw[h,ZF]
theorem mh (k:Kd):((rng 0 k.all.length).map λt=>match t with|.int i=>(k.all[i.toNat]?).getD .non|y=>y)=k.all:=by
 unfold rng;rw[aS];refine eC λi=>?_;rw[aA]
 by_cases hi:i<k.all.length
 ·rw[da hi];show some ((k.all[((0:Int)+(i)).toNat]?).getD _)=_;rw[show ((0:Int)+(i)).toNat=i by lia]
  obtain⟨x,a⟩:=UR hi;rw[a];rfl
 ·rw[b9 (by simpa using hi),b9 (by lia)];rfl
theorem U4 {f:En->R T}{ρ:En}{j:Int}(a:f ρ=.ok (.int j))(h: -1000000<j/\j<1000000):Zs f ρ=.ok (rng 0 j.toNat):=by
 unfold Zs;rw[a];exact if_pos h
theorem Q4 {i j:Int}:lL (.int i) (.int j)=.ok (decide (j<i)):=rfl
abbrev tu (w t x:T)(a:T):En:=[.vl w,.vl t,.vl x,.vl .non,.vl a,.un]
theorem eq_lit {i j:Int}{t x a:T}(b:Bool)(h:(i==j)=b):zB iQ (vB 0) (cE (.int j)) (tu (.int i) t x a)=.ok b:=by
 show R.ok _=_;rw[h]
theorem set_ex {i:Nat}{f:En->R T}{ρ:En}{c:Nat}(h:f ρ=.ex c):zH i f ρ=.ex c:=by rw[Jj,h];rfl
theorem set4 {w t x v:T}{f:En->R T}(h:f (tu w t x .non)=.ok v):zH 4 f (tu w t x .non)=.nx (tu w t x v):=by rw[zD h];rfl
theorem ifE_t {g:En->R Bool}{f a:En->R T}{ρ:En}(h:g ρ=.ok true):lD g f a ρ=f ρ:=by unfold lD;rw[h];rfl
theorem ifE_f {g:En->R Bool}{f a:En->R T}{ρ:En}(h:g ρ=.ok false):lD g f a ρ=a ρ:=by unfold lD;rw[h];rfl
abbrev mH (ns:List Int)(k:Kd)(c d e f g h i:Sl):En:=[.vl (iZ ns),.vl k.t,.vl (.lst k.all),c,d,e,f,g,h,i]
theorem B4 {ns:List Int}{k:Kd}{c d e f g h i:Sl}:gx Zb (vB 2) (mH ns k c d e f g h i)=.ok (.int (k.all.length:Int)):=rfl
theorem nn_ii {i:Int}:lj (.int i) (.int i)=.ok false:=by show R.ok _=_;simp
theorem ns_ii {i:Str}:lj (.str i) (.str i)=.ok false:=by show R.ok _=_;simp
abbrev Dt:En->R T:=zd fr (jb (z9 (cE (.int 0)) (z9 (zd ZW (gx Zb (vB 2)) (cE (.int 1))) (z9 (za 3 lB (z9 (vE 0) (z9 (zd zv (cE (.int 4000)) (vE 4)) (z9 (gx Zb (vB 2)) (zj))))) (zj))))) (zd WY (vE 4) (cE (.int 2)))
theorem Br {f g h:En->R T}{ρ:En}{x y z:T}(d:f ρ=.ok x)(i:g ρ=.ok y)(a:h ρ=.ok z):jb (z9 f (z9 g (z9 h zj))) ρ=.ok (.lst [x,y,z]):=by
 unfold jb z9 zj;rw[d,i,a];rfl
theorem nm_ok (ns:List Int){k:Kd}(u:k.Ok 3)(j:Nat)(c e f g h i:Sl):∃n:Nat,n<k.all.length/\Dt (mH ns k c (.vl (.int (0+(j:Int)))) e f g h i)=.ok (.int (n:Int)):=by
 have d:=ZK 3 k u;obtain⟨q,p,y,B⟩:=zR ns (4000+(0+(j))) (k.all.length) (by lia) (by lia)
 have l:zd ZW (gx Zb (vB 2)) (cE (.int 1)) (mH ns k c (.vl (.int (0+(j)))) e f g h i)=.ok _:=rfl;have r:za 3 lB (z9 (vE 0) (z9 (zd zv (cE (.int 4000)) (vE 4)) (z9 (gx Zb (vB 2)) (zj)))) (mH ns k c (.vl (.int (0+(j)))) e f g h i)=.ok (.int q):=by
  rw[Zt,v0,af,zu,zY,af,v4,af,Z8,af,B4,af,p]
 have o:cE (.int 0) (mH ns k c (.vl (.int (0+(j)))) e f g h i)=.ok _:=rfl;have v:zd WY (vE 4) (cE (.int 2)) (mH ns k c (.vl (.int (0+(j)))) e f g h i)=.ok (.int ((min j 2:Nat))):=by
  rw[zu,v4,af,zY,af];unfold WY;dsimp only;congr 2
  by_cases G:j<=2
  ·lia
  ·lia
 rw[Dt,zu,Br o l r,v];have a:min j 2=0\/min j 2=1\/min j 2=2:=by lia
 rcases a with a|a|a
 ·exact⟨0,by lia,by rw[a];rfl⟩
 ·refine⟨k.all.length-1,by lia,?_⟩
  rw[a];show R.ok _=_;congr 2;lia
 ·refine⟨q.toNat,by lia,?_⟩
  rw[a];show R.ok _=_;congr 2;lia
theorem v2L {ns:List Int}{k:Kd}{c d e f g h i:Sl}:vE 2 (mH ns k c d e f g h i)=.ok (.lst k.all):=rfl
theorem v1L {ns:List Int}{k:Kd}{c d e f g h i:Sl}:vE 1 (mH ns k c d e f g h i)=.ok k.t:=rfl
theorem v5L {ns:List Int}{k:Kd}{c d f g h i:Sl}{t:T}:vE 5 (mH ns k c d (.vl t) f g h i)=.ok t:=rfl
theorem w5L {ns:List Int}{k:Kd}{c d f g h i:Sl}{t:T}:vB 5 (mH ns k c d (.vl t) f g h i)=.ok t:=rfl
inductive W:Nat->T->Prop where
 |int (d:Nat) (i:Int):W d (.int i)
 |str (d:Nat) (s:Str):W d (.str s)
 |tup {d:Nat} {xs:List T} (h:xs.length<=3) (r:∀x∈xs,W d x):W (d+1) (.tup xs)
theorem Cd:∀(d:Nat) (k:Kd) (x:T),k.Ok (d+1)->k.has x=true->W d x
 |d,.whole lo hi,x,_,h=>by
  cases x<;>first|exact .int _ _|(simp[Kd.has,o6]at h)
 |d,.pick v,x,_,h=>by
  cases x<;>first|exact .str _ _|(simp[Kd.has]at h)
 |0,.row l,x,a,h=>by
  obtain⟨i,q,a⟩:=a
  match l,i,a with
  |k::_,_,a=>exact(a k aj).elim
 |0,.many k lo hi,x,a,h=>a.2.2.elim
 |d+1,.row l,x,a,h=>by
  obtain⟨i,q,a⟩:=a;cases x with
  |tup xs=>
   rw[Kd.has]at h;simp only[ar,beq_iff_eq]at h;obtain⟨p,j⟩:=h;refine .tup (by lia) λx f=>?_
   obtain⟨k,r,o⟩:=UO l xs p j x f;exact Cd d k x (a k r) o
  |_=>simp[Kd.has]at h
 |d+1,.many k lo hi,x,a,h=>by
  obtain⟨i,q,a⟩:=a;cases x with
  |tup xs=>
   rw[Kd.has]at h;simp only[ar,decide_eq_true_eq,aU]at h;obtain⟨⟨p,u⟩,j⟩:=h;refine .tup (by lia) λx f=>?_
   exact Cd d k x a (j x f)
  |_=>simp[Kd.has]at h
mutual
noncomputable def lv:T->List T
 |.tup xs=>ma xs
 |.non=>[.non]
 |.bl b=>[.bl b]
 |.int b=>[.int b]
 |.str b=>[.str b]
 |.lst b=>[.lst b]
 |.fz b=>[.fz b]
noncomputable def ma:List T->List T
 |[]=>[]
 |x::xs=>lv x++ma xs
end
theorem Hg (xs:List T):lv (.tup xs)=ma xs:=by rw[lv]
theorem Wk (x:T)(xs:List T):ma (x::xs)=lv x++ma xs:=by rw[ma]
theorem Q5:ma []=[]:=by rw[ma]
theorem Q6 {n:Nat}:∀xs:List T,(∀x∈xs,(lv x).length<=n)->(ma xs).length<=xs.length*n
 |[],_=>by exact bj _
 |x::xs,h=>by
  rw[Wk,ae,ac,f6];have d:=h x aj;have a:=Q6 xs λy hy=>h y (ai _ hy);lia
theorem oX (d:Nat):1<=3^d:=Nat.one_le_pow _ _ (by lia)
theorem Q7 {d:Nat}{x:T}(h:W d x):(lv x).length<=3^d:=by
 induction h with
 |int d i=>exact oX d
 |str d i=>exact oX d
 |@tup d xs h r a=>
  rw[Hg];have:=Q6 xs a;have f:=dG (3^d) h;lia
inductive Lf:T->Prop where
 |int (i:Int):Lf (.int i)
 |str (i:Str):Lf (.str i)
theorem xn:∀(xs:List T),(∀x∈xs,∀y∈lv x,Lf y)->∀y∈ma xs,Lf y
 |[],_,y,hy=>by cases hy
 |x::xs,h,y,hy=>by
  rcases aT.mp hy with hy|hy
  ·exact h x aj y hy
  ·exact xn xs (λz a=>h z (ai _ a)) y hy
theorem Fc {d:Nat}{x:T}(h:W d x):∀y∈lv x,Lf y:=by
 induction h with
 |int d i=>intro y hy;rw[ax.mp hy];exact .int _
 |str d i=>intro y hy;rw[ax.mp hy];exact .str _
 |@tup d xs h r a=>intro y hy;exact xn xs a y hy
theorem EM {i:Nat}{f:En->R T}{ρ:En}{ts us:List T}(hi:ρ[i]?=some (.ow ts))(h:f ρ=.ok (.lst us))(a:ts.length+us.length<=iT):QR i f ρ=.nx (ρ.set i (.ow (ts++us))):=by
 unfold QR;rw[hi];dsimp only;rw[h,ZF];dsimp only;rw[if_pos a]
abbrev Cs (c:List T->R T):En->RS:=QR 1 (za 1 c (z9 (vE 2) (zj)))
theorem Q8 {c:List T->R T}{n:Nat}(hn:n<=1000){a:Sl}:∀(xs:List T) (acc:List T) (x:Sl),(∀x∈xs,c [x]=.ok (.lst (lv x))/\(lv x).length<=n)->acc.length+xs.length*n<=1000000->
  ∃d,Zr (zI 2) (Cs c) xs [a,.ow acc,x]=.nx [a,.ow (acc++ma xs),d]
 |[],acc,x,_,_=>⟨x,by rw[Q5,aY];rfl⟩
 |y::xs,acc,x,H,i=>by
  obtain⟨e,l⟩:=H y aj;rw[ac,f6]at i;have k:iT=16777216:=rfl;obtain⟨d,h⟩:=Q8 hn xs (acc++lv y) _ (λz j=>H z (ai _ j)) (by rw[ae];lia)
  refine⟨d,?_⟩;have f:zI 2 y [a,.ow acc,x]=.ok _:=rfl;have b2:Cs c [a,.ow acc,.vl y]=.nx [a,.ow (acc++lv y),.vl y]:=by
   have z:za 1 c (z9 (vE 2) (zj)) [a,.ow acc,.vl y]=.ok (.lst (lv y)):=by rw[zG,v2,af,e]
   exact EM rfl z (by lia)
  rw[ZM f b2,h,Wk,aQ]
theorem xo {x:T}{r:En}:JI (ZQ (gx (wX "tuple") (vB 0))) (.vl x::r)=.ok (!(match x with|.tup _=>true|_=>false)):=by
 all_goals (cases x<;>rfl)
theorem JY:∀(n d:Nat),d<n->d<=3->∀x:T,W d x->oK n 0 [x]=.ok (.lst (lv x))
 |0,d,h,_,_,_=>absurd h (dI _)
 |n+1,d,h,p,x,a=>by
  show zw (tI _ [.vl x,.un,.un])=_;rw[tI];cases a with
  |int d i=>
   rfl
  |str d i=>
   rfl
  |@tup d xs o r=>
   have hp:3^d<=27:=cV (by lia) (show d<=3 by lia)
   obtain⟨l,j⟩:=Q8 (by lia) xs [] .un (λy hy=>⟨JY n d (by lia) (by lia) y (r y hy),Q7 (r y hy)⟩) (by have:=bY o hp;simp;lia)
   have f:Uo 1 zj [.vl (.tup xs),.un,.un]=.nx [.vl _,.ow [],.un]:=rfl;have k:ZR (Z9 (vE 0)) (zI 2) (Cs (oK n 0)) [.vl (.tup xs),.ow [],.un]=.nx [.vl (.tup xs),.ow ([]++ma xs),l]:=by
    exact j
   rw[zb (zt xo),zb f,zb k,bL];rfl
abbrev CD (c:List T->R T):En->RS:=zH 1 (zd zv (vE 1) (za 1 c (z9 (vE 2) (zj))))
theorem xp {xs a:List T}(h:xs.length+a.length<=1000000):zv (.lst xs) (.lst a)=.ok (.lst (xs++a)):=by
 unfold zv;dsimp only;rw[if_pos (by have d:iT=16777216:=rfl;lia)]
theorem Q9 {c:List T->R T}{n:Nat}(hn:n<=1000){a:Sl}:∀(xs:List T) (acc:List T) (x:Sl),(∀x∈xs,c [x]=.ok (.lst (lv x))/\(lv x).length<=n)->acc.length+xs.length*n<=1000000->
  ∃d,Zr (zI 2) (CD c) xs [a,.vl (.lst acc),x]=.nx [a,.vl (.lst (acc++ma xs)),d]
 |[],acc,x,_,_=>⟨x,by rw[Q5,aY];rfl⟩
 |y::xs,acc,x,H,i=>by
  obtain⟨e,k⟩:=H y aj;rw[ac,f6]at i;obtain⟨d,h⟩:=Q9 hn xs (acc++lv y) _ (λz j=>H z (ai _ j)) (by rw[ae];lia)
  refine⟨d,?_⟩;have f:zI 2 y [a,.vl (.lst acc),x]=.ok _:=rfl;have b2:CD c [a,.vl (.lst acc),.vl y]=.nx [a,.vl (.lst (acc++lv y)),.vl y]:=by
   have z:zd zv (vE 1) (za 1 c (z9 (vE 2) (zj))) [a,.vl (.lst acc),.vl y]=.ok (.lst (acc++lv y)):=by rw[zu,v1,af,zG,v2,af,e,af,xp (by lia)]
   exact zD z
  rw[ZM f b2,h,Wk,aQ]
theorem UV:∀(n d:Nat),d<n->d<=3->∀x:T,W d x->oB n 0 [x]=.ok (.lst (lv x))
 |0,d,h,_,_,_=>absurd h (dI _)
 |n+1,d,h,p,x,a=>by
  show zw (r9 _ [.vl x,.un,.un])=_;rw[r9];cases a with
  |int d i=>
   rfl
  |str d i=>
   rfl
  |@tup d xs o r=>
   have hp:3^d<=27:=cV (by lia) (show d<=3 by lia)
   obtain⟨l,j⟩:=Q9 (by lia) xs [] .un (λy hy=>⟨UV n d (by lia) (by lia) y (r y hy),Q7 (r y hy)⟩) (by have:=bY o hp;simp;lia)
   have f:zH 1 (jb zj) [.vl (.tup xs),.un,.un]=.nx [.vl _,.vl _,.un]:=rfl;have k:ZR (Z9 (vE 0)) (zI 2) (CD (oB n 0)) [.vl (.tup xs),.vl (.lst []),.un]=.nx [.vl (.tup xs),.vl (.lst ([]++ma xs)),l]:=by
    exact j
   rw[zb (zt xo),zb f,zb k,bL];rfl
theorem ZI {ft:En->R Bool}{p:T->Bool}{k:Nat}{js:List Nat}{ρ:En}{fe:En->R T}(ts:List T)(d:ts.length<=iT)(H:∀t∈ts,ft ((WC k js ρ).set 0 (.vl t))=.ok (p t)/\fe ((WC k js ρ).set 0 (.vl t))=.ok t):zK (zI 0) ft fe k js ρ ts=.ok (ts.filter p):=by
 unfold zK;rw[if_pos d,jk (h:=id) ts _ λt a=>⟨(H t a).1,λ_=>(H t a).2⟩,List.map_id];rfl
noncomputable def ZV:List T->List Int
 |[]=>[]
 |.int i::r=>i::ZV r
 |.non::r=>ZV r
 |.bl _::r=>ZV r
 |.str _::r=>ZV r
 |.tup _::r=>ZV r
 |.lst _::r=>ZV r
 |.fz _::r=>ZV r
theorem JZ:∀ts:List T,ts.filter BS=(ZV ts).map T.int
 |[]=>rfl
 |t::ts=>by
  have a:=JZ ts;rw[ir,a];cases t<;>rfl
theorem U5:∀a:List Int,ZL (a.map T.int)=some a
 |[]=>rfl
 |i::a=>by
  have e:ZL ((i::a).map T.int)=match ZL _ with|some l=>some _|none=>none:=rfl
  rw[e,U5 a]
theorem Wl:∀ts:List T,(ZV ts).length<=ts.length
 |[]=>au _
 |t::ts=>by
  have a:=Wl ts;cases t<;>simp only[ZV,ac]<;>lia
theorem w9 {d:Nat}{x:T}(hd:d<=2)(h:W d x):(lv x).length<=9:=aG (Q7 h) (cV (by lia) hd)
theorem yM {d:Nat}(hd:d<=2){x:T}(h:W d x):sh [x]=.ok (.lst ((ZV (lv x)).map T.int)):=by
 show zw _=_;have j:=w9 hd h;have f:zK _ (ZQ (za 1 ni (z9 (vE 0) _))) (vE 0) 1 [] [.vl x] (lv x)=.ok _:=
  ZI _ (by have i:iT=16777216:=rfl;lia) λt _=>⟨by
   show ZQ _ [.vl t]=_;rw[ZJ,zG,v0,af,UE,af,Ji],rfl⟩
 rw[A4,zq]
 ·rfl
 ·show zL _ _ _ _ _ _ [.vl x]=_;have a:oy 8 [x]=.ok _:=JY 8 d (by lia) (by lia) x h
  rw[Z5,jm,zG,v0,af,a];show ((zK _ _ _ _ _ _ _).bind _)=_;rw[f,af,JZ]
noncomputable def mC (a:List Int):Bool:=(a.zip (a.drop 1)).all λq=>decide (q.1<=q.2)
theorem Qa:∀(a:List (Int×Int)) (x y:Sl),zQ (zV 0 1) Z1 (ZD i4 (vB 0) (vB 1)) (a.map λq=>T.tup [.int q.1,.int q.2]) [x,y]=.ok (a.map λq=>T.bl (decide (q.1<=q.2)))
 |[],_,_=>rfl
 |q::a,x,y=>by
  have f:=Qa a (.vl (.int q.1)) (.vl (.int q.2));have d:zQ (zV 0 1) Z1 (ZD i4 (vB 0) (vB 1)) ((q::a).map λq=>T.tup [.int q.1,.int q.2]) [x,y]=
   (R.ok (T.bl _)).bind λv=>(zQ _ _ _ (a.map λq=>T.tup [.int q.1,.int q.2]) [.vl _,.vl _]).bind λvs=>.ok _:=rfl
  rw[d,af,f,af,aK]
theorem Wm (xs:List T):ml xs (some ((1:Nat):Int)) none=xs.drop 1:=by
 unfold ml;rw[HT.sIx_nat,HT.sIx_none]
 by_cases h:1<=xs.length
 ·rw[iI h,bK (by rw[eO];lia)]
 ·have:xs=[]:=bH.mp (by lia)
  subst this;rfl
theorem Qb (a:List Int)(j:a.length<=100):BG [.lst (a.map T.int)]=.ok (.bl (mC a)):=by
 show zw _=_;have d:Ac (vE 0) (lR (vE 0) (zT (cE (.int 1))) (lE)) [.vl (.lst (a.map T.int))]=.ok ((a.zip (a.drop 1)).map λq=>T.tup [.int q.1,.int q.2]):=by
  show R.ok (VR _ (ml _ (some ((1:Nat))) _))=_;rw[Wm,←List.map_drop];unfold VR;rw[List.zip_map,aS];rfl
 have f:zK (zV 0 1) Z1 (ZD i4 (vB 0) (vB 1)) 2 [] [.vl (.lst (a.map T.int))] ((a.zip (a.drop 1)).map λq=>T.tup [.int q.1,.int q.2])=.ok ((a.zip (a.drop 1)).map λq=>T.bl (decide (q.1<=q.2))):=by
  unfold zK;rw[if_pos (by rw[ah,List.length_zip];have i:iT=16777216:=rfl;lia)]
  show quiet (zQ _ _ _ _ [.un,.un])=_;rw[Qa];rfl
 rw[Bx,zq]
 ·rfl
 ·show gx _ _ [.vl _]=_;rw[ZU,Z5,d,af,f,af];show (match uH _ with|some k=>R.ok _|none=>.bad)=_
  rw[UM (λq=>decide _)];rfl
theorem ZA (x y:Int)(r:List Int):mC (x::y::r)=(decide (x<=y)&&mC (y::r)):=by
 unfold mC;rw[fL,cy,List.zip_cons_cons,df,fL,cy]
theorem Qc (x:Int):∀l:List Int,mC l=true->mC (Ux x l)=true/\∀y,(∀z∈l,y<=z)->y<=x->∀z∈Ux x l,y<=z
 |[],_=>⟨rfl,λy _ h z d=>by rw[ax.mp d];exact h⟩
 |[a],_=>by
  rw[Ux];split
  ·rename_i h;exact⟨by rw[ZA,decide_eq_true h];rfl,λy i j z d=>by
    rcases am.mp d with rfl|d
    ·exact j
    ·exact i z d⟩
  ·rw[Ux];exact⟨by rw[ZA,decide_eq_true (by lia)];rfl,λy i j z d=>by
    rcases am.mp d with rfl|d
    ·exact i _ aj
    ·rw[ax.mp d];exact j⟩
 |a::b::r,h=>by
  rw[ZA,ar,decide_eq_true_eq]at h;obtain⟨f,o⟩:=Qc x _ h.2;rw[Ux];split
  ·rename_i p;exact⟨by rw[ZA,decide_eq_true p,ZA,decide_eq_true h.1,h.2];rfl,λy i j z d=>by
    rcases am.mp d with rfl|d
    ·exact j
    ·exact i z d⟩
  ·refine⟨?_,λy i j z d=>by
    rcases am.mp d with rfl|d
    ·exact i _ aj
    ·exact o y (λw q=>i w (ai _ q)) j z d⟩
   rw[Ux]at f⊢;split
   ·rename_i k;rw[if_pos k]at f;rw[ZA,decide_eq_true (by lia),f];rfl
   ·rename_i k;rw[if_neg k]at f;rw[ZA,decide_eq_true h.1,f];rfl
theorem Qd:∀l:List Int,mC (YZ l)=true
 |[]=>rfl
 |x::l=>by rw[YZ];exact(Qc x _ (Qd l)).1
theorem Qe:∀l:List Int,mC l=true->YZ l=l
 |[],_=>rfl
 |[x],_=>rfl
 |x::y::r,h=>by
  rw[ZA,ar,decide_eq_true_eq]at h;rw[YZ,Qe _ h.2,Ux,if_pos h.1]
theorem UW {n:Nat}:∀xs a:List Int,∃b,lT (iX n) (xs.map T.int) (a.map T.int)=some b/\(b=true↔xs=a)
 |[],[]=>⟨true,rfl,by simp⟩
 |[],y::a=>⟨false,rfl,by simp⟩
 |x::xs,[]=>⟨false,rfl,by simp⟩
 |x::xs,y::a=>by
  obtain⟨b,e,h⟩:=UW xs a;have f:lT _ ((x::xs).map T.int) ((y::a).map T.int)=match iX n _ _ with
   |none=>none
   |some b=>match lT _ _ _ with
    |none=>none
    |some c=>some _:=rfl
  have d:iX n (.int x) (.int y)=some (x==y):=by cases n<;>rfl
  refine⟨(x==y)&&b,by rw[f,d,e],?_⟩
  rw[ar,beq_iff_eq,h,List.cons.injEq]
theorem Qf (a:List Int):iQ (.lst (a.map T.int)) (.lst ((YZ a).map T.int))=.ok (mC a):=by
 obtain⟨b,e,h⟩:=UW a _;have f:iX 30 (.lst _) (.lst _)=some b:=e;unfold iQ;rw[f];show R.ok b=_;congr 1
 cases d:b with
 |true=>
  have:=h.mp d;rw[this];exact(Qd a).symm
 |false=>
  cases i:mC a with
  |false=>rfl
  |true=>rw[d]at h;exact absurd (h.mpr (Qe a i).symm) ay
theorem qk (a:List Int)(d:a.length<=60):vP (.lst (a.map T.int))=.ok (.lst ((YZ a).map T.int)):=by
 unfold vP;dsimp only;rw[U5];dsimp only;rw[if_pos (by rw[ah];lia)]
theorem DY (a:List Int):XI (.lst (a.map T.int))=.ok (.int a.sum):=by
 unfold XI;dsimp only;rw[U5]
def inB (xs:List T)(x:T):Bool:=(WB (λy=>iX 30 y x) xs).getD false
theorem Ic {xs:List T}(x:T)(h:∀y∈xs,Pl 30 y):WB (λy=>iX 30 y x) xs=some (inB xs x):=by
 obtain⟨b,e,_⟩:=uu xs λt a=>Jz 30 t x (h t a);unfold inB;rw[e];rfl
theorem W.pl {d:Nat}{x:T}(h:W d x):Pl (d+1) x:=by
 induction h with
 |int d i=>exact trivial
 |str d i=>exact trivial
 |@tup d xs h r a=>exact a
theorem W.pl30 {d:Nat}{x:T}(h:W d x)(hd:d<=2):Pl 30 x:=h.pl.le (by lia)
noncomputable def Zg:T->List T
 |.tup xs=>xs
 |.non=>[.non]
 |.bl b=>[.bl b]
 |.int b=>[.int b]
 |.str b=>[.str b]
 |.lst b=>[.lst b]
 |.fz b=>[.fz b]
theorem ky {d:Nat}{x:T}(h:W d x):rH [x]=.ok (.tup (Zg x)):=by cases h<;>rfl
theorem uv {d:Nat}{x:T}(h:W d x):(Zg x).length<=3:=by
 cases h with
 |int=>exact(by decide:1<=3)
 |str=>exact(by decide:1<=3)
 |tup h _=>exact h
theorem UX {d:Nat}{x:T}(h:W d x)(hd:d<=2):∀y∈Zg x,Pl 30 y:=by
 cases h with
 |int=>intro y hy;rw[ax.mp hy];exact trivial
 |str=>intro y hy;rw[ax.mp hy];exact trivial
 |@tup d xs h r=>intro y hy;exact(r y hy).pl30 (by lia)
def un (a:List T):Bool:= !(a.zipIdx.any λp=>inB (a.take p.2) p.1)
theorem uw {xs:List T}{k:Nat}:rZ (.tup xs) none (some (k:Int))=.ok (.tup (xs.take k)):=by
 show R.ok _=_;have:ml xs none (some (k))=xs.take k:=by
  unfold ml;rw[HT.sIx_none,HT.sIx_nat];simp only[cy,i5];rw[List.take_eq_take_iff];lia
 rw[this]
theorem Qg {a:List T}(h:∀y∈a,Pl 30 y)(k:Nat)(x:T):lF x (.tup (a.take k))=.ok (inB (a.take k) x):=by
 show (match WB (λy=>iX 30 y x) _ with|some b=>R.ok b|none=>.bad)=_
 rw[Ic x λy hy=>h y (List.mem_of_mem_take hy)]
abbrev mZ:En->R T:=ZD lF (vB 1) (lR (vE 2) (lE) (zT (vE 0)))
theorem Qh {a:List T}(h:∀y∈a,Pl 30 y):∀(d:List (T×Nat)) (x y:Sl),zQ (zV 0 1) Z1 mZ (d.map λp=>T.tup [.int (p.2:Nat),p.1]) [x,y,.vl (.tup a)]=.ok (d.map λp=>T.bl (inB (a.take p.2) p.1))
 |[],_,_=>rfl
 |q::d,x,y=>by
  have i:=Qh h d (.vl (.int (q.2))) (.vl q.1);have e:mZ [.vl (.int (q.2)),.vl q.1,.vl (.tup a)]=.ok (.bl (inB (a.take q.2) q.1)):=by
   have j:lR (vE 2) lE (zT (vE 0)) [.vl (.int (q.2)),.vl q.1,.vl (.tup a)]=rZ (.tup a) _ _:=rfl;unfold mZ;rw[Zq,w1,af,j,uw,af,Qg h,af]
  have f:zQ (zV 0 1) Z1 mZ ((q::d).map λp=>T.tup [.int (p.2),p.1]) [x,y,.vl (.tup a)]=
   (mZ [.vl _,.vl q.1,.vl _]).bind λv=>(zQ _ _ mZ (d.map λp=>T.tup _) [.vl _,.vl q.1,.vl _]).bind λvs=>.ok _:=rfl
  rw[f,e,af,i,af,aK]
theorem ux {d:Type}(p:d->Bool):∀a:List d,wn (a.map λq=>T.bl (p q))=some (a.any p)
 |[]=>rfl
 |q::a=>by
  have e:wn ((q::a).map λq=>T.bl (p q))=match wn (a.map λq=>T.bl _)with|some j=>some _|none=>none:=rfl
  rw[e,ux p a];rfl
theorem Qi {a:List T}(h:∀y∈a,Pl 30 y)(l:a.length<=100):AG [.tup a]=.ok (.bl (un a)):=by
 show zw _=_;have i:zK (zV 0 1) Z1 mZ 2 [0] [.vl (.tup a)] (ZY a)=.ok (a.zipIdx.map λp=>T.bl (inB (a.take p.2) p.1)):=by
  unfold zK;rw[if_pos (by unfold ZY;rw[ah,fT];have j:iT=16777216:=rfl;lia)]
  show quiet (zQ _ _ _ _ [.un,.un,.vl _])=_;unfold ZY;rw[Qh h];rfl
 rw[BL,zq]
 ·rfl
 ·have d:zL (Uz (vE 0)) (zV 0 1) Z1 mZ 2 [0] [.vl (.tup a)]=.ok (.lst (a.zipIdx.map λp=>T.bl (inB (a.take p.2) p.1))):=by
   show ((R.ok _).bind _)=_;rw[af,i,af]
  have f:gx BK (zL (Uz (vE 0)) (zV 0 1) Z1 mZ 2 [0]) [.vl (.tup a)]=.ok (.bl (a.zipIdx.any λp=>inB (a.take p.2) p.1)):=by
   rw[ZU,d];show (match wn _ with|some k=>R.ok _|none=>.bad)=_
   rw[ux (λp:T×Nat=>inB _ p.1)]
  show QO _ [.vl _]=_;unfold QO;rw[f];rfl
theorem Vm {d:List T}(h:∀y∈d,Pl 30 y)(I:d.length<=100){a b c:Sl}{ρ:En}:∃r,zK (zI 0) (zB lF (zd fr (vE 1) (vE 0)) (lR (vE 1) (lE) (zT (vE 0)))) (vE 0) 1 [3] (a::b::c::.vl (.tup d)::ρ) (rng 0 d.length)=.ok r/\r.isEmpty=un d:=by
 let p:T->Bool:=λt=>match t with
  |.int i=>match d[i.toNat]? with|some w=>inB (d.take i.toNat) w|none=>false
  |_=>false
 refine⟨(rng 0 _).filter p,ZI _ (by unfold rng;rw[ah,bi];have G:iT=16777216:=rfl;lia) λt o=>?_,?_⟩
 ·obtain⟨k,j,rfl⟩:=aF.mp o;have f:=bg.mp j;refine⟨?_,rfl⟩;show zB lF _ _ [.vl _,.vl _]=_;rw[show (0:Int)+(k)=(k) by lia]
  have u:fr (.tup d) (.int k)=.ok d[k]:=by
   show ly d k=_;unfold ly;rw[jh (aw f)]
  have v:lR (vE 1) lE (zT (vE 0)) [.vl (.int (k)),.vl (.tup d)]=rZ (.tup d) _ _:=rfl;rw[zN,zu,v1,af,v0,af,u,af,v,uw,af,Qg h];show _=R.ok (match d[((k:Int)).toNat]? with|some w=>inB _ w|none=>false)
  rw[bA,aw f]
 ·rw[fk,List.isEmpty_iff,List.filter_eq_nil_iff];unfold un;rw[Bool.not_eq_true',fV];constructor
  ·intro H q B;obtain⟨x,k⟩:=q;have j:=List.mem_zipIdx' B;have:=H _ (by exact aF.mpr ⟨k,bg.mpr j.1,rfl⟩)
   intro l;apply this
   show (match d[((0:Int)+(k)).toNat]? with|some w=>inB _ w|none=>false)=true
   rw[show ((0:Int)+(k)).toNat=k by lia,aw j.1,←j.2]
   exact l
  ·intro H t o l;obtain⟨k,j,rfl⟩:=aF.mp o;have f:=bg.mp j;have l:(match d[((0:Int)+(k)).toNat]? with|some w=>inB _ w|none=>false)=true:=l
   rw[show ((0:Int)+(k)).toNat=k by lia,aw f]at l
   exact H _ (List.mk_mem_zipIdx_iff_getElem?.mpr (aw f)) l
noncomputable def v6 (w:Str):T->Bool
 |.str x=>x==w
 |_=>false
theorem Ds (w:Str)(n:Nat):∀t:T,iX n t (.str w)=some (v6 w t)
 |.str x=>by cases n<;>rfl
 |.non=>by cases n<;>rfl
 |.bl _=>by cases n<;>rfl
 |.int _=>by cases n<;>rfl
 |.tup _=>by cases n<;>rfl
 |.lst _=>by cases n<;>rfl
 |.fz _=>by cases n<;>rfl
theorem Qj (w:Str):∀ts:List T,WB (λy=>iX 30 y (.str w)) ts=some (ts.any (v6 w))
 |[]=>rfl
 |t::ts=>by
  have e:WB (λy=>iX 30 y (.str w)) (t::ts)=match iX 30 t _ with
   |none=>none
   |some b=>match WB (λy=>iX 30 y _) ts with
    |none=>none
    |some d=>some _:=rfl
  rw[e,Ds,Qj w ts];rfl
theorem kz (w:Str)(ts:List T):(ts.filter (v6 w)).isEmpty= !(ts.any (v6 w)):=by
 induction ts with
 |nil=>rfl
 |cons t ts a=>
  rw[ir,fM];cases v6 w t with
  |true=>rfl
  |false=>rw[if_neg ay,a,Bool.false_or]
inductive Ru where
 |sum (a b:Int)|size (a b:Int)|word (w:Str)|rising|unlike|no (r:Ru)|all (r s:Ru)|some (r s:Ru)
def Ru.t:Ru->T
 |.sum a b=>.tup [.str "sum",.int a,.int b]
 |.size a b=>.tup [.str "size",.int a,.int b]
 |.word w=>.tup [.str "word",.str w]
 |.rising=>.tup [.str "rising"]
 |.unlike=>.tup [.str "unlike"]
 |.no r=>.tup [.str "no",r.t]
 |.all r s=>.tup [.str "all",r.t,s.t]
 |.some r s=>.tup [.str "some",r.t,s.t]
inductive Zk:Nat->Ru->Prop where
 |sum {d:Nat} {a b:Int} (ha: -50<=a/\a<=50) (hb: -50<=b/\b<=50):Zk (d+1) (.sum a b)
 |size {d:Nat} {a b:Int} (ha: -50<=a/\a<=50) (hb: -50<=b/\b<=50):Zk (d+1) (.size a b)
 |word {d:Nat} {w:Str} (h:Zf (.str w)=true):Zk (d+1) (.word w)
 |rising {d:Nat}:Zk (d+1) .rising
 |unlike {d:Nat}:Zk (d+1) .unlike
 |no {d:Nat} {r:Ru} (h:Zk d r):Zk (d+1) (.no r)
 |all {d:Nat} {r s:Ru} (h:Zk d r) (h':Zk d s):Zk (d+1) (.all r s)
 |some {d:Nat} {r s:Ru} (h:Zk d r) (h':Zk d s):Zk (d+1) (.some r s)
theorem Zk.up {d:Nat}{r:Ru}(h:Zk d r):Zk (d+1) r:=by
 induction h with
 |sum j i=>exact .sum j i
 |size j i=>exact .size j i
 |word h=>exact .word h
 |rising=>exact .rising
 |unlike=>exact .unlike
 |no h f=>exact .no f
 |all h h' f a=>exact .all f a
 |some h h' f a=>exact .some f a
def kp:Ru->T->Bool
 |.sum a b,x=>decide (a<=(ZV (lv x)).sum)&&decide ((ZV (lv x)).sum<=b)
 |.size a b,x=>decide (a<=((Zg x).length:Int))&&decide (((Zg x).length:Int)<=b)
 |.word w,x=>(lv x).any (v6 w)
 |.rising,x=>mC (ZV (lv x))
 |.unlike,x=>un (Zg x)
 |.no r,x=> !kp r x
 |.all r s,x=>kp r x&&kp s x
 |.some r s,x=>kp r x||kp s x
theorem JA {i:Int}(h: -50<=i/\i<=50):rN [.int i]=.ok (.bl true):=by
 show zw _=_;rw[Cu,zq]
 ·rfl
 ·show jy _ _ [.vl _]=_;rw[wF,zG,v0,af,V8,xh,zY,af];rw[af,w0,af,ug,decide_eq_true h.1,af,af,ug,decide_eq_true h.2];rfl
theorem ZE {x w:Str}{r:List T}{ρ:En}(b:Bool)(h:(x==w)=b):zB iQ (zd fr (vE 0) (cE (.int 0))) (cE (.str w)) (.vl (.tup (.str x::r))::ρ)=.ok b:=by rw[lC,h]
theorem yV {f g:En->R Bool}{ρ:En}{b:Bool}(h:f ρ=.ok false)(h':g ρ=.ok b):lH f g ρ=.ok b:=by rw[Wd,h,af,if_neg ay,h']
theorem Cj {f g:En->R Bool}{ρ:En}(h:f ρ=.ok true):lH f g ρ=.ok true:=by rw[Wd,h,af,if_pos rfl]
theorem wq {f g:En->R T}{ρ:En}{r:R T}(h:f ρ=.ok (.bl true))(h':g ρ=r):jy f g ρ=r:=by rw[wF,h,ZT,if_pos rfl,h']
theorem xq {xs:List T}{ρ:En}{n:Int}(h:((xs.length:Int)==n)=true):ZD iQ (gx Zb (vB 0)) (cE (.int n)) (.vl (.tup xs)::ρ)=.ok (.bl true):=by
 rw[Zq,ZU,w0,af,uW,af,zY,af,md,h,af]
theorem jp {xs:List T}{d:Nat}{x:T}:lH (zB iQ (vB 1) (cE (.int 0))) (lH (JI (ZQ (gx (wX "tuple") (vB 0)))) (zB iQ (gx Zb (vB 0)) (cE (.int 0)))) (lg (.tup (x::xs)) (.int ((d+1:Nat):Int)))=.ok false:=by
 refine yV ?_ (yV ?_ ?_)
 ·rw[zN,w1,af,zY,af,md,beq_eq_false_iff_ne.mpr (by lia)]
 ·rfl
 ·rw[zN,ZU,w0,af,uW,af,zY,af,md,beq_eq_false_iff_ne.mpr (by rw[ac];lia)]
theorem Vn {w:Str}(h:Zf (.str w)=true):ke (.str w):=by
 have h:(decide _&&decide _&&w.cps.toList.all _)=true:=h;simp only[ar,decide_eq_true_eq]at h;exact aG h.1.2 (by decide)
theorem jJ:∀(n d:Nat),d<=n->∀r:Ru,Zk d r->oG n 0 [r.t,.int (d:Int)]=.ok (.bl true)
 |0,d,h,r,hr=>by
  have:d=0:=by lia
  subst this;cases hr
 |n+1,d,h,r,hr=>by
  show zw (sk k7 (oG n 0) rN (lg r.t (.int (d:Int))))=_;rw[sk];cases hr with
  |@sum d a b l j=>
   rw[Ru.t,zb (zt jp),zE (t:=.bl true)]
   ·rfl
   ·exact zq (wq (xq rfl) (wq (by show za 1 _ _ (lg _ _)=_;rw[zG,jY,af,JA l]) (by show za 1 _ _ (lg _ _)=_;rw[zG,um,af,JA j])))
  |@size d a b l j=>
   rw[Ru.t,zb (zt jp),zE (t:=.bl true)]
   ·rfl
   ·exact zq (wq (xq rfl) (wq (by show za 1 _ _ (lg _ _)=_;rw[zG,jY,af,JA l]) (by show za 1 _ _ (lg _ _)=_;rw[zG,um,af,JA j])))
  |@word d w o=>
   rw[Ru.t,zb (zt jp),zb (zt (yV (ZE false (by decide)) (ZE false (by decide)))),zE (t:=.bl true)]
   ·rfl
   ·exact zq (wq (xq rfl) (by show za 1 _ _ (lg _ _)=_;rw[zG,jY,af,qw _ (Vn o),o]))
  |rising=>
   rw[Ru.t,zb (zt jp),zb (zt (yV (ZE false (by decide)) (ZE false (by decide)))),zb (zt (ZE false (by decide))),zE (t:=.bl true)]
   ·rfl
   ·rw[j3 (Cj (ZE true (by decide)))]
    exact zq (xq rfl)
  |unlike=>
   rw[Ru.t,zb (zt jp),zb (zt (yV (ZE false (by decide)) (ZE false (by decide)))),zb (zt (ZE false (by decide))),zE (t:=.bl true)]
   ·rfl
   ·rw[j3 (yV (ZE false (by decide)) (ZE true (by decide)))]
    exact zq (xq rfl)
  |@no d r hr=>
   have i:=jJ n d (by lia) r hr
   rw[Ru.t,zb (zt jp),zb (zt (yV (ZE false (by decide)) (ZE false (by decide)))),zb (zt (ZE false (by decide))),zb (zt (yV (ZE false (by decide)) (ZE false (by decide)))),zE (t:=.bl true)]
   ·rfl
   ·rw[j3 (ZE true (by decide))]
    exact zq (wq (xq rfl) (by show za 2 _ _ (lg _ _)=_;rw[zW,jY,af,zu,v1,af,zY,af,Zy,af,show ((d+1:Nat))-1=(d:Int) by lia,i]))
  |@all d r s hr k=>
   have i:=jJ n d (by lia) r hr
   have f:=jJ n d (by lia) s k
   rw[Ru.t,zb (zt jp),zb (zt (yV (ZE false (by decide)) (ZE false (by decide)))),zb (zt (ZE false (by decide))),zb (zt (yV (ZE false (by decide)) (ZE false (by decide)))),zb (zt (ZE false (by decide))),zE (t:=.bl true)]
   ·rfl
   ·exact zq (wq (xq rfl) (wq (by show za 2 _ _ (lg _ _)=_;rw[zW,jY,af,zu,v1,af,zY,af,Zy,af,show ((d+1:Nat):Int)-1=(d) by lia,i]) (by show za 2 _ _ (lg _ _)=_;rw[zW,um,af,zu,v1,af,zY,af,Zy,af,show ((d+1:Nat):Int)-1=(d) by lia,f])))
  |@some d r s hr k=>
   have i:=jJ n d (by lia) r hr
   have f:=jJ n d (by lia) s k
   rw[Ru.t,zb (zt jp),zb (zt (yV (ZE _ (by decide)) (ZE _ (by decide)))),zb (zt (ZE _ (by decide))),zb (zt (yV (ZE _ (by decide)) (ZE _ (by decide)))),zb (zt (ZE _ (by decide))),zE]
   ·rfl
   ·exact zq (wq (xq rfl) (wq (by show za 2 _ _ (lg _ _)=_;rw[zW,jY,af,zu,v1,af,zY,af,Zy,af,show ((d+1:Nat):Int)-1=(d) by lia,i]) (by show za 2 _ _ (lg _ _)=_;rw[zW,um,af,zu,v1,af,zY,af,Zy,af,show ((d+1:Nat):Int)-1=(d) by lia,f])))
theorem Dv {f g h:En->R T}{ρ:En}{i j k:Int}(d:f ρ=.ok (.int i))(l:g ρ=.ok (.int j))(a:h ρ=.ok (.int k)):lU i4 i4 f g h ρ=.ok (.bl (decide (i<=j)&&decide (j<=k))):=by
 rw[V8,d,af,l,af,ug,af];cases decide (i<=j)with
 |true=>rw[if_pos rfl,a,af,ug,af,fN]
 |false=>rw[if_neg ay,Bool.false_and]
theorem Qk {r:Ru}{x:T}{d:Nat}(hd:d<=2)(h:W d x)(b:Bool)(hr:(match r with|.no _=>False|.all _ _=>False|.some _ _=>False|_=>True)):GX [r.t,x]=.ok (.bl (kp r x)):=by
 have hn:=yM hd h;have hp:=ky h;have f:oy 8 [x]=.ok (.lst (lv x)):=JY 8 d (by lia) (by lia) x h
 have hi:=aG (Wl _) (w9 hd h);show zw (sV rH (oy 8) sh _ _ (lg r.t x))=_;rw[sV];cases r with
 |sum a b=>
  rw[zE]
  ·rfl
  ·refine zq ?_;show lU _ _ _ _ _ (lg _ x)=_;exact Dv jY (by rw[ZU,zG,v1,af,hn,af,DY]) um
 |size a b=>
  rw[Ru.t,zb (zt (ZE _ (by decide))),zE]
  ·rfl
  ·rw[j3 (ZE _ (by decide))]
   refine zq ?_;show lU _ _ _ _ _ (lg _ x)=_;exact Dv jY (by rw[ZU,zG,v1,af,hp,af,uW]) um
 |word w=>
  rw[Ru.t,zb (zt (ZE false (by decide))),zb (zt (ZE false (by decide))),zE]
  ·rfl
  ·rw[j3 (ZE true (by decide))]
   refine zq ?_;show ZD _ _ _ (lg _ x)=_;rw[Zq,jY,af,zG,v1,af,f];show ((match WB (λy=>iX 30 y (.str w)) (lv x)with|some b=>R.ok b|none=>.bad).bind _)=_
   rw[Qj];rfl
 |rising=>
  rw[Ru.t,zb (zt (ZE false (by decide))),zb (zt (ZE _ (by decide))),zb (zt (ZE _ (by decide))),zE (t:=.bl (kp _ x))]
  ·rfl
  ·rw[j3 (ZE true (by decide))]
   refine zq ?_;show za 1 _ _ (lg _ x)=_;rw[zG,zG,v1,af,hn,af,Qb _ (by lia)]
   rfl
 |unlike=>
  rw[Ru.t,zb (zt (ZE false (by decide))),zb (zt (ZE _ (by decide))),zb (zt (ZE false (by decide))),zb (zt (ZE _ (by decide))),zq]
  ·rfl
  ·show za 1 _ _ (lg _ x)=_;rw[zG,zG,v1,af,hp,af,Qi (UX h hd) (aG (uv h) (by lia))]
   rfl
 |no=>exact hr.elim
 |all=>exact hr.elim
 |some=>exact hr.elim
theorem Ql {f:En->R T}{ρ:En}{b:Bool}(h:f ρ=.ok (.bl b)):QO f ρ=.ok (.bl (!b)):=by unfold QO;rw[h];rfl
theorem w8 {f g:En->R T}{ρ:En}{a b:Bool}(h:f ρ=.ok (.bl a))(h':g ρ=.ok (.bl b)):jy f g ρ=.ok (.bl (a&&b)):=by
 rw[wF,h,h'];cases a<;>rfl
theorem UY {f g:En->R T}{ρ:En}{a b:Bool}(h:f ρ=.ok (.bl a))(h':g ρ=.ok (.bl b)):mM f g ρ=.ok (.bl (a||b)):=by
 unfold mM;rw[h];cases a with
 |true=>rfl
 |false=>exact h'
theorem Jc {x:T}{e:Nat}(l:e<=2)(j:W e x):∀(n d:Nat),d<=n->∀r:Ru,Zk d r->mE n 0 [r.t,x]=.ok (.bl (kp r x))
 |0,d,h,r,hr=>by
  have:d=0:=by lia
  subst this;cases hr
 |n+1,d,h,r,hr=>by
  show zw (sE (mE n 0) GX (lg r.t x))=_;rw[sE];have f:∀(r:Ru) (s:Str) (q:List T),r.t=.tup (.str s::q)->(s=="no")=false->(s=="all")=false->(s=="some")=false->(match r with|.no _=>False|.all _ _=>False|.some _ _=>False|_=>True)->
    zw (zz (iS (zB iQ (zd fr (vE 0) (cE (.int 0))) (cE (.str "no"))) (zC (QO (za 2 (mE n 0) (z9 (zd fr (vE 0) (cE (.int 1))) (z9 (vE 1) (zj)))))) (iR))
  (zz (iS (zB iQ (zd fr (vE 0) (cE (.int 0))) (cE (.str "all"))) (zC (jy (za 2 (mE n 0) (z9 (zd fr (vE 0) (cE (.int 1))) (z9 (vE 1) (zj)))) (za 2 (mE n 0) (z9 (zd fr (vE 0) (cE (.int 2))) (z9 (vE 1) (zj)))))) (iR))
  (zz (iS (zB iQ (zd fr (vE 0) (cE (.int 0))) (cE (.str "some"))) (zC (mM (za 2 (mE n 0) (z9 (zd fr (vE 0) (cE (.int 1))) (z9 (vE 1) (zj)))) (za 2 (mE n 0) (z9 (zd fr (vE 0) (cE (.int 2))) (z9 (vE 1) (zj)))))) (iR))
  (zC (za 2 GX (z9 (vE 0) (z9 (vE 1) (zj))))))) (lg r.t x))=.ok (.bl (kp r x)):=by
   intro r s q e u B G y;have k:=Qk l j true y;rw[e]at k⊢;rw[zb (zt (ZE _ u)),zb (zt (ZE false B)),zb (zt (ZE _ G)),zq]
   ·rfl
   ·show za 2 _ _ (lg _ x)=_;rw[zW,v0,af,v1,af,k]
  cases hr with
  |@sum d a b v p=>exact f (.sum a b) "sum" _ rfl (by decide) (by decide) (by decide) trivial
  |@size d a b v p=>exact f _ "size" _ rfl (by decide) (by decide) (by decide) trivial
  |@word d w I=>exact f _ _ _ rfl (by decide) (by decide) (by decide) trivial
  |rising=>exact f .rising _ _ rfl (by decide) (by decide) (by decide) trivial
  |unlike=>exact f .unlike _ _ rfl (by decide) (by decide) (by decide) trivial
  |@no d r hr=>
   have o:=Jc l j n d (by lia) r hr
   rw[Ru.t,zE]
   ·rfl
   ·exact zq (Ql (by show za 2 _ _ (lg _ x)=_;rw[zW,jY,af,v1,af,o]))
  |@all d r s hr k=>
   have o:=Jc l j n d (by lia) r hr
   have i:=Jc l j n d (by lia) s k
   rw[Ru.t,zb (zt (ZE _ (by decide))),zE]
   ·rfl
   ·exact zq (w8 (by show za 2 _ _ (lg _ x)=_;rw[zW,jY,af,v1,af,o]) (by show za 2 _ _ (lg _ x)=_;rw[zW,um,af,v1,af,i]))
  |@some d r s hr k=>
   have o:=Jc l j n d (by lia) r hr
   have i:=Jc l j n d (by lia) s k
   rw[Ru.t,zb (zt (ZE _ (by decide))),zb (zt (ZE _ (by decide))),zE]
   ·rfl
   ·exact zq (UY (by show za 2 _ _ (lg _ x)=_;rw[zW,jY,af,v1,af,o]) (by show za 2 _ _ (lg _ x)=_;rw[zW,um,af,v1,af,i]))
abbrev lk (r x a b:T):En:=[.vl r,.vl x,.vl a,.vl b,.un,.un,.un]
theorem lA {x w:Str}{r:List T}{y a b:T}(c:Bool)(h:(x==w)=c):zB iQ (zd fr (vE 0) (cE (.int 0))) (cE (.str w)) (lk (.tup (.str x::r)) y a b)=.ok c:=ZE c h
theorem UZ {r x a b:T}{z:Sl}:∀(d:List Int) (m:Int) (y:Sl),∃f,Zr (zI 5) (zH 4 (zd zv (vE 4) (vE 5))) (d.map T.int) [.vl r,.vl x,.vl a,.vl b,.vl (.int m),y,z]=.nx [.vl r,.vl x,.vl a,.vl b,.vl (.int (m+d.sum)),f,z]
 |[],m,y=>⟨y,by rw[List.sum_nil,Int.add_zero];rfl⟩
 |i::d,m,y=>by
  obtain⟨f,h⟩:=UZ (r:=r) (x:=x) (a:=a) (b:=b) (z:=z) d (m+i) (.vl (.int i));refine⟨f,?_⟩;have j:zI 5 (.int i) [.vl r,.vl x,.vl a,.vl b,.vl (.int m),y,z]=.ok [.vl r,.vl x,.vl a,.vl b,.vl (.int m),.vl (.int i),z]:=rfl;have b2:zH 4 (zd zv (vE 4) (vE 5)) [.vl r,.vl x,.vl a,.vl b,.vl (.int m),.vl (.int i),z]=.nx [.vl r,.vl x,.vl a,.vl b,.vl (.int (m+i)),.vl (.int i),z]:=rfl;rw[aK,ZM j b2,h,dg,Int.add_assoc]
theorem Aj {f g:En->R T}{ρ:En}{i j:Int}(a:f ρ=.ok (.int i))(d:g ρ=.ok (.int j)):ZD i4 f g ρ=.ok (.bl (decide (i<=j))):=by rw[Zq,a,af,d,af,ug,af]
theorem AN {f g:En->R T}{ρ:En}{i j:Int}(a:f ρ=.ok (.int i))(d:g ρ=.ok (.int j)):ZD oa f g ρ=.ok (.bl (decide (j<=i))):=by
 rw[Zq,a,af,d,af];rfl
theorem uy {r x a b:T}:frz (lk r x a b)=lk r x a b:=rfl
theorem jx {x:T}{e:Nat}(o:e<=2)(f:W e x):∀(n d:Nat),d<=n->∀r:Ru,Zk d r->lY n 0 [r.t,x]=.ok (.bl (kp r x))
 |0,d,h,r,hr=>by
  have:d=0:=by lia
  subst this;cases hr
 |n+1,d,h,r,hr=>by
  show zw (rd (pB 8) (lY n 0) [.vl r.t,.vl x,.un,.un,.un,.un,.un])=_;have N:pB 8 [x]=.ok (.lst (lv x)):=UV 8 e (by lia) (by lia) x f
  have hl:=w9 o f;have hB:iT=16777216:=rfl;have hi:(ZV (lv x)).length<=9:=aG (Wl _) hl;have P:zH 2 (zL (Z9 (za 1 (pB 8) (z9 (vE 1) (zj)))) (zI 0) (ZQ (gx (wX "int") (vB 0))) (vE 0) 1 []) [.vl r.t,.vl x,.un,.un,.un,.un,.un]=.nx [.vl r.t,.vl x,.vl (.lst ((ZV (lv x)).map T.int)),.un,.un,.un,.un]:=by
   have k:zK (zI 0) (ZQ (gx (wX "int") (vB 0))) (vE 0) 1 [] [.vl r.t,.vl x,.un,.un,.un,.un,.un] (lv x)=.ok ((lv x).filter BS):=
    ZI _ (by lia) λt I=>⟨by cases Fc f t I<;>rfl,rfl⟩
   rw[zD (t:=.lst ((ZV (lv x)).map T.int))]
   ·rfl
   ·rw[Z5,jm,zG,v1,af,N,af];show ((zK _ _ _ _ _ _ (lv x)).bind _)=_;rw[k,af,JZ]
  have e2:zH 3 (lD (ZQ (gx (wX "tuple") (vB 1))) (vE 1) (Zm (z9 (vE 1) (zj)))) [.vl r.t,.vl x,.vl (.lst ((ZV (lv x)).map T.int)),.un,.un,.un,.un]=.nx (lk r.t x (.lst ((ZV (lv x)).map T.int)) (.tup (Zg x))):=by
   cases f<;>rfl
  rw[rd,zb P,zb e2];cases hr with
  |@sum d a b Z X=>
   obtain⟨J,L⟩:=UZ (r:=(Ru.sum a b).t) (x:=x) (a:=.lst ((ZV (lv x)).map T.int)) (b:=.tup (Zg x)) (z:=.un) (ZV (lv x)) 0 .un;rw[hV]at L;have u:zH 4 (cE (.int 0)) (lk (Ru.sum a b).t x (.lst ((ZV (lv x)).map T.int)) (.tup (Zg x)))=.nx [.vl (Ru.sum a b).t,.vl x,.vl (.lst ((ZV (lv x)).map T.int)),.vl (.tup (Zg x)),.vl (.int 0),.un,.un]:=rfl;have Q:ZR (Z9 (vE 2)) (zI 5) (zH 4 (zd zv (vE 4) (vE 5))) [.vl (Ru.sum a b).t,.vl x,.vl (.lst ((ZV (lv x)).map T.int)),.vl (.tup (Zg x)),.vl (.int 0),.un,.un]=.nx [.vl (Ru.sum a b).t,.vl x,.vl (.lst ((ZV (lv x)).map T.int)),.vl (.tup (Zg x)),.vl (.int (ZV (lv x)).sum),J,.un]:=by
    unfold ZR;rw[jm,v2,af];exact L
   rw[zE (t:=.bl (kp (.sum a b) x))]
   ·rfl
   ·rw[j3 (by rw[Ru.t];exact lA true (by decide)),zb u,zb Q,zq (t:=.bl (kp (.sum a b) x))]
    show jy _ _ [.vl (Ru.sum a b).t,.vl x,.vl (.lst ((ZV (lv x)).map T.int)),.vl (.tup (Zg x)),.vl (.int (ZV (lv x)).sum),pi J,.un]=_;rw[Ru.t];exact w8 (Aj jY rfl) (Aj rfl um)
  |@size d a b Z X=>
   rw[Ru.t,zb (zt (lA false (by decide))),zE (t:=.bl (kp (.size a b) x))]
   ·rfl
   ·rw[j3 (lA true (by decide)),zq (t:=.bl (kp (.size a b) x))]
    rw[uy];exact w8 (AN (i:=((Zg x).length:Int)) rfl jY) (Aj (i:=((Zg x).length:Int)) rfl um)
  |@word d w hw=>
   rw[Ru.t,zb (zt (lA false (by decide))),zb (zt (lA false (by decide))),zE (t:=.bl (kp (.word w) x))]
   ·rfl
   ·rw[j3 (lA true (by decide)),zq (t:=.bl (kp (.word w) x))]
    rw[uy];have k:zK (zI 0) (zB iQ (vB 0) (zd fr (vE 1) (cE (.int 1)))) (vE 0) 1 [0] (lk (.tup [.str "word",.str w]) x (.lst ((ZV (lv x)).map T.int)) (.tup (Zg x))) (lv x)=.ok ((lv x).filter (v6 w)):=
     ZI _ (by lia) λt I=>⟨by
      show zB iQ (vB 0) (zd fr (vE 1) (cE (.int 1))) [.vl t,.vl (.tup [.str "word",.str w])]=_;rw[zN,w0,af,zu,v1,af,zY,af,nO,af];unfold iQ;rw[Ds],rfl⟩
    rw[Zq,Z5,jm,zG,v1,af,N,af];show (((zK _ _ _ _ _ _ (lv x)).bind _).bind _)=_;rw[k,af,af,show jb zj (lk (.tup [.str "word",.str w]) x (.lst ((ZV (lv x)).map T.int)) (.tup (Zg x)))=.ok (.lst []) from rfl,af];have en:lj (.lst ((lv x).filter (v6 w))) (.lst [])=.ok (!((lv x).filter (v6 w)).isEmpty):=by cases (lv x).filter (v6 w)<;>rfl
    rw[en,af,kz,Bool.not_not];rfl
  |rising=>
   rw[Ru.t,zb (zt (lA false (by decide))),zb (zt (lA false (by decide))),zb (zt (lA false (by decide))),zE (t:=.bl (kp .rising x))]
   ·rfl
   ·rw[j3 (lA true (by decide)),zq (t:=.bl (kp .rising x))]
    rw[uy,Zq,ZU,w2,af,af,qk _ (by lia),af,Qf,af]
    rfl
  |unlike=>
   rw[Ru.t,zb (zt (lA false (by decide))),zb (zt (lA false (by decide))),zb (zt (lA false (by decide))),zb (zt (lA false (by decide))),zE (t:=.bl (kp .unlike x))]
   ·rfl
   ·rw[j3 (lA true (by decide)),zq (t:=.bl (kp .unlike x))]
    rw[uy];have hp3:=uv f;obtain⟨q,eq,U⟩:=Vm (UX f o) (by lia) (a:=.vl (.tup [.str "unlike"])) (b:=.vl x) (c:=.vl (.lst ((ZV (lv x)).map T.int))) (ρ:=[.un,.un,.un])
    have er:Zs (gx Zb (vB 3)) (lk (.tup [.str "unlike"]) x (.lst ((ZV (lv x)).map T.int)) (.tup (Zg x)))=.ok (rng 0 (Zg x).length):=by
     rw[U4 (j:=((Zg x).length:Int)) rfl ⟨by lia,by lia⟩,bA]
    rw[Zq,Z5,er,af,eq,af,af,show jb zj (lk (.tup [.str "unlike"]) x (.lst ((ZV (lv x)).map T.int)) (.tup (Zg x)))=.ok (.lst []) from rfl,af,FG,af,U];rfl
  |@no d r hr=>
   have p:=jx o f n d (by lia) r hr
   rw[Ru.t,zb (zt (lA false (by decide))),zb (zt (lA false (by decide))),zb (zt (lA false (by decide))),zb (zt (lA false (by decide))),zb (zt (lA false (by decide))),zE (t:=.bl (kp (.no r) x))]
   ·rfl
   ·rw[j3 (lA true (by decide)),zq (t:=.bl (kp (.no r) x))]
    rw[uy];exact Ql (by rw[zW,jY,af,v1,af,p])
  |@all d r s hr G=>
   have p:=jx o f n d (by lia) r hr
   have l:=jx o f n d (by lia) s G
   have u:zH 6 (zL (Z9 (lR (vE 0) (zT (cE (.int 1))) (lE))) (zI 0) (Z1) (za 2 (lY n 0) (z9 (vE 0) (z9 (vE 1) (zj)))) 1 [1]) (lk (.tup [.str "all",r.t,s.t]) x (.lst ((ZV (lv x)).map T.int)) (.tup (Zg x)))=.nx [.vl (.tup [.str "all",r.t,s.t]),.vl x,.vl (.lst ((ZV (lv x)).map T.int)),.vl (.tup (Zg x)),.un,.un,.vl (.lst [.bl (kp r x),.bl (kp s x)])]:=by
    rw[zD (t:=.lst [.bl (kp r x),.bl (kp s x)])]
    ·rfl
    ·rw[Z5];show ((zK (zI 0) Z1 (za 2 (lY n 0) (z9 (vE 0) (z9 (vE 1) (zj)))) 1 [1] (lk (.tup [.str "all",r.t,s.t]) x (.lst ((ZV (lv x)).map T.int)) (.tup (Zg x))) [r.t,s.t]).bind _)=_;have k:zK (zI 0) Z1 (za 2 (lY n 0) (z9 (vE 0) (z9 (vE 1) (zj)))) 1 [1] (lk (.tup [.str "all",r.t,s.t]) x (.lst ((ZV (lv x)).map T.int)) (.tup (Zg x))) [r.t,s.t]=.ok [.bl (kp r x),.bl (kp s x)]:=by
      unfold zK;rw[if_pos (by show 2<=iT;lia)]
      have B:za 2 (lY n 0) (z9 (vE 0) (z9 (vE 1) (zj))) [.vl r.t,.vl x]=.ok (.bl (kp r x)):=by rw[zW,v0,af,v1,af,p]
      have y:za 2 (lY n 0) (z9 (vE 0) (z9 (vE 1) (zj))) [.vl s.t,.vl x]=.ok (.bl (kp s x)):=by rw[zW,v0,af,v1,af,l]
      show quiet ((za 2 (lY n 0) (z9 (vE 0) (z9 (vE 1) (zj))) [.vl r.t,.vl x]).bind λv=>((za 2 (lY n 0) (z9 (vE 0) (z9 (vE 1) (zj))) [.vl s.t,.vl x]).bind λv=>(R.ok []).bind λvs=>.ok (v::vs)).bind λvs=>.ok (v::vs))=_;rw[B,y];rfl
     rw[k,af]
   rw[Ru.t,zb (zt (lA false (by decide))),zb (zt (lA false (by decide))),zb (zt (lA false (by decide))),zb (zt (lA false (by decide))),zb (zt (lA false (by decide))),zb (zt (lA false (by decide))),zb u,zq (t:=.bl (kp (.all r s) x))]
   ·rfl
   ·show lD _ _ _ [.vl (.tup [.str "all",r.t,s.t]),.vl x,.vl (.lst ((ZV (lv x)).map T.int)),.vl (.tup (Zg x)),.un,.un,.vl (.lst [.bl (kp r x),.bl (kp s x)])]=_;unfold lD;rw[ZE true (by decide),af,if_pos rfl]
    exact w8 rfl rfl
  |@some d r s hr G=>
   have p:=jx o f n d (by lia) r hr
   have l:=jx o f n d (by lia) s G
   have u:zH 6 (zL (Z9 (lR (vE 0) (zT (cE (.int 1))) (lE))) (zI 0) (Z1) (za 2 (lY n 0) (z9 (vE 0) (z9 (vE 1) (zj)))) 1 [1]) (lk (.tup [.str "some",r.t,s.t]) x (.lst ((ZV (lv x)).map T.int)) (.tup (Zg x)))=.nx [.vl (.tup [.str "some",r.t,s.t]),.vl x,.vl (.lst ((ZV (lv x)).map T.int)),.vl (.tup (Zg x)),.un,.un,.vl (.lst [.bl (kp r x),.bl (kp s x)])]:=by
    rw[zD (t:=.lst [.bl (kp r x),.bl (kp s x)])]
    ·rfl
    ·rw[Z5];show ((zK (zI 0) Z1 (za 2 (lY n 0) (z9 (vE 0) (z9 (vE 1) (zj)))) 1 [1] (lk (.tup [.str "some",r.t,s.t]) x (.lst ((ZV (lv x)).map T.int)) (.tup (Zg x))) [r.t,s.t]).bind _)=_;have k:zK (zI 0) Z1 (za 2 (lY n 0) (z9 (vE 0) (z9 (vE 1) (zj)))) 1 [1] (lk (.tup [.str "some",r.t,s.t]) x (.lst ((ZV (lv x)).map T.int)) (.tup (Zg x))) [r.t,s.t]=.ok [.bl (kp r x),.bl (kp s x)]:=by
      unfold zK;rw[if_pos (by show 2<=iT;lia)]
      have B:za 2 (lY n 0) (z9 (vE 0) (z9 (vE 1) (zj))) [.vl r.t,.vl x]=.ok (.bl (kp r x)):=by rw[zW,v0,af,v1,af,p]
      have y:za 2 (lY n 0) (z9 (vE 0) (z9 (vE 1) (zj))) [.vl s.t,.vl x]=.ok (.bl (kp s x)):=by rw[zW,v0,af,v1,af,l]
      show quiet ((za 2 (lY n 0) (z9 (vE 0) (z9 (vE 1) (zj))) [.vl r.t,.vl x]).bind λv=>((za 2 (lY n 0) (z9 (vE 0) (z9 (vE 1) (zj))) [.vl s.t,.vl x]).bind λv=>(R.ok []).bind λvs=>.ok (v::vs)).bind λvs=>.ok (v::vs))=_;rw[B,y];rfl
     rw[k,af]
   rw[Ru.t,zb (zt (lA false (by decide))),zb (zt (lA false (by decide))),zb (zt (lA false (by decide))),zb (zt (lA false (by decide))),zb (zt (lA false (by decide))),zb (zt (lA false (by decide))),zb u,zq (t:=.bl (kp (.some r s) x))]
   ·rfl
   ·show lD _ _ _ [.vl (.tup [.str "some",r.t,s.t]),.vl x,.vl (.lst ((ZV (lv x)).map T.int)),.vl (.tup (Zg x)),.un,.un,.vl (.lst [.bl (kp r x),.bl (kp s x)])]=_;unfold lD;rw[ZE false (by decide),af,if_neg ay]
    exact UY rfl rfl
abbrev lr (ns:List Int)(k:Int)(d:Nat)(p:Int)(a b:Sl):En:=[.vl (iZ ns),.vl (.int k),.vl (.int (d:Int)),.vl (.int p),a,b]
theorem Qm {ns:List Int}{k:Int}{d:Nat}{p:Int}{a b:Sl}{j m q:Int}(h:lB [iZ ns,.int (k+j),.int m]=.ok (.int q)):za 3 lB (z9 (vE 0) (z9 (zd zv (vE 1) (cE (.int j))) (z9 (cE (.int m)) (zj)))) (lr ns k d p a b)=.ok (.int q):=by
 rw[Zt,v0,af,zu,v1,af,zY,af,Z8,af,zY,af,h]
theorem Wn (ns:List Int):∀(n d:Nat),d<=n->1<=d->∀k:Int,0<=k->∃r:Ru,na n 0 [iZ ns,.int k,.int (d:Int)]=.ok r.t/\Zk d r
 |0,d,h,h1,k,hk=>by lia
 |n+1,d,h,h1,k,hk=>by
  obtain⟨p,hp,p0,p9⟩:=zR ns k 9 hk (by lia)
  have e1:zH 3 (za 3 lB (z9 (vE 0) (z9 (vE 1) (z9 (cE (.int 9)) (zj))))) [.vl (iZ ns),.vl (.int k),.vl (.int (d:Int)),.un,.un,.un]=.nx (lr ns k d p .un .un):=by
   rw[zD (t:=.int p)]
   ·rfl
   ·rw[Zt,v0,af,v1,af,zY,af,hp]
  have e:na (n+1) 0 [iZ ns,.int k,.int (d:Int)]=zw (tK lB (na n 0) [.vl (iZ ns),.vl (.int k),.vl (.int (d:Int)),.un,.un,.un]):=rfl;rw[e,tK,zb e1];have l:Yz (zB lL (vB 2) (cE (.int 1))) (zB lL (vB 3) (cE (.int 5))) (lr ns k d p .un .un)=.ok (decide (1<d)&&decide (5<p)):=by
   rw[Wf,zN,w2,af,zY,af,Q4,af,show decide ((1:Int)<(d:Int))=decide (1<d) by rw[fk,decide_eq_true_eq,decide_eq_true_eq];lia]
   cases decide (1<d)with
   |true=>rw[if_pos rfl,zN,w3,af,zY,af,Q4,fN]
   |false=>rfl
  by_cases hb:1<d/\5<p
  ·rw[decide_eq_true hb.1,decide_eq_true hb.2]at l;obtain⟨d,rfl⟩:∃Z,d=Z+1:=⟨d-1,by lia⟩
   obtain⟨a,hr1,L⟩:=Wn ns n d (by lia) (by lia) (2*k+11) (by lia)
   obtain⟨I,U,o2⟩:=Wn ns n d (by lia) (by lia) (2*k+24) (by lia)
   have m2:Z7 (.int 2) (.int k)=.ok (.int (2*k)):=uY _ _ (.inl ⟨by decide,by decide⟩)
   have G:zH 4 (za 3 (na n 0) (z9 (vE 0) (z9 (zd zv (zd Z7 (cE (.int 2)) (vE 1)) (cE (.int 11))) (z9 (zd ZW (vE 2) (cE (.int 1))) (zj))))) (lr ns k (d+1) p .un .un)=.nx (lr ns k (d+1) p (.vl a.t) .un):=by
    rw[zD (t:=a.t)]
    ·rfl
    ·rw[Zt,v0,af,zu,zu,zY,af,v1,af,m2,af,zY,af,Z8,af,zu,v2,af,zY,af,Zy,af,show ((d+1:Nat):Int)-1=(d:Int) by lia,hr1]
   have c2:za 3 (na n 0) (z9 (vE 0) (z9 (zd zv (zd Z7 (cE (.int 2)) (vE 1)) (cE (.int 24))) (z9 (zd ZW (vE 2) (cE (.int 1))) (zj)))) (lr ns k (d+1) p (.vl a.t) .un)=.ok I.t:=by
    rw[Zt,v0,af,zu,zu,zY,af,v1,af,m2,af,zY,af,Z8,af,zu,v2,af,zY,af,Zy,af,show ((d+1:Nat):Int)-1=(d:Int) by lia,U]
   by_cases h6:p=6
   ·subst h6;refine⟨.no a,?_,.no L⟩;rw[zE (t:=(Ru.no a).t)]
    ·rfl
    ·rw[j3 l,zb G,zE (t:=(Ru.no a).t)];rw[j3 rfl,Ru.t];exact zq (WF rfl rfl)
   ·have v:zB iQ (vB 3) (cE (.int 6)) (lr ns k (d+1) p (.vl a.t) .un)=.ok false:=by
     rw[zN,w3,af,zY,af,md,beq_eq_false_iff_ne.mpr h6]
    by_cases h7:p=7
    ·subst h7;refine⟨.all a I,?_,.all L o2⟩;rw[zE (t:=(Ru.all a I).t)]
     ·rfl
     ·rw[j3 l,zb G,zb (zt v),Ru.t];exact zq (o5 rfl rfl c2)
    ·have h8:p=8:=by lia
     subst h8;refine⟨.some a I,?_,.some L o2⟩;rw[zE (t:=(Ru.some a I).t)]
     ·rfl
     ·rw[j3 l,zb G,zb (zt v),Ru.t];exact zq (o5 rfl rfl c2)
  ·have l:Yz (zB lL (vB 2) (cE (.int 1))) (zB lL (vB 3) (cE (.int 5))) (lr ns k d p .un .un)=.ok false:=by
    rw[l];congr 1
    rw[fv,decide_eq_false_iff_not,decide_eq_false_iff_not];lia
   obtain⟨d,rfl⟩:∃Z,d=Z+1:=⟨d-1,by lia⟩
   obtain⟨q,hq,q0,q9⟩:=zR ns (k+1) 9 (by lia) (by lia)
   have G:zH 5 (zd ZW (za 3 lB (z9 (vE 0) (z9 (zd zv (vE 1) (cE (.int 1))) (z9 (cE (.int 9)) (zj))))) (cE (.int 4))) (lr ns k (d+1) p .un .un)=.nx (lr ns k (d+1) p .un (.vl (.int (q-4)))):=by
    rw[zD (t:=.int (q-4))]
    ·rfl
    ·rw[zu,Qm hq,af,zY,af,Zy]
   rw[zb (zt l),zb G];have J:∃m:Nat,m<6/\zd J7 (vE 3) (cE (.int 6)) (lr ns k (d+1) p .un (.vl (.int (q-4))))=.ok (.int (m:Int)):=by
    obtain⟨w,rfl⟩:=cC p0;exact⟨w%6,Nat.mod_lt _ (by lia),by rw[zu,v3,af,zY,af];exact xm (c:=6) (by lia)⟩
   obtain⟨m,m6,J⟩:=J;have t2:zB mL (zd J7 (vE 3) (cE (.int 6))) (cE (.int 2)) (lr ns k (d+1) p .un (.vl (.int (q-4))))=.ok (decide (m<2)):=by
    rw[zN,J,af,zY,af,AH];congr 1;rw[fk,decide_eq_true_eq,decide_eq_true_eq];lia
   have tk:∀j:Nat,zB iQ (zd J7 (vE 3) (cE (.int 6))) (cE (.int (j:Int))) (lr ns k (d+1) p .un (.vl (.int (q-4))))=.ok (m==j):=λj=>by
    rw[zN,J,af,zY,af,md,qL]
   have o:zB iQ (zd J7 (vE 3) (cE (.int 6))) (cE (.int 2)) (lr ns k (d+1) p .un (.vl (.int (q-4))))=.ok (m==2):=tk 2;have y:zB iQ (zd J7 (vE 3) (cE (.int 6))) (cE (.int 3)) (lr ns k (d+1) p .un (.vl (.int (q-4))))=.ok (m==3):=tk 3;have B:zB iQ (zd J7 (vE 3) (cE (.int 6))) (cE (.int 4)) (lr ns k (d+1) p .un (.vl (.int (q-4))))=.ok (m==4):=tk 4
   by_cases h2:m<2
   ·obtain⟨u,hu,u0,u5⟩:=zR ns (k+2) 5 (by lia) (by lia)
    refine⟨.sum (q-4) (q-4+u-1),?_,.sum ⟨by lia,by lia⟩ ⟨by lia,by lia⟩⟩
    rw[zE (t:=(Ru.sum (q-4) (q-4+u-1)).t)]
    ·rfl
    ·rw[j3 (by rw[t2,decide_eq_true h2]),Ru.t]
     refine zq (o5 rfl rfl ?_);show zd ZW _ _ (lr ns k (d+1) p .un (.vl (.int (q-4))))=_;rw[zu,zu,Qm hu,show vE 5 (lr ns k (d+1) p .un (.vl (.int (q-4))))=.ok (.int (q-4)) from rfl,af,af,Z8,af,zY,af,Zy]
   rw[zb (zt (by rw[t2,decide_eq_false h2]))]
   by_cases h3:m=2
   ·subst h3;obtain⟨f,i,Q,X⟩:=zR ns (k+1) 3 (by lia) (by lia)
    obtain⟨u,hu,u0,u4⟩:=zR ns (k+2) 4 (by lia) (by lia)
    refine⟨.size f u,?_,.size ⟨by lia,by lia⟩ ⟨by lia,by lia⟩⟩
    rw[zE (t:=(Ru.size f u).t)]
    ·rfl
    ·rw[j3 o,Ru.t];exact zq (o5 rfl (Qm i) (Qm hu))
   rw[zb (zt (by rw[o,beq_eq_false_iff_ne.mpr h3]))]
   by_cases h4:m=3
   ·subst h4;obtain⟨f,i,Q,X⟩:=zR ns (k+1) 4 (by lia) (by lia)
    have N:∃w:Str,Zf (.str w)=true/\fr (.lst [.str "a",.str "b",.str "ab",.str "zz"]) (.int f)=.ok (.str w):=by
     have P:f=0\/f=1\/f=2\/f=3:=by lia
     rcases P with rfl|rfl|rfl|rfl
     ·exact⟨"a",by decide,rfl⟩
     ·exact⟨"b",by decide,rfl⟩
     ·exact⟨"ab",by decide,rfl⟩
     ·exact⟨"zz",by decide,rfl⟩
    obtain⟨w,N,hx⟩:=N;refine⟨.word w,?_,.word N⟩;rw[zE (t:=(Ru.word w).t)]
    ·rfl
    ·rw[j3 y,Ru.t];refine zq (WF rfl ?_);show zd fr _ _ (lr ns k (d+1) p .un (.vl (.int (q-4))))=_;rw[zu,Qm i];exact hx
   rw[zb (zt (by rw[y,beq_eq_false_iff_ne.mpr h4]))]
   by_cases h5:m=4
   ·subst h5;refine⟨.rising,?_,.rising⟩;rw[zq (t:=Ru.rising.t)]
    ·rfl
    ·show lD _ _ _ (lr ns k (d+1) p .un (.vl (.int (q-4))))=_;unfold lD;rw[B,af];rfl
   ·refine⟨.unlike,?_,.unlike⟩;rw[zq (t:=Ru.unlike.t)]
    ·rfl
    ·show lD _ _ _ (lr ns k (d+1) p .un (.vl (.int (q-4))))=_;unfold lD;rw[B,af,beq_eq_false_iff_ne.mpr h5];rfl
theorem Du {k:Kd}(a:k.Ok 3){x:T}(d:x∈k.all):W 2 x:=Cd 2 k x a ((Wj k x).mp d)
theorem yN {x:T}(a:W 2 x){r:Ru}(hr:Zk 3 r):pS 8 [r.t,x]=.ok (.bl (kp r x)):=Jc (by lia) a 8 3 (by lia) r hr
theorem Qn {k:Kd}(a:k.Ok 3):Kc [k.t]=.ok .non:=by
 have hi:=UN 3 k a;show zw (rK m3 [.vl k.t])=_;rw[rK,zt]
 ·rfl
 ·show JI (ZQ (za 1 m3 (z9 (vE 0) zj))) [.vl k.t]=_;rw[jS,ZJ,zG,v0,af,wH _ (Ju 3 _ hi).so,hi];rfl
theorem Wo {k:Kd}(a:k.Ok 3)(u:k.all.length<=500):xa [k.t]=.ok (.lst k.all):=by
 show zw (rS Kc (mF 20) (ox 20) [.vl k.t,.un])=_;have l:zH 1 (za 1 (mF 20) (z9 (vE 0) (zj))) [.vl k.t,.un]=.nx (lg k.t (.int (k.all.length:Int))):=by
  rw[zD (t:=.int (k.all.length:Int))]
  ·rfl
  ·rw[zG,v0,af,jv (by lia) a]
 have o:zB lL (vB 1) (cE (.int 500)) (lg k.t (.int (k.all.length:Int)))=.ok false:=by
  rw[zN,w1,af,zY,af,Q4,decide_eq_false (by lia)]
 have q:Zs (vE 1) (lg k.t (.int (k.all.length:Int)))=.ok (rng 0 k.all.length):=by
  rw[U4 (j:=(k.all.length:Int)) rfl ⟨by lia,by lia⟩,bA]
 have p:zK (zI 0) Z1 (za 2 (ox 20) (z9 (vE 1) (z9 (vE 0) (zj)))) 1 [0] (lg k.t (.int (k.all.length:Int))) (rng 0 k.all.length)=.ok ((rng 0 k.all.length).map λt=>match t with|.int i=>(k.all[i.toNat]?).getD .non|y=>y):=
  Ze _ (by unfold rng;rw[ah,bi];have:iT=16777216:=rfl;lia) λt d=>by
   unfold rng at d;obtain⟨i,hi,rfl⟩:=aF.mp d;obtain⟨x,f⟩:=UR (bg.mp hi);show za 2 _ _ (lg (.int ((0:Int)+(i:Int))) k.t)=R.ok ((k.all[((0:Int)+(i:Int)).toNat]?).getD .non);rw[show ((0:Int)+(i:Int))=(i:Int) by lia,zW,v1,af,v0,af,HJ a f,bA,f]
   rfl
 have r:rY (Zs (vE 1)) (zI 0) (Z1) (za 2 (ox 20) (z9 (vE 1) (z9 (vE 0) (zj)))) 1 [0] (lg k.t (.int (k.all.length:Int)))=.rf k.all:=by
  show ((Zs (vE 1) (lg k.t (.int (k.all.length:Int)))).s λts=>(zK _ _ _ _ _ (lg k.t (.int (k.all.length:Int))) ts).s λvs=>RS.rf vs)=_;rw[q,ZF,p,ZF];exact congrArg RS.rf (mh k)
 rw[rS,zb (jI (t:=.non) (by rw[zG,v0,af,Qn a])),zb l,zb (zt o),r]
 rfl
theorem Jl {r:Ru}(h:Zk 3 r):k8 [r.t]=.ok .non:=by
 show zw (sm nH [.vl r.t])=_;rw[sm,zt]
 ·rfl
 ·have e:nH [r.t]=.ok (.bl true):=by
   show zw (zC (za 2 (ri 8) (z9 (vE 0) (z9 (cE (.int 3)) zj))) [.vl r.t])=_;rw[zq (t:=.bl true)]
   ·rfl
   ·show za 2 _ _ [.vl r.t]=_;rw[zW,v0,af,zY,af];exact jJ 8 3 (by lia) r h
  rw[jS,ZJ,zG,v0,af,e];rfl
theorem Qo {f:En->R T}{ρ:En}:zw (zC f ρ)=f (frz ρ):=by rw[Zp,Jh]
theorem D0 {i:Nat}{a b:T}{ρ:En}(h:vE i ρ=.ok (.tup [a,b])):zd fr (vE i) (cE (.int 0)) ρ=.ok a:=by rw[zu,h,af,zY,af,l7]
theorem Er {i:Nat}{a b:T}{ρ:En}(h:vE i ρ=.ok (.tup [a,b])):zd fr (vE i) (cE (.int 1)) ρ=.ok b:=by rw[zu,h,af,zY,af,nO]
noncomputable abbrev sv (t:T)(rs ds us:List T):List (Str×Fd):=[("kind",.tv t),("remaining",.tl rs),("done",.tl ds),("undone",.tl us)]
noncomputable abbrev rM (fs:List (Str×Fd))(rs:List T):Prop:=fs.lookup ("remaining":Str)=some (.tl rs)
theorem Qp {rs:List T}{w:T}:ly (rs++[w]) (-1)=.ok w:=by
 have:lQ (rs++[w]) (-1)=some w:=by
  unfold lQ nw;have a:(rs++[w]).length=rs.length+1:=by simp
  rw[if_neg (by decide),if_pos (by lia),a,show ((-1:Int)+((rs.length+1:Nat):Int)).toNat=rs.length by lia]
  show (rs++[w])[rs.length]?=some w;rw[az (au _),dz];rfl
 unfold ly;rw[this]
theorem Cz {j:Nat}{fs:List (Str×Fd)}{w:T}{rs:List T}{ρ:En}{os:List Ob}(h:lI 101 0 j ρ=some (0,fs,os))(a:rM fs (rs++[w])):n9 101 0 j "remaining" (J8 (cE (.int 1))) ρ=.ok w:=by
 unfold n9;rw[h];dsimp only;rw[show fs.lookup ("remaining":Str)=_ from a];exact Qp
abbrev oo (fs:List (Str×Fd)):En:=[.oc 101 fs,.un]
theorem o8 {fs:List (Str×Fd)}{rs:List T}{w:T}(a:rM fs (rs++[w])):ng 101 0 1 "remaining" (J8 (cE (.int 1))) (oo fs)=.ok w:=by
 have:og 101 0 1 "remaining" (oo fs)=some (rs++[w]):=by
  show (match fs.lookup ("remaining":Str)with|some (.tl ts)=>some ts|_=>none)=_
  rw[show fs.lookup ("remaining":Str)=_ from a]
 unfold ng;rw[this];exact Qp
theorem jU {fs:List (Str×Fd)}{rs ws:List T}(a:rM fs (rs++[.lst ws])):V3 fs []=.ok (.lst ws):=by
 show zw (zC (gx tH (ng 101 0 1 "remaining" (J8 (cE (.int 1))))) (oo fs))=_;rw[Qo];show gx tH _ (oo fs)=_;rw[ZU,o8 a];rfl
theorem Qq {fs:List (Str×Fd)}{rs ws:List T}(a:rM fs (rs++[.lst ws])):GW fs []=.ok (.int (ws.length:Int)):=by
 show zw (zC (gx Zb (ng 101 0 1 "remaining" (J8 (cE (.int 1))))) (oo fs))=_;rw[Qo];show gx Zb _ (oo fs)=_;rw[ZU,o8 a];rfl
theorem jV {t:T}{rs ds us:List T}:V2 (sv t rs ds us) []=.ok (.tup [.int (ds.length:Int),.int (us.length:Int)]):=rfl
theorem jd {k i j:Nat}{g:List (Str×Fd)->List T->R T}{ρ:En}{fs:List (Str×Fd)}{r:R T}(h:obL k i j ρ=some fs)(a:g fs []=r):ZZ k i j 0 g zj ρ=r:=by
 unfold ZZ;rw[h];exact a
theorem Qr {k:Kd}(f:k.Ok 3)(a:k.all.length<=500):mJ [] [k.t]=.ok (.non,sv k.t [.lst k.all] [] []):=by
 show wD 101 2 (sQ xa [.ob 101 0,.vl k.t,.st [(101,[])]])=_;have e:z9 (za 1 xa (z9 (vE 1) zj)) zj [.ob 101 0,.vl k.t,.st [(101,[("kind",.tv k.t)])]]=.ok [.lst k.all]:=by
  show ((za 1 xa (z9 (vE 1) zj)) _).bind _=_;rw[zG,v1,af,Wo f a];rfl
 have i:QU 101 0 2 "remaining" (z9 (za 1 xa (z9 (vE 1) zj)) zj) [.ob 101 0,.vl k.t,.st [(101,[("kind",.tv k.t)])]]=.nx [.ob 101 0,.vl k.t,.st [(101,[("kind",.tv k.t),("remaining",.tl [.lst k.all])])]]:=by
  unfold QU;rw[e];rfl
 unfold sQ;show wD 101 2 (match QU 101 0 2 "remaining" (z9 (za 1 xa (z9 (vE 1) zj)) zj) [.ob 101 0,.vl k.t,.st [(101,[("kind",.tv k.t)])]]with
  |.nx d=>_
  |.ex c=>.ex c
  |_=>.bad)=_
 rw[i];rfl
def U6 (b:Bool)(r:Ru)(ws:List T):List T:=ws.filter λx=>kp r x==b
noncomputable def dw (b:Bool):Str:=if b then "keep"else "bar"
def lp (b:Bool)(r:Ru):T:=.tup [.str (dw b),r.t]
theorem kw (b:Bool):iQ (.str (dw b)) (.str "keep")=.ok b:=by cases b<;>rfl
theorem DA (a b:Bool):iQ (.bl a) (.bl b)=.ok (a==b):=by cases a<;>cases b<;>rfl
theorem rT {i:Nat}{b:Bool}{r:Ru}{ρ:En}(h:vE i ρ=.ok (lp b r)):zd fr (vE i) (cE (.int 0)) ρ=.ok (.str (dw b)):=D0 h
theorem sR {i:Nat}{b:Bool}{r:Ru}{ρ:En}(h:vE i ρ=.ok (lp b r)):zd fr (vE i) (cE (.int 1)) ρ=.ok r.t:=Er h
theorem yO {b:Bool}{r:Ru}(hr:Zk 3 r){ws:List T}(f:∀x∈ws,W 2 x)(j:ws.length<=iT):GY [lp b r,.lst ws]=.ok (.lst (U6 b r ws)):=by
 show zw (rk (pS 8) [.vl (lp b r),.vl (.lst ws),.un])=_;have d:zH 2 (ZD iQ (zd fr (vE 0) (cE (.int 0))) (cE (.str "keep"))) [.vl (lp b r),.vl (.lst ws),.un]=.nx [.vl (lp b r),.vl (.lst ws),.vl (.bl b)]:=by
  rw[zD (t:=.bl b)]
  ·rfl
  ·rw[Zq,rT rfl,af,zY,af,kw,af]
 have i:zK (zI 0) (zB iQ (za 2 (pS 8) (z9 (zd fr (vE 1) (cE (.int 1))) (z9 (vE 0) (zj)))) (vB 2)) (vE 0) 1 [0,2] [.vl (lp b r),.vl (.lst ws),.vl (.bl b)] ws=.ok (U6 b r ws):=
  ZI _ j λt a=>⟨by
   show zB iQ _ _ [.vl t,.vl (lp b r),.vl (.bl b)]=_;rw[zN,zW,sR (b:=b) rfl,af,v0,af,yN (f t a) hr,af];exact DA _ _,rfl⟩
 rw[rk,zb d,zq (t:=.lst (U6 b r ws))]
 ·rfl
 ·show zL _ _ _ _ _ _ [.vl (lp b r),.vl (.lst ws),.vl (.bl b)]=_;rw[Z5,jm,v1,af];show ((zK _ _ _ _ _ _ ws).bind _)=_;rw[i,af]
theorem Qs {b:Bool}{r:Ru}{d:Nat}(hd:d<=3)(hr:Zk d r){ws:List T}(j:∀x∈ws,W 2 x)(a:ws.length<=iT):Kh [.lst ws,lp b r]=.ok (.lst (U6 b r ws)):=by
 show zw (rn (o7 8) (lg (.lst ws) (lp b r)))=_;have k:zK (zI 0) (zB iQ (za 2 (o7 8) (z9 (zd fr (vE 1) (cE (.int 1))) (z9 (vE 0) (zj)))) (ZD iQ (zd fr (vE 1) (cE (.int 0))) (cE (.str "keep")))) (vE 0) 1 [1] (lg (.lst ws) (lp b r)) ws=.ok (U6 b r ws):=
  ZI _ a λt f=>⟨by
   show zB iQ _ _ (lg t (lp b r))=_;have i:o7 8 [r.t,t]=.ok (.bl (kp r t)):=jx (by lia) (j t f) 8 d (by lia) r hr
   rw[zN,zW,sR (b:=b) rfl,af,v0,af,i,af,Zq,rT (r:=r) rfl,af,zY,af,kw,af,af,DA],rfl⟩
 rw[rn,zq (t:=.lst (U6 b r ws))]
 ·rfl
 ·show zL _ _ _ _ _ _ (lg (.lst ws) (lp b r))=_;rw[Z5,jm,v0,af];show ((zK _ _ _ _ _ _ ws).bind _)=_;rw[k,af]
theorem Wp {t:T}{rs ds us:List T}:mO (sv t rs ds us) []=.ok (.lst ds):=rfl
theorem kA {k i j n:Nat}{f:Str}{fa:En->R T}{ρ:En}{fs:List (Str×Fd)}{os:List Ob}{ts:List T}{t:T}(h:lI k i j ρ=some (n,fs,os))(l:fs.lookup f=some (.tl ts))(a:fa ρ=.ok t)(d:ts.length<iT):x6 k i j f fa ρ=.nx (ρ.set j (.st (os.set n (k,uf f (.tl (ts++[t])) fs)))):=by
 unfold x6;rw[h];dsimp only;rw[l];dsimp only;rw[a,ZF,if_pos d]
theorem uz {k i j n nn:Nat}{m:Str}{g:List (Str×Fd)->List T->R (T×List (Str×Fd))}{ga:En->R (List T)}{ρ:En}{fs a:List (Str×Fd)}{os:List Ob}{ts:List T}{t:T}(h:lI k i j ρ=some (n,fs,os))(d:fs.lookup m=none)(l:ga ρ=.ok ts)(hn:ts.length=nn)(f:g fs ts=.ok (t,a)):wg k i j m nn g ga ρ=.ok (t,ρ.set j (.st (os.set n (k,a)))):=by
 unfold wg;rw[h];dsimp only;rw[d,if_pos (show (none:Option Fd).isNone=true from rfl),l,af,if_pos hn,f];rfl
theorem uA {t:T}{rs ds us:List T}(m:Str)(h:(m==("kind":Str)||(m==("remaining":Str)||(m==("done":Str)||m==("undone":Str))))=false):(sv t rs ds us).lookup m=none:=by
 simp only[dF]at h;obtain⟨a,b,c,d⟩:=h;simp only[sv,aM,a,b,c,d];rfl
theorem Zv {f:En->RS}{g:En->R (T×En)}{ρ a:En}(h:f ρ=.nx a):j8 f g ρ=g a:=by unfold j8;rw[h]
theorem C8 {f:En->R T}{ρ:En}{x:T}(a:f ρ=.ok x):z9 f zj ρ=.ok [x]:=by
 show ((f ρ).bind λt=>(R.ok []).bind λts=>R.ok (t::ts))=_;rw[a];rfl
theorem kB {b:Bool}{r:Ru}{a c s:Sl}:z9 (Zm (z9 (vE 1) (z9 (vE 2) zj))) zj [a,.vl (.str (dw b)),.vl r.t,c,s]=.ok [lp b r]:=rfl
theorem Ib {y:T}{a c:Sl}:z9 (cE (.str "keep")) (z9 (vE 1) zj) [a,.vl y,c]=.ok [.str (dw true),y]:=by
 rw[show dw true="keep" from if_pos rfl];rfl
theorem DM {y:T}{a c:Sl}:z9 (cE (.str "bar")) (z9 (vE 1) zj) [a,.vl y,c]=.ok [.str (dw false),y]:=by
 rw[show dw false="bar" from if_neg ay];rfl
theorem nG {a:Sl}(fs:List (Str×Fd)):lI 101 0 2 [.ob 101 0,a,.st [(101,fs)]]=some (0,fs,[(101,fs)]):=rfl
theorem Dy {a b c:Sl}(fs:List (Str×Fd)):lI 101 0 4 [.ob 101 0,a,b,c,.st [(101,fs)]]=some (0,fs,[(101,fs)]):=rfl
theorem Eb (fs:List (Str×Fd))(x:T):mB fs [x]=wD 101 2 (tU GY [.ob 101 0,.vl x,.st [(101,fs)]]):=rfl
theorem DS (fs:List (Str×Fd))(x y:T):k9 fs [x,y]=wD 101 4 (rR k8 GW mB [.ob 101 0,.vl x,.vl y,.un,.st [(101,fs)]]):=rfl
theorem kC (fs:List (Str×Fd))(x:T):GZ fs [x]=wD 101 2 (wg 101 0 2 "new_step" 2 k9 (z9 (cE (.str "keep")) (z9 (vE 1) zj)) [.ob 101 0,.vl x,.st [(101,fs)]]):=rfl
theorem Fv (fs:List (Str×Fd))(x:T):oR fs [x]=wD 101 2 (wg 101 0 2 "new_step" 2 k9 (z9 (cE (.str "bar")) (z9 (vE 1) zj)) [.ob 101 0,.vl x,.st [(101,fs)]]):=rfl
theorem sr (fs:List (Str×Fd))(x t:T):wD 101 2 (.ok (t,[.ob 101 0,.vl x,.st [(101,fs)]]))=.ok (t,fs):=rfl
section
variable {k:Kd}{t:T}{rs ds us ws:List T}{b:Bool}{r:Ru}
abbrev my (t:T)(rs ds us ws:List T)(b:Bool)(r:Ru):List (Str×Fd):=sv t ((rs++[.lst ws])++[.lst (U6 b r ws)]) (ds++[lp b r]) us
theorem CV (hr:Zk 3 r)(d:∀x∈ws,W 2 x)(q:ws.length<=1000)(u:rs.length<=1000)(p:ds.length<=1000):mB (sv t (rs++[.lst ws]) ds us) [lp b r]=.ok (.non,my t rs ds us ws b r):=by
 have o:iT=16777216:=rfl;rw[Eb];have a:=kA (k:=101) (i:=0) (j:=2) (f:="remaining") (fa:=za 2 GY (z9 (vE 1) (z9 (n9 101 0 2 "remaining" (J8 (cE (.int 1)))) (zj)))) (ρ:=[.ob 101 0,.vl (lp b r),.st [(101,sv t (rs++[.lst ws]) ds us)]]) (t:=.lst (U6 b r ws)) rfl rfl
  (by rw[zW,v1,af,Cz (rs:=rs) (w:=.lst ws) rfl rfl,af,yO hr d (by lia)]) (by rw[ae,aL];lia)
 have l:=kA (k:=101) (i:=0) (j:=2) (f:="done") (fa:=vE 1) (ρ:=[.ob 101 0,.vl (lp b r),.st [(101,sv t ((rs++[.lst ws])++[.lst (U6 b r ws)]) ds us)]]) (ts:=ds) (t:=lp b r) rfl rfl rfl (by lia)
 unfold tU;rw[Zv a];show wD 101 2 (j8 _ _ [.ob 101 0,.vl (lp b r),.st [(101,sv t ((rs++[.lst ws])++[.lst (U6 b r ws)]) ds us)]])=_;rw[Zv l];rfl
theorem xr (hr:Zk 3 r)(j:∀x∈ws,W 2 x)(v:ws.length<=1000)(y:rs.length<=1000)(u:ds.length<=1000):k9 (sv t (rs++[.lst ws]) ds us) [.str (dw b),r.t]=.ok (.int ((ws.length:Int)-((U6 b r ws).length:Int)),my t rs ds [] ws b r):=by
 rw[DS];have f:JJ (za 1 k8 (z9 (vE 2) zj)) [.ob 101 0,.vl (.str (dw b)),.vl r.t,.un,.st [(101,sv t (rs++[.lst ws]) ds us)]]=.nx [.ob 101 0,.vl (.str (dw b)),.vl r.t,.un,.st [(101,sv t (rs++[.lst ws]) ds us)]]:=jI (t:=.non) (by rw[zG];exact Jl hr)
 have p:zH 3 (ZZ 101 0 4 0 GW zj) [.ob 101 0,.vl (.str (dw b)),.vl r.t,.un,.st [(101,sv t (rs++[.lst ws]) ds us)]]=.nx [.ob 101 0,.vl (.str (dw b)),.vl r.t,.vl (.int (ws.length:Int)),.st [(101,sv t (rs++[.lst ws]) ds us)]]:=by
  rw[zD (t:=.int (ws.length:Int))]
  ·rfl
  ·exact jd rfl (Qq (rs:=rs) rfl)
 have q:=CV (t:=t) (rs:=rs) (ds:=ds) (ws:=ws) (b:=b) (us:=us) hr j v y u;have d:(sv t (rs++[.lst ws]) ds us).lookup ("do_step":Str)=none:=uA _ (by decide+kernel)
 have m:=uz (nn:=1) (Dy (a:=.vl (.str (dw b))) (b:=.vl r.t) (c:=.vl (.int (ws.length:Int))) (sv t (rs++[.lst ws]) ds us)) d kB rfl q;have l:lS (wg 101 0 4 "do_step" 1 mB (z9 (Zm (z9 (vE 1) (z9 (vE 2) (zj)))) (zj))) [.ob 101 0,.vl (.str (dw b)),.vl r.t,.vl (.int (ws.length:Int)),.st [(101,sv t (rs++[.lst ws]) ds us)]]=.nx [.ob 101 0,.vl (.str (dw b)),.vl r.t,.vl (.int (ws.length:Int)),.st [(101,my t rs ds us ws b r)]]:=by
  unfold lS;rw[m];rfl
 have o:QU 101 0 4 "undone" zj [.ob 101 0,.vl (.str (dw b)),.vl r.t,.vl (.int (ws.length:Int)),.st [(101,my t rs ds us ws b r)]]=.nx [.ob 101 0,.vl (.str (dw b)),.vl r.t,.vl (.int (ws.length:Int)),.st [(101,my t rs ds [] ws b r)]]:=by
  unfold QU;rw[Dy];rfl
 unfold rR;rw[Zv f,Zv p,Zv l,Zv o];unfold VZ;have i:vE 3 [.ob 101 0,.vl (.str (dw b)),.vl r.t,.vl (.int (ws.length:Int)),.st [(101,my t rs ds [] ws b r)]]=.ok (.int (ws.length:Int)):=rfl;rw[zu,i,af,jd (fs:=my t rs ds [] ws b r) rfl (Qq (rs:=rs++[.lst ws]) rfl)];rfl
theorem kD (hr:Zk 3 r)(d:∀x∈ws,W 2 x)(j:ws.length<=1000)(l:rs.length<=1000)(i:ds.length<=1000):GZ (sv t (rs++[.lst ws]) ds us) [r.t]=.ok (.int ((ws.length:Int)-((U6 true r ws).length:Int)),my t rs ds [] ws true r):=by
 have f:=xr (t:=t) (rs:=rs) (ds:=ds) (ws:=ws) (b:=true) (us:=us) hr d j l i;have a:(sv t (rs++[.lst ws]) ds us).lookup ("new_step":Str)=none:=uA _ (by decide+kernel)
 rw[kC,uz (nn:=2) (nG _) a Ib rfl f];exact sr _ _ _
theorem HH (hr:Zk 3 r)(d:∀x∈ws,W 2 x)(j:ws.length<=1000)(l:rs.length<=1000)(i:ds.length<=1000):oR (sv t (rs++[.lst ws]) ds us) [r.t]=.ok (.int ((ws.length:Int)-((U6 false r ws).length:Int)),my t rs ds [] ws false r):=by
 have f:=xr (t:=t) (rs:=rs) (ds:=ds) (ws:=ws) (b:=false) (us:=us) hr d j l i;have a:(sv t (rs++[.lst ws]) ds us).lookup ("new_step":Str)=none:=uA _ (by decide+kernel)
 rw[Fv,uz (nn:=2) (nG _) a DM rfl f];exact sr _ _ _
theorem Vo {a:Type}(xs:List a)(x:a):(xs++[x]).dropLast=xs:=List.dropLast_concat
theorem kF {a:Type}(xs:List a)(x:a):(xs++[x])[(xs++[x]).length-1]?=some x:=by
 rw[ae,aL,Nat.add_sub_cancel,az (au _),dz];rfl
theorem CN {k i j n:Nat}{f:Str}{ρ:En}{fs:List (Str×Fd)}{os:List Ob}{ts:List T}{t:T}(h:lI k i j ρ=some (n,fs,os))(a:fs.lookup f=some (.tl (ts++[t]))):x8 k i j f ρ=.ok (t,ρ.set j (.st (os.set n (k,uf f (.tl ts) fs)))):=by
 unfold x8;rw[h];dsimp only;rw[a];dsimp only;rw[kF];dsimp only;rw[Vo]
theorem Fm (fs:List (Str×Fd))(x:T):QW fs [x]=wD 101 2 (sS GZ oR [.ob 101 0,.vl x,.st [(101,fs)]]):=rfl
theorem EV (hr:Zk 3 r)(d:∀x∈ws,W 2 x)(i:ws.length<=1000)(j:rs.length<=1000)(f:ds.length<=1000):QW (sv t (rs++[.lst ws]) ds us) [lp b r]=.ok (.int ((ws.length:Int)-((U6 b r ws).length:Int)),my t rs ds [] ws b r):=by
 have a:z9 (zd fr (vE 1) (cE (.int 1))) zj [.ob 101 0,.vl (lp b r),.st [(101,sv t (rs++[.lst ws]) ds us)]]=.ok [r.t]:=C8 (sR (b:=b) rfl);have o:(sv t (rs++[.lst ws]) ds us).lookup ("keep":Str)=none:=uA _ (by decide+kernel)
 have l:(sv t (rs++[.lst ws]) ds us).lookup ("bar":Str)=none:=uA _ (by decide+kernel)
 rw[Fm];unfold sS Ca;rw[zN,rT (b:=b) (r:=r) rfl,af,zY,af,kw,af];cases b with
 |true=>rw[if_pos rfl,uz (nn:=1) (nG _) o a rfl (kD (us:=us) hr d i j f)];exact sr _ _ _
 |false=>rw[if_neg ay,uz (nn:=1) (nG _) l a rfl (HH (us:=us) hr d i j f)];exact sr _ _ _
theorem kG {w:T}(l:us.length<=1000):xb (sv t (rs++[w]) (ds++[lp b r]) us) []=.ok (.str (dw b),sv t rs ds (us++[lp b r])):=by
 have j:iT=16777216:=rfl;show wD 101 2 (ro [.ob 101 0,.un,.st [(101,sv t (rs++[w]) (ds++[lp b r]) us)]])=_;have f:iS (zB iQ (gx Zb (tZ 101 0 2 "done")) (cE (.int 0))) W4 iR [.ob 101 0,.un,.st [(101,sv t (rs++[w]) (ds++[lp b r]) us)]]=.nx [.ob 101 0,.un,.st [(101,sv t (rs++[w]) (ds++[lp b r]) us)]]:=by
  refine zt ?_;show R.ok ((((ds++[lp b r]).length:Nat):Int)==0)=_;rw[ae,aL,beq_eq_false_iff_ne.mpr (by lia)]
 have i:pR 1 (x8 101 0 2 "done") [.ob 101 0,.un,.st [(101,sv t (rs++[w]) (ds++[lp b r]) us)]]=.nx [.ob 101 0,.vl (lp b r),.st [(101,sv t (rs++[w]) ds us)]]:=by
  unfold pR;rw[CN (nG _) rfl];rfl
 have d:lS (x8 101 0 2 "remaining") [.ob 101 0,.vl (lp b r),.st [(101,sv t (rs++[w]) ds us)]]=.nx [.ob 101 0,.vl (lp b r),.st [(101,sv t rs ds us)]]:=by
  unfold lS;rw[CN (nG _) rfl];rfl
 have a:x6 101 0 2 "undone" (vE 1) [.ob 101 0,.vl (lp b r),.st [(101,sv t rs ds us)]]=.nx [.ob 101 0,.vl (lp b r),.st [(101,sv t rs ds (us++[lp b r]))]]:=by
  rw[kA (nG _) (ts:=us) (t:=lp b r) rfl rfl (by lia)];rfl
 unfold ro;rw[Zv f,Zv i,Zv d,Zv a];rfl
end
noncomputable def S (l:List Nat):Str:=⟨l.toArray⟩
theorem Zl (l:List Nat):(S l).cps.toList=l:=by simp[S]
theorem Z2 (l:List Nat):(S l).length=l.length:=by simp[S,iK]
theorem yP (a b:List Nat):S a++S b=S (a++b):=Str.ext' (by simp[S,Str.cps_append])
theorem Vp (x:Str):S x.cps.toList=x:=Str.ext' (by simp[S])
theorem Dg {a b:List Nat}(h:S a=S b):a=b:=by rw[←Zl a,h,Zl]
noncomputable def jn (m:List Nat):List (List Nat)->List Nat
 |[]=>[]
 |[x]=>x
 |x::y::r=>x++(m++jn m (y::r))
theorem Qt (m:List Nat):∀ls:List (List Nat),Str.join (S m) (ls.map S)=S (jn m ls)
 |[]=>rfl
 |[x]=>rfl
 |x::y::r=>by
  show S x++S m++Str.join (S m) ((y::r).map S)=_;rw[Qt m (y::r),yP,yP,aQ];rfl
theorem oQ (m:List Nat):∀ls:List (List Nat),(ls.map (·.length)).sum<=(jn m ls).length
 |[]=>by simp
 |[w]=>by simp[jn]
 |w::v::r=>by
  have:=oQ m (v::r);simp only[jn,aK,dg,ae]at this⊢;lia
theorem y0 (B:Nat)(m:List Nat):∀ls:List (List Nat),(∀x∈ls,x.length<=B)->(jn m ls).length<=ls.length*(B+m.length)
 |[],_=>by simp[jn]
 |[x],h=>by have:=h x aj;simp only[jn,ac,ao];lia
 |x::y::r,h=>by
  have i:=h x aj;have f:=y0 B m (y::r) λz d=>h z (ai _ d);rw[ac (a:=x),fG];simp only[jn,ae]at f⊢;lia
theorem Qu {c:Nat}:∀{a b r s:List Nat},c∉a->c∉b->a++c::r=b++c::s->a=b/\r=s
 |[],[],_,_,_,_,h=>⟨rfl,by simpa using h⟩
 |[],y::b,_,_,_,d,h=>by
  injection h with h1 h2;exact absurd (h1▸aj) d
 |x::a,[],_,_,f,_,h=>by
  injection h with h1 h2;exact absurd (h1▸aj) f
 |x::a,y::b,_,_,f,d,h=>by
  injection h with h1 h2;obtain⟨i,j⟩:=Qu (λz=>f (ai _ z)) (λz=>d (ai _ z)) h2;exact⟨by rw[h1,i],j⟩
theorem xt {q:Nat}:∀(a b:List (List Nat)),a≠[]->b≠[]->(∀x∈a,q∉x)->(∀x∈b,q∉x)->jn [q] a=jn [q] b->a=b
 |[],_,h,_,_,_,_=>absurd rfl h
 |_::_,[],_,h,_,_,_=>absurd rfl h
 |[x],[y],_,_,_,_,h=>by rw[show x=y from h]
 |[x],y::z::r,_,_,f,_,h=>by
  have h:x=y++q::jn [q] (z::r):=h;exact absurd (by rw[h];simp) (f x aj)
 |x::w::u,[y],_,_,_,d,h=>by
  have h:x++q::jn [q] (w::u)=y:=h;exact absurd (by rw[←h];simp) (d y aj)
 |x::w::u,y::z::r,_,_,f,d,h=>by
  obtain⟨j,k⟩:=Qu (f x aj) (d y aj) (show x++q::jn [q] (w::u)=y++q::jn [q] (z::r) from h);have:=xt (w::u) (z::r) (b7 _ _) (b7 _ _) (λx i=>f x (ai _ i)) (λx i=>d x (ai _ i)) k;rw[j,this]
theorem kH {q:Nat}{ls:List (List Nat)}(h:ls≠[])(l:∀x∈ls,q∉x):d4 (S (jn [q] ls)) (S [q])=ls.map S:=by
 have a:=StrLaws.join_split (S (jn [q] ls)) (S [q]);have i:∀p∈d4 (S (jn [q] ls)) (S [q]),q∉p.cps.toList:=StrLaws.split_free (S (jn [q] ls)) q;have d:1<=(d4 (S (jn [q] ls)) (S [q])).length:=PyProof.Rows.split_pos _ _;generalize d4 (S (jn [q] ls)) (S [q])=P at a i d;have f:P=(P.map λp=>p.cps.toList).map S:=by
  rw[aS];exact(List.map_id'' (λp=>Vp p) P).symm
 rw[f,Qt]at a;have j:=xt (P.map λp=>p.cps.toList) ls (λz=>by rw[cn.mp z]at d;exact absurd d (by decide)) h (λx k=>by
  obtain⟨p,hp,rfl⟩:=aF.mp k;exact i p hp) l (Dg a)
 rw[f,j]
theorem xu (l m:List Nat)(i:Nat):fU (S l) (S m) (S l).length i↔i+m.length<=l.length/\(l.drop i).take m.length=m:=by
 unfold fU;rw[d6,Z2,Z2,Zl,Zl,beq_iff_eq]
theorem Qv (a m b:List Nat):fU (S (a++m++b)) (S m) (S (a++m++b)).length a.length:=by
 rw[xu];refine⟨by simp,?_⟩
 rw[aQ,cW,cX]
theorem U7 {l m:List Nat}{c i:Nat}(h:fU (S l) (S (c::m)) (S l).length i):l[i]?=some c:=by
 rw[xu]at h;have a:(l.drop i)[0]?=some c:=by
  have:((l.drop i).take (c::m).length)[0]?=some c:=by rw[h.2];rfl
  rw[List.getElem?_take]at this;simpa using this
 simpa using a
theorem Vq (l:List Nat)(i j:Nat):bZ (S l) i j=S ((l.drop i).take (j-i)):=by
 rw[←Vp (bZ (S l) i j),StrLaws.strSub_toList,Zl]
theorem y9 {c:Nat}{m a b:List Nat}(h:c∉a):bc (S (a++(c::m)++b)) (S (c::m))=(S a,S (c::m),S b):=by
 have d:=Qv a (c::m) b;unfold bc;rcases iu (S (a++(c::m)++b)) (S (c::m)) 1 (au _)with ⟨_,j⟩|⟨i,r,e,hi,hn⟩
 ·exact absurd d (j _)
 ·rw[e];have k:i=a.length:=by
   rcases i6 i a.length with z|z|z
   ·have:=U7 hi;rw[aQ,aD z]at this;exact absurd (cb this) h
   ·exact z
   ·exact absurd d (hn _ z)
  subst k;show (bZ _ 0 a.length,S (c::m),bZ _ (a.length+(S (c::m)).length) _)=_;rw[Vq,Vq,Z2,Z2];have f:(ix 0 (a++c::m++b)).take (a.length-0)=a:=by
   rw[cy,i5,aQ,cX]
  have l:(ix (a.length+(c::m).length) (a++c::m++b)).take ((a++c::m++b).length-(a.length+(c::m).length))=b:=by
   rw[show a.length+(c::m).length=(a++c::m).length by simp,cW]
   exact bK (by simp;lia)
  rw[f,l]
theorem kI {c:Nat}{a b:List Nat}(h:c∉b):br (S (a++c::b)) (S [c])=(S a,S [c],S b):=by
 have d:=Qv a [c] b;rw[show a++[c]++b=a++c::b by simp]at d
 unfold br;rcases StrLaws.last_spec (S (a++c::b)) (S [c])with ⟨_,j⟩|⟨i,e,hi,hn⟩
 ·exact absurd d (j _)
 ·rw[e];have k:i=a.length:=by
   rcases i6 i a.length with z|z|z
   ·exact absurd d (hn _ z)
   ·exact z
   ·have:=U7 hi;rw[az (by lia),show i-a.length=(i-a.length-1)+1 by lia,bP]at this
    exact absurd (cb this) h
  subst k;show (bZ _ 0 a.length,S [c],bZ _ (a.length+(S [c]).length) _)=_;rw[Vq,Vq,Z2,Z2];have f:(ix 0 (a++c::b)).take (a.length-0)=a:=by
   rw[cy,i5,cX]
  have l:(ix (a.length+[c].length) (a++c::b)).take ((a++c::b).length-(a.length+[c].length))=b:=by
   rw[show a++c::b=(a++[c])++b by simp,show a.length+[c].length=(a++[c]).length by simp,cW]
   exact bK (by simp;lia)
  rw[f,l]
theorem Hs (c d:Nat)(l:List Nat):cA (S (c::l)) (S [d])=(c==d):=by
 unfold cA;rw[d6,Z2,Z2,Zl,Zl];simp
theorem Dj (c:Nat)(l:List Nat):dv (S (l++[c])) (S [c])=true:=by
 unfold dv;rw[d6,Z2,Z2,Zl,Zl];simp
theorem C5 {l:List Nat}{a b:Nat}(f:a<=b)(d:b<=l.length):bO (S l) (some (a:Int)) (some (b:Int))=S ((l.drop a).take (b-a)):=by
 have:=StrLaws.sliceText_nat (S l) f (by rw[Z2];exact d)
 rw[Zl]at this;exact this
theorem Qw {l:List Nat}{a:Nat}(h:a<=l.length):bO (S l) (some (a:Int)) none=S (l.drop a):=by
 have:=StrLaws.sliceText_from (x:=S l) (i:=(a:Int)) ⟨by lia,by rw[Zl];lia⟩
 rw[Zl]at this;refine iP this ?_;show S _=S _;congr 1
 rw[show ((a:Int)).toNat=a by lia]
 exact bK (by simp)
theorem kJ {l:List Nat}{a d:Nat}(f:a<=l.length):bO (S (l++[d])) (some (a:Int)) (some (-1))=S (l.drop a):=by
 have e:bO (S (l++[d])) (some (a:Int)) (some (-1))=bO (S (l++[d])) (some (a:Int)) (some (-1+(S (l++[d])).length)):=eL _ _ (by decide) (by rw[Z2];simp;lia)
 rw[e,Z2,show (-1+((l++[d]).length:Nat):Int)=(l.length:Int) by simp;lia,C5 f (by simp),List.drop_append_of_le_length f,dE (by simp)]
 exact congrArg S (bK (by simp))
theorem C4 {l m:List Nat}{i:Nat}:cP (S l) (S m) (i:Int)=(decide (i+m.length<=l.length)&&((l.drop i).take m.length==m)):=by
 unfold cP;have e:fromIndex (S l).length (i:Int)=i:=by
  unfold fromIndex;rw[if_neg (by lia)]
  lia
 rw[e,d6,Z2,Z2,Zl,Zl]
theorem kK {c:Nat}{m a:List Nat}(h:c∉a):bc (S a) (S (c::m))=(S a,cY,cY):=by
 unfold bc;rcases iu (S a) (S (c::m)) 1 (au _)with ⟨e,_⟩|⟨i,r,e,hi,_⟩
 ·rw[e]
 ·exact absurd (cb (U7 hi)) h
theorem kL (a b:List Nat):(S a==S b)=decide (a=b):=by
 by_cases h:a=b
 ·simp[h]
 ·rw[decide_eq_false h,beq_eq_false_iff_ne];exact λz=>h (Dg z)
def nl (i:Int):List Nat:=(vS i).cps.toList
theorem oY (i:Int):vS i=S (nl i):=(Vp _).symm
def CQ (i:Int):Bool:=decide ((nl i).length<=3)&& !(nl i).isEmpty&&(nl i).all (λc=>c==45||(decide (48<=c)&&decide (c<=57)))&&decide (n6 (vS i)=some i)
theorem Ho:∀k<101,CQ ((k:Nat)-50:Int)=true:=by decide+kernel
noncomputable abbrev ya (i:Int):Prop:= -50<=i/\i<=50
theorem Qx {i:Int}(h:ya i):(nl i).length<=3/\nl i≠[]/\(∀c∈nl i,c=45\/(48<=c/\c<=57))/\n6 (vS i)=some i:=by
 have:=Ho (i+50).toNat (by lia)
 rw[show (((i+50).toNat:Nat)-50:Int)=i by lia]at this
 unfold CQ at this;simp at this;exact⟨this.1.1.1,this.1.1.2,this.1.2,this.2⟩
theorem Wq {x:Str}(h:Zf (.str x)=true):x.cps.toList.length<=3:=by
 have h:(decide (1<=x.length)&&decide (x.length<=3)&&x.cps.toList.all Zo)=true:=h;rw[ar,ar]at h;have:=of_decide_eq_true h.1.2;simpa[iK]using this
theorem Wr {x:Str}(h:Zf (.str x)=true):∀c∈x.cps.toList,97<=c/\c<=122:=by
 have h:(decide (1<=x.length)&&decide (x.length<=3)&&x.cps.toList.all Zo)=true:=h;rw[ar]at h;intro c a;have:=aU.mp h.2 c a;unfold Zo at this;simp at this;exact this
theorem jW {i:Int}(h:i.natAbs<1000000):me (.int i)=some (S (nl i)):=by rw[←oY];exact if_pos h
theorem wM {x:Str}{l:List Nat}(e:x=S l)(h:l.length<=6):me (.str x)=some (S l):=by
 subst e;exact if_pos (by rw[Z2];lia)
theorem yW:iT=16777216:=rfl
theorem DI {z:List Nat}{fa a:En->R T}{ρ:En}{t u:T}{x y:List Nat}(j:fa ρ=.ok t)(i:a ρ=.ok u)(f:me t=some (S x))(hy:me u=some (S y))(d:(x++z++y).length<=1000):nD (S z) fa a ρ=.ok (.str (S (x++z++y))):=by
 unfold nD tz;have:=yW;rw[j,af,f];dsimp only;rw[if_pos (by rw[yP,Z2];rw[ae]at d;lia),i,af,hy]
 dsimp only;rw[yP,yP];exact if_pos (by rw[Z2];lia)
theorem j4 {f g:En->R T}{ρ:En}{a b:List Nat}(d:f ρ=.ok (.str (S a)))(i:g ρ=.ok (.str (S b)))(j:a.length+b.length<=10000):zd zv f g ρ=.ok (.str (S (a++b))):=by
 rw[zu,d,af,i,af,←yP];exact if_pos (by rw[Z2,Z2];have:=yW;lia)
theorem xv:∀ls:List (List Nat),uQ (ls.map λl=>T.str (S l))=some (ls.map S)
 |[]=>rfl
 |l::r=>by
  rw[aK];unfold uQ;rw[xv r];rfl
theorem wa {f:En->R T}{ρ:En}{ls:List (List Nat)}{m:List Nat}(i:f ρ=.ok (.lst (ls.map λl=>T.str (S l))))(d:m.length<=2)(j:ls.length<=100)(k:(jn m ls).length<=10000):gx (jA (S m)) f ρ=.ok (.str (S (jn m ls))):=by
 rw[ZU,i,af];show (match uQ (ls.map λl=>T.str (S l))with|some a=>if (a.map λ(y:Str)=>y.length).sum+a.length*(S m).length<=16777216 then R.ok (T.str (Txt.join (S m) a))else .bad|none=>.bad)=_
 rw[xv];dsimp only;have e:((ls.map S).map (·.length))=ls.map (·.length):=by
  rw[aS];exact ck λl _=>Z2 l
 have:=oQ m ls;have:=bY j d;rw[e,ah,Z2,if_pos (by lia)]
 show R.ok (T.str (Builtin.Str.glued (S m) (ls.map S)))=_;rw[StrLaws.glued_eq_join,Qt]
theorem t9 {f:En->R T}{ρ:En}{ts:List T}(h:f ρ=.ok (.tup ts)):Z9 f ρ=.ok ts:=by
 show (f ρ).bind jP=_;rw[h];rfl
theorem pX {f:En->R T}{ρ:En}{ts:List T}(h:f ρ=.ok (.lst ts)):Z9 f ρ=.ok ts:=by
 show (f ρ).bind jP=_;rw[h];rfl
theorem jq {fi:En->R (List T)}{g:T->En->R En}{fe:En->R T}{k:Nat}{js:List Nat}{ρ:En}{ts vs:List T}(hi:fi ρ=.ok ts)(a:ts.length<=100)(h:zQ g Z1 fe ts (WC k js ρ)=.ok vs):zL fi g Z1 fe k js ρ=.ok (.lst vs):=by
 rw[Z5,hi,af];unfold zK;rw[if_pos (show ts.length<=iT by have:=yW;lia),h]
 rfl
theorem wt {i:Type}{fe:En->R T}{ex:En}(f g:i->T):∀(d:List i) (x:Sl),(∀a∈d,fe (.vl (f a)::ex)=.ok (g a))->zQ (zI 0) Z1 fe (d.map f) (x::ex)=.ok (d.map g)
 |[],_,_=>rfl
 |a::d,x,h=>by
  have e:zQ (zI 0) Z1 fe ((a::d).map f) (x::ex)=(fe (.vl (f a)::ex)).bind λv=>(zQ (zI 0) Z1 fe (d.map f) (.vl (f a)::ex)).bind λvs=>.ok (v::vs):=rfl;rw[e,h a aj,af,wt f g d _ λb j=>h b (ai _ j)];rfl
theorem kM {j:Type}{fe:En->R T}(f i g:j->T):∀(d:List j) (x y:Sl),(∀a∈d,fe [.vl (f a),.vl (i a)]=.ok (g a))->zQ (zV 0 1) Z1 fe (d.map λa=>.tup [f a,i a]) [x,y]=.ok (d.map g)
 |[],_,_,_=>rfl
 |a::d,x,y,h=>by
  have e:zQ (zV 0 1) Z1 fe ((a::d).map λa=>.tup [f a,i a]) [x,y]=(fe [.vl (f a),.vl (i a)]).bind λv=>(zQ (zV 0 1) Z1 fe (d.map λa=>.tup [f a,i a]) [.vl (f a),.vl (i a)]).bind λvs=>.ok (v::vs):=rfl;rw[e,h a aj,af,kM f i g d _ _ λb k=>h b (ai _ k)];rfl
theorem pb {f:En->R T}{ρ:En}{t:T}{x:Str}(h:f ρ=.ok t)(a:me t=some x):gx ub f ρ=.ok (.str x):=by
 rw[ZU,h,af];unfold ub;rw[a]
theorem wb {f:En->R T}{ρ:En}{ts:List T}(h:f ρ=.ok (.lst ts)):gx QP f ρ=.ok (.tup ts):=by
 rw[ZU,h,af];rfl
theorem Ws {f g:En->R T}{ρ:En}{xs a:List T}(d:f ρ=.ok (.tup xs))(i:g ρ=.ok (.tup a))(h:xs.length+a.length<=100):zd zv f g ρ=.ok (.tup (xs++a)):=by
 rw[zu,d,af,i,af];exact if_pos (by have:=yW;lia)
theorem xw {g:List T->R T}{f i a:En->R T}{ρ:En}{x y z:T}(h:f ρ=.ok x)(h':i ρ=.ok y)(d:a ρ=.ok z):za 3 g (z9 f (z9 i (z9 a zj))) ρ=g [x,y,z]:=by
 rw[Zt,h,af,h',af,d,af]
theorem uB {i:Int}(h:ya i):mN [.str (S (nl i))]=.ok (.int i):=by
 obtain⟨l,o,k,d⟩:=Qx h;have a:zB lL (gx Zb (vB 0)) (cE (.int 3)) [.vl (.str (S (nl i))),.un]=.ok false:=by
  have e:Zb (.str (S (nl i)))=.ok (.int ((nl i).length:Nat)):=by
   show (if (S (nl i)).length<=iT then R.ok (T.int (S (nl i)).length)else .bad)=_
   rw[Z2,if_pos (show (nl i).length<=iT by have:=yW;lia)]
  show (R.bind (Zb (.str (S (nl i)))) λx=>R.bind (.ok (.int 3)) λy=>lL x y)=_;rw[e,af,af];show R.ok (decide ((3:Int)<((nl i).length:Nat)))=_;rw[decide_eq_false (by lia)]
 have f:Gs (zH 1 (gx su (vE 0))) [.vl (.str (S (nl i))),.un]=.nx [.vl (.str (S (nl i))),.vl (.int i)]:=by
  have:gx su (vE 0) [.vl (.str (S (nl i))),.un]=.ok (.int i):=by
   show (match n6 (S (nl i))with|some n=>R.ok (T.int n)|none=>.bad)=_
   rw[←oY,d]
  unfold Gs;rw[zD this];rfl
 have j:zB lj (gx ub (vE 1)) (vB 0) [.vl (.str (S (nl i))),.vl (.int i)]=.ok false:=by
  have:gx ub (vE 1) [.vl (.str (S (nl i))),.vl (.int i)]=.ok (.str (S (nl i))):=pb rfl (jW (by lia))
  show (R.bind (gx ub (vE 1) _) λx=>R.bind (.ok (.str (S (nl i)))) λy=>lj x y)=_;rw[this,af,af];show R.ok (!(S (nl i)==S (nl i)))=_;simp
 show zw (tQ [.vl (.str (S (nl i))),.un])=_;unfold tQ;rw[zb (zt a),zb f,zb (zt j),zq (t:=.int i) rfl];rfl
theorem Qy {f:En->R T}{ρ:En}{x y:List Nat}{a b c s:Str}(i:s=S y)(d:f ρ=.ok (.str (S x)))(j:x.length<=9000)(hy:(y.length==0)=false)(h:bc (S x) (S y)=(a,b,c)):lw qb f (cE (.str s)) ρ=.ok (.tup [.str a,.str b,.str c]):=by
 subst i;unfold lw;rw[d,af,zY];show (if (S x).length<=iT/\((S y).length==0)=false then R.ok (T.tup [.str (bc (S x) (S y)).1,.str (bc (S x) (S y)).2.1,.str (bc (S x) (S y)).2.2])else .bad)=_
 rw[h,if_pos ⟨by rw[Z2];have:=yW;lia,by rw[Z2];exact hy⟩]
theorem kN {f:En->R T}{ρ:En}{q:Nat}{ls:List (List Nat)}{s:Str}(i:s=S [q])(a:f ρ=.ok (.str (S (jn [q] ls))))(j:(jn [q] ls).length<=1000)(h:ls≠[])(d:∀x∈ls,q∉x):lw K9 f (cE (.str s)) ρ=.ok (.lst (ls.map λl=>T.str (S l))):=by
 subst i;unfold lw;rw[a,af,zY];show (if (S (jn [q] ls)).length<=1000/\((S [q]).length==0)=false then R.ok (T.lst ((d4 (S (jn [q] ls)) (S [q])).map T.str))else .bad)=_
 rw[if_pos ⟨by rw[Z2];exact j,by rw[Z2];rfl⟩,kH h d,aS];rfl
theorem uC {d:Nat}{p l:List Nat}(hp:p.length<=100)(q:l.length<=9000):mf [.str (S (p++l++[d])),.str (S p),.str (S [d])]=.ok (.str (S l)):=by
 have r:=yW;have f:lw VU (vE 0) (vE 1) [.vl (.str (S (p++l++[d]))),.vl (.str (S p)),.vl (.str (S [d]))]=.ok (.bl true):=by
  show R.ok (T.bl (cA (S (p++l++[d])) (S p)))=_;unfold cA;rw[d6,Z2,Z2,Zl,Zl,cy,aQ,cX];simp
 have k:lw K8 (vE 0) (vE 2) [.vl (.str (S (p++l++[d]))),.vl (.str (S p)),.vl (.str (S [d]))]=.ok (.bl true):=by
  show R.ok (T.bl (dv (S (p++l++[d])) (S [d])))=_;rw[Dj]
 have j:lH (JI (ZQ (lw VU (vE 0) (vE 1)))) (JI (ZQ (lw K8 (vE 0) (vE 2)))) [.vl (.str (S (p++l++[d]))),.vl (.str (S p)),.vl (.str (S [d]))]=.ok false:=by
  rw[Wd,jS,ZJ,f,af,Ji,af,af,jS,ZJ,k,af,Ji];rfl
 have o:WD (vE 0) (zT (gx Zb (vB 1))) (zT (J8 (gx Zb (vB 2)))) [.vl (.str (S (p++l++[d]))),.vl (.str (S p)),.vl (.str (S [d]))]=.ok (.str (S l)):=by
  have a:Zb (.str (S p))=.ok (.int (p.length:Nat)):=by
   show (if (S p).length<=iT then R.ok (T.int (S p).length)else .bad)=_
   rw[Z2,if_pos (by lia)]
  have i:zT (gx Zb (vB 1)) [.vl (.str (S (p++l++[d]))),.vl (.str (S p)),.vl (.str (S [d]))]=.ok (some (p.length:Int)):=by
   show (R.bind (Zb (.str (S p))) _)=_;rw[a];rfl
  unfold WD;rw[v0,af,i,af];show (if (S (p++l++[d])).length<=iT then R.ok (T.str (bO (S (p++l++[d])) (some (p.length:Int)) (some (-1))))else .bad)=_
  rw[kJ (by simp),cW,if_pos]
  rw[Z2];simp only[ac,ae,ao];lia
 show zw (tY [.vl (.str (S (p++l++[d]))),.vl (.str (S p)),.vl (.str (S [d]))])=_;unfold tY;rw[zb (zt j),zq o];rfl
noncomputable def mi (c:Nat):Bool:=decide (c∈[40,91,123])
noncomputable def cls (c:Nat):Bool:=decide (c∈[41,93,125])
def sc (q:Nat):Nat->List Nat->Option Nat
 |d,[]=>some d
 |d,c::r=>if mi c then sc q (d+1) r else if cls c then (match d with|0=>none|e+1=>sc q e r)else if d=0/\c=q then none else sc q d r
theorem wc {q:Nat}(d c:Nat)(r:List Nat):sc q d (c::r)=if mi c then sc q (d+1) r else if cls c then (match d with|0=>none|e+1=>sc q e r)else if d=0/\c=q then none else sc q d r:=by
 conv=>lhs;unfold sc
 all_goals (cases d<;>rfl)
abbrev pE (m L:List Nat)(acc:List T)(b d:Int)(x y:Sl):En:=[.vl (.str (S L)),.vl (.str (S m)),.ow acc,.vl (.int b),.vl (.int d),x,y]
abbrev Jd:En->RS:=(zz (iS (zB UA (vB 6) (cE (.str "([{"))) (zH 4 (zd zv (vE 4) (cE (.int 1)))) (iR))
  (zz (iS (zB UA (vB 6) (cE (.str ")]}"))) (zH 4 (zd ZW (vE 4) (cE (.int 1)))) (iR))
  (iS (Yz (zB iQ (vB 4) (cE (.int 0))) (ZQ (qc (vE 0) (vE 1) (vE 5)))) (zz (Up 2 (WD (vE 0) (zT (vE 3)) (zT (vE 5))))
  (zH 3 (zd zv (vE 5) (gx Zb (vB 1))))) (iR))))
def l9 (L:List Nat):List T:=ZY (j7 (S L))
theorem yb {L:List Nat}{i c:Nat}{r:List Nat}(h:L.drop i=c::r):(l9 L).drop i=T.tup [.int (i:Nat),.str (S [c])]::(l9 L).drop (i+1):=by
 have a:L[i]?=some c:=by
  have:(L.drop i)[0]?=some c:=by rw[h];rfl
  simpa using this
 have e:(l9 L)[i]?=some (T.tup [.int (i:Nat),.str (S [c])]):=by
  unfold l9 ZY j7;rw[Zl,aA,fB,aA,a];simp[S]
 obtain⟨hi,e⟩:=aH.mp e;rw[d8 hi,e]
theorem Da {ρ:En}{c:Nat}(h:vB 6 ρ=.ok (.str (S [c]))):zB UA (vB 6) (cE (.str "([{")) ρ=.ok (mi c):=by
 show (R.bind (vB 6 ρ) λx=>R.bind (.ok (.str "([{")) λy=>UA x y)=_;rw[h,af,af];show R.ok (!(bN "([{" ⟨#[c]⟩ 0 ((("([{":Str))).length 1).isEmpty)=_;rw[i7];rfl
theorem kO {ρ:En}{c:Nat}(h:vB 6 ρ=.ok (.str (S [c]))):zB UA (vB 6) (cE (.str ")]}")) ρ=.ok (cls c):=by
 show (R.bind (vB 6 ρ) λx=>R.bind (.ok (.str ")]}")) λy=>UA x y)=_;rw[h,af,af];show R.ok (!(bN ")]}" ⟨#[c]⟩ 0 (((")]}":Str))).length 1).isEmpty)=_;rw[i7];rfl
theorem Dx {c:Nat}(h:mi c=true):cls c=false:=by
 unfold mi at h;unfold cls;simp at h⊢;lia
abbrev mX (d:Int)(c:Nat):Int:=d+(if mi c then 1 else 0)-(if cls c then 1 else 0)
theorem DG {f:En->RS}{m:List Nat}{acc:List T}{L:List Nat}{b d:Int}{i c:Nat}:zz (iS (zB UA (vB 6) (cE (.str "([{"))) (zH 4 (zd zv (vE 4) (cE (.int 1)))) iR) (zz (iS (zB UA (vB 6) (cE (.str ")]}"))) (zH 4 (zd ZW (vE 4) (cE (.int 1)))) iR) f) (pE m L acc b d (.vl (.int (i:Nat))) (.vl (.str (S [c]))))=f (pE m L acc b (mX d c) (.vl (.int (i:Nat))) (.vl (.str (S [c])))):=by
 unfold mX;cases k:mi c with
 |true=>
  have a:=Dx k;have j:zH 4 (zd zv (vE 4) (cE (.int 1))) (pE m L acc b d (.vl (.int (i:Nat))) (.vl (.str (S [c]))))=.nx (pE m L acc b (d+1) (.vl (.int (i:Nat))) (.vl (.str (S [c])))):=rfl;rw[zb ((j3 (by rw[Da rfl,k])).trans j),zb (zt (by rw[kO rfl,a])),a]
  simp
 |false=>
  rw[zb (zt (by rw[Da rfl,k]))]
  cases a:cls c with
  |true=>
   have j:zH 4 (zd ZW (vE 4) (cE (.int 1))) (pE m L acc b d (.vl (.int (i:Nat))) (.vl (.str (S [c]))))=.nx (pE m L acc b (d-1) (.vl (.int (i:Nat))) (.vl (.str (S [c])))):=rfl;rw[zb ((j3 (by rw[kO rfl,a])).trans j)]
   simp
  |false=>
   rw[zb (zt (by rw[kO rfl,a]))]
   simp
theorem DW {q:Nat}{m L:List Nat}{acc:List T}{b d:Int}{i c:Nat}{r:List Nat}(h:L.drop i=c::r)(hn:d=0->c≠q):Yz (zB iQ (vB 4) (cE (.int 0))) (ZQ (qc (vE 0) (vE 1) (vE 5))) (pE (q::m) L acc b d (.vl (.int (i:Nat))) (.vl (.str (S [c]))))=.ok false:=by
 rw[Wf];show (R.bind (.ok (d==0)) _)=_;rw[af];cases hd:(d==0)with
 |false=>rfl
 |true=>
  rw[if_pos rfl,ZJ];show R.ok (cP (S L) (S (q::m)) (i:Int))=_;rw[C4,h];congr 1
  rw[fv]
  right
  rw[beq_eq_false_iff_ne];intro z;injection z with z1 z2;exact hn (beq_iff_eq.mp hd) z1
theorem EU {q:Nat}{m L:List Nat}{acc:List T}{b d:Int}{i c:Nat}{r:List Nat}{x y:Sl}(h:L.drop i=c::r)(hn:mX d c=0->c≠q):
  Zr (zV 5 6) Jd ((l9 L).drop i) (pE (q::m) L acc b d x y)=Zr (zV 5 6) Jd ((l9 L).drop (i+1)) (pE (q::m) L acc b (mX d c) (.vl (.int (i:Nat))) (.vl (.str (S [c])))):=by
 rw[yb h];refine ZM (ρ1:=pE (q::m) L acc b d (.vl (.int (i:Nat))) (.vl (.str (S [c])))) rfl ?_;unfold Jd;rw[DG];exact zt (DW h hn)
theorem Vr {q:Nat}(k:mi q=false/\cls q=false){m L:List Nat}{acc:List T}{b:Int}:∀(w:List Nat) (d e i:Nat) (rest:List Nat) (x y:Sl),L.drop i=w++rest->sc q d w=some e->∃l o,Zr (zV 5 6) Jd ((l9 L).drop i) (pE (q::m) L acc b (d:Nat) x y)=Zr (zV 5 6) Jd ((l9 L).drop (i+w.length)) (pE (q::m) L acc b (e:Nat) l o)
 |[],d,e,i,rest,x,y,_,h=>by
  cases h;exact⟨x,y,rfl⟩
 |c::w,d,e,i,rest,x,y,u,h=>by
  have r:L.drop (i+1)=w++rest:=by
   have:(L.drop i).drop 1=w++rest:=by rw[u];rfl
   rw[dA]at this;exact this
  obtain⟨f,hd,hn,h⟩:∃f:Nat,mX (d:Nat) c=(f:Nat)/\(mX (d:Nat) c=0->c≠q)/\sc q f w=some e:=by
   rw[wc]at h;unfold mX;cases a:mi c with
   |true=>
    rw[a,if_pos rfl]at h;exact⟨d+1,by rw[Dx a];simp,λ_ z=>(by rw[z,k.1]at a;cases a),h⟩
   |false=>
    rw[a,if_neg ay]at h;cases j:cls c with
    |true=>
     rw[j,if_pos rfl]at h;cases d with
     |zero=>cases h
     |succ d=>exact⟨d,by simp,λ_ z=>(by rw[z,k.2]at j;cases j),h⟩
    |false=>
     rw[j,if_neg ay]at h;split at h
     ·cases h
     ·rename_i v;exact⟨d,by simp,λz y=>v ⟨by simp at z;exact z,y⟩,h⟩
  obtain⟨l,o,p⟩:=Vr k w f e (i+1) rest (.vl (.int (i:Nat))) (.vl (.str (S [c]))) r h;refine⟨l,o,?_⟩;rw[EU u hn,hd,ac,show i+(w.length+1)=i+1+w.length by lia,←p]
theorem Ia {q:Nat}(a:mi q=false/\cls q=false){m L:List Nat}(k:sc q 0 m=some 0){acc:List T}{b i:Nat}{r:List Nat}{x y:Sl}(h:L.drop i=q::(m++r))(l:b<=i)(N:L.length<=9000)(P:acc.length<1000):
  ∃d f,Zr (zV 5 6) Jd ((l9 L).drop i) (pE (q::m) L acc (b:Nat) 0 x y)=Zr (zV 5 6) Jd ((l9 L).drop (i+1+m.length)) (pE (q::m) L (acc++[.str (S ((L.drop b).take (i-b)))]) ((i+1+m.length:Nat):Int) 0 d f):=by
 have J:=yW;have hi:i+1+m.length<=L.length:=by
  have:=congrArg fA h;simp at this;lia
 have B:L.drop (i+1)=m++r:=by rw[←dA,h];rfl
 have j:WD (vE 0) (zT (vE 3)) (zT (vE 5)) (pE (q::m) L acc (b:Nat) 0 (.vl (.int (i:Nat))) (.vl (.str (S [q]))))=.ok (.str (S ((L.drop b).take (i-b)))):=by
  show (if (S L).length<=iT then R.ok (T.str (bO (S L) (some (b:Int)) (some (i:Int))))else .bad)=_
  rw[C5 l (by lia),if_pos (by rw[Z2];lia)]
 have v:Up 2 (WD (vE 0) (zT (vE 3)) (zT (vE 5))) (pE (q::m) L acc (b:Nat) 0 (.vl (.int (i:Nat))) (.vl (.str (S [q]))))=.nx (pE (q::m) L (acc++[.str (S ((L.drop b).take (i-b)))]) (b:Nat) 0 (.vl (.int (i:Nat))) (.vl (.str (S [q])))):=by
  show (R.s (WD (vE 0) (zT (vE 3)) (zT (vE 5)) _) λt=>if acc.length<iT then RS.nx _ else .bad)=_
  rw[j,ZF,if_pos (by lia)];rfl
 have G:Yz (zB iQ (vB 4) (cE (.int 0))) (ZQ (qc (vE 0) (vE 1) (vE 5))) (pE (q::m) L acc (b:Nat) 0 (.vl (.int (i:Nat))) (.vl (.str (S [q]))))=.ok true:=by
  rw[Wf];show (R.bind (.ok true) _)=_;rw[af,if_pos rfl,ZJ];show R.ok (cP (S L) (S (q::m)) (i:Int))=_;rw[C4,h,decide_eq_true (show i+(q::m).length<=L.length by simp;lia),←cB,cX]
  simp
 have o:zH 3 (zd zv (vE 5) (gx Zb (vB 1))) (pE (q::m) L (acc++[.str (S ((L.drop b).take (i-b)))]) (b:Nat) 0 (.vl (.int (i:Nat))) (.vl (.str (S [q]))))=.nx (pE (q::m) L (acc++[.str (S ((L.drop b).take (i-b)))]) ((i+1+m.length:Nat):Int) 0 (.vl (.int (i:Nat))) (.vl (.str (S [q])))):=by
  refine zD ?_;have:Zb (.str (S (q::m)))=.ok (.int ((q::m).length:Nat)):=by
   show (if (S (q::m)).length<=iT then R.ok (T.int (S (q::m)).length)else .bad)=_
   rw[Z2,if_pos (by simp;lia)]
  show (R.bind (Zb (.str (S (q::m)))) λu=>zv (.int (i:Nat)) u)=_;rw[this,af];show R.ok (T.int _)=_;congr 2
  simp;lia
 have I:Zr (zV 5 6) Jd ((l9 L).drop i) (pE (q::m) L acc (b:Nat) 0 x y)=Zr (zV 5 6) Jd ((l9 L).drop (i+1)) (pE (q::m) L (acc++[.str (S ((L.drop b).take (i-b)))]) ((i+1+m.length:Nat):Int) 0 (.vl (.int (i:Nat))) (.vl (.str (S [q])))):=by
  rw[yb h];refine ZM (ρ1:=pE (q::m) L acc (b:Nat) 0 (.vl (.int (i:Nat))) (.vl (.str (S [q])))) rfl ?_;unfold Jd;rw[DG,show mX 0 q=0 by unfold mX;rw[a.1,a.2];rfl,j3 G,zb v,o]
 obtain⟨d,f,p⟩:=Vr a m 0 0 (i+1) r (.vl (.int (i:Nat))) (.vl (.str (S [q]))) B k;exact⟨d,f,I.trans p⟩
theorem C3 {q:Nat}(k:mi q=false/\cls q=false){m L:List Nat}(P:sc q 0 m=some 0)(Q:L.length<=9000):∀(ls:List (List Nat)) (acc:List T) (i:Nat) (x y:Sl),ls≠[]->ls.length+acc.length<=900->(∀w∈ls,sc q 0 w=some 0)->L.drop i=jn (q::m) ls->i<=L.length->
  ∃(a:List T) (j:Nat) (J B:Sl),Zr (zV 5 6) Jd ((l9 L).drop i) (pE (q::m) L acc (i:Nat) 0 x y)=.nx (pE (q::m) L a (j:Nat) 0 J B)/\j<=L.length/\a.length<=900/\a++[.str (S (L.drop j))]=acc++ls.map λl=>T.str (S l)
 |[],_,_,_,_,h,_,_,_,_=>absurd rfl h
 |[w],acc,i,x,y,_,o,u,d,hi=>by
  have d:L.drop i=w++[]:=by rw[aY];exact d
  obtain⟨J,B,p⟩:=Vr k (m:=m) (L:=L) (acc:=acc) (b:=(i:Nat)) w 0 0 i [] x y d (u w aj);refine⟨acc,i,J,B,?_,hi,by simp at o;lia,by rw[d,aY];rfl⟩
  refine iP p ?_;have:(l9 L).drop (i+w.length)=[]:=by
   refine List.drop_eq_nil_of_le ?_;have e:=congrArg fA d;unfold l9 ZY j7;rw[Zl];simp at e⊢;lia
  rw[this];rfl
 |w::v::r,acc,i,x,y,_,o,u,d,hi=>by
  have d:L.drop i=w++q::(m++jn (q::m) (v::r)):=d;obtain⟨x1,y1,q1⟩:=Vr k (m:=m) (L:=L) (acc:=acc) (b:=(i:Nat)) w 0 0 i _ x y d (u w aj);have f:L.drop (i+w.length)=q::(m++jn (q::m) (v::r)):=by
   rw[←dA,d,cW]
  have G:L.drop (i+w.length+1+m.length)=jn (q::m) (v::r):=by
   rw[←dA,←dA,f];exact cW
  obtain⟨x2,y2,N⟩:=Ia k P (L:=L) (acc:=acc) (b:=i) (i:=i+w.length) (x:=x1) (y:=y1) f (by lia) Q (by simp at o;lia)
  have U:(L.drop i).take (i+w.length-i)=w:=by
   rw[d,show i+w.length-i=w.length by lia,cX]
  rw[U]at N;have I:i+w.length+1+m.length<=L.length:=by
   have:=congrArg fA f;simp at this;lia
  obtain⟨a,j,x3,y3,q3,Z,a2,X⟩:=C3 k P Q (v::r) (acc++[.str (S w)]) (i+w.length+1+m.length) x2 y2 (b7 _ _) (by simp at o⊢;lia) (λz hz=>u z (ai _ hz)) G I
  exact⟨a,j,x3,y3,q1.trans (N.trans q3),Z,a2,by rw[X];simp⟩
theorem uD {q:Nat}{m:List Nat}(u:mi q=false/\cls q=false)(o:sc q 0 m=some 0){ls:List (List Nat)}(r:ls≠[])(X:ls.length<=100)(J:∀w∈ls,sc q 0 w=some 0)(N:(jn (q::m) ls).length<=9000):mv [.str (S (jn (q::m) ls)),.str (S (q::m))]=.ok (.lst (ls.map λl=>T.str (S l))):=by
 obtain⟨a,j,d,f,p,G,U,B⟩:=C3 u o N ls [] 0 .un .un r (by simp;lia) J rfl (bj _)
 generalize jn (q::m) ls=L at*;have Q:=yW;have i:ZR (qf (vE 0)) (zV 5 6) Jd (pE (q::m) L [] 0 0 .un .un)=.nx (pE (q::m) L a (j:Nat) 0 d f):=p;have v:WD (vE 0) (zT (vE 3)) lE (pE (q::m) L a (j:Nat) 0 d f)=.ok (.str (S (L.drop j))):=by
  show (if (S L).length<=iT then R.ok (T.str (bO (S L) (some (j:Int)) none))else .bad)=_
  rw[Qw G,if_pos (by rw[Z2];lia)]
 have I:Up 2 (WD (vE 0) (zT (vE 3)) lE) (pE (q::m) L a (j:Nat) 0 d f)=.nx (pE (q::m) L (ls.map λl=>T.str (S l)) (j:Nat) 0 d f):=by
  show (R.s (WD (vE 0) (zT (vE 3)) lE _) λt=>if a.length<iT then RS.nx _ else .bad)=_
  rw[v,ZF,if_pos (by lia)]
  show RS.nx (pE (q::m) L (a++[.str (S (L.drop j))]) (j:Nat) 0 d f)=_;rw[B];rfl
 show zw (sy [.vl (.str (S L)),.vl (.str (S (q::m))),.un,.un,.un,.un,.un])=_;unfold sy;have P:Uo 2 zj [.vl (.str (S L)),.vl (.str (S (q::m))),.un,.un,.un,.un,.un]=.nx [.vl (.str (S L)),.vl (.str (S (q::m))),.ow [],.un,.un,.un,.un]:=rfl;have k:zH 3 (cE (.int 0)) [.vl (.str (S L)),.vl (.str (S (q::m))),.ow [],.un,.un,.un,.un]=.nx [.vl (.str (S L)),.vl (.str (S (q::m))),.ow [],.vl (.int 0),.un,.un,.un]:=rfl;have y:zH 4 (cE (.int 0)) [.vl (.str (S L)),.vl (.str (S (q::m))),.ow [],.vl (.int 0),.un,.un,.un]=.nx (pE (q::m) L [] 0 0 .un .un):=rfl;unfold Jd at i;rw[zb P,zb k,zb y,zb i,zb I];rfl
theorem ja {q:Nat}:∀(a b:List Nat) (d e:Nat),sc q d a=some e->sc q d (a++b)=sc q e b
 |[],b,d,e,h=>by cases h;rfl
 |c::r,b,d,e,h=>by
  rw[cB,wc];rw[wc]at h;split at h
  ·rename_i f;rw[if_pos f];exact ja r b _ _ h
  ·rename_i f;rw[if_neg f];split at h
   ·rename_i i;rw[if_pos i];cases d with
    |zero=>cases h
    |succ d=>exact ja r b _ _ h
   ·rename_i i;rw[if_neg i];split at h
    ·cases h
    ·rename_i j;rw[if_neg j];exact ja r b _ _ h
theorem yQ {q:Nat}:∀(a:List Nat) (d e:Nat),sc q d a=some e->sc q (d+1) a=some (e+1)
 |[],d,e,h=>by cases h;rfl
 |c::r,d,e,h=>by
  rw[wc]at h⊢;split at h
  ·rename_i f;rw[if_pos f];exact yQ r _ _ h
  ·rename_i f;rw[if_neg f];split at h
   ·rename_i i;rw[if_pos i];cases d with
    |zero=>cases h
    |succ d=>exact yQ r _ _ h
   ·rename_i i;rw[if_neg i];split at h
    ·cases h
    ·rw[if_neg (by lia)];exact yQ r _ _ h
noncomputable abbrev m9 (q c:Nat):Prop:=c≠q/\c≠40/\c≠91/\c≠123/\c≠41/\c≠93/\c≠125
theorem uE {q:Nat}:∀(l:List Nat) (d:Nat),(∀c∈l,m9 q c)->sc q d l=some d
 |[],_,_=>rfl
 |c::r,d,h=>by
  have j:=h c aj;have f:mi c=false:=by unfold mi;simp;lia
  have i:cls c=false:=by unfold cls;simp;lia
  rw[wc,f,i,if_neg ay,if_neg ay,if_neg (λz=>j.1 z.2)];exact uE r d λx a=>h x (ai _ a)
theorem Vs {q:Nat}{m:List Nat}(a:sc q 1 m=some 1):∀ls:List (List Nat),(∀w∈ls,sc q 0 w=some 0)->sc q 1 (jn m ls)=some 1
 |[],_=>rfl
 |[w],h=>yQ w 0 0 (h w aj)
 |w::v::r,h=>by
  show sc q 1 (w++(m++jn m (v::r)))=_;rw[ja w _ 1 1 (yQ w 0 0 (h w aj)),ja m _ 1 1 a];exact Vs a (v::r) λz d=>h z (ai _ d)
theorem wd {P:Nat->Prop}{m:List Nat}(d:∀c∈m,P c):∀ls:List (List Nat),(∀w∈ls,∀c∈w,P c)->∀c∈jn m ls,P c
 |[],_=>λc a=>nomatch a
 |[w],h=>h w aj
 |w::v::r,h=>by
  intro c a;have a:c∈w++(m++jn m (v::r)):=a;rcases aT.mp a with a|a
  ·exact h w aj c a
  ·rcases aT.mp a with a|a
   ·exact d c a
   ·exact wd d (v::r) (λz f=>h z (ai _ f)) c a
def lW (c:Str×Int):List Nat:=c.1.cps.toList++[58]++nl c.2
def lG (lo hi:Int):List Nat:=nl lo++[46,46]++nl hi
mutual
noncomputable def Kd.x:Kd->List Nat
 |.whole lo hi=>lG lo hi
 |.pick d=>[123]++jn [32] (d.map lW)++[125]
 |.row a=>[40]++jn [32] (Kd.xs a)++[41]
 |.many k lo hi=>[91]++k.x++[93]++lG lo hi
noncomputable def Kd.xs:List Kd->List (List Nat)
 |[]=>[]
 |k::a=>k.x::Kd.xs a
end
theorem Kd.xs_map:∀a:List Kd,Kd.xs a=a.map Kd.x
 |[]=>by simp only[Kd.xs,cJ]
 |k::a=>by simp only[Kd.xs,aK,Kd.xs_map a]
abbrev kQ (c:Str×Int):Prop:=Zf (.str c.1)=true/\1<=c.2/\c.2<=20
noncomputable abbrev Qz (lo hi:Int):Prop:= -20<=lo/\lo<=hi/\hi<=20
theorem Qz.n {lo hi:Int}(h:Qz lo hi):ya lo/\ya hi:=⟨⟨by lia,by lia⟩,by lia,by lia⟩
theorem Wt {c:Str×Int}(h:kQ c):(lW c).length<=7:=by
 have:=Wq h.1;have:=(Qx (i:=c.2) ⟨by lia,by lia⟩).1
 simp only[lW,ae,ac,ao];lia
theorem jK {lo hi:Int}(h:Qz lo hi):(lG lo hi).length<=8:=by
 have:=(Qx h.n.1).1;have:=(Qx h.n.2).1;simp only[lG,ae,ac,ao];lia
noncomputable def lb:Nat->Nat
 |0=>0
 |d+1=>3*lb d+40
theorem Vt {d:Nat}(h:d<=3):lb d<=520:=by
 have:d=0\/d=1\/d=2\/d=3:=by lia
 rcases this with rfl|rfl|rfl|rfl<;>decide
theorem we {a:List (Str×Int)}(j:a.length<=4)(f:∀c∈a,kQ c):(jn [32] (a.map lW)).length<=32:=by
 have:=y0 7 [32] (a.map lW) λx d=>by
  obtain⟨c,i,rfl⟩:=aF.mp d;exact Wt (f c i)
 simp only[ah,ac,ao]at this;lia
theorem Wu {d:Nat}{a:List Kd}(l:a.length<=3)(i:∀k∈a,k.x.length<=lb d):(jn [32] (a.map Kd.x)).length<=3*lb d+3:=by
 have:=y0 (lb d) [32] (a.map Kd.x) λx f=>by
  obtain⟨k,j,rfl⟩:=aF.mp f;exact i k j
 simp only[ah,ac,ao]at this;have:a.length*(lb d+1)<=3*(lb d+1):=dG _ l;lia
theorem Wv:∀(d:Nat) (k:Kd),k.Ok d->k.x.length<=lb d
 |0,_,h=>h.elim
 |d+1,.whole lo hi,h=>by
  have:=jK h;simp only[Kd.x,lb];lia
 |d+1,.pick l,⟨i,f,a,_⟩=>by
  have:=we f a;simp only[Kd.x,lb,ac,ae,ao];lia
 |d+1,.row o,⟨i,f,a⟩=>by
  have:=Wu f λk j=>Wv d k (a k j);simp only[Kd.x,Kd.xs_map,lb,ac,ae,ao];lia
 |d+1,.many k lo hi,⟨i,f,a⟩=>by
  have:=Wv d k a;have:=jK (lo:=lo) (hi:=hi) (by lia)
  simp only[Kd.x,lb,ac,ae,ao];lia
theorem kR {f:En->R T}{ρ:En}{s u:Str}{a l b:List Nat}(i:s=S a)(d:u=S b)(e:f ρ=.ok (.str (S l)))(j:a.length+l.length+b.length<=10000):zd zv (zd zv (cE (.str s)) f) (cE (.str u)) ρ=.ok (.str (S (a++l++b))):=by
 subst i d;exact j4 (j4 rfl e (by lia)) rfl (by simp only[ae];lia)
theorem oU {c:List T->R T}{a:List Kd}{ρ:En}(d:zd fr (vE 0) (cE (.int 1)) ρ=.ok (.tup (a.map Kd.t)))(h:∀k∈a,c [k.t]=.ok (.str (S k.x)))(j:a.length<=3)(i:(jn [32] (a.map Kd.x)).length<=2000):zd zv (zd zv (cE (.str "(")) (gx (jA " ") (zL (Z9 (zd fr (vE 0) (cE (.int 1)))) (zI 0) Z1 (za 1 c (z9 (vE 0) zj)) 1 []))) (cE (.str ")")) ρ=.ok (.str (S (Kd.row a).x)):=by
 have e:=jq (k:=1) (js:=[]) (t9 d) (by rw[ah];lia) (wt (fe:=za 1 c (z9 (vE 0) zj)) Kd.t (λk=>T.str (S k.x)) a .un λk f=>by rw[zG];exact h k f)
 rw[Kd.x,Kd.xs_map];exact kR rfl rfl (wa (m:=[32]) (ls:=a.map Kd.x) (e.trans (by rw[aS];rfl)) (by decide) (by rw[ah];lia) (by lia)) (by simp only[ac,ao];lia)
theorem DF {fe:En->R T}{a:List (Str×Int)}{ρ:En}(f:zd fr (vE 0) (cE (.int 1)) ρ=.ok (.tup (a.map wj)))(i:a.length<=4)(d:∀c∈a,kQ c)(h:∀c,kQ c->fe [.vl (.str c.1),.vl (.int c.2)]=.ok (.str (S (lW c)))):zd zv (zd zv (cE (.str "{")) (gx (jA " ") (zL (Z9 (zd fr (vE 0) (cE (.int 1)))) (zV 0 1) Z1 fe 2 []))) (cE (.str "}")) ρ=.ok (.str (S (Kd.pick a).x)):=by
 have e:=jq (k:=2) (js:=[]) (t9 f) (by rw[ah];lia) (kM (fe:=fe) (λc:Str×Int=>T.str c.1) (λc=>T.int c.2) (λc=>T.str (S (lW c))) a .un .un λc j=>h c (d c j))
 have:=we i d;rw[Kd.x];exact kR rfl rfl (wa (m:=[32]) (ls:=a.map lW) (e.trans (by rw[aS];rfl)) (by decide) (by rw[ah];lia) (by lia)) (by simp only[ac,ao];lia)
theorem xx {lo hi:Int}(h:Qz lo hi):V4 [.int lo,.int hi]=.ok (.str (S (lG lo hi))):=by
 have a:=jK h;have e:nD ".." (vE 0) (vE 1) [.vl (.int lo),.vl (.int hi)]=.ok (.str (S (lG lo hi))):=DI (z:=[46,46]) rfl rfl (jW (by lia)) (jW (by lia)) (by unfold lG at a;lia)
 show zw (zC (nD ".." (vE 0) (vE 1)) [.vl (.int lo),.vl (.int hi)])=_;rw[zq e];rfl
theorem Db {t:T}{h:List Nat}{lo hi:Int}(l:Qz lo hi)(o:h.length<=1000)(i:zd fr (vE 0) (J8 (cE (.int 2))) [.vl t,.vl (.str (S h))]=.ok (.int lo))(k:zd fr (vE 0) (J8 (cE (.int 1))) [.vl t,.vl (.str (S h))]=.ok (.int hi)):
  zC (zd zv (zd zv (zd zv (vE 1) (gx ub (zd fr (vE 0) (J8 (cE (.int 2)))))) (cE (.str ".."))) (gx ub (zd fr (vE 0) (J8 (cE (.int 1)))))) [.vl t,.vl (.str (S h))]=.rt (.str (S (h++lG lo hi))):=by
 have d:=jK l;unfold lG at d⊢;simp only[ae,ac,ao]at d;have j:=j4 (g:=cE (.str "..")) (b:=[46,46]) (j4 (f:=vE 1) (a:=h) rfl (pb i (jW (by lia))) (by lia)) rfl (by simp only[ae,ac,ao];lia)
 rw[zq (j4 j (pb k (jW (by lia))) (by simp only[ae,ac,ao];lia))]
 simp
abbrev Kk (t:T):En:=[.vl t]
abbrev kS (t:T):En:=[.vl t,.un]
theorem sA:∀(d n m:Nat),d<=n->d<=m->d<=3->∀k:Kd,k.Ok d->nk (n+1) 0 [k.t]=.ok (.str (S k.x))/\mG (m+1) 0 [k.t]=.ok (.str (S k.x))
 |0,_,_,_,_,_,_,h=>h.elim
 |d+1,n,m,hn,q,hd,.whole lo hi,h=>by
  constructor
  ·have p:za 2 V4 (z9 (zd fr (vE 0) (cE (.int 1))) (z9 (zd fr (vE 0) (cE (.int 2))) zj)) (Kk (Kd.whole lo hi).t)=.ok (.str (S (lG lo hi))):=by
    rw[zW,Kd.t,jY,af,um,af];exact xx h
   show zw (mP (nk n 0) V4 (Kk (Kd.whole lo hi).t))=_;unfold mP;rw[zE ((j3 (by rw[Kd.t];exact lC)).trans (zq p)),Kd.x];rfl
  ·have p:zH 1 (lD (zB iQ (zd fr (vE 0) (cE (.int 0))) (cE (.str "many"))) (zd zv (zd zv (cE (.str "[")) (za 1 (mG m 0) (z9 (zd fr (vE 0) (cE (.int 1))) zj))) (cE (.str "]"))) (cE (.str ""))) (kS (Kd.whole lo hi).t)=.nx [.vl (Kd.whole lo hi).t,.vl (.str (S []))]:=by
    refine zD ?_;unfold lD;rw[Kd.t,lC,af];rfl
   show zw (mI (mG m 0) (kS (Kd.whole lo hi).t))=_;unfold mI;rw[zb (zt (by rw[Kd.t];exact lC)),zb (zt (by rw[Kd.t];exact lC)),zb p,Db h (by simp) (by rw[Kd.t];rfl) (by rw[Kd.t];rfl),Kd.x];rfl
 |d+1,n,m,hn,q,hd,.pick y,⟨v,f,a,_⟩=>by
  constructor
  ·show zw (mP (nk n 0) V4 (Kk (Kd.pick y).t))=_;unfold mP;rw[zb (zt (by rw[Kd.t];exact lC)),zE ((j3 (by rw[Kd.t];exact lC)).trans (zq (DF (by rw[Kd.t];exact jY) f a λc h=>by
    have j:=Wt h;have L:=Wq h.1;exact DI (z:=[58]) rfl rfl (wM (Vp _).symm (by lia)) (jW (by lia)) (by unfold lW at j;lia))))];rfl
  ·show zw (mI (mG m 0) (kS (Kd.pick y).t))=_;unfold mI;rw[zE ((j3 (by rw[Kd.t];exact lC)).trans (zq (DF (by rw[Kd.t];exact jY) f a λc h=>by
    have j:=Wt h;simp only[lW,ae,ac,ao]at j;have o:vE 0 [.vl (.str c.1),.vl (.int c.2)]=.ok (.str (S c.1.cps.toList)):=by rw[Vp];rfl
    exact j4 (j4 (g:=cE (.str ":")) (b:=[58]) o rfl (by simp only[ac,ao];lia)) (pb rfl (jW (by lia))) (by simp only[ae,ac,ao];lia))))];rfl
 |d+1,n+1,m+1,hn,q,hd,.row B,⟨v,f,a⟩=>by
  have j:=Wu f λk i=>Wv d k (a k i);have G:=Vt (d:=d) (by lia)
  have l:=λk i=>sA d n m (by lia) (by lia) (by lia) k (a k i)
  constructor
  ·show zw (mP (nk (n+1) 0) V4 (Kk (Kd.row B).t))=_;unfold mP;rw[zb (zt (by rw[Kd.t];exact lC)),zb (zt (by rw[Kd.t];exact lC)),zE ((j3 (by rw[Kd.t];exact lC)).trans (zq (oU (by rw[Kd.t,Kd.ts_map];exact jY) (λk i=>(l k i).1) f (by lia))))];rfl
  ·show zw (mI (mG (m+1) 0) (kS (Kd.row B).t))=_;unfold mI;rw[zb (zt (by rw[Kd.t];exact lC)),zE ((j3 (by rw[Kd.t];exact lC)).trans (zq (oU (by rw[Kd.t,Kd.ts_map];exact jY) (λk i=>(l k i).2) f (by lia))))];rfl
 |d+1,n+1,m+1,hn,q,hd,.many k lo hi,⟨v,f,a⟩=>by
  have J:=Wv d k a;have G:=Vt (d:=d) (by lia)
  have l:=sA d n m (by lia) (by lia) (by lia) k a
  have u:Qz lo hi:=by lia
  have j:=jK u;have o:∀{c:List T->R T} {ρ:En},c [k.t]=.ok (.str (S k.x))->zd fr (vE 0) (cE (.int 1)) ρ=.ok k.t->zd zv (zd zv (cE (.str "[")) (za 1 c (z9 (zd fr (vE 0) (cE (.int 1))) zj))) (cE (.str "]")) ρ=.ok (.str (S ([91]++k.x++[93]))):=λh h'=>
   kR rfl rfl (by rw[zG,h',af,h]) (by simp only[ac,ao];lia)
  constructor
  ·have I:za 2 V4 (z9 (zd fr (vE 0) (cE (.int 2))) (z9 (zd fr (vE 0) (cE (.int 3))) zj)) (Kk (Kd.many k lo hi).t)=.ok (.str (S (lG lo hi))):=by
    rw[zW,Kd.t,um,af,Ki,af];exact xx u
   have r:=j4 (o l.1 (by rw[Kd.t];exact jY)) I (by simp only[ae,ac,ao];lia)
   show zw (mP (nk (n+1) 0) V4 (Kk (Kd.many k lo hi).t))=_;unfold mP;rw[zb (zt (by rw[Kd.t];exact lC)),zb (zt (by rw[Kd.t];exact lC)),zb (zt (by rw[Kd.t];exact lC)),zq r,Kd.x];rfl
  ·have r:zH 1 (lD (zB iQ (zd fr (vE 0) (cE (.int 0))) (cE (.str "many"))) (zd zv (zd zv (cE (.str "[")) (za 1 (mG (m+1) 0) (z9 (zd fr (vE 0) (cE (.int 1))) zj))) (cE (.str "]"))) (cE (.str ""))) (kS (Kd.many k lo hi).t)=.nx [.vl (Kd.many k lo hi).t,.vl (.str (S ([91]++k.x++[93])))]:=by
    refine zD ?_;unfold lD;rw[show zB iQ (zd fr (vE 0) (cE (.int 0))) (cE (.str "many")) (kS (Kd.many k lo hi).t)=.ok true by rw[Kd.t];exact lC,af,if_pos rfl]
    exact o l.2 (by rw[Kd.t];exact jY)
   show zw (mI (mG (m+1) 0) (kS (Kd.many k lo hi).t))=_;unfold mI;rw[zb (zt (by rw[Kd.t];exact lC)),zb (zt (by rw[Kd.t];exact lC)),zb r,Db u (by simp only[ae,ac,ao];lia) (by rw[Kd.t];rfl) (by rw[Kd.t];rfl),Kd.x];rfl
noncomputable abbrev tL (c:Nat):Prop:=c≠32/\c≠40/\c≠91/\c≠123/\c≠41/\c≠93/\c≠125/\c≠10
theorem Ww {c:Nat}(h:tL c):m9 32 c:=by lia
theorem yc {lo hi:Int}(h:Qz lo hi):∀c∈lG lo hi,tL c:=λc a=>by
 have n:∀{i:Int},ya i->c∈nl i->tL c:=λh z=>by have:=(Qx h).2.2.1 c z;lia
 rcases aT.mp a with a|a
 ·rcases aT.mp a with a|a
  ·exact n h.n.1 a
  ·have:c=46:=by simpa using a
   lia
 ·exact n h.n.2 a
theorem QA {c:Str×Int}(h:kQ c):∀x∈lW c,tL x:=λx a=>by
 rcases aT.mp a with a|a
 ·rcases aT.mp a with a|a
  ·have:=Wr h.1 x a;lia
  ·have:x=58:=by simpa using a
   lia
 ·have:=(Qx (i:=c.2) ⟨by lia,by lia⟩).2.2.1 x a
  lia
theorem DL {lo hi:Int}(h:Qz lo hi):∀c∈lG lo hi,c≠10:=λc a=>(yc h c a).2.2.2.2.2.2.2
theorem EH {c:Str×Int}(h:kQ c):∀x∈lW c,x≠10:=λx a=>(QA h x a).2.2.2.2.2.2.2
theorem kT {a b:Nat}{l:List Nat}(i:a≠10)(f:b≠10)(h:∀c∈l,c≠10):∀c∈[a]++l++[b],c≠10:=λc d=>by
 rcases aT.mp d with d|d
 ·rcases aT.mp d with d|d
  ·rw[ax.mp d];exact i
  ·exact h c d
 ·rw[ax.mp d];exact f
theorem kU:∀(d:Nat) (k:Kd),k.Ok d->sc 32 0 k.x=some 0
 |0,_,h=>h.elim
 |d+1,.whole lo hi,h=>by rw[Kd.x];exact uE _ 0 λc f=>Ww (yc h c f)
 |d+1,.pick l,⟨_,_,a,_⟩=>by
  rw[Kd.x];show sc 32 1 (jn [32] (l.map lW)++[125])=_;rw[ja _ _ 1 1 (Vs rfl _ λw i=>by
   obtain⟨c,f,rfl⟩:=aF.mp i;exact uE _ 0 λx j=>Ww (QA (a c f) x j))]
  rfl
 |d+1,.row p,⟨_,_,a⟩=>by
  rw[Kd.x,Kd.xs_map];show sc 32 1 (jn [32] (p.map Kd.x)++[41])=_;rw[ja _ _ 1 1 (Vs rfl _ λw i=>by
   obtain⟨k,o,rfl⟩:=aF.mp i;exact kU d k (a k o))]
  rfl
 |d+1,.many k lo hi,⟨r,q,a⟩=>by
  rw[Kd.x];show sc 32 1 (k.x++[93]++lG lo hi)=_;rw[ja _ _ 1 0 (by rw[ja _ _ 1 1 (yQ _ 0 0 (kU d k a))];rfl)]
  exact uE _ 0 λc f=>Ww (yc (by lia) c f)
theorem QB {lo hi:Int}(h:Qz lo hi):QX [.str (S (lG lo hi))]=.ok (.tup [.int lo,.int hi]):=by
 have d:=jK h;have a:zH 1 (lw qb (vE 0) (cE (.str ".."))) [.vl (.str (S (lG lo hi))),.un]=.nx [.vl (.str (S (lG lo hi))),.vl (.tup [.str (S (nl lo)),.str "..",.str (S (nl hi))])]:=
  zD (Qy (y:=[46,46]) rfl rfl (by lia) rfl (y9 (λz=>by have:=(Qx h.n.1).2.2.1 46 z;lia)))
 show zw (rh mN [.vl (.str (S (lG lo hi))),.un])=_;unfold rh;rw[zb a,zq (t:=.tup [.int lo,.int hi]) (WF (by rw[zG];exact uB h.n.1) (by rw[zG];exact uB h.n.2))];rfl
theorem QC {c:Str×Int}(h:kQ c):xf [.str (S (lW c))]=.ok (wj c):=by
 have d:=Wt h;have a:zH 1 (lw qb (vE 0) (cE (.str ":"))) [.vl (.str (S (lW c))),.un]=.nx [.vl (.str (S (lW c))),.vl (.tup [.str (S c.1.cps.toList),.str ":",.str (S (nl c.2))])]:=
  zD (Qy (y:=[58]) rfl rfl (by lia) rfl (y9 (λz=>by have:=Wr h.1 58 z;lia)))
 show zw (tF mN [.vl (.str (S (lW c))),.un])=_;unfold tF;rw[zb a,zq (t:=wj c) (WF (by show R.ok (T.str (S c.1.cps.toList))=_;rw[Vp]) (by rw[zG];exact uB ⟨by lia,by lia⟩))];rfl
theorem Wx {ρ:En}{c d:Nat}{l:List Nat}{s:Str}(a:s=S [d])(h:vE 0 ρ=.ok (.str (S (c::l)))):ZQ (lw VU (vE 0) (cE (.str s))) ρ=.ok (c==d):=by
 subst a;rw[ZJ];unfold lw;rw[h,af];show R.ok (cA (S (c::l)) (S [d]))=_;rw[Hs]
abbrev kE (t:T)(d:Nat)(x y:Sl):En:=[.vl t,.vl (.int ((d+1:Nat):Int)),x,y]
theorem oh {t:T}{d:Nat}{x y:Sl}:iS (zB iQ (vB 1) (cE (.int 0))) W4 iR (kE t d x y)=.nx (kE t d x y):=by
 refine zt ?_;show R.ok (((d+1:Nat):Int)==0)=_;rw[beq_eq_false_iff_ne.mpr (by lia)]
theorem A0 {t:T}{d:Nat}{r:En}:zd ZW (vE 1) (cE (.int 1)) (.vl t::.vl (.int ((d+1:Nat):Int))::r)=.ok (.int (d:Nat)):=by
 show R.ok (T.int (((d+1:Nat):Int)-1))=_;rw[show ((d+1:Nat):Int)-1=(d:Nat) by lia]
theorem pY {ρ:En}{c d:Nat}{l:List Nat}{s u:Str}(i:s=S [c])(f:u=S [d])(h:vE 0 ρ=.ok (.str (S ([c]++l++[d]))))(a:l.length<=9000):za 3 mf (z9 (vE 0) (z9 (cE (.str s)) (z9 (cE (.str u)) zj))) ρ=.ok (.str (S l)):=by
 subst i f;rw[xw h rfl rfl];exact uC (by simp) a
theorem BF:∀(d n:Nat),d<=n->d<=3->∀k:Kd,k.Ok d->mR (n+1) 0 [.str (S k.x),.int (d:Nat)]=.ok k.t
 |0,_,_,_,_,h=>h.elim
 |d+1,n,hn,hd,.whole lo hi,h=>by
  have h:Qz lo hi:=h;obtain⟨_,a,L,_⟩:=Qx h.n.1;obtain⟨c,r,e⟩:∃c r,nl lo=c::r:=by
   cases h:nl lo with
   |nil=>exact absurd h a
   |cons c r=>exact⟨c,r,rfl⟩
  have I:=L c (by rw[e];exact aj)
  have hE:vE 0 (kE (.str (S (Kd.whole lo hi).x)) d .un .un)=.ok (.str (S (c::(r++[46,46]++nl hi)))):=by rw[Kd.x];unfold lG;rw[e];rfl
  have o:zd zv (Zm (z9 (cE (.str "whole")) zj)) (za 1 QX (z9 (vE 0) zj)) (kE (.str (S (Kd.whole lo hi).x)) d .un .un)=.ok (.tup ([.str "whole"]++[.int lo,.int hi])):=
   Ws (Aw rfl) (by rw[zG];show QX [.str (S (Kd.whole lo hi).x)]=_;rw[Kd.x];exact QB h) (by simp)
  show zw (mQ mf mv (mR n 0) xf QX (kE (.str (S (Kd.whole lo hi).x)) d .un .un))=_;unfold mQ;rw[zb oh,zb (zt ((Wx (s:="{") (d:=123) rfl hE).trans (by rw[beq_eq_false_iff_ne.mpr (by lia)]))),zb (zt ((Wx (s:="(") (d:=40) rfl hE).trans (by rw[beq_eq_false_iff_ne.mpr (by lia)]))),zb (zt ((Wx (s:="[") (d:=91) rfl hE).trans (by rw[beq_eq_false_iff_ne.mpr (by lia)]))),zq o,Kd.t];rfl
 |d+1,n,hn,hd,.pick y,⟨p,J,i,_⟩=>by
  have Q:=we J i;have hE:vE 0 (kE (.str (S (Kd.pick y).x)) d .un .un)=.ok (.str (S ([123]++jn [32] (y.map lW)++[125]))):=by rw[Kd.x];rfl
  have a:y.map lW≠[]:=λz=>by rw[cn.mp z]at p;exact absurd p (by decide)
  have o:=kN (q:=32) (s:=" ") rfl (pY (s:="{") (u:="}") rfl rfl hE (by lia)) (by lia) a λx P=>by
   obtain⟨c,I,rfl⟩:=aF.mp P;exact λz=>(QA (i c I) 32 z).1 rfl
  rw[aS]at o;have G:=jq (k:=1) (js:=[]) (pX o) (by rw[ah];lia) (wt (fe:=za 1 xf (z9 (vE 0) zj)) ((λl=>T.str (S l)) ∘lW) wj y .un λc I=>by rw[zG];exact QC (i c I))
  have v:=WF (f:=cE (.str "pick")) (x:=.str "pick") rfl (wb G);show zw (mQ mf mv (mR n 0) xf QX (kE (.str (S (Kd.pick y).x)) d .un .un))=_;unfold mQ;rw[zb oh,zE ((j3 (Wx (s:="{") (d:=123) rfl hE)).trans (zq v)),Kd.t];rfl
 |d+1,n+1,hn,hd,.row j,⟨p,J,i⟩=>by
  have Q:=Wu J λk B=>Wv d k (i k B);have X:=Vt (d:=d) (by lia)
  have hE:vE 0 (kE (.str (S (Kd.row j).x)) d .un .un)=.ok (.str (S ([40]++jn [32] (j.map Kd.x)++[41]))):=by rw[Kd.x,Kd.xs_map];rfl
  have a:j.map Kd.x≠[]:=λz=>by rw[cn.mp z]at p;exact absurd p (by decide)
  have o:zH 2 (za 2 mv (z9 (za 3 mf (z9 (vE 0) (z9 (cE (.str "(")) (z9 (cE (.str ")")) zj)))) (z9 (cE (.str " ")) zj))) (kE (.str (S (Kd.row j).x)) d .un .un)=.nx (kE (.str (S (Kd.row j).x)) d (.vl (.lst (j.map λk=>T.str (S k.x)))) .un):=by
   refine zD ?_;rw[zW,pY (s:="(") (u:=")") rfl rfl hE (by lia),af,zY,af]
   have:=uD (q:=32) (m:=[]) ⟨rfl,rfl⟩ rfl a (by rw[ah];lia) (λw U=>by
    obtain⟨k,B,rfl⟩:=aF.mp U;exact kU d k (i k B)) (by lia)
   rw[aS]at this;exact this
  have G:=jq (k:=1) (js:=[1]) (fi:=Z9 (vE 2)) (ρ:=kE (.str (S (Kd.row j).x)) d (.vl (.lst (j.map λk=>T.str (S k.x)))) .un) rfl (by rw[ah];lia) (wt (ex:=[.vl (.int ((d+1:Nat):Int))]) (fe:=za 2 (mR (n+1) 0) (z9 (vE 0) (z9 (zd ZW (vE 1) (cE (.int 1))) zj))) (λk:Kd=>T.str (S k.x)) Kd.t j .un λk B=>by
   rw[zW,v0,af,A0,af];exact BF d n (by lia) (by lia) k (i k B))
  have v:=WF (f:=cE (.str "row")) (x:=.str "row") rfl (wb G);show zw (mQ mf mv (mR (n+1) 0) xf QX (kE (.str (S (Kd.row j).x)) d .un .un))=_;unfold mQ;rw[zb oh,zb (zt (Wx (s:="{") (d:=123) rfl hE)),zE ((j3 (Wx (s:="(") (d:=40) rfl hE)).trans ((zb o).trans (zq v))),Kd.t,Kd.ts_map];rfl
 |d+1,n+1,hn,hd,.many k lo hi,⟨p,J,i⟩=>by
  have P:=Wv d k i;have X:=Vt (d:=d) (by lia)
  have N:Qz lo hi:=by lia
  have Q:=jK N;have hB:=yW;have hE:vE 0 (kE (.str (S (Kd.many k lo hi).x)) d .un .un)=.ok (.str (S ([91]++k.x++93::lG lo hi))):=by rw[Kd.x,aQ ([91]++k.x)];rfl
  generalize (Kd.many k lo hi).x=z at hE⊢;have o:zH 3 (lw Ct (vE 0) (cE (.str "]"))) (kE (.str (S z)) d .un .un)=.nx (kE (.str (S z)) d .un (.vl (.tup [.str (S ([91]++k.x)),.str "]",.str (S (lG lo hi))]))):=by
   refine zD ?_;unfold lw;rw[hE,af];show (if (S ([91]++k.x++93::lG lo hi)).length<=iT/\((S [93]).length==0)=false then R.ok (T.tup [.str (br (S ([91]++k.x++93::lG lo hi)) (S [93])).1,.str (br (S ([91]++k.x++93::lG lo hi)) (S [93])).2.1,.str (br (S ([91]++k.x++93::lG lo hi)) (S [93])).2.2])else .bad)=_
   rw[kI (λz=>(yc N 93 z).2.2.2.2.2.1 rfl),if_pos ⟨by
    rw[Z2];simp only[ae,ac,ao];lia,by rw[Z2];rfl⟩]
   rfl
  have e2:WD (zd fr (vE 3) (cE (.int 0))) (zT (cE (.int 1))) lE (kE (.str (S z)) d .un (.vl (.tup [.str (S ([91]++k.x)),.str "]",.str (S (lG lo hi))])))=.ok (.str (S k.x)):=by
   show (if (S ([91]++k.x)).length<=iT then R.ok (T.str (bO (S ([91]++k.x)) (some ((1:Nat):Int)) none))else .bad)=_
   rw[Qw (by simp),if_pos (by rw[Z2];simp only[ae,ac,ao];lia)]
   rfl
  have G:za 2 (mR (n+1) 0) (z9 (WD (zd fr (vE 3) (cE (.int 0))) (zT (cE (.int 1))) lE) (z9 (zd ZW (vE 1) (cE (.int 1))) zj)) (kE (.str (S z)) d .un (.vl (.tup [.str (S ([91]++k.x)),.str "]",.str (S (lG lo hi))])))=.ok k.t:=by
   rw[zW,e2,af,A0,af];exact BF d n (by lia) (by lia) k i
  have v:za 1 QX (z9 (zd fr (vE 3) (cE (.int 2))) zj) (kE (.str (S z)) d .un (.vl (.tup [.str (S ([91]++k.x)),.str "]",.str (S (lG lo hi))])))=.ok (.tup [.int lo,.int hi]):=by
   rw[zG];exact QB N
  have Z:=Ws (WF (f:=cE (.str "many")) (x:=.str "many") rfl G) v (by simp)
  show zw (mQ mf mv (mR (n+1) 0) xf QX (kE (.str (S z)) d .un .un))=_;unfold mQ;rw[zb oh,zb (zt (Wx (s:="{") (d:=123) rfl hE)),zb (zt (Wx (s:="(") (d:=40) rfl hE)),zE ((j3 (Wx (s:="[") (d:=91) rfl hE)).trans ((zb o).trans (zq Z))),Kd.t];rfl
def Ru.w:Ru->List (List Nat)
 |.sum a b=>[[115,117,109],nl a,nl b]
 |.size a b=>[[115,105,122,101],nl a,nl b]
 |.word w=>[[119,111,114,100],w.cps.toList]
 |.rising=>[[114,105,115,105,110,103]]
 |.unlike=>[[117,110,108,105,107,101]]
 |_=>[]
def Ru.x:Ru->List Nat
 |.no r=>[110,111]++[40]++jn [44,32] [r.x]++[41]
 |.all r s=>[97,108,108]++[40]++jn [44,32] [r.x,s.x]++[41]
 |.some r s=>[115,111,109,101]++[40]++jn [44,32] [r.x,s.x]++[41]
 |.sum a b=>jn [32] (Ru.w (.sum a b))
 |.size a b=>jn [32] (Ru.w (.size a b))
 |.word w=>jn [32] (Ru.w (.word w))
 |.rising=>jn [32] (Ru.w .rising)
 |.unlike=>jn [32] (Ru.w .unlike)
inductive mW:Ru->List (T×List Nat)->Prop where
 |sum {a b:Int} (ha:ya a) (hb:ya b):mW (.sum a b) [(.str "sum",[115,117,109]),(.int a,nl a),(.int b,nl b)]
 |size {a b:Int} (ha:ya a) (hb:ya b):mW (.size a b) [(.str "size",[115,105,122,101]),(.int a,nl a),(.int b,nl b)]
 |word {w:Str} (h:Zf (.str w)=true):mW (.word w) [(.str "word",[119,111,114,100]),(.str w,w.cps.toList)]
 |rising:mW .rising [(.str "rising",[114,105,115,105,110,103])]
 |unlike:mW .unlike [(.str "unlike",[117,110,108,105,107,101])]
theorem yd {r:Ru}{o:List (T×List Nat)}(h:mW r o):r.t=.tup (o.map (·.1))/\r.x=jn [32] r.w/\r.w=o.map (·.2)/\o≠[]/\o.length<=3/\(r.x).length<=12/\(∀p∈o,me p.1=some (S p.2))/\∀w∈r.w,∀c∈w,m9 44 c/\c≠32/\c≠10:=by
 have d:∀(l:List Nat),l.all (λc=>decide (97<=c)&&decide (c<=122))=true->∀c∈l,m9 44 c/\c≠32/\c≠10:=λl U c u=>by
  have:=aU.mp U c u;simp at this;lia
 have j:∀{i:Int},ya i->∀c∈nl i,m9 44 c/\c≠32/\c≠10:=λh c u=>by
  have:=(Qx h).2.2.1 c u;lia
 have k:∀{s:Str} {l:List Nat} {a b:Int},s=S l->l.length<=4->l.all (λc=>decide (97<=c)&&decide (c<=122))=true->ya a->ya b->(jn [32] [l,nl a,nl b]).length<=12/\(∀p∈[(T.str s,l),(.int a,nl a),(.int b,nl b)],me p.1=some (S p.2))/\∀w∈[l,nl a,nl b],∀c∈w,m9 44 c/\c≠32/\c≠10:=λ{s l a b} X U q L Q=>by
  have N:=(Qx L).1;have Z:=(Qx Q).1;refine⟨by simp only[jn,ae,ac,ao];lia,λp hp=>?_,λw f=>?_⟩
  ·rcases am.mp hp with rfl|hp
   ·exact wM X (by lia)
   ·rcases am.mp hp with rfl|hp
    ·exact jW (by lia)
    ·rw[ax.mp hp];exact jW (by lia)
  ·rcases am.mp f with rfl|f
   ·exact d _ q
   ·rcases am.mp f with rfl|f
    ·exact j L
    ·rw[ax.mp f];exact j Q
 cases h with
 |sum q y=>
  obtain⟨G,J,B⟩:=k (s:="sum") rfl (by decide) rfl q y
  exact⟨by rw[Ru.t];rfl,by rw[Ru.x],rfl,b7 _ _,by simp,by rw[Ru.x];exact G,J,B⟩
 |size q y=>
  obtain⟨G,J,B⟩:=k (s:="size") rfl (by decide) rfl q y
  exact⟨by rw[Ru.t];rfl,by rw[Ru.x],rfl,b7 _ _,by simp,by rw[Ru.x];exact G,J,B⟩
 |@word w P=>
  have N:=Wq P;refine⟨by rw[Ru.t];rfl,by rw[Ru.x],rfl,b7 _ _,by simp,by simp only[Ru.x,Ru.w,jn,ae,ac,ao];omega,λp hp=>?_,λv I=>?_⟩
  ·rcases am.mp hp with rfl|hp
   ·exact wM rfl (by decide)
   ·rw[ax.mp hp];exact wM (Vp w).symm (aG N (by decide))
  ·rcases am.mp I with rfl|I
   ·exact d _ rfl
   ·rw[ax.mp I];intro c u;have:=Wr P c u
    clear d j k;lia
 |rising=>exact⟨by rw[Ru.t];rfl,by rw[Ru.x],rfl,b7 _ _,by simp,by simp[Ru.x,Ru.w,jn],λp hp=>by rw[ax.mp hp];exact wM rfl (by decide),λw f=>by rw[ax.mp f];exact d _ rfl⟩
 |unlike=>exact⟨by rw[Ru.t];rfl,by rw[Ru.x],rfl,b7 _ _,by simp,by simp[Ru.x,Ru.w,jn],λp hp=>by rw[ax.mp hp];exact wM rfl (by decide),λw f=>by rw[ax.mp f];exact d _ rfl⟩
inductive pO:Ru->Str->List Nat->List Ru->Prop where
 |no {r:Ru}:pO (.no r) "no" [110,111] [r]
 |all {r s:Ru}:pO (.all r s) "all" [97,108,108] [r,s]
 |some {r s:Ru}:pO (.some r s) "some" [115,111,109,101] [r,s]
theorem ye {r:Ru}{s:Str}{h:List Nat}{rs:List Ru}(o:pO r s h rs):s=S h/\r.t=.tup (.str s::rs.map Ru.t)/\r.x=h++[40]++jn [44,32] (rs.map Ru.x)++[41]/\((s=="no")||((s=="all")||(s=="some")))=true/\lF (.str s) (.tup [.str "no",.str "all",.str "some"])=.ok true/\h.length<=4/\(∀c∈h,c≠40/\c≠10)/\sc 44 0 h=some 0/\rs≠[]/\rs.length<=2:=by
 cases o with
 |no=>exact⟨rfl,by rw[Ru.t];rfl,by rw[Ru.x];rfl,by decide+kernel,rfl,by decide,by decide,by decide,b7 _ _,by simp⟩
 |all=>exact⟨rfl,by rw[Ru.t];rfl,by rw[Ru.x];rfl,by decide+kernel,rfl,by decide,by decide,by decide,b7 _ _,by simp⟩
 |some=>exact⟨rfl,by rw[Ru.t];rfl,by rw[Ru.x];rfl,by decide+kernel,rfl,by decide,by decide,by decide,b7 _ _,by simp⟩
theorem JB {P:Nat->Ru->Prop}(k:∀d r v,mW r v->P (d+1) r)(u:∀d r s h rs,pO r s h rs->(∀q∈rs,Zk d q/\P d q)->P (d+1) r){d:Nat}{r:Ru}(h:Zk d r):P d r:=by
 have o:∀{d:Nat} {a b:Ru},Zk d a/\P d a->Zk d b/\P d b->∀q∈[a,b],Zk d q/\P d q:=λl i q j=>by
  rcases am.mp j with rfl|j
  ·exact l
  ·rw[ax.mp j];exact i
 induction h with
 |sum l i=>exact k _ _ _ (.sum l i)
 |size l i=>exact k _ _ _ (.size l i)
 |word h=>exact k _ _ _ (.word h)
 |rising=>exact k _ _ _ .rising
 |unlike=>exact k _ _ _ .unlike
 |no h p=>exact u _ _ _ _ _ .no λq j=>by rw[ax.mp j];exact⟨h,p⟩
 |all h h' p f=>exact u _ _ _ _ _ .all (o ⟨h,p⟩ ⟨h',f⟩)
 |some h h' p f=>exact u _ _ _ _ _ .some (o ⟨h,p⟩ ⟨h',f⟩)
noncomputable def mn:Nat->Nat
 |0=>2
 |d+1=>2*mn d+10
theorem xy {d:Nat}(h:d<=3):mn d<=100:=by
 have:d=0\/d=1\/d=2\/d=3:=by lia
 rcases this with rfl|rfl|rfl|rfl<;>decide
theorem QD {d:Nat}{rs:List Ru}(i:rs.length<=2)(h:∀q∈rs,q.x.length<=mn d):(jn [44,32] (rs.map Ru.x)).length<=2*mn d+4:=by
 have:=y0 (mn d) [44,32] (rs.map Ru.x) λx a=>by
  obtain⟨k,f,rfl⟩:=aF.mp a;exact h k f
 simp only[ah,ac,ao]at this;have:rs.length*(mn d+2)<=2*(mn d+2):=dG _ i;lia
theorem kW {d:Nat}{r:Ru}(h:Zk d r):r.x.length<=mn d/\∀c∈r.x,c≠10:=by
 refine JB (P:=λd r=>r.x.length<=mn d/\∀c∈r.x,c≠10) (λd r G o=>?_) (λd r s h rs o p=>?_) h
 ·obtain⟨_,B,_,_,_,k,_,u⟩:=yd o;have l:2<=mn d:=by cases d<;>simp only[mn]<;>lia
  refine⟨by rw[mn];lia,?_⟩
  rw[B];have:∀ls:List (List Nat),(∀w∈ls,∀c∈w,m9 44 c/\c≠32/\c≠10)->∀c∈jn [32] ls,c≠10:=λls h=>wd (by decide) ls λw f c a=>(h w f c a).2.2
  exact this _ u
 ·obtain⟨_,_,k,_,_,u,y,_,_,v⟩:=ye o;have:=QD v λq i=>(p q i).2.1;rw[k];refine⟨by simp only[mn,ae,ac,ao];lia,λc a=>?_⟩
  have j:=wd (P:=λc=>c≠10) (m:=[44,32]) (by decide) (rs.map Ru.x) λw f=>by
   obtain⟨q,i,rfl⟩:=aF.mp f;exact(p q i).2.2
  rcases aT.mp a with a|a
  ·rcases aT.mp a with a|a
   ·rcases aT.mp a with a|a
    ·exact(y c a).2
    ·have:c=40:=by simpa using a
     lia
   ·exact j c a
  ·have:c=41:=by simpa using a
   lia
theorem Ck {d:Nat}{r:Ru}(h:Zk d r):sc 44 0 r.x=some 0:=by
 refine JB (P:=λ_ r=>sc 44 0 r.x=some 0) (λd r v o=>?_) (λd r s h rs o l=>?_) h
 ·obtain⟨_,p,_,_,_,_,_,f⟩:=yd o;rw[p];exact uE _ 0 (wd (by decide) _ λw a c u=>(f w a c u).1)
 ·obtain⟨_,_,k,_,_,_,_,f,_,_⟩:=ye o;have j:=Vs (q:=44) (m:=[44,32]) rfl (rs.map Ru.x) λw a=>by
   obtain⟨q,i,rfl⟩:=aF.mp a;exact(l q i).2
  rw[k,ja _ _ 0 1 (by rw[ja _ _ 0 1 (by rw[ja _ _ 0 0 f];rfl)];exact j)];rfl
theorem Di (x:Str):mw [.str x]=.ok (.bl ((x=="no")||((x=="all")||(x=="some")))):=by
 show zw (zC (mM (ZD iQ (vB 0) (cE (.str "no"))) (mM (ZD iQ (vB 0) (cE (.str "all"))) (ZD iQ (vB 0) (cE (.str "some"))))) [.vl (.str x)])=_;rw[zq (t:=.bl ((x=="no")||((x=="all")||(x=="some"))))]
 ·rfl
 ·exact UY rfl (UY rfl rfl)
theorem kX {r:Ru}{d:List (T×List Nat)}(h:mW r d):gx (jA " ") (zL (Z9 (vE 0)) (zI 0) Z1 (gx ub (vE 0)) 1 []) [.vl r.t]=.ok (.str (S r.x)):=by
 obtain⟨j,u,a,_,v,l,i,_⟩:=yd h;have c:=jq (k:=1) (js:=[]) (t9 (f:=vE 0) (ρ:=[.vl r.t]) (by rw[j];rfl)) (by rw[ah];lia) (wt (fe:=gx ub (vE 0)) (ex:=[]) (λp:T×List Nat=>p.1) (λp=>T.str (S p.2)) d .un λq o=>pb rfl (i q o))
 rw[u]at l⊢;exact wa (m:=[32]) (c.trans (by rw[a,aS];rfl)) (by decide) (by rw[a,ah];lia) (by lia)
abbrev Fl (c:List T->R T):En->R T:=gx (jA ", ") (zL (Z9 (lR (vE 0) (zT (cE (.int 1))) lE)) (zI 0) Z1 (za 1 c (z9 (vE 0) zj)) 1 [])
theorem DC {h:List Nat}{s:Str}{rs:List Ru}{c:List T->R T}(l:s=S h)(r:h.length<=4)(u:rs.length<=2)(p:(jn [44,32] (rs.map Ru.x)).length<=1000)(o:∀q∈rs,c [q.t]=.ok (.str (S q.x))):zC (zd zv (zd zv (zd zv (zd fr (vE 0) (cE (.int 0))) (cE (.str "("))) (Fl c)) (cE (.str ")"))) [.vl (.tup (.str s::rs.map Ru.t))]=.rt (.str (S (h++[40]++jn [44,32] (rs.map Ru.x)++[41]))):=by
 subst l;have a:lR (vE 0) (zT (cE (.int 1))) lE [.vl (.tup (.str (S h)::rs.map Ru.t))]=.ok (.tup (rs.map Ru.t)):=by
  show R.ok (T.tup (ml (.str (S h)::rs.map Ru.t) (some ((1:Nat):Int)) none))=_;rw[Wm];rfl
 have j:=jq (k:=1) (js:=[]) (t9 a) (by rw[ah];lia) (wt (fe:=za 1 c (z9 (vE 0) zj)) Ru.t (λq=>T.str (S q.x)) rs .un λq i=>by rw[zG];exact o q i)
 have j:=wa (m:=[44,32]) (ls:=rs.map Ru.x) (j.trans (by rw[aS];rfl)) (by decide) (by rw[ah];lia) (by lia)
 have a:zd fr (vE 0) (cE (.int 0)) [.vl (.tup (.str (S h)::rs.map Ru.t))]=.ok (.str (S h)):=by
  rw[zu];exact l7
 have f:=j4 (g:=cE (.str "(")) (b:=[40]) a rfl (by simp only[ac,ao];lia)
 have d:=j4 f j (by simp only[ae,ac,ao];lia)
 exact zq (j4 (g:=cE (.str ")")) (b:=[41]) d rfl (by simp only[ae,ac,ao];lia))
theorem DJ {s:Str}{ts:List T}:ZQ (za 1 mw (z9 (zd fr (vE 0) (cE (.int 0))) zj)) [.vl (.tup (.str s::ts))]=.ok ((s=="no")||((s=="all")||(s=="some"))):=by
 rw[ZJ,zG,zu];show (R.bind (R.bind (fr (.tup (.str s::ts)) (.int 0)) λx=>mw [x]) pT)=_;rw[l7,af,Di];rfl
theorem DK {s:Str}{ts:List T}:zB lF (zd fr (vE 0) (cE (.int 0))) (Zm (z9 (cE (.str "no")) (z9 (cE (.str "all")) (z9 (cE (.str "some")) zj)))) [.vl (.tup (.str s::ts))]=lF (.str s) (.tup [.str "no",.str "all",.str "some"]):=by
 show (R.bind (zd fr (vE 0) (cE (.int 0)) _) λx=>R.bind (.ok (.tup [.str "no",.str "all",.str "some"])) λy=>lF x y)=_;rw[zu];show (R.bind (fr (.tup (.str s::ts)) (.int 0)) _)=_;rw[l7,af,af]
theorem kY {d:Nat}{r:Ru}(h:Zk d r):∀n m,d<=n->d<=m->d<=3->nJ (n+1) 0 [r.t]=.ok (.str (S r.x))/\nU (m+1) 0 [r.t]=.ok (.str (S r.x)):=by
 refine JB (P:=λd r=>∀n m,d<=n->d<=m->d<=3->nJ (n+1) 0 [r.t]=.ok (.str (S r.x))/\nU (m+1) 0 [r.t]=.ok (.str (S r.x))) (λd r Q o n m _ _ _=>?_) (λd r s h rs o f n m hn N hd=>?_) h
 ·have j:=kX o;obtain⟨s,ts,e,u,G⟩:∃s ts,r.t=.tup (.str s::ts)/\((s=="no")||((s=="all")||(s=="some")))=false/\lF (.str s) (.tup [.str "no",.str "all",.str "some"])=.ok false:=by
   cases o<;>(rw[Ru.t];exact⟨_,_,rfl,by decide+kernel,rfl⟩)
  constructor
  ·show zw (ot (nJ n 0) mw [.vl r.t])=_;unfold ot;rw[zb (zt (by rw[e,DJ,u])),zq j];rfl
  ·show zw (nZ (nU m 0) [.vl r.t])=_;unfold nZ;rw[zb (zt (by rw[e,DK,G])),zq j];rfl
 ·obtain⟨n,rfl⟩:∃k,n=k+1:=⟨n-1,by lia⟩
  obtain⟨m,rfl⟩:∃k,m=k+1:=⟨m-1,by lia⟩
  obtain⟨p,I,v,B,y,l,_,_,_,i⟩:=ye o;have L:=QD (d:=d) i λq a=>(kW (f q a).1).1;have J:=xy (d:=d) (by lia)
  have f:=λq a=>(f q a).2 n m (by lia) (by lia) (by lia)
  rw[I,v];constructor
  ·show zw (ot (nJ (n+1) 0) mw [.vl (.tup (.str s::rs.map Ru.t))])=_;unfold ot;rw[zE ((j3 (by rw[DJ,B])).trans (DC p l i (by lia) λq a=>(f q a).1))];rfl
  ·show zw (nZ (nU (m+1) 0) [.vl (.tup (.str s::rs.map Ru.t))])=_;unfold nZ;rw[zE ((j3 (by rw[DK,y])).trans (DC p l i (by lia) λq a=>(f q a).2))];rfl
theorem Fe {a:T}{ts:List T}:lR (vE 0) (zT (cE (.int 1))) lE [.vl (.lst (a::ts))]=.ok (.lst ts):=by
 show R.ok (T.lst (ml (a::ts) (some ((1:Nat):Int)) none))=_;rw[Wm];rfl
theorem Dz {h:T}{r:List T}{ρ:En}:zd fr (vE 0) (cE (.int 0)) (.vl (.lst (h::r))::ρ)=.ok h:=by
 rw[zu];show ly (h::r) 0=_;exact qV (j:=0) rfl
theorem t6 {s w:Str}{ts:List T}:zB iQ (zd fr (vE 0) (cE (.int 0))) (cE (.str w)) [.vl (.lst (.str s::ts))]=.ok (s==w):=by
 show (R.bind (zd fr (vE 0) (cE (.int 0)) _) λx=>R.bind (.ok (.str w)) λy=>iQ x y)=_;rw[Dz,af,af];rfl
theorem QE {s:Str}{a b:Int}(f:ya a)(j:ya b)(d:((s=="sum")||(s=="size"))=true):V6 [.lst [.str s,.str (S (nl a)),.str (S (nl b))]]=.ok (.tup [.str s,.int a,.int b]):=by
 have c:=jq (k:=1) (js:=[]) (pX (Fe (a:=.str s) (ts:=[.str (S (nl a)),.str (S (nl b))]))) (by simp) (wt (fe:=za 1 mN (z9 (vE 0) zj)) (λi:Int=>T.str (S (nl i))) T.int [a,b] .un λi hi=>by
  rw[zG];rcases am.mp hi with rfl|hi
  ·exact uB f
  ·rw[ax.mp hi];exact uB j)
 have e:=Ws (Aw (Dz (h:=T.str s) (r:=[.str (S (nl a)),.str (S (nl b))]) (ρ:=[]))) (wb c) (by simp)
 show zw (Ke mN [.vl (.lst [.str s,.str (S (nl a)),.str (S (nl b))])])=_;unfold Ke;rw[zE ((j3 (by
  rw[Wd,t6,af,t6];cases l:(s=="sum")with
  |true=>rfl
  |false=>rw[l,Bool.false_or]at d;rw[d];rfl)).trans (zq e))];rfl
theorem U8 {s:Str}{ts:List T}(a:((s=="sum")||(s=="size"))=false):V6 [.lst (.str s::ts)]=.ok (.tup (.str s::ts)):=by
 rw[dF]at a;show zw (Ke mN [.vl (.lst (.str s::ts))])=_;unfold Ke;rw[zb (zt (by rw[Wd,t6,af,a.1,if_neg ay,t6,a.2])),zq (wb rfl)];rfl
theorem QF {r:Ru}{f:List (T×List Nat)}(h:mW r f):V6 [.lst (r.w.map λl=>T.str (S l))]=.ok r.t:=by
 cases h with
 |sum d a=>rw[Ru.t];exact QE (s:="sum") d a (by decide+kernel)
 |size d a=>rw[Ru.t];exact QE (s:="size") d a (by decide+kernel)
 |@word w i=>
  rw[Ru.t];have:=U8 (s:="word") (ts:=[.str (S w.cps.toList)]) (by decide+kernel)
  rw[Vp]at this;show V6 [.lst [.str (S [119,111,114,100]),.str (S w.cps.toList)]]=_;rw[Vp];exact this
 |rising=>rw[Ru.t];exact U8 (s:="rising") (ts:=[]) (by decide+kernel)
 |unlike=>rw[Ru.t];exact U8 (s:="unlike") (ts:=[]) (by decide+kernel)
theorem Dl {t b c:T}{s:Str}{d:Nat}:ZQ (za 1 mw (z9 (zd fr (vE 2) (cE (.int 0))) zj)) (kE t d (.vl (.tup [.str s,b,c])) .un)=.ok ((s=="no")||((s=="all")||(s=="some"))):=by
 rw[ZJ,zG];show (R.bind (R.bind (fr (.tup [.str s,b,c]) (.int 0)) λx=>mw [x]) pT)=_;rw[l7,af,Di];rfl
theorem Bv {d:Nat}{r:Ru}(h:Zk d r):∀n,d<=n->d<=3->nz (n+1) 0 [.str (S r.x),.int (d:Nat)]=.ok r.t:=by
 refine JB (P:=λd r=>∀n,d<=n->d<=3->nz (n+1) 0 [.str (S r.x),.int (d:Nat)]=.ok r.t) (λd r ps o n _ _=>?_) (λd r s h rs o B n hn hd=>?_) h
 ·obtain⟨e1,u,J,N,e3,e4,e5,G⟩:=yd o;have v:40∉r.x:=λz=>by
   rw[u]at z;exact(wd (m:=[32]) (P:=m9 44) (by decide) _ (λw a c hc=>(G w a c hc).1) 40 z).2.1 rfl
  have l:r.w≠[]:=λz=>N (cn.mp (J.symm.trans z));have L:((S r.x=="no")||((S r.x=="all")||(S r.x=="some")))=false:=by
   rw[show (("no":Str))=S [110,111] from rfl,show (("all":Str))=S [97,108,108] from rfl,show (("some":Str))=S [115,111,109,101] from rfl,kL,kL,kL];cases o<;>simp[Ru.x,Ru.w,jn]
  have p:zH 2 (lw qb (vE 0) (cE (.str "("))) (kE (.str (S r.x)) d .un .un)=.nx (kE (.str (S r.x)) d (.vl (.tup [.str (S r.x),.str cY,.str cY])) .un):=zD (Qy (y:=[40]) rfl rfl (by lia) rfl (kK v))
  have es:=kN (f:=vE 0) (ρ:=kE (.str (S r.x)) d (.vl (.tup [.str (S r.x),.str cY,.str cY])) .un) (q:=32) (s:=" ") (ls:=r.w) rfl (by rw[←u];rfl) (by rw[←u];lia) l λw a z=>(G w a 32 z).2.1 rfl
  have ex:za 1 V6 (z9 (lw K9 (vE 0) (cE (.str " "))) zj) (kE (.str (S r.x)) d (.vl (.tup [.str (S r.x),.str cY,.str cY])) .un)=.ok r.t:=by rw[zG,es,af,QF o]
  show zw (n8 mf mv mw (nz n 0) V6 (kE (.str (S r.x)) d .un .un))=_;unfold n8;rw[zb oh,zb p,zb (zt (by rw[Dl,L])),zq ex];rfl
 ·obtain⟨n,rfl⟩:∃k,n=k+1:=⟨n-1,by lia⟩
  obtain⟨X,a2,j,a4,a5,a6,a7,_,U,Q⟩:=ye o;subst X;have hx:=QD (d:=d) Q λq i=>(kW (B q i).1).1;have hb:=xy (d:=d) (by lia)
  have ep:bc (S r.x) (S [40])=(S h,S [40],S (jn [44,32] (rs.map Ru.x)++[41])):=by
   rw[j,aQ];exact y9 λz=>(a7 40 z).1 rfl
  have hl:r.x.length<=9000:=by rw[j];simp only[ae,ac,ao];lia
  have p:zH 2 (lw qb (vE 0) (cE (.str "("))) (kE (.str (S r.x)) d .un .un)=.nx (kE (.str (S r.x)) d (.vl (.tup [.str (S h),.str (S [40]),.str (S (jn [44,32] (rs.map Ru.x)++[41]))])) .un):=zD (Qy (y:=[40]) rfl rfl hl rfl ep);have I:∀{x:Sl},zd fr (vE 2) (cE (.int 0)) (kE (.str (S r.x)) d (.vl (.tup [.str (S h),.str (S [40]),.str (S (jn [44,32] (rs.map Ru.x)++[41]))])) x)=.ok (.str (S h)):=by
   intro x;rw[zu];show (R.bind (.ok (.tup [.str (S h),.str (S [40]),.str (S (jn [44,32] (rs.map Ru.x)++[41]))])) λx=>R.bind (.ok (.int 0)) λy=>fr x y)=_;rw[af,af];exact l7
  have i1:=j4 (g:=cE (.str "(")) (b:=[40]) (I (x:=.un)) rfl (by simp only[ac,ao];lia)
  have Z:zH 3 (za 2 mv (z9 (za 3 mf (z9 (vE 0) (z9 (zd zv (zd fr (vE 2) (cE (.int 0))) (cE (.str "("))) (z9 (cE (.str ")")) zj)))) (z9 (cE (.str ", ")) zj))) (kE (.str (S r.x)) d (.vl (.tup [.str (S h),.str (S [40]),.str (S (jn [44,32] (rs.map Ru.x)++[41]))])) .un)=.nx (kE (.str (S r.x)) d (.vl (.tup [.str (S h),.str (S [40]),.str (S (jn [44,32] (rs.map Ru.x)++[41]))])) (.vl (.lst (rs.map λq=>T.str (S q.x))))):=by
   refine zD ?_;have t1:za 3 mf (z9 (vE 0) (z9 (zd zv (zd fr (vE 2) (cE (.int 0))) (cE (.str "("))) (z9 (cE (.str ")")) zj))) (kE (.str (S r.x)) d (.vl (.tup [.str (S h),.str (S [40]),.str (S (jn [44,32] (rs.map Ru.x)++[41]))])) .un)=.ok (.str (S (jn [44,32] (rs.map Ru.x)))):=by
    rw[xw rfl i1 rfl,j];exact uC (by simp only[ae,ac,ao];lia) (by lia)
   have q:=uD (q:=44) (m:=[32]) ⟨rfl,rfl⟩ rfl (ls:=rs.map Ru.x) (λz=>U (cn.mp z)) (by rw[ah];lia) (λw a=>by
    obtain⟨q,i,rfl⟩:=aF.mp a;exact Ck (B q i).1) (by lia)
   rw[aS]at q;rw[zW,t1,af,zY,af];exact q
  have c:=jq (k:=1) (js:=[1]) (fi:=Z9 (vE 3)) (ρ:=kE (.str (S r.x)) d (.vl (.tup [.str (S h),.str (S [40]),.str (S (jn [44,32] (rs.map Ru.x)++[41]))])) (.vl (.lst (rs.map λq=>T.str (S q.x))))) rfl (by rw[ah];lia) (wt (ex:=[.vl (.int ((d+1:Nat):Int))]) (fe:=za 2 (nz (n+1) 0) (z9 (vE 0) (z9 (zd ZW (vE 1) (cE (.int 1))) zj))) (λq:Ru=>T.str (S q.x)) Ru.t rs .un λq i=>by
   rw[zW,v0,af,A0,af];exact(B q i).2 n (by lia) (by lia))
  have t:=Ws (Aw I) (wb c) (by simp;lia)
  show zw (n8 mf mv mw (nz (n+1) 0) V6 (kE (.str (S r.x)) d .un .un))=_;unfold n8;rw[zb oh,zb p,zE ((j3 (by rw[Dl,a4])).trans ((zb Z).trans (zq t))),a2];rfl
theorem Fh {d:Nat}{r:Ru}(h:Zk d r):Pl (d+1) r.t:=by
 induction h with
 |sum _ _=>intro x a;simp only[am,a_,or_false]at a;rcases a with rfl|rfl|rfl<;>trivial
 |size _ _=>intro x a;simp only[am,a_,or_false]at a;rcases a with rfl|rfl|rfl<;>trivial
 |word _=>intro x a;simp only[am,a_,or_false]at a;rcases a with rfl|rfl<;>trivial
 |rising=>intro x a;simp only[am,a_,or_false]at a;subst a;trivial
 |unlike=>intro x a;simp only[am,a_,or_false]at a;subst a;trivial
 |no _ j=>intro x a;simp only[am,a_,or_false]at a;rcases a with rfl|rfl;trivial;exact j
 |all _ _ i f=>intro x a;simp only[am,a_,or_false]at a;rcases a with rfl|rfl|rfl;trivial;exact i;exact f
 |some _ _ i f=>intro x a;simp only[am,a_,or_false]at a;rcases a with rfl|rfl|rfl;trivial;exact i;exact f
theorem F5 {b:Bool}{r:Ru}(h:Zk 2 r):Pl 29 (lp b r):=λx a=>by
 simp only[am,a_,or_false]at a;rcases a with rfl|rfl
 ·trivial
 ·exact(Fh h).le (show 2+1<=28 by decide)
theorem kZ (ns:List Int)(a:Int)(d:0<=a):∃(b:Bool) (r:Ru),Zk 2 r/\pd [iZ ns,.int a]=.ok (lp b r):=by
 obtain⟨p,hp,i,f⟩:=zR ns a 2 d (by decide)
 obtain⟨r,hr,ok⟩:=Wn ns 8 2 (by lia) (by lia) (4*a+30) (by lia)
 refine⟨decide (p=0),r,ok,?_⟩;show zw (t7 lB (Am 8) (lg (iZ ns) (.int a)))=_;unfold t7;rw[zq (t:=lp (decide (p=0)) r)]
 ·rfl
 ·show Zm _ (lg (iZ ns) (.int a))=_;refine WF ?_ ?_
  ·rw[zu];show (za 3 lB _ (lg (iZ ns) (.int a))).bind (fr (.lst [.str "keep",.str "bar"]))=_;rw[show za 3 lB (z9 (vE 0) (z9 (vE 1) (z9 (cE (.int 2)) zj))) (lg (iZ ns) (.int a))=lB [iZ ns,.int a,.int 2] from rfl,hp,af];have:p=0\/p=1:=by lia
   rcases this with rfl|rfl<;>rfl
  ·rw[Zt,v0,af,zu,zu,zY,af,v1,af,uY _ _ (.inl ⟨by decide,by decide⟩),af,zY,af]
   show (R.ok _).bind _=_;rw[af];exact hr
theorem Kl {n:Nat}{a b:T}(i:Pl n a)(f:Pl n b):Pl (n+1) (.tup [a,b]):=λx d=>by
 rcases am.mp d with rfl|d
 ·exact i
 ·rw[ax.mp d];exact f
theorem pM {n:Nat}{a b c:T}(j:Pl n a)(i:Pl n b)(f:Pl n c):Pl (n+1) (.tup [a,b,c]):=λx d=>by
 rcases am.mp d with rfl|d
 ·exact j
 ·exact Kl i f x d
theorem K0:∀(d:Nat) (k:Kd),k.Ok d->Pl (2*d+2) k.t
 |0,_,h=>h.elim
 |d+1,.whole lo hi,_=>by rw[Kd.t];exact pM trivial trivial trivial
 |d+1,.pick j,_=>by
  rw[Kd.t];refine Kl trivial λy hy=>?_;obtain⟨c,_,rfl⟩:=aF.mp hy;exact Kl (n:=2*d+1) trivial trivial
 |d+1,.row l,⟨_,_,f⟩=>by
  rw[Kd.t,Kd.ts_map];refine Kl trivial λy hy=>?_;obtain⟨k,i,rfl⟩:=aF.mp hy;exact K0 d k (f k i)
 |d+1,.many k lo hi,⟨_,_,f⟩=>by
  rw[Kd.t];intro x a;rcases am.mp a with rfl|a
  ·exact trivial
  ·exact pM (b:=.int lo) (c:=.int hi) (Pl.up _ _ (K0 d k f)) trivial trivial x a
theorem DP {k:Kd}(a:k.Ok 3):m3 [k.t]=.ok (.bl true):=by
 have hi:=UN 3 k a;rw[wH _ (Ju 3 _ hi).so,hi]
theorem Vu {k:Kd}(a:k.Ok 3):pF [k.t]=.ok (.str (S k.x)):=by
 show zw (rF Kc (CK 20) [.vl k.t])=_;rw[rF,zb (jI (t:=.non) (by rw[zG,v0,af,Qn a])),zq (t:=.str (S k.x))]
 ·rfl
 ·show za 1 _ _ [.vl k.t]=_;rw[zG,v0,af];exact(sA 3 19 19 (by decide) (by decide) (by decide) k a).1
theorem Vv {k:Kd}(a:k.Ok 3):pQ [.str (S k.x)]=.ok k.t:=by
 have d:zH 1 (za 2 (sT 20) (z9 (vE 0) (z9 (cE (.int 3)) zj))) [.vl (.str (S k.x)),.un]=.nx [.vl (.str (S k.x)),.vl k.t]:=by
  refine zD ?_;rw[zW];exact BF 3 19 (by decide) (by decide) k a
 show zw (rc m3 nE (sT 20) [.vl (.str (S k.x)),.un])=_;unfold rc;rw[zb (jI (t:=.non) (by rw[zG];rfl)),zb d,zb (zt (by rw[jS,ZJ,zG,v1,af,DP a,af,Ji,af];rfl)),zq (t:=k.t) rfl];rfl
theorem Hq {r:Ru}(h:Zk 3 r):nH [r.t]=.ok (.bl true):=by
 show zw (tm (ri 8) [.vl r.t])=_;rw[tm,zq (t:=.bl true)]
 ·rfl
 ·show za 2 _ _ [.vl r.t]=_;rw[zW,v0,af,zY,af];exact jJ 8 3 (by lia) r h
theorem Vw {r:Ru}(h:Zk 3 r):o4 [r.t]=.ok (.str (S r.x)):=by
 show zw (rz k8 (Cy 8) [.vl r.t])=_;rw[rz,zb (jI (t:=.non) (by rw[zG,v0,af,Jl h])),zq (t:=.str (S r.x))]
 ·rfl
 ·show za 1 _ _ [.vl r.t]=_;rw[zG,v0,af];exact(kY h 7 7 (by decide) (by decide) (by decide)).1
theorem Vx {r:Ru}(h:Zk 3 r):tX [.str (S r.x)]=.ok r.t:=by
 have a:zH 1 (za 2 (sY 8) (z9 (vE 0) (z9 (cE (.int 3)) zj))) [.vl (.str (S r.x)),.un]=.nx [.vl (.str (S r.x)),.vl r.t]:=by
  refine zD ?_;rw[zW];exact Bv h 7 (by decide) (by decide)
 show zw (rQ nH nE (sY 8) [.vl (.str (S r.x)),.un])=_;unfold rQ;rw[zb (jI (t:=.non) (by rw[zG];rfl)),zb a,zb (zt (by rw[jS,ZJ,zG,v1,af,Hq h,af,Ji,af];rfl)),zq (t:=r.t) rfl];rfl
noncomputable abbrev D:Type:=Bool×Ru
abbrev lM (d:D):T:=lp d.1 d.2
abbrev sf (d:D)(ws:List T):List T:=U6 d.1 d.2 ws
def lf (ws:List T)(ds:List D):List T:=ds.foldl (λw d=>sf d w) ws
def nu (ws:List T):List D->List T
 |[]=>[]
 |d::ds=>.lst ws::nu (sf d ws) ds
abbrev sd (k:Kd)(ds:List D)(us:List T):List (Str×Fd):=sv k.t (nu k.all ds++[.lst (lf k.all ds)]) (ds.map lM) us
theorem QG (ws:List T)(ds:List D)(d:D):lf ws (ds++[d])=sf d (lf ws ds):=by unfold lf;rw[List.foldl_append];rfl
theorem U9:∀(ws:List T) (ds:List D) (d:D),nu ws (ds++[d])=nu ws ds++[.lst (lf ws ds)]
 |_,[],_=>rfl
 |ws,e::ds,d=>by
  show T.lst ws::nu _ (ds++[d])=_;rw[U9];rfl
theorem Ua:∀(ws:List T) (ds:List D),(nu ws ds).length=ds.length
 |_,[]=>rfl
 |ws,e::ds=>by rw[nu,ac,Ua];rfl
theorem QH {x:T}:∀(ds:List D) (ws:List T),x∈lf ws ds->x∈ws
 |[],_,h=>h
 |d::ds,ws,h=>(ff.mp (QH ds _ h)).1
theorem uF:∀(ds:List D) (ws:List T),(lf ws ds).length<=ws.length
 |[],_=>au _
 |d::ds,ws=>aG (uF ds _) (List.length_filter_le _ _)
theorem xz {k:Kd}{ds:List D}{d:D}{us:List T}:my k.t (nu k.all ds) (ds.map lM) us (lf k.all ds) d.1 d.2=sd k (ds++[d]) us:=by
 unfold my sd;rw[U9,QG,bF];rfl
section
variable {k:Kd}{ds:List D}{d:D}{us:List T}(hk:k.Ok 3)(h40:k.all.length<=40)
include hk h40
theorem Ch {x:T}(a:x∈lf k.all ds):W 2 x:=Du hk (QH ds _ a)
theorem Do (hr:Zk 3 d.2)(f:ds.length<=20):QW (sd k ds us) [lM d]=.ok (.int (((lf k.all ds).length:Int)-((lf k.all (ds++[d])).length:Int)),sd k (ds++[d]) []):=by
 have:=uF ds k.all;rw[←xz,QG];exact EV hr (λx a=>Ch hk h40 a) (by lia) (by rw[Ua];lia) (by rw[ah];lia)
theorem AO (hr:Zk 3 d.2)(f:ds.length<=20):mB (sd k ds us) [lM d]=.ok (.non,sd k (ds++[d]) us):=by
 have:=uF ds k.all;rw[←xz];exact CV hr (λx a=>Ch hk h40 a) (by lia) (by rw[Ua];lia) (by rw[ah];lia)
end
theorem xA {k:Kd}{ds:List D}{d:D}{us:List T}(a:us.length<=1000):xb (sd k (ds++[d]) us) []=.ok (.str (dw d.1),sd k ds (us++[lM d])):=by
 unfold sd;rw[U9,bF];exact kG a
noncomputable def oq (b:Bool):List Nat:=if b then [107,101,101,112]else [98,97,114]
theorem A1 (b:Bool):dw b=S (oq b):=by cases b<;>rfl
theorem Df (b:Bool):(oq b).length<=4/\∀c∈oq b,c≠32/\c≠10:=by cases b<;>decide
def lx (d:D):List Nat:=oq d.1++[32]++d.2.x
abbrev lO (k:Kd)(ds:List D):List (List Nat):=k.x::ds.map lx
def la (k:Kd)(ds:List D):List Nat:=(lO k ds).flatMap (·++[10])
theorem QJ (k:Kd)(ds:List D)(d:D):la k (ds++[d])=la k ds++(lx d++[10]):=by
 unfold la lO;rw[bF,←cB,List.flatMap_append];simp
theorem QK:∀ls:List (List Nat),jn [] (ls.map (·++[10]))=ls.flatMap (·++[10])
 |[]=>rfl
 |[x]=>by simp[jn]
 |x::y::r=>by
  show (x++[10])++([]++jn [] ((y::r).map (·++[10])))=_;rw[QK (y::r)];rfl
theorem QL:∀ls:List (List Nat),ls≠[]->ls.flatMap (·++[10])=jn [10] ls++[10]
 |[],h=>absurd rfl h
 |[x],_=>by simp[jn]
 |x::y::r,_=>by
  show (x++[10])++(y::r).flatMap (·++[10])=x++([10]++jn [10] (y::r))++[10];rw[QL (y::r) (b7 _ _)];simp
theorem HB {f g:En->R T}{ρ:En}{xs a:List T}(d:f ρ=.ok (.lst xs))(i:g ρ=.ok (.lst a))(h:xs.length+a.length<=100):zd zv f g ρ=.ok (.lst (xs++a)):=by
 rw[zu,d,af,i,af];exact xp (by lia)
section
variable {k:Kd}{ds:List D}(hk:k.Ok 3)(hr:∀d∈ds,Zk 2 d.2)(hl:ds.length<=7)
theorem Km {d:D}(h:Zk 2 d.2):(lx d).length<=43/\∀c∈lx d,c≠10:=by
 obtain⟨j,f⟩:=Df d.1;obtain⟨i,b2⟩:=kW h;have:mn 2=38:=rfl;refine⟨by simp only[lx,ae,ac,ao];lia,λc a=>?_⟩
 rcases aT.mp a with a|a
 ·rcases aT.mp a with a|a
  ·exact(f c a).2
  ·have:c=32:=by simpa using a
   lia
 ·exact b2 c a
theorem AV:∀(d:Nat) (k:Kd),k.Ok d->∀c∈k.x,c≠10
 |0,_,h=>h.elim
 |d+1,.whole lo hi,h=>by
  rw[Kd.x];exact DL h
 |d+1,.pick o,⟨_,_,f,_⟩=>by
  rw[Kd.x];exact kT (by decide) (by decide) (wd (by decide) _ λw i=>by
   obtain⟨c,a,rfl⟩:=aF.mp i;exact EH (f c a))
 |d+1,.row p,⟨_,_,f⟩=>by
  rw[Kd.x,Kd.xs_map];exact kT (by decide) (by decide) (wd (by decide) _ λw i=>by
   obtain⟨k,hk,rfl⟩:=aF.mp i;exact AV d k (f k hk))
 |d+1,.many k lo hi,⟨l,j,f⟩=>by
  rw[Kd.x];intro c a;rcases aT.mp a with a|a
  ·exact kT (by decide) (by decide) (AV d k f) c a
  ·exact DL (by lia) c a
include hk hr
theorem F3:∀l∈lO k ds,10∉l:=λl h=>by
 rcases am.mp h with rfl|h
 ·exact λz=>AV 3 k hk 10 z rfl
 ·obtain⟨d,hd,rfl⟩:=aF.mp h;exact λz=>(Km (hr d hd)).2 10 z rfl
theorem pH:∀f:List D,(∀d∈f,d∈ds)->(f.map lx|>.flatMap (·++[10])).length<=44*f.length
 |[],_=>by simp
 |d::f,h=>by
  have a:=(Km (hr d (h d aj))).1;have b:=pH f λe i=>h e (ai _ i);simp only[aK,bB,ae,ac,ao]at b⊢;lia
theorem Wy:(la k ds).length<=521+44*ds.length:=by
 have a:=Wv 3 k hk;have b:=pH hk hr ds λ_ h=>h;have:lb 3=520:=rfl;unfold la lO;rw[bB];simp only[ae,ac,ao];lia
include hl
theorem Vy {us:List T}:V5 (sd k ds us) []=.ok (.str (S (la k ds))):=by
 have q:=jq (k:=2) (js:=[]) (ρ:=[.oc 101 (sd k ds us),.un,.un]) (fi:=Z9 (ZZ 101 0 2 0 mO zj)) (pX (jd rfl Wp)) (by rw[ah];lia) (kM (fe:=zd zv (zd zv (vE 0) (cE (.str " "))) (za 1 o4 (z9 (vE 1) zj))) (λd:D=>T.str (dw d.1)) (λd=>d.2.t) (λd=>T.str (S (lx d))) ds .un .un λd hd=>by
  have p:=(Km (hr d hd)).1;simp only[lx,ae,ac,ao]at p;exact j4 (j4 (b:=[32]) (by rw[←A1];rfl) rfl (by simp only[ac,ao];lia)) (by rw[zG];exact Vw (hr d hd).up) (by simp only[ae,ac,ao];lia))
 have f:jb (z9 (za 1 pF (z9 (ZZ 101 0 2 0 ka zj) zj)) zj) [.oc 101 (sd k ds us),.un,.un]=.ok (.lst [.str (S k.x)]):=rW (by rw[zG,jd (r:=.ok k.t) rfl rfl,af,Vu hk])
 have o:=zD (i:=1) (HB f q (by simp;lia))
 have u:=jq (k:=1) (js:=[]) (ρ:=[.oc 101 (sd k ds us),.vl (.lst ([T.str (S k.x)]++ds.map λd=>T.str (S (lx d)))),.un]) (fi:=Z9 (vE 1)) (ts:=(lO k ds).map λl=>T.str (S l)) (by unfold lO;rw[aK,aS];rfl) (by unfold lO;simp;lia) (wt (fe:=zd zv (vE 0) (cE (.str "\n"))) (λl=>T.str (S l)) (λl=>T.str (S (l++[10]))) (lO k ds) .un λl h=>by
  have:l.length<=600:=by
   rcases am.mp h with rfl|h
   ·exact aG (Wv 3 k hk) (by decide)
   ·obtain⟨d,hd,rfl⟩:=aF.mp h;exact aG (Km (hr d hd)).1 (by decide)
  exact j4 (b:=[10]) rfl rfl (by simp only[ac,ao];lia))
 have j:=Wy hk hr;have a:=wa (m:=[]) (ls:=(lO k ds).map (·++[10])) (u.trans (by rw[aS];rfl)) (by decide) (by simp;lia) (by rw[QK];unfold la at j;lia)
 rw[QK]at a;show zw (rm pF o4 ka mO [.oc 101 (sd k ds us),.un,.un])=_;unfold rm;rw[zb o];exact(congrArg zw (zq a)).trans rfl
end
theorem jX {f:En->RS}{g:En->R En}{ρ a:En}(h:f ρ=.nx a):Wa f g ρ=g a:=by unfold Wa;rw[h]
theorem yf {f:En->R (T×En)}{ρ a:En}{t:T}(h:f ρ=.ok (t,a)):lS f ρ=.nx a:=by unfold lS;rw[h];rfl
theorem Ed {l:List Nat}{d:Nat}:bO (S (l++[d])) none (some (-1))=S l:=by
 have e:bO (S (l++[d])) none (some (-1))=bO (S (l++[d])) none (some (-1+(S (l++[d])).length)):=eL _ _ (by decide) (by rw[Z2];simp;lia)
 rw[e,Z2,show (-1+((l++[d]).length:Nat):Int)=(l.length:Int) by simp;lia]
 have:=StrLaws.sliceText_to (x:=S (l++[d])) (j:=(l.length:Int)) ⟨by lia,by rw[Zl];simp;lia⟩
 refine iP this ?_;rw[Zl];show S _=S _;congr 1
 simp
theorem Vz {ls:List (List Nat)}(a:ls≠[])(j:(jn [10] ls).length<=999)(h:∀x∈ls,10∉x):pr [.str (S (ls.flatMap (·++[10])))]=.ok (.lst (ls.map λl=>T.str (S l))):=by
 rw[QL ls a];have i:=yW;have d:lw K8 (vE 0) (cE (.str "\n")) [.vl (.str (S (jn [10] ls++[10])))]=.ok (.bl true):=by
  show R.ok (T.bl (dv (S (jn [10] ls++[10])) (S [10])))=_;rw[Dj]
 have f:WD (vE 0) lE (zT (J8 (cE (.int 1)))) [.vl (.str (S (jn [10] ls++[10])))]=.ok (.str (S (jn [10] ls))):=by
  show (if (S (jn [10] ls++[10])).length<=iT then R.ok (T.str (bO (S (jn [10] ls++[10])) none (some (-1))))else .bad)=_
  rw[Ed,if_pos (by rw[Z2];simp only[ae,ac,ao];lia)]
 show zw (rJ nE [.vl (.str (S (jn [10] ls++[10])))])=_;unfold rJ;rw[zb (jI (t:=.non) (by rw[zG];rfl)),zb (zt (by rw[jS,ZJ,d,af,Ji,af];rfl))]
 exact(congrArg zw (zq (kN (q:=10) (s:="\n") rfl f (by lia) a h))).trans rfl
theorem yR {d:D}(h:Zk 2 d.2):Kf [.str (S (lx d))]=.ok (lM d):=by
 obtain⟨k,i⟩:=Df d.1;have a:zH 1 (lw qb (vE 0) (cE (.str " "))) [.vl (.str (S (lx d))),.un]=.nx [.vl (.str (S (lx d))),.vl (.tup [.str (S (oq d.1)),.str (S [32]),.str (S d.2.x)])]:=
  zD (Qy (y:=[32]) rfl rfl (aG (Km h).1 (by decide)) rfl (y9 λz=>(i 32 z).1 rfl))
 rw[←A1]at a;have f:zd fr (vE 1) (cE (.int 0)) [.vl (.str (S (lx d))),.vl (.tup [.str (dw d.1),.str (S [32]),.str (S d.2.x)])]=.ok (.str (dw d.1)):=by
  rw[zu];show (R.bind (.ok (.tup [.str (dw d.1),.str (S [32]),.str (S d.2.x)])) λx=>R.bind (.ok (.int 0)) λy=>fr x y)=_;rw[af,af];exact l7
 have j:Yz (zB lj (zd fr (vE 1) (cE (.int 0))) (cE (.str "keep"))) (zB lj (zd fr (vE 1) (cE (.int 0))) (cE (.str "bar"))) [.vl (.str (S (lx d))),.vl (.tup [.str (dw d.1),.str (S [32]),.str (S d.2.x)])]=.ok false:=by
  have c:∀w:Str,zB lj (zd fr (vE 1) (cE (.int 0))) (cE (.str w)) [.vl (.str (S (lx d))),.vl (.tup [.str (dw d.1),.str (S [32]),.str (S d.2.x)])]=.ok (!(dw d.1==w)):=λw=>by
   rw[zN,f,af,zY,af];rfl
  rw[Wf,c,af,c];cases d.1<;>rfl
 show zw (sj tX [.vl (.str (S (lx d))),.un])=_;unfold sj;rw[zb a,zb (zt j),zq (t:=lM d) (WF f (by rw[zG];exact Vx h.up))];rfl
section
variable {k:Kd}(hk:k.Ok 3)(h40:k.all.length<=40)
abbrev rE (x l:T)(k:Kd)(s:Sl)(fs:List (Str×Fd)):En:=[.vl x,.vl l,.vl k.t,.ob 101 0,s,.st [(101,fs)]]
include hk h40
theorem xB {x l:T}:∀(ds a:List D) (s:Sl),(∀d∈ds,Zk 2 d.2)->a.length+ds.length<=20->∃f,Zr (zI 4) (lS (wg 101 3 5 "do_step" 1 mB (z9 (vE 4) zj))) (ds.map lM) (rE x l k s (sd k a []))=.nx (rE x l k f (sd k (a++ds) []))
 |[],a,s,_,_=>⟨s,by rw[aY];rfl⟩
 |d::ds,a,s,h,o=>by
  rw[ac]at o;obtain⟨f,q⟩:=xB ds (a++[d]) (.vl (lM d)) (λe p=>h e (ai _ p)) (by simp only[ae,ac,ao];lia)
  refine⟨f,?_⟩;have m:=uz (k:=101) (i:=3) (j:=5) (nn:=1) (ga:=z9 (vE 4) zj) (ρ:=rE x l k (.vl (lM d)) (sd k a [])) (m:="do_step") rfl (uA _ (by decide+kernel)) rfl rfl (AO (us:=[]) hk h40 (h d aj).up (by lia))
  rw[aK,ZM (ρ1:=rE x l k (.vl (lM d)) (sd k a [])) rfl (yf m),show a++d::ds=a++[d]++ds by simp,←q];rfl
theorem K1 {ds:List D}(hr:∀d∈ds,Zk 2 d.2)(G:ds.length<=7):Kg [.str (S (la k ds))]=.ok (sd k ds []):=by
 have f:=Wy hk hr;have a:=f;unfold la at a;rw[QL _ (b7 _ _)]at a;simp only[ae,ac,ao]at a;have v:=Vz (ls:=lO k ds) (b7 _ _) (by lia) (F3 hk hr)
 have i:zH 1 (za 1 pr (z9 (vE 0) zj)) [.vl (.str (S (la k ds))),.un,.un,.un,.un,.st []]=.nx [.vl (.str (S (la k ds))),.vl (.lst ((lO k ds).map λl=>T.str (S l))),.un,.un,.un,.st []]:=zD (by rw[zG];exact v)
 have p:zH 2 (za 1 pQ (z9 (zd fr (vE 1) (cE (.int 0))) zj)) [.vl (.str (S (la k ds))),.vl (.lst ((lO k ds).map λl=>T.str (S l))),.un,.un,.un,.st []]=.nx [.vl (.str (S (la k ds))),.vl (.lst ((lO k ds).map λl=>T.str (S l))),.vl k.t,.un,.un,.st []]:=by
  refine zD ?_;rw[zG,zu];show ((R.bind (.ok _) _).bind _)=_;rw[af];show ((ly (T.str (S k.x)::(ds.map lx).map λl=>T.str (S l)) 0).bind _)=_;rw[show ly (T.str (S k.x)::(ds.map lx).map λl=>T.str (S l)) 0=.ok (.str (S k.x)) from qV (j:=0) rfl,af,Vv hk]
 have y:iS (zB lL (za 1 (mF 20) (z9 (vE 2) zj)) (cE (.int 500))) W4 iR [.vl (.str (S (la k ds))),.vl (.lst ((lO k ds).map λl=>T.str (S l))),.vl k.t,.un,.un,.st []]=.nx [.vl (.str (S (la k ds))),.vl (.lst ((lO k ds).map λl=>T.str (S l))),.vl k.t,.un,.un,.st []]:=by
  refine zt ?_;rw[zN,zG];show ((mF 20 [k.t]).bind _)=_;rw[jv (by lia) hk,af,zY,af,Q4,decide_eq_false (by lia)]
 have o:nF 3 5 101 1 mJ (z9 (vE 2) zj) [.vl (.str (S (la k ds))),.vl (.lst ((lO k ds).map λl=>T.str (S l))),.vl k.t,.un,.un,.st []]=.nx (rE (.str (S (la k ds))) (.lst ((lO k ds).map λl=>T.str (S l))) k .un (sd k [] [])):=by
  unfold nF;show (R.s (.ok [k.t]) _)=_;rw[ZF,if_pos ⟨rfl,by decide,by simp⟩]
  show (match mJ [] [k.t]with|.ok (.non,fs)=>_|.ex c=>_|_=>_)=_
  rw[Qr hk (by lia)];rfl
 have u:=jq (k:=1) (js:=[]) (ρ:=rE (.str (S (la k ds))) (.lst ((lO k ds).map λl=>T.str (S l))) k .un (sd k [] [])) (fi:=Z9 (lR (vE 1) (zT (cE (.int 1))) lE)) (ts:=(ds.map lx).map λl=>T.str (S l)) (pX (by
  show R.ok (T.lst (ml (T.str (S k.x)::(ds.map lx).map λl=>T.str (S l)) (some ((1:Nat):Int)) none))=_;rw[Wm];rfl)) (by simp;lia) (by
  rw[aS];exact wt (fe:=za 1 Kf (z9 (vE 0) zj)) ((λl=>T.str (S l)) ∘lx) lM ds .un λd hd=>by rw[zG];exact yR (hr d hd))
 obtain⟨B,q⟩:=xB hk h40 (x:=.str (S (la k ds))) (l:=.lst ((lO k ds).map λl=>T.str (S l))) ds [] .un hr (by simp;lia)
 have r:ZR (Z9 (zL (Z9 (lR (vE 1) (zT (cE (.int 1))) lE)) (zI 0) Z1 (za 1 Kf (z9 (vE 0) zj)) 1 [])) (zI 4) (lS (wg 101 3 5 "do_step" 1 mB (z9 (vE 4) zj))) (rE (.str (S (la k ds))) (.lst ((lO k ds).map λl=>T.str (S l))) k .un (sd k [] []))=.nx (rE (.str (S (la k ds))) (.lst ((lO k ds).map λl=>T.str (S l))) k B (sd k ds [])):=by
  unfold ZR;rw[pX u,ZF,q,bL]
 show GM 101 3 5 (sZ (mF 20) pQ pr Kf mJ mB [.vl (.str (S (la k ds))),.un,.un,.un,.un,.st []])=_;unfold sZ;rw[jX i,jX p,jX y,jX o,jX r];rfl
end
theorem CM {k i j n nn:Nat}{g:List (Str×Fd)->List T->R (T×List (Str×Fd))}{ga:En->R (List T)}{ρ:En}{fs a:List (Str×Fd)}{os:List Ob}{ts:List T}{t:T}(h:lI k i j ρ=some (n,fs,os))(f:ga ρ=.ok ts)(hn:ts.length=nn)(d:g fs ts=.ok (t,a)):QV k i j nn g ga ρ=.ok (t,ρ.set j (.st (os.set n (k,a)))):=by
 unfold QV;rw[h];dsimp only;rw[f,af,if_pos hn,d];rfl
theorem jr {f g:En->R T}{ρ:En}{t:T}(a:f ρ=.ok t)(d:g ρ=.ok t)(h:Pl 30 t):zB lj f g ρ=.ok false:=by
 rw[zN,a,af,d,af,Q3 h]
theorem VA {f g:En->R Bool}{ρ:En}(a:f ρ=.ok false)(d:g ρ=.ok false):lH f g ρ=.ok false:=by
 rw[Wd,a,af,if_neg ay,d]
theorem Eh {i:En->R (T×En)}{d:En->R T}{ρ a:En}{t:T}{f:En->RS}(j:i ρ=.ok (t,a))(k:d a=.ok t)(h:Pl 30 t):nP (XX lj i d) f iR ρ=.nx a:=by
 unfold nP XX;rw[j,af];dsimp only;rw[k,af,Q3 h];rfl
abbrev le (ns:List Int)(k:Kd)(s3 s4 s5 s6 s7 s8 s9 s10 s11:Sl)(os:List Ob):En:=[.vl (iZ ns),.vl k.t,.ob 101 0,s3,s4,s5,s6,s7,s8,s9,s10,s11,.st os]
abbrev Ub (n:Int):En->R T:=za 2 pd (z9 (vE 0) (z9 (zd zv (cE (.int n)) (zd Z7 (cE (.int 100)) (vE 3))) zj))
theorem xC (ns:List Int)(k:Kd)(n:Int)(hn:0<=n)(j:Nat)(s4 s5 s6 s7 s8 s9 s10 s11:Sl)(os:List Ob):∃d:D,Zk 2 d.2/\Ub n (le ns k (.vl (.int (j:Int))) s4 s5 s6 s7 s8 s9 s10 s11 os)=.ok (lM d):=by
 obtain⟨b,r,hr,e⟩:=kZ ns (n+100*(j:Int)) (by lia)
 refine⟨(b,r),hr,?_⟩;unfold Ub;rw[zW,show zd zv (cE (.int n)) (zd Z7 (cE (.int 100)) (vE 3)) (le ns k (.vl (.int (j:Int))) s4 s5 s6 s7 s8 s9 s10 s11 os)=.ok (.int (n+100*(j:Int))) by
  show (R.bind (.ok (.int n)) λa=>R.bind (Z7 (.int 100) (.int (j:Int))) λb=>zv a b)=_;rw[af,uY _ _ (.inl ⟨by decide,by decide⟩),af];rfl]
 exact e
theorem QN {f g h:En->R T}{ρ:En}{a:List Nat}{d:D}(k:f ρ=.ok (.str (S a)))(i:g ρ=.ok (.str (dw d.1)))(j:h ρ=.ok (.str (S d.2.x)))(l:a.length<=2000)(hr:Zk 2 d.2):zd zv (zd zv (zd zv (zd zv f g) (cE (.str " "))) h) (cE (.str "\n")) ρ=.ok (.str (S (a++(lx d++[10])))):=by
 have p:=(Km hr).1;simp only[lx,ae,ac,ao]at p;rw[A1]at i;rw[show a++(lx d++[10])=a++oq d.1++[32]++d.2.x++[10] by simp[lx]]
 exact j4 (j4 (j4 (b:=[32]) (j4 k i (by lia)) rfl (by simp only[ae,ac,ao];lia)) j (by simp only[ae,ac,ao];lia)) rfl (by simp only[ae,ac,ao];lia)
section
variable {ns:List Int}{k:Kd}(hk:k.Ok 3)(h40:k.all.length<=40){s3 s4 s5 s6 s7 s8 s9 s10 s11:Sl}
include hk h40
theorem l3:∀(js:List Nat) (s3:Sl) (ds:List D),ds.length+js.length<=7->(∀d∈ds,Zk 2 d.2)->∃f a,Zr (zI 3) (lS (QV 101 2 12 1 QW (z9 (Ub 1000) zj))) (js.map λ(j:Nat)=>T.int (j:Int)) (le ns k s3 s4 s5 s6 s7 s8 s9 s10 s11 [(101,sd k ds [])])=.nx (le ns k f s4 s5 s6 s7 s8 s9 s10 s11 [(101,sd k a [])])/\a.length=ds.length+js.length/\∀d∈a,Zk 2 d.2
 |[],s3,ds,_,hr=>⟨s3,ds,rfl,rfl,hr⟩
 |j::js,s3,ds,p,hr=>by
  rw[ac]at p;obtain⟨d,hd,o⟩:=xC ns k 1000 (by decide) j s4 s5 s6 s7 s8 s9 s10 s11 [(101,sd k ds [])]
  have m:=CM (k:=101) (n:=0) (os:=[(101,sd k ds [])]) (i:=2) (j:=12) (nn:=1) (ρ:=le ns k (.vl (.int (j:Int))) s4 s5 s6 s7 s8 s9 s10 s11 [(101,sd k ds [])]) rfl (C8 o) rfl (Do (ds:=ds) (us:=[]) hk h40 hd.up (by lia))
  obtain⟨f,a,q,r,u⟩:=l3 js (.vl (.int (j:Int))) (ds++[d]) (by simp only[ae,ac,ao];lia) (λe l=>by
   rcases aT.mp l with l|l
   ·exact hr e l
   ·rw[ax.mp l];exact hd)
  refine⟨f,a,?_,by rw[r];simp only[ae,ac,ao];lia,u⟩
  rw[aK,ZM (ρ1:=le ns k (.vl (.int (j:Int))) s4 s5 s6 s7 s8 s9 s10 s11 [(101,sd k ds [])]) rfl (yf m),←q];rfl
omit hk h40 in
theorem l4:∀(ts:List T) (s3:Sl) (ds:List D) (us:List T),ts.length<=ds.length->us.length+ts.length<=100->∃o a l,Zr (zI 3) (lS (wg 101 2 12 "back" 0 xb zj)) ts (le ns k s3 s4 s5 s6 s7 s8 s9 s10 s11 [(101,sd k ds us)])=.nx (le ns k o s4 s5 s6 s7 s8 s9 s10 s11 [(101,sd k a l)])/\a.length<=ds.length/\∀d∈a,d∈ds
 |[],s3,ds,us,_,_=>⟨s3,ds,us,rfl,au _,λ_ h=>h⟩
 |t::ts,s3,ds,us,p,u=>by
  rw[ac]at p u;obtain⟨f,d,rfl⟩:∃f d,ds=f++[d]:=by
   rcases fx ds with rfl|⟨f,d,rfl⟩
   ·cases p
   ·exact⟨f,d,by simp⟩
  rw[ae,aL]at p;have m:=uz (k:=101) (n:=0) (os:=[(101,sd k (f++[d]) us)]) (i:=2) (j:=12) (nn:=0) (ga:=zj) (ρ:=le ns k (.vl t) s4 s5 s6 s7 s8 s9 s10 s11 [(101,sd k (f++[d]) us)]) (m:="back") rfl (uA _ (by decide+kernel)) rfl rfl (xA (k:=k) (ds:=f) (d:=d) (us:=us) (by lia))
  obtain⟨o,a,l,q,y,r⟩:=l4 ts (.vl t) f (us++[lM d]) (by lia) (by simp;lia)
  refine⟨o,a,l,?_,by rw[ae];lia,λe v=>bM _ (r e v)⟩
  rw[ZM (ρ1:=le ns k (.vl t) s4 s5 s6 s7 s8 s9 s10 s11 [(101,sd k (f++[d]) us)]) rfl (yf m),←q];rfl
abbrev pZ (g h:En->R T):En->R T:=zd zv (zd zv (zd zv (zd zv (vE 4) g) (cE (.str " "))) (za 1 (ou 8) (z9 h zj))) (cE (.str "\n"))
omit h40 in
theorem l6 {os:List Ob}:∀(ds a:List D) (s5 s6:Sl),a.length+ds.length<=7->(∀d∈a++ds,Zk 2 d.2)->∃j l,Zr (zV 5 6) (zH 4 (pZ (vE 5) (vE 6))) (ds.map lM) (le ns k s3 (.vl (.str (S (la k a)))) s5 s6 s7 s8 s9 s10 s11 os)=.nx (le ns k s3 (.vl (.str (S (la k (a++ds))))) j l s7 s8 s9 s10 s11 os)
 |[],a,s5,s6,_,_=>⟨s5,s6,by rw[aY];rfl⟩
 |d::ds,a,s5,s6,o,hr=>by
  rw[ac]at o;have hd:=hr d (by simp)
  have r:=Wy hk (ds:=a) λe p=>hr e (bM _ p);obtain⟨j,l,q⟩:=l6 ds (a++[d]) (.vl (.str (dw d.1))) (.vl d.2.t) (by simp only[ae,ac,ao];lia) (by rw[aQ];exact hr)
  refine⟨j,l,?_⟩;have m:=zD (i:=4) (QN (f:=vE 4) (g:=vE 5) (h:=za 1 (ou 8) (z9 (vE 6) zj)) (ρ:=le ns k s3 (.vl (.str (S (la k a)))) (.vl (.str (dw d.1))) (.vl d.2.t) s7 s8 s9 s10 s11 os) (d:=d) rfl rfl (by rw[zG];exact(kY hd 7 7 (by decide) (by decide) (by decide)).2) (by lia) hd)
  rw[aK,ZM (ρ1:=le ns k s3 (.vl (.str (S (la k a)))) (.vl (.str (dw d.1))) (.vl d.2.t) s7 s8 s9 s10 s11 os) rfl m,←QJ,show a++d::ds=a++[d]++ds by simp,←q];rfl
omit h40 in
theorem K2 {ds:List D}:Pl 30 (.lst (lf k.all ds)):=λx a=>(Du hk (QH ds _ a)).pl.le (by decide)
abbrev CB:En->RS:=(zz (zH 10 (Ub 3000))
  (zz (zH 11 (za 2 Kh (z9 (vE 8) (z9 (vE 10) (zj)))))
  (zz (nP (XX lj (QV 101 9 12 1 QW (z9 (vE 10) (zj))) (zd ZW (gx Zb (vB 8)) (gx Zb (vB 11)))) (zC (cE (.bl false))) (iR))
  (zz (zH 8 (vE 11))
  (zH 4 (pZ (zd fr (vE 10) (cE (.int 0))) (zd fr (vE 10) (cE (.int 1)))))))))
theorem CY {A:Ob}:∀(js:List Nat) (ds:List D) (s3 s10 s11:Sl),ds.length+js.length<=7->(∀d∈ds,Zk 2 d.2)->∃p o l a,Zr (zI 3) CB (js.map λ(j:Nat)=>T.int (j:Int)) (le ns k s3 (.vl (.str (S (la k ds)))) s5 s6 s7 (.vl (.lst (lf k.all ds))) (.ob 101 1) s10 s11 [A,(101,sd k ds [])])=.nx (le ns k p (.vl (.str (S (la k a)))) s5 s6 s7 (.vl (.lst (lf k.all a))) (.ob 101 1) o l [A,(101,sd k a [])])/\a.length<=7/\∀d∈a,Zk 2 d.2
 |[],ds,s3,s10,s11,y,hr=>⟨s3,s10,s11,ds,rfl,y,hr⟩
 |j::js,ds,s3,s10,s11,y,hr=>by
  rw[ac]at y;obtain⟨d,hd,N⟩:=xC ns k 3000 (by decide) j (.vl (.str (S (la k ds)))) s5 s6 s7 (.vl (.lst (lf k.all ds))) (.ob 101 1) s10 s11 [A,(101,sd k ds [])]
  have v:∀e∈ds++[d],Zk 2 e.2:=λe u=>by
   rcases aT.mp u with u|u
   ·exact hr e u
   ·rw[ax.mp u];exact hd
  obtain⟨p,o,l,a,q,L,Q⟩:=CY (A:=A) js (ds++[d]) (.vl (.int (j:Int))) (.vl (lM d)) (.vl (.lst (lf k.all (ds++[d])))) (by simp only[ae,ac,ao];lia) v
  refine⟨p,o,l,a,?_,L,Q⟩;have X:=uF ds k.all;have J:=uF (ds++[d]) k.all;have G:=Wy hk hr;have I:=zD (i:=10) N;have P:zH 11 (za 2 Kh (z9 (vE 8) (z9 (vE 10) zj))) (le ns k (.vl (.int (j:Int))) (.vl (.str (S (la k ds)))) s5 s6 s7 (.vl (.lst (lf k.all ds))) (.ob 101 1) (.vl (lM d)) s11 [A,(101,sd k ds [])])=.nx (le ns k (.vl (.int (j:Int))) (.vl (.str (S (la k ds)))) s5 s6 s7 (.vl (.lst (lf k.all ds))) (.ob 101 1) (.vl (lM d)) (.vl (.lst (lf k.all (ds++[d])))) [A,(101,sd k ds [])]):=zD (by
   rw[zW,QG];exact Qs (by decide) hd (λx G=>Ch hk h40 G) (by have:=yW;lia))
  have m:=CM (k:=101) (n:=1) (os:=[A,(101,sd k ds [])]) (i:=9) (j:=12) (nn:=1) (ga:=z9 (vE 10) zj) (ρ:=le ns k (.vl (.int (j:Int))) (.vl (.str (S (la k ds)))) s5 s6 s7 (.vl (.lst (lf k.all ds))) (.ob 101 1) (.vl (lM d)) (.vl (.lst (lf k.all (ds++[d])))) [A,(101,sd k ds [])]) rfl rfl rfl (Do (ds:=ds) (us:=[]) hk h40 hd.up (by lia))
  have U:nP (XX lj (QV 101 9 12 1 QW (z9 (vE 10) zj)) (zd ZW (gx Zb (vB 8)) (gx Zb (vB 11)))) (zC (cE (.bl false))) iR (le ns k (.vl (.int (j:Int))) (.vl (.str (S (la k ds)))) s5 s6 s7 (.vl (.lst (lf k.all ds))) (.ob 101 1) (.vl (lM d)) (.vl (.lst (lf k.all (ds++[d])))) [A,(101,sd k ds [])])=.nx (le ns k (.vl (.int (j:Int))) (.vl (.str (S (la k ds)))) s5 s6 s7 (.vl (.lst (lf k.all ds))) (.ob 101 1) (.vl (lM d)) (.vl (.lst (lf k.all (ds++[d])))) [A,(101,sd k (ds++[d]) [])]):=Eh m rfl trivial;have B:=zD (i:=4) (QN (f:=vE 4) (g:=zd fr (vE 10) (cE (.int 0))) (h:=za 1 (ou 8) (z9 (zd fr (vE 10) (cE (.int 1))) zj)) (ρ:=le ns k (.vl (.int (j:Int))) (.vl (.str (S (la k ds)))) s5 s6 s7 (.vl (.lst (lf k.all (ds++[d])))) (.ob 101 1) (.vl (lM d)) (.vl (.lst (lf k.all (ds++[d])))) [A,(101,sd k (ds++[d]) [])]) (d:=d) rfl (rT (b:=d.1) (r:=d.2) rfl) (by rw[zG,sR (b:=d.1) (r:=d.2) rfl,af];exact(kY hd 7 7 (by decide) (by decide) (by decide)).2) (by lia) hd)
  rw[←QJ]at B;rw[aK,ZM (ρ1:=le ns k (.vl (.int (j:Int))) (.vl (.str (S (la k ds)))) s5 s6 s7 (.vl (.lst (lf k.all ds))) (.ob 101 1) s10 s11 [A,(101,sd k ds [])]) rfl ((zb I).trans ((zb P).trans ((zb U).trans ((zb (zD (i:=8) (t:=.lst (lf k.all (ds++[d]))) rfl)).trans B)))),←q];rfl
omit hk h40 in
theorem DH {A:Ob}:∀(n:Nat) (ds:List D) (us:List T),ds.length<n->us.length+ds.length<=100->∃a,ZX (zB lL (zd fr (ZZ 101 9 12 0 V2 zj) (cE (.int 0))) (cE (.int 0))) (lS (wg 101 9 12 "back" 0 xb zj)) n (le ns k s3 s4 s5 s6 s7 s8 (.ob 101 1) s10 s11 [A,(101,sd k ds us)])=.nx (le ns k s3 s4 s5 s6 s7 s8 (.ob 101 1) s10 s11 [A,(101,sd k [] a)])
 |0,_,_,h,_=>absurd h (dI _)
 |n+1,ds,us,h,l=>by
  have c:zB lL (zd fr (ZZ 101 9 12 0 V2 zj) (cE (.int 0))) (cE (.int 0)) (le ns k s3 s4 s5 s6 s7 s8 (.ob 101 1) s10 s11 [A,(101,sd k ds us)])=.ok (decide ((0:Int)<(ds.length:Int))):=by
   rw[zN,zu,jd (fs:=sd k ds us) rfl jV,af,zY,af,l7,af,af,Q4,ah]
  unfold ZX;rw[c,ZF];rcases fx ds with rfl|⟨f,d,e⟩
  ·exact⟨us,rfl⟩
  ·obtain rfl:ds=f++[d]:=by rw[e];simp
   rw[ae,aL]at h l;have m:=uz (k:=101) (n:=1) (os:=[A,(101,sd k (f++[d]) us)]) (i:=9) (j:=12) (nn:=0) (ga:=zj) (ρ:=le ns k s3 s4 s5 s6 s7 s8 (.ob 101 1) s10 s11 [A,(101,sd k (f++[d]) us)]) (m:="back") rfl (uA _ (by decide+kernel)) rfl rfl (xA (k:=k) (ds:=f) (d:=d) (us:=us) (by lia))
   obtain⟨a,q⟩:=DH n f (us++[lM d]) (by lia) (by simp;lia)
   refine⟨a,?_⟩;rw[if_pos (decide_eq_true (by simp)),yf m,←q];rfl
end
theorem law_ok (ns:List Int)(_:ns.length<=63):np [.fz (ns.map T.int)]=.ok (.bl true):=by
 obtain⟨k,u,v,hs⟩:=Vh ns 10 (by decide) 40 (by decide)
 obtain⟨p,hp,p0,p3⟩:=zR ns 0 3 (by decide) (by decide)
 have e1:zH 1 (za 3 Kb (z9 (vE 0) (z9 (cE (.int 10)) (z9 (cE (.int 40)) zj)))) [.vl (iZ ns),.un,.un,.un,.un,.un,.un,.un,.un,.un,.un,.un,.st []]=.nx [.vl (iZ ns),.vl k.t,.un,.un,.un,.un,.un,.un,.un,.un,.un,.un,.st []]:=zD (by rw[Zt];exact hs)
 have e2:nF 2 12 101 1 mJ (z9 (vE 1) zj) [.vl (iZ ns),.vl k.t,.un,.un,.un,.un,.un,.un,.un,.un,.un,.un,.st []]=.nx (le ns k .un .un .un .un .un .un .un .un .un [(101,sd k [] [])]):=by
  unfold nF;show (R.s (.ok [k.t]) _)=_;rw[ZF,if_pos ⟨rfl,by decide,by simp⟩]
  show (match mJ [] [k.t]with|.ok (.non,fs)=>_|.ex c=>_|_=>_)=_
  rw[Qr u (by lia)];rfl
 obtain⟨a3,ds,q3,n3,r3⟩:=l3 (ns:=ns) u v (s4:=.un) (s5:=.un) (s6:=.un) (s7:=.un) (s8:=.un) (s9:=.un) (s10:=.un) (s11:=.un) (b6 5) .un [] (by decide) (λd h=>nomatch h)
 have e3:ZR (Zs (cE (.int 5))) (zI 3) (lS (QV 101 2 12 1 QW (z9 (Ub 1000) zj))) (le ns k .un .un .un .un .un .un .un .un .un [(101,sd k [] [])])=_:=q3;obtain⟨q,a,us,q4,X,m4⟩:=l4 (ns:=ns) (k:=k) (s4:=.un) (s5:=.un) (s6:=.un) (s7:=.un) (s8:=.un) (s9:=.un) (s10:=.un) (s11:=.un) (rng 0 p.toNat) a3 ds [] (by unfold rng;rw[ah,bi,n3];simp;lia) (by unfold rng;rw[ah,bi];simp;lia)
 have I:∀d∈a,Zk 2 d.2:=λd h=>r3 d (m4 d h);have X:a.length<=5:=by rw[n3]at X;simpa using X
 have e4:ZR (Zs (za 3 lB (z9 (vE 0) (z9 (cE (.int 0)) (z9 (cE (.int 3)) zj))))) (zI 3) (lS (wg 101 2 12 "back" 0 xb zj)) (le ns k a3 .un .un .un .un .un .un .un .un [(101,sd k ds [])])=.nx (le ns k q .un .un .un .un .un .un .un .un [(101,sd k a us)]):=by
  unfold ZR;rw[U4 (j:=p) (by rw[Zt];exact hp) ⟨by lia,by lia⟩,ZF,q4]
 have hx3:=Wv 3 k u;have hb3:lb 3=520:=rfl;have kt:∀{ρ:En},vE 1 ρ=.ok k.t->zd zv (za 1 (oi 8) (z9 (vE 1) zj)) (cE (.str "\n")) ρ=.ok (.str (S (la k []))):=λh=>by
  have:=j4 (g:=cE (.str "\n")) (b:=[10]) (show za 1 (oi 8) (z9 (vE 1) zj) _=.ok (.str (S k.x)) by rw[zG,h,af];exact(sA 3 19 7 (by decide) (by decide) (by decide) k u).2) rfl (by simp only[ac,ao];lia)
  rw[this];simp[la,lO]
 have e5:=zD (i:=4) (kt (ρ:=le ns k q .un .un .un .un .un .un .un .un [(101,sd k a us)]) rfl);obtain⟨o,l,q6⟩:=l6 (ns:=ns) u (s3:=q) (s7:=.un) (s8:=.un) (s9:=.un) (s10:=.un) (s11:=.un) (os:=[(101,sd k a us)]) a [] .un .un (by simp;lia) (by simpa using I)
 have Q:ZR (Z9 (ZZ 101 2 12 0 mO zj)) (zV 5 6) (zH 4 (pZ (vE 5) (vE 6))) (le ns k q (.vl (.str (S (la k [])))) .un .un .un .un .un .un .un [(101,sd k a us)])=_:=q6;rw[bL]at Q;have e7:gR 7 8 (z9 (ZZ 101 2 12 0 V2 zj) (z9 (ZZ 101 2 12 0 V3 zj) zj)) (le ns k q (.vl (.str (S (la k a)))) o l .un .un .un .un .un [(101,sd k a us)])=.nx (le ns k q (.vl (.str (S (la k a)))) o l (.vl (.tup [.int (a.length:Int),.int (us.length:Int)])) (.vl (.lst (lf k.all a))) .un .un .un [(101,sd k a us)]):=by
  rw[ER,jd (fs:=sd k a us) rfl jV,ZF,jd (fs:=sd k a us) rfl (jU rfl),ZF,ah];rfl
 have tx:∀{ds:List D} {us:List T},(∀d∈ds,Zk 2 d.2)->ds.length<=7->V5 (sd k ds us) []=.ok (.str (S (la k ds))):=λh h'=>Vy u h h';have e8:iS (zB lj (V0 101 2 12 0 V5 zj) (vB 4)) (zC (cE (.bl false))) iR (le ns k q (.vl (.str (S (la k a)))) o l (.vl (.tup [.int (a.length:Int),.int (us.length:Int)])) (.vl (.lst (lf k.all a))) .un .un .un [(101,sd k a us)])=.nx _:=zt (jr (jd (fs:=sd k a us) rfl (tx I (by lia))) rfl trivial)
 have e9:se 9 12 101 1 Kg (z9 (vE 4) zj) (le ns k q (.vl (.str (S (la k a)))) o l (.vl (.tup [.int (a.length:Int),.int (us.length:Int)])) (.vl (.lst (lf k.all a))) .un .un .un [(101,sd k a us)])=.nx (le ns k q (.vl (.str (S (la k a)))) o l (.vl (.tup [.int (a.length:Int),.int (us.length:Int)])) (.vl (.lst (lf k.all a))) (.ob 101 1) .un .un [(101,sd k a us),(101,sd k a [])]):=by
  unfold se;show (R.s (.ok [T.str (S (la k a))]) _)=_;rw[ZF,if_pos ⟨rfl,by decide,by simp⟩]
  show (match Kg [.str (S (la k a))]with|.ok fs=>_|_=>_)=_
  rw[K1 u v I (by lia)];rfl
 have N:∀{ds:List D},(∀d∈ds,Zk 2 d.2)->Pl 30 (.lst (ds.map lM)):=λh x hx=>by
  obtain⟨d,hd,rfl⟩:=aF.mp hx;exact F5 (h d hd)
 have e10:iS (lH (zB lj (ZZ 101 9 12 0 V3 zj) (vB 8)) (lH (zB lj (ZZ 101 9 12 0 mO zj) (ZZ 101 2 12 0 mO zj)) (zB lj (ZZ 101 9 12 0 V2 zj) (Zm (z9 (zd fr (vE 7) (cE (.int 0))) (z9 (cE (.int 0)) zj)))))) (zC (cE (.bl false))) iR (le ns k q (.vl (.str (S (la k a)))) o l (.vl (.tup [.int (a.length:Int),.int (us.length:Int)])) (.vl (.lst (lf k.all a))) (.ob 101 1) .un .un [(101,sd k a us),(101,sd k a [])])=.nx _:=
  zt (VA (jr (jd (fs:=sd k a []) rfl (jU rfl)) rfl (K2 u)) (VA (jr (jd (fs:=sd k a []) rfl Wp) (jd (fs:=sd k a us) rfl Wp) (N I)) (jr (jd (fs:=sd k a []) rfl jV) (by rw[ah];rfl) (Kl trivial trivial))))
 have U:iS (zB lj (ZZ 101 9 12 0 ka zj) (vB 1)) (zC (cE (.bl false))) iR (le ns k q (.vl (.str (S (la k a)))) o l (.vl (.tup [.int (a.length:Int),.int (us.length:Int)])) (.vl (.lst (lf k.all a))) (.ob 101 1) .un .un [(101,sd k a us),(101,sd k a [])])=.nx _:=zt (jr (jd (fs:=sd k a []) (r:=.ok k.t) rfl rfl) rfl ((K0 3 k u).le (by decide)))
 obtain⟨J,G,y,fs,q12,Z,L⟩:=CY (ns:=ns) u v (A:=(101,sd k a us)) (s5:=o) (s6:=l) (s7:=.vl (.tup [.int (a.length:Int),.int (us.length:Int)])) (b6 2) a q .un .un (by simp;lia) I
 have B:ZR (Zs (cE (.int 2))) (zI 3) CB (le ns k q (.vl (.str (S (la k a)))) o l (.vl (.tup [.int (a.length:Int),.int (us.length:Int)])) (.vl (.lst (lf k.all a))) (.ob 101 1) .un .un [(101,sd k a us),(101,sd k a [])])=_:=q12;have e13:iS (lH (zB lj (V0 101 9 12 0 V5 zj) (vB 4)) (lH (zB lj (ZZ 101 9 12 0 V3 zj) (vB 8)) (zB lj (ZZ 101 2 12 0 V2 zj) (vB 7)))) (zC (cE (.bl false))) iR (le ns k J (.vl (.str (S (la k fs)))) o l (.vl (.tup [.int (a.length:Int),.int (us.length:Int)])) (.vl (.lst (lf k.all fs))) (.ob 101 1) G y [(101,sd k a us),(101,sd k fs [])])=.nx _:=
  zt (VA (jr (jd (fs:=sd k fs []) rfl (tx L Z)) rfl trivial) (VA (jr (jd (fs:=sd k fs []) rfl (jU rfl)) rfl (K2 u)) (jr (jd (fs:=sd k a us) rfl jV) (by rw[ah];rfl) (Kl trivial trivial))))
 obtain⟨vs,e14⟩:=DH (ns:=ns) (k:=k) (A:=(101,sd k a us)) (s3:=J) (s4:=.vl (.str (S (la k fs)))) (s5:=o) (s6:=l) (s7:=.vl (.tup [.int (a.length:Int),.int (us.length:Int)])) (s8:=.vl (.lst (lf k.all fs))) (s10:=G) (s11:=y) 12 fs [] (by lia) (by simp;lia)
 have c1:∀{f g:En->R T} {ρ:En} {t:T},f ρ=.ok t->g ρ=.ok t->Pl 30 t->ZD iQ f g ρ=.ok (.bl true):=λhf hg h=>by
  rw[Zq,hf,af,hg,af,Vl h,af]
 have P:GG (VZ (jy (ZD iQ (ZZ 101 9 12 0 V3 zj) (za 1 (mj 8) (z9 (vE 1) zj))) (ZD iQ (V0 101 9 12 0 V5 zj) (zd zv (za 1 (oi 8) (z9 (vE 1) zj)) (cE (.str "\n")))))) (le ns k J (.vl (.str (S (la k fs)))) o l (.vl (.tup [.int (a.length:Int),.int (us.length:Int)])) (.vl (.lst (lf k.all fs))) (.ob 101 1) G y [(101,sd k a us),(101,sd k [] vs)])=.rt (.bl true):=by
  have d1:=c1 (f:=ZZ 101 9 12 0 V3 zj) (g:=za 1 (mj 8) (z9 (vE 1) zj)) (ρ:=le ns k J (.vl (.str (S (la k fs)))) o l (.vl (.tup [.int (a.length:Int),.int (us.length:Int)])) (.vl (.lst (lf k.all fs))) (.ob 101 1) G y [(101,sd k a us),(101,sd k [] vs)]) (jd (fs:=sd k [] vs) rfl (jU (ws:=k.all) rfl)) (by rw[zG];exact qJ 3 8 (by lia) (by lia) k u (by lia)) (K2 u (ds:=[]))
  have d2:=c1 (f:=V0 101 9 12 0 V5 zj) (ρ:=le ns k J (.vl (.str (S (la k fs)))) o l (.vl (.tup [.int (a.length:Int),.int (us.length:Int)])) (.vl (.lst (lf k.all fs))) (.ob 101 1) G y [(101,sd k a us),(101,sd k [] vs)]) (jd (fs:=sd k [] vs) rfl (tx (λd h=>nomatch h) (by decide))) (kt rfl) trivial
  unfold GG VZ;rw[w8 d1 d2];rfl
 show zw (sL lB (mj 8) Kb (oi 8) (ou 8) pd Kh Kg mJ V3 ka mO xb V2 V5 QW [.vl (iZ ns),.un,.un,.un,.un,.un,.un,.un,.un,.un,.un,.un,.st []])=_;unfold sL;unfold Ub at e3;unfold pZ at Q;unfold CB Ub pZ at B;rw[zb e1,zb e2,zb e3,zb e4,zb e5];refine(congrArg zw (zb Q)).trans ?_;rw[zb e7,zb e8,zb e9,zb e10,zb U,zb B,zb e13,zb e14,P];rfl
end G
namespace G
open PySem PySem.Spec PyProof.Rows L2 PV
noncomputable def iY (i:Nat):Stmt:=PySem.Challenge.pw_worthkinds_k85_whole_sieve_texts.main.body.getD i (.Pass ⟨0,0,0,0⟩)
noncomputable def wf (s:Stmt)(j:Nat):Stmt:=match s with
 |.ClassDef _ _ _ b _ _ _ _ _ _ _=>b.getD j (.Pass ⟨0,0,0,0⟩)
 |s=>s
set_option genInjectivity false in
set_option genSizeOf false in
structure Tx (K:ag) (mg:Str->Option Value):Prop where
 C_21:FE K mg "_law_cell" (iY 82) ["_law_script","_law_k"]
 C_2:FE K mg "_law_pick" (iY 83) ["_law_script","_law_k","_law_many"]
 C_1g:FE K mg "_law_word_of" (iY 84) ["_law_script","_law_at"]
 C_1n:FE K mg "_law_leaf_kind" (iY 85) ["_law_script","_law_at"]
 C_1:FE K mg "_law_kind" (iY 86) ["_law_script","_law_at","_law_deep"]
 C_i:FE K mg "_law_rows_of" (iY 88) ["_law_lists"]
 C_9:FE K mg "_law_all" (iY 87) ["_law_kind_here"]
 C_e:FE K mg "_law_size" (iY 89) ["_law_kind_here"]
 C_1i:FE K mg "_law_small" (iY 90) ["_law_script","_law_at","_law_most"]
 C_m:FE K mg "is_whole" (iY 12) ["thing"]
 C_23:FE K mg "is_span" (iY 15) ["low","high","least","most"]
 C_t:FE K mg "is_tuple_of" (iY 13) ["thing","least","most"]
 C_18:FE K mg "is_word" (iY 14) ["thing"]
 C_1r:FE K mg "is_choice" (iY 18) ["thing"]
 C_1q:FE K mg "are_choices" (iY 17) ["thing"]
 C_b:FE K mg "is_kind_within" (iY 16) ["thing","levels"]
 C_27:FE K mg "are_kinds_within" (iY 19) ["thing","levels"]
 C_4:FE K mg "is_kind" (iY 10) ["thing"]
 C_13:FE K mg "need_kind" (iY 11) ["kind"]
 C_3:FE K mg "count_of" (iY 24) ["kind"]
 C_1f:FE K mg "count_of_parts" (iY 25) ["kinds"]
 C_z:FE K mg "count_shorter" (iY 26) ["kind","length"]
 C_1p:FE K mg "words_of_pick" (iY 20) ["kind"]
 C_f:FE K mg "worth_at" (iY 27) ["kind","number"]
 C_26:FE K mg "many_at" (iY 28) ["kind","number"]
 C_1l:FE K mg "parts_at" (iY 29) ["kinds","number"]
 C_1d:FE K mg "all_worths" (iY 23) ["kind"]
 C_1y:FE K mg "is_bound" (iY 46) ["thing"]
 C_q:FE K mg "is_rule_within" (iY 45) ["thing","levels"]
 C_a:FE K mg "is_rule" (iY 43) ["thing"]
 C_11:FE K mg "need_rule" (iY 44) ["rule"]
 C_l:FE K mg "leaves_of" (iY 50) ["worth"]
 C_1w:FE K mg "numbers_in" (iY 51) ["worth"]
 C_22:FE K mg "parts_of" (iY 49) ["worth"]
 C_24:FE K mg "are_rising" (iY 52) ["numbers"]
 C_25:FE K mg "are_unlike" (iY 53) ["parts"]
 C_1o:FE K mg "is_single_kept" (iY 48) ["rule","worth"]
 C_h:FE K mg "is_kept" (iY 47) ["rule","worth"]
 C_1u:FE K mg "left_by" (iY 78) ["step","worths"]
 C__law_did:FE K mg "_law_did" (iY 96) ["_law_sieve","_law_deed_here"]
 C_5:FE K mg "_law_rule" (iY 91) ["_law_script","_law_at","_law_deep"]
 C_1k:FE K mg "_law_deed" (iY 94) ["_law_script","_law_at"]
 C_d:FE K mg "_law_kind_text" (iY 97) ["_law_kind_here"]
 C_k:FE K mg "_law_rule_text" (iY 98) ["_law_rule_here"]
 C_1c:FE K mg "span_written" (iY 65) ["low","high"]
 C_j:FE K mg "kind_written" (iY 64) ["kind"]
 C_6:FE K mg "kind_text" (iY 60) ["kind"]
 C_w:FE K mg "is_of_rules" (iY 67) ["word"]
 C_o:FE K mg "rule_written" (iY 66) ["rule"]
 C_8:FE K mg "rule_text" (iY 62) ["rule"]
 C_sieve_text:FE K mg "sieve_text" (iY 76) ["sieve"]
 C_y:FE K mg "need_text" (iY 55) ["thing"]
 C_1t:FE K mg "lines_in" (iY 79) ["text"]
 C_n:FE K mg "number_in" (iY 71) ["text"]
 C_1e:FE K mg "choice_in" (iY 69) ["text"]
 C_p:FE K mg "text_inside" (iY 56) ["text","opening","closing"]
 C_s:FE K mg "pieces_between" (iY 57) ["text","mark"]
 C_14:FE K mg "span_in" (iY 70) ["text"]
 C_g:FE K mg "kind_in" (iY 68) ["text","levels"]
 C_1s:FE K mg "read_kind" (iY 61) ["text"]
 C_12:FE K mg "single_rule_in" (iY 73) ["pieces"]
 C_7:FE K mg "rule_in" (iY 72) ["text","levels"]
 C_1x:FE K mg "read_rule" (iY 63) ["text"]
 C_1m:FE K mg "step_in" (iY 80) ["line"]
 C_1j:FE K mg "read_sieve" (iY 77) ["text"]
 C_r:FE K mg "_law_leaves" (iY 92) ["_law_worth"]
 C_c:FE K mg "_law_keeps" (iY 93) ["_law_rule_here","_law_worth"]
 C_1h:FE K mg "_law_sifted" (iY 95) ["_law_worths","_law_deed_here"]
 C_0:FE K mg "law" (iY 99) ["_law_script"]
 z:∀x,(["all","any","bool","enumerate","int","isinstance","len","list","min","range","reversed","set","sorted","str","sum","tuple","zip"]:List Str).contains x=true->mg x=none
 c_DEEPEST:∃u,mg "DEEPEST"=some u/\∃t,u=Value.int 3 t
 c_DEEPEST_RULE:∃u,mg "DEEPEST_RULE"=some u/\∃t,u=Value.int 3 t
 c_FARTHEST_BOUND:∃u,mg "FARTHEST_BOUND"=some u/\∃t,u=Value.int 50 t
 c_LONGEST_NUMBER:∃u,mg "LONGEST_NUMBER"=some u/\∃t,u=Value.int 3 t
 c_MOST_TOLD:∃u,mg "MOST_TOLD"=some u/\∃t,u=Value.int 500 t
structure To (K:ag) (mg:Str->Option Value) (cl:Nat->Value):Prop where
 A_Sieve:CA 101 ["kind","remaining","done","undone"] K cl
 M_Sieve_init:FI K mg cl 101 "Sieve" (wf (iY 75) 0) ["self","kind"]
 M_Sieve_left:FM K cl 101 "left" (wf (iY 75) 3) ["self"]
 M_Sieve_do_step:FM K cl 101 "do_step" (wf (iY 75) 13) ["self","step"]
 M_Sieve_new_step:FM K cl 101 "new_step" (wf (iY 75) 12) ["self","word","rule"]
 M_Sieve_keep:FM K cl 101 "keep" (wf (iY 75) 1) ["self","rule"]
 M_Sieve_bar:FM K cl 101 "bar" (wf (iY 75) 2) ["self","rule"]
 M_Sieve_back:FM K cl 101 "back" (wf (iY 75) 8) ["self"]
 M_Sieve_steps:FM K cl 101 "steps" (wf (iY 75) 7) ["self"]
 M_Sieve_counts:FM K cl 101 "counts" (wf (iY 75) 10) ["self"]
 M_Sieve_worths:FM K cl 101 "worths" (wf (iY 75) 4) ["self"]
 M_Sieve_base:FM K cl 101 "base" (wf (iY 75) 6) ["self"]
section
variable {Z:Zz}(tx:Tx Z.K Z.mg)(tc:To Z.K Z.mg Z.cl)
include tx tc
set_option hygiene false
local macro_rules| `(tactic|gp_on)=> `(tactic|first
  |(show wx _ _ _ _;first
   |refine gc ?_ ?_
   |exact DO)
  |(show Snd _ _ (.Name ..) _;first
   |exact Fo _ (pv _)
   |exact tx.c_DEEPEST.elim λ_ h=>JN (by rfl) h.1 h.2
   |exact tx.c_MOST_TOLD.elim λ_ h=>JN (by rfl) h.1 h.2
   |exact tx.c_FARTHEST_BOUND.elim λ_ h=>JN (by rfl) h.1 h.2
   |exact tx.c_DEEPEST_RULE.elim λ_ h=>JN (by rfl) h.1 h.2
   |exact tx.c_LONGEST_NUMBER.elim λ_ h=>JN (by rfl) h.1 h.2)
  |(show Snd _ _ (.Constant ..) _;first
   |exact EC
   |exact F8
   |exact Bc)
  |(show wm _ _ _ _;first
   |refine gw ?_ ?_
   |exact HM
   |refine Ei ?_)
  |(show jC _ _ _ _;first
   |exact g9 _ (pv _)
   |exact CA.go tc.A_Sieve λ_ e c n=>GI (pv _) (by rw[hy];exact e) c (n _ (by kernel_rfl))
   |exact CA.go tc.A_Sieve λ_ e c n=>Gx (pv _) (by rw[hy];exact e) c (n _ (by kernel_rfl))
   |refine Snd.b ?_)
  |(show jE _ _ _ _;first
   |refine E3 ?_
   |refine D5 ?_ ?_ ?_
   |refine gy nd (by rfl) (.inl (by rfl)) ?_
   |exact D8
   |refine gH iJ (by rfl) ?_ ?_ ?_
   |refine gA ?_
   |refine gz nd (by rfl) (.inl (by rfl)) ?_
   |refine Hc ?_
   |refine gH i8 (by rfl) ?_ ?_ ?_
   |refine F6 (pv _) ?_
   |refine gM (Cw hy (by kernel_rfl) (by kernel_rfl) (by rfl) ?_ (λ_ hy _ _ _ _ _ _=>?_) (λ_ hy _ _ _ _ _ _ _ hp=>?_)) nd (by rfl) (.inl (by rfl)) (by rfl)
   |refine CA.go tc.A_Sieve λ_ e c n=>Gy (pv _) (by rw[hy];exact e) c (n _ (by kernel_rfl)) ?_
   |refine gy nd (by rfl) (.inr (by rfl)) ?_
   |refine Ee (pv _) ?_
   |refine CA.go tc.A_Sieve λ_ e c n=>Gz (pv _) (by rw[hy];exact e) c (n _ (by kernel_rfl)) ?_
   |refine QI.go (by assumption) λ_ _ _ _ _ _ e g M O F=>Cr nd (by rfl) (.inl (by rfl)) hy e M F hr (by omega) (by rfl) g O.b hp ?_
   |exact CC (pv _) nd (by rfl) (.inl (by rfl))
   |refine YF (n:=_) iJ ?_ ?_
   |refine gZ (Cw hy (by kernel_rfl) (by kernel_rfl) (by rfl) ?_ (λ_ hy _ _ _ _ _ _=>?_) (λ_ hy _ _ _ _ _ _ _ hp=>?_))
   |refine CA.go tc.A_Sieve λ_ e c n=>F0 (pv _) (by rw[hy];exact e) c (n _ (by kernel_rfl)) ?_
   |refine HV nd (by rfl) (.inl (by rfl)) ?_
   |refine Gu (λ_ _=>?_)
   |refine Es (by rfl) nd (by rfl) (by rfl) (by decide) (by rfl) (by rfl) ?_ (by rfl)
   |refine GN nd (by rfl) (.inl (by rfl)) hy hp (by assumption) hr ?_
   |refine Hi ?_ ?_ ?_
   |refine YF (n:=_) i8 ?_ ?_
   |refine GH ?_)
  |(show Snd _ _ (.Call ..) _;first
   |refine DZ (by rfl) (tx.z _ (by kernel_rfl)) ?_
   |exact QM.go (by assumption) λ_ _ _ _ _ _ e c M F=>vZ (pv _) hy e c M.m F hr (by omega) M.b hp
   |refine gP ?_
   |refine Xi (by rfl) (tx.z _ (by kernel_rfl)) ?_
   |refine vq (n:="tuple") (YA _) (by rfl) (tx.z _ (by kernel_rfl)) (by rfl) (tx.z _ (by kernel_rfl)) PyProof.Rows.Boot.«tuple» ?_
   |refine Gq (by rfl) (tx.z _ (by kernel_rfl)) ?_
   |refine gY (by rfl) (tx.z _ (by kernel_rfl)) ?_
   |refine E2 hr.hd (by rfl) (tx.z _ (by kernel_rfl)) ?_
   |refine Hy ?_ ?_
   |refine Hb ?_ ?_
   |refine Ha ?_ ?_
   |refine QQ.go (by assumption) λ_ _ _ _ C F=>XZ (pv _) hy F hr (by omega) (by rfl) C.m C.F.kp C.b hp ?_
   |refine gv (by rfl) (by rfl) (tx.z _ (by kernel_rfl)) ?_ ?_
   |refine vq (n:="int") (Xj _) (by rfl) (tx.z _ (by kernel_rfl)) (by rfl) (tx.z _ (by kernel_rfl)) PyProof.Rows.Boot.«int» ?_
   |refine vq (n:="str") (Xk _) (by rfl) (tx.z _ (by kernel_rfl)) (by rfl) (tx.z _ (by kernel_rfl)) PyProof.Rows.Boot.«str» ?_
   |refine DX hr.hd (by rfl) (tx.z _ (by kernel_rfl)) ?_
   |refine FD ?_ ?_
   |refine XH hr.hd (by rfl) (tx.z _ (by kernel_rfl)) (by rfl) (tx.z _ (by kernel_rfl)) ?_ ?_
   |refine vq (n:="bool") (vp _) (by rfl) (tx.z _ (by kernel_rfl)) (by rfl) (tx.z _ (by kernel_rfl)) PyProof.Rows.Boot.«bool» ?_
   |refine gQ hr.hd (by rfl) (tx.z _ (by kernel_rfl)) (by rfl) (tx.z _ (by kernel_rfl)) ?_
   |refine Gb hr.hd (by rfl) (tx.z _ (by kernel_rfl)) (by rfl) (tx.z _ (by kernel_rfl)) ?_
   |refine FB hr.hd (by rfl) (tx.z _ (by kernel_rfl)) ?_
   |exact CA.go tc.A_Sieve λ_ e c n=>GJ (pv _) (by rw[hy];exact e) c (n _ (by kernel_rfl)) (by rfl) (tx.z _ (by kernel_rfl))
   |refine Et (by rfl) (tx.z _ (by kernel_rfl)) ?_
   |refine Gr (by rfl) (tx.z _ (by kernel_rfl)) ?_
   |refine Gk ?_ ?_ ?_
   |refine D6 ?_ ?_
   |refine Gc (by rfl) (tx.z _ (by kernel_rfl)) ?_
   |refine cZ hy (by assumption) hr ?_)
  |(show Snd _ _ (.Subscript ..) _;first
   |refine Ce ?_ ?_
   |refine Xm ?_ ?_ ?_
   |refine E5 ?_ ?_ ?_
   |refine CA.go tc.A_Sieve λ_ e c n=>DR (pv _) (by rw[hy];exact e) c (n _ (by kernel_rfl)) ?_
   |refine CA.go tc.A_Sieve λ_ e c n=>FR (pv _) (by rw[hy];exact e) c (n _ (by kernel_rfl)) ?_)
  |(show Snd _ _ (.BinOp ..) _;first
   |refine HN ?_ ?_
   |refine D2 ?_ ?_
   |refine El ?_ ?_
   |refine Ff ?_ ?_
   |refine gf ?_ ?_)
  |(show WA _ _ _ _;first
   |refine WU gh (VG hr.units) ?_ ?_ (jB _)
   |refine HX ?_
   |refine WU Xc (Yv hr.units) ?_ ?_ (jB _)
   |refine WU HA gj ?_ ?_ (jB _)
   |refine WU EL gi ?_ ?_ (jB _)
   |refine WU vm (VH hr.units) ?_ ?_ (by rfl)
   |refine WU wW jN ?_ ?_ (jB _)
   |refine WU Ge XO ?_ ?_ (by rfl)
   |refine WU gq (Xe hr.units) ?_ ?_ (by rfl)
   |refine Xg wW wW jN jN ?_ ?_ ?_
   |refine Hw ?_
   |refine yS.t ?_)
  |(show uI _ _ _ _ _;first
   |refine gE (by rfl) (tx.z _ (by kernel_rfl)) ?_
   |refine gF (by rfl) (tx.z _ (by kernel_rfl)) ?_ ?_
   |refine gO (by rfl) (tx.z _ (by kernel_rfl)) ?_
   |refine Ft (by rfl) (tx.z _ (by kernel_rfl)) ?_
   |refine EG (by rfl) (tx.z _ (by kernel_rfl)) ?_ ?_
   |refine XN (by rfl) (tx.z _ (by kernel_rfl)) ?_
   |refine XR (by rfl) (tx.z _ (by kernel_rfl)) ?_
   |refine DV ?_)
  |(show Snd _ _ (.BoolOp ..) _;first
   |refine DU ?_ ?_
   |refine CG ?_ ?_
   |refine FS ?_)
  |(show W0 _ _ _ _;first
   |exact gK
   |refine gL ?_)
  |(show Snd _ _ (.Compare ..) _;first
   |refine Yu gh (VG hr.units) ?_ ?_ (jB _)
   |refine Xf wW wW jN jN ?_ ?_ ?_
   |refine Yu wW jN ?_ ?_ (jB _)
   |refine Yu vm (VH hr.units) ?_ ?_ (by rfl)
   |refine vn wW wW wW jN jN jN ?_ ?_ ?_ ?_
   |refine Yu HW gm ?_ ?_ (jB _)
   |refine Yu Xc (Yv hr.units) ?_ ?_ (jB _))
  |(show yS _ _ _ _;first
   |refine Be ?_ ?_
   |refine D4 ?_ ?_
   |refine Ek ?_
   |refine gr ?_)
  |(show Snd _ _ (.ListComp ..) _;first
   |refine VP (Cw hy (by kernel_rfl) (by kernel_rfl) (by rfl) ?_ (λ_ hy _ _ _ _ _ _=>?_) (λ_ hy _ _ _ _ _ _ _ hp=>?_))
   |refine VP (FQ hy (by kernel_rfl) (by kernel_rfl) (by rfl) ?_ (λ_ hy _ _ _ _ _ _=>?_) (λ_ hy _ _ _ _ _ _ _ hp=>?_)))
  |(show Snd _ _ (.Tuple ..) _;first
   |refine Hl ?_)
  |(show vt _ _ _ _;first
   |refine gu ?_
   |exact gs)
  |(show vX _ _ _ _;first
   |refine Gw ?_ ?_
   |refine Hn ?_
   |exact HR)
  |(show Snd _ _ (.List ..) _;first
   |refine FZ ?_)
  |(show tP _ _ _ _;first
   |exact VN nd (by rfl) (.inl (by rfl))
   |exact gG (by rfl) nd (by rfl) (by rfl) (.inl (by rfl)) (.inl (by rfl))
   |exact VN nd (by rfl) (.inr (by rfl)))
  |(show Snd _ _ (.UnaryOp ..) _;first
   |refine HY ?_
   |refine Ez ?_)
  |(show uJ _ _ (.Call ..) _;first
   |refine QM.go (by assumption) λ_ _ _ _ _ _ e c M F=>GA (pv _) hy e c M.m F hr (by omega) M.b hp ?_
   |exact CA.go tc.A_Sieve λ_ e c n=>GB (pv _) (by rw[hy];exact e) c (n _ (by kernel_rfl))
   |refine QQ.go (by assumption) λ_ _ _ _ C F=>GF (pv _) hy F hr (by omega) (by rfl) C.m C.F.kp C.b hp ?_
   |exact QM.go (by assumption) λ_ _ _ _ _ _ e c M F=>XV (pv _) hy e c M.m F hr (by omega) M.b hp)
  |(show Snd _ _ (.IfExp ..) _;first
   |refine BW ?_ ?_ ?_)
  |(show GK _ _ _ _ _;first
   |refine GL ?_ ?_
   |exact D7 (pv _))
  |(show uJ _ _ _ _;first
   |refine Gv ?_)
  |(show Snd _ _ (.JoinedStr ..) _;first
   |refine Bo ?_ ?_)
  |(show uJ _ _ (.IfExp ..) _;first
   |refine Az ?_ ?_ ?_)
  |(show Snd _ _ (.Attribute ..) _;first
   |exact CA.go tc.A_Sieve λ_ e c n=>GE (pv _) (by rw[hy];exact e) c (n _ (by kernel_rfl)))
  |(show XW _ _ _ _;first
   |refine GD Xc (Yv hr.units) ?_ ?_ (jB _))
  )
local macro_rules| `(tactic|kd_all)=> `(tactic|(intro cdv A outer s H E Y hy hE hr nd hp;repeat' gp_on))
theorem Hf:qP Z "_law_cell" 2 1 (oP 2 pN):=by
 refine i3 tx.C_21 ["_law_script","_law_k"] λ_=>?_
 kd_all
theorem Ak (_:qP Z "_law_cell" 2 1 c_21):qP Z "_law_pick" 3 2 (oP 4 (Dd c_21)):=by
 refine i3 tx.C_2 ["_law_script","_law_k","_law_many","_law_drawn"] λ_=>?_
 kd_all
theorem E1 (_:qP Z "_law_pick" 3 2 c_2):qP Z "_law_word_of" 2 3 (oP 3 (sM c_2)):=by
 refine i3 tx.C_1g ["_law_script","_law_at","_law_letters"] λ_=>?_
 kd_all
theorem Fp (_:qP Z "_law_pick" 3 2 c_2)(_:qP Z "_law_word_of" 2 3 c_1g):qP Z "_law_leaf_kind" 2 4 (oP 6 (tT c_2 c_1g)):=by
 refine i3 tx.C_1n ["_law_script","_law_at","_law_low","_law_words","_law_k","_law_word"] λ_=>?_
 kd_all
theorem Af {j:Nat}(a:4<=j)(_:qP Z "_law_pick" 3 2 c_2)(_:qP Z "_law_leaf_kind" 2 4 c_1n)(_:qP Z "_law_kind" 3 j c_1):qP Z "_law_kind" 3 (j+1) (oP 6 (sX c_2 c_1n c_1)):=by
 refine i3 tx.C_1 ["_law_script","_law_at","_law_deep","_law_way","_law_some","_law_low"] λ_=>?_
 kd_all
theorem BH:qP Z "_law_rows_of" 1 1 (oP 5 sC):=by
 refine i3 tx.C_i ["_law_lists","_law_made","_law_some","_law_longer","_law_ahead"] λ_=>?_
 kd_all
theorem BC {j:Nat}(a:1<=j)(_:qP Z "_law_all" 1 j c_9)(_:qP Z "_law_rows_of" 1 1 c_i):qP Z "_law_all" 1 (j+1) (oP 3 (lV c_9 c_i)):=by
 refine i3 tx.C_9 ["_law_kind_here","_law_made","_law_size_here"] λ_=>?_
 kd_all
theorem BI {j:Nat}(a:9<=j)(_:qP Z "_law_all" 1 9 c_9)(_:qP Z "_law_size" 1 j c_e):qP Z "_law_size" 1 (j+1) (oP 5 (mm c_9 c_e)):=by
 refine i3 tx.C_e ["_law_kind_here","_law_sizes","_law_made","_law_size_here","_law_inner"] λ_=>?_
 kd_all
theorem E4 (_:qP Z "_law_kind" 3 12 c_1)(_:qP Z "_law_size" 1 17 c_e):qP Z "_law_small" 3 18 (oP 5 (tN c_1 c_e)):=by
 refine i3 tx.C_1i ["_law_script","_law_at","_law_most","_law_kind_here","_law_k"] λ_=>?_
 kd_all
theorem BV:qP Z "is_whole" 1 1 (oP 1 C6):=by
 refine i3 tx.C_m ["thing"] λ_=>?_
 kd_all
theorem Ew (_:qP Z "is_whole" 1 1 c_m):qP Z "is_span" 4 2 (oP 4 (pq c_m)):=by
 refine i3 tx.C_23 ["low","high","least","most"] λ_=>?_
 kd_all
theorem Cq:qP Z "is_tuple_of" 3 1 (oP 3 DD):=by
 refine i3 tx.C_t ["thing","least","most"] λ_=>?_
 kd_all
theorem Fq:qP Z "is_word" 1 1 (oP 1 pp):=by
 refine i3 tx.C_18 ["thing"] λ_=>?_
 kd_all
theorem Ie (_:qP Z "is_whole" 1 1 c_m)(_:qP Z "is_tuple_of" 3 1 c_t)(_:qP Z "is_word" 1 1 c_18):qP Z "is_choice" 1 2 (oP 1 (rA c_m c_t c_18)):=by
 refine i3 tx.C_1r ["thing"] λ_=>?_
 kd_all
theorem Fi (_:qP Z "is_tuple_of" 3 1 c_t)(_:qP Z "is_choice" 1 2 c_1r):qP Z "are_choices" 1 3 (oP 2 (tw c_t c_1r)):=by
 refine i3 tx.C_1q ["thing","words"] λ_=>?_
 kd_all
theorem AZ {j:Nat}(a:3<=j)(_:qP Z "is_span" 4 2 c_23)(_:qP Z "is_kind_within" 2 j c_b)(_:qP Z "are_choices" 1 3 c_1q)(_:qP Z "are_kinds_within" 2 j c_27):qP Z "is_kind_within" 2 (j+1) (oP 2 (sU c_23 c_b c_1q c_27)):=by
 refine i3 tx.C_b ["thing","levels"] λ_=>?_
 kd_all
theorem FN {j:Nat}(a:3<=j)(_:qP Z "is_tuple_of" 3 1 c_t)(_:qP Z "is_kind_within" 2 j c_b):qP Z "are_kinds_within" 2 (j+1) (oP 2 (tR c_t c_b)):=by
 refine i3 tx.C_27 ["thing","levels"] λ_=>?_
 kd_all
theorem B5 (_:qP Z "is_kind_within" 2 23 c_b):qP Z "is_kind" 1 24 (oP 1 (rX c_b)):=by
 refine i3 tx.C_4 ["thing"] λ_=>?_
 kd_all
theorem Hd (_:qP Z "is_kind" 1 24 c_4):qP Z "need_kind" 1 25 (oP 1 (rK c_4)):=by
 refine i3 tx.C_13 ["kind"] λ_=>?_
 kd_all
theorem AB {j:Nat}(a:0<=j)(_:qP Z "count_of_parts" 1 j c_1f)(_:qP Z "count_shorter" 2 j c_z):qP Z "count_of" 1 (j+1) (oP 1 (rO c_1f c_z)):=by
 refine i3 tx.C_3 ["kind"] λ_=>?_
 kd_all
theorem FO {j:Nat}(a:0<=j)(_:qP Z "count_of" 1 j c_3):qP Z "count_of_parts" 1 (j+1) (oP 3 (GS c_3)):=by
 refine i3 tx.C_1f ["kinds","count","kind"] λ_=>?_
 kd_all
theorem Bs {j:Nat}(a:0<=j)(_:qP Z "count_of_parts" 1 j c_1f):qP Z "count_shorter" 2 (j+1) (oP 2 (pW c_1f)):=by
 refine i3 tx.C_z ["kind","length"] λ_=>?_
 kd_all
theorem Ej:qP Z "words_of_pick" 1 1 (oP 1 sF):=by
 refine i3 tx.C_1p ["kind"] λ_=>?_
 kd_all
theorem Bj {j:Nat}(a:20<=j)(_:qP Z "words_of_pick" 1 1 c_1p)(_:qP Z "many_at" 2 j c_26)(_:qP Z "parts_at" 2 j c_1l):qP Z "worth_at" 2 (j+1) (oP 2 (rg c_1p c_26 c_1l)):=by
 refine i3 tx.C_f ["kind","number"] λ_=>?_
 kd_all
theorem Ht {j:Nat}(a:20<=j)(_:qP Z "count_shorter" 2 20 c_z)(_:qP Z "parts_at" 2 j c_1l):qP Z "many_at" 2 (j+1) (oP 3 (GU c_z c_1l)):=by
 refine i3 tx.C_26 ["kind","number","length"] λ_=>?_
 kd_all
theorem D9 {j:Nat}(a:20<=j)(_:qP Z "count_of" 1 20 c_3)(_:qP Z "worth_at" 2 j c_f):qP Z "parts_at" 2 (j+1) (oP 6 (GV c_3 c_f)):=by
 refine i3 tx.C_1l ["kinds","number","parts","rest","kind","count"] λ_=>?_
 kd_all
theorem EJ (_:qP Z "need_kind" 1 25 c_13)(_:qP Z "count_of" 1 20 c_3)(_:qP Z "worth_at" 2 40 c_f):qP Z "all_worths" 1 41 (oP 2 (rS c_13 c_3 c_f)):=by
 refine i3 tx.C_1d ["kind","count"] λ_=>?_
 kd_all
theorem BY (_:qP Z "all_worths" 1 41 c_1d):qI Z 101 "Sieve" 1 42 (oM 101 2 (sQ c_1d)):=by
 refine FW tc.M_Sieve_init ["self","kind","?"] λ_ _=>?_
 kd_all
theorem FX (_:qP Z "is_whole" 1 1 c_m):qP Z "is_bound" 1 2 (oP 1 (Cu c_m)):=by
 refine i3 tx.C_1y ["thing"] λ_=>?_
 kd_all
theorem Cf {j:Nat}(a:2<=j)(_:qP Z "is_word" 1 1 c_18)(_:qP Z "is_rule_within" 2 j c_q)(_:qP Z "is_bound" 1 2 c_1y):qP Z "is_rule_within" 2 (j+1) (oP 2 (sk c_18 c_q c_1y)):=by
 refine i3 tx.C_q ["thing","levels"] λ_=>?_
 kd_all
theorem BD (_:qP Z "is_rule_within" 2 10 c_q):qP Z "is_rule" 1 11 (oP 1 (tm c_q)):=by
 refine i3 tx.C_a ["thing"] λ_=>?_
 kd_all
theorem F9 (_:qP Z "is_rule" 1 11 c_a):qP Z "need_rule" 1 12 (oP 1 (sm c_a)):=by
 refine i3 tx.C_11 ["rule"] λ_=>?_
 kd_all
theorem F2:qO Z 101 "left" 0 1 (oO 101 1 0 oV):=by
 refine pG tc.A_Sieve tc.M_Sieve_left ["self","?"] λ_ _=>?_
 kd_all
theorem Ao {j:Nat}(a:0<=j)(_:qP Z "leaves_of" 1 j c_l):qP Z "leaves_of" 1 (j+1) (oP 3 (tI c_l)):=by
 refine i3 tx.C_l ["worth","leaves","part"] λ_=>?_
 kd_all
theorem EY (_:qP Z "is_whole" 1 1 c_m)(_:qP Z "leaves_of" 1 8 c_l):qP Z "numbers_in" 1 9 (oP 1 (A4 c_m c_l)):=by
 refine i3 tx.C_1w ["worth"] λ_=>?_
 kd_all
theorem Fj:qP Z "parts_of" 1 1 (oP 1 o0):=by
 refine i3 tx.C_22 ["worth"] λ_=>?_
 kd_all
theorem HZ:qP Z "are_rising" 1 1 (oP 1 Bx):=by
 refine i3 tx.C_24 ["numbers"] λ_=>?_
 kd_all
theorem E6:qP Z "are_unlike" 1 1 (oP 1 BL):=by
 refine i3 tx.C_25 ["parts"] λ_=>?_
 kd_all
theorem EQ (_:qP Z "parts_of" 1 1 c_22)(_:qP Z "leaves_of" 1 8 c_l)(_:qP Z "numbers_in" 1 9 c_1w)(_:qP Z "are_rising" 1 1 c_24)(_:qP Z "are_unlike" 1 1 c_25):qP Z "is_single_kept" 2 10 (oP 2 (sV c_22 c_l c_1w c_24 c_25)):=by
 refine i3 tx.C_1o ["rule","worth"] λ_=>?_
 kd_all
theorem AR {j:Nat}(a:10<=j)(_:qP Z "is_kept" 2 j c_h)(_:qP Z "is_single_kept" 2 10 c_1o):qP Z "is_kept" 2 (j+1) (oP 2 (sE c_h c_1o)):=by
 refine i3 tx.C_h ["rule","worth"] λ_=>?_
 kd_all
theorem Fw (_:qP Z "is_kept" 2 18 c_h):qP Z "left_by" 2 19 (oP 3 (rk c_h)):=by
 refine i3 tx.C_1u ["step","worths","is_keep"] λ_=>?_
 kd_all
theorem Bu (_:qP Z "left_by" 2 19 c_1u):qM Z 101 "do_step" 1 20 (oM 101 2 (tU c_1u)):=by
 refine o9 tc.A_Sieve tc.M_Sieve_do_step ["self","step","?"] λ_ _=>?_
 kd_all
theorem Hz (_:qP Z "need_rule" 1 12 c_11)(_:qO Z 101 "left" 0 1 c_1v)(_:qM Z 101 "do_step" 1 20 c_u):qM Z 101 "new_step" 2 21 (oM 101 4 (rR c_11 c_1v c_u)):=by
 refine o9 tc.A_Sieve tc.M_Sieve_new_step ["self","word","rule","before","?"] λ_ _=>?_
 kd_all
theorem Ii (_:qM Z 101 "new_step" 2 21 c_10):qM Z 101 "keep" 1 22 (oM 101 2 (oJ c_10)):=by
 refine o9 tc.A_Sieve tc.M_Sieve_keep ["self","rule","?"] λ_ _=>?_
 kd_all
theorem Fb (_:qM Z 101 "new_step" 2 21 c_10):qM Z 101 "bar" 1 22 (oM 101 2 (oI c_10)):=by
 refine o9 tc.A_Sieve tc.M_Sieve_bar ["self","rule","?"] λ_ _=>?_
 kd_all
theorem E7 (_:qM Z 101 "keep" 1 22 c_1z)(_:qM Z 101 "bar" 1 22 c_20):re Z 101 "_law_did" 1 23 (oM 101 2 (sS c_1z c_20)):=by
 refine BR tx.C__law_did ["_law_sieve","_law_deed_here","?"] λ_=>?_
 kd_all
theorem AC {j:Nat}(a:2<=j)(_:qP Z "_law_pick" 3 2 c_2)(_:qP Z "_law_rule" 3 j c_5):qP Z "_law_rule" 3 (j+1) (oP 6 (tK c_2 c_5)):=by
 refine i3 tx.C_5 ["_law_script","_law_at","_law_deep","_law_way","_law_one","_law_low"] λ_=>?_
 kd_all
theorem Fu (_:qP Z "_law_pick" 3 2 c_2)(_:qP Z "_law_rule" 3 10 c_5):qP Z "_law_deed" 2 11 (oP 2 (t7 c_2 c_5)):=by
 refine i3 tx.C_1k ["_law_script","_law_at"] λ_=>?_
 kd_all
theorem FL:qM Z 101 "back" 0 1 (oM 101 2 ro):=by
 refine o9 tc.A_Sieve tc.M_Sieve_back ["self","step","?"] λ_ _=>?_
 kd_all
theorem B9 {j:Nat}(a:0<=j)(_:qP Z "_law_kind_text" 1 j c_d):qP Z "_law_kind_text" 1 (j+1) (oP 2 (mI c_d)):=by
 refine i3 tx.C_d ["_law_kind_here","_law_head"] λ_=>?_
 kd_all
theorem Bh:qO Z 101 "steps" 0 1 (oO 101 1 0 Dk):=by
 refine pG tc.A_Sieve tc.M_Sieve_steps ["self","?"] λ_ _=>?_
 kd_all
theorem By {j:Nat}(a:0<=j)(_:qP Z "_law_rule_text" 1 j c_k):qP Z "_law_rule_text" 1 (j+1) (oP 1 (nZ c_k)):=by
 refine i3 tx.C_k ["_law_rule_here"] λ_=>?_
 kd_all
theorem EZ:qO Z 101 "counts" 0 1 (oO 101 1 0 pj):=by
 refine pG tc.A_Sieve tc.M_Sieve_counts ["self","?"] λ_ _=>?_
 kd_all
theorem Ea:qO Z 101 "worths" 0 1 (oO 101 1 0 pP):=by
 refine pG tc.A_Sieve tc.M_Sieve_worths ["self","?"] λ_ _=>?_
 kd_all
theorem Ig:qP Z "span_written" 2 1 (oP 2 oW):=by
 refine i3 tx.C_1c ["low","high"] λ_=>?_
 kd_all
theorem Ai {j:Nat}(a:1<=j)(_:qP Z "kind_written" 1 j c_j)(_:qP Z "span_written" 2 1 c_1c):qP Z "kind_written" 1 (j+1) (oP 1 (mP c_j c_1c)):=by
 refine i3 tx.C_j ["kind"] λ_=>?_
 kd_all
theorem Cg (_:qP Z "need_kind" 1 25 c_13)(_:qP Z "kind_written" 1 21 c_j):qP Z "kind_text" 1 26 (oP 1 (rF c_13 c_j)):=by
 refine i3 tx.C_6 ["kind"] λ_=>?_
 kd_all
theorem F4:qO Z 101 "base" 0 1 (oO 101 1 0 oF):=by
 refine pG tc.A_Sieve tc.M_Sieve_base ["self","?"] λ_ _=>?_
 kd_all
theorem B6:qP Z "is_of_rules" 1 1 (oP 1 C7):=by
 refine i3 tx.C_w ["word"] λ_=>?_
 kd_all
theorem Bp {j:Nat}(a:1<=j)(_:qP Z "rule_written" 1 j c_o)(_:qP Z "is_of_rules" 1 1 c_w):qP Z "rule_written" 1 (j+1) (oP 1 (ot c_o c_w)):=by
 refine i3 tx.C_o ["rule"] λ_=>?_
 kd_all
theorem Au (_:qP Z "need_rule" 1 12 c_11)(_:qP Z "rule_written" 1 9 c_o):qP Z "rule_text" 1 13 (oP 1 (rz c_11 c_o)):=by
 refine i3 tx.C_8 ["rule"] λ_=>?_
 kd_all
theorem HG (_:qP Z "kind_text" 1 26 c_6)(_:qP Z "rule_text" 1 13 c_8)(_:qO Z 101 "base" 0 1 c_17)(_:qO Z 101 "steps" 0 1 c_v):sI Z 101 0 "sieve_text" 0 27 (oO 101 2 0 (rm c_6 c_8 c_17 c_v)):=by
 refine Bl tx.C_sieve_text ["sieve","lines","?"] λ_=>?_
 kd_all
theorem Bk:qP Z "need_text" 1 1 (oP 1 DE):=by
 refine i3 tx.C_y ["thing"] λ_=>?_
 kd_all
theorem Ef (_:qP Z "need_text" 1 1 c_y):qP Z "lines_in" 1 2 (oP 1 (rJ c_y)):=by
 refine i3 tx.C_1t ["text"] λ_=>?_
 kd_all
theorem CL:qP Z "number_in" 1 1 (oP 2 tQ):=by
 refine i3 tx.C_n ["text","number"] λ_=>?_
 kd_all
theorem Hu (_:qP Z "number_in" 1 1 c_n):qP Z "choice_in" 1 2 (oP 2 (tF c_n)):=by
 refine i3 tx.C_1e ["text","halves"] λ_=>?_
 kd_all
theorem Bd:qP Z "text_inside" 3 1 (oP 3 tY):=by
 refine i3 tx.C_p ["text","opening","closing"] λ_=>?_
 kd_all
theorem AI:qP Z "pieces_between" 2 1 (oP 7 sy):=by
 refine i3 tx.C_s ["text","mark","pieces","begin","depth","place","sign"] λ_=>?_
 kd_all
theorem Fk (_:qP Z "number_in" 1 1 c_n):qP Z "span_in" 1 2 (oP 2 (rh c_n)):=by
 refine i3 tx.C_14 ["text","halves"] λ_=>?_
 kd_all
theorem Cm {j:Nat}(a:2<=j)(_:qP Z "text_inside" 3 1 c_p)(_:qP Z "pieces_between" 2 1 c_s)(_:qP Z "kind_in" 2 j c_g)(_:qP Z "choice_in" 1 2 c_1e)(_:qP Z "span_in" 1 2 c_14):qP Z "kind_in" 2 (j+1) (oP 4 (mQ c_p c_s c_g c_1e c_14)):=by
 refine i3 tx.C_g ["text","levels","pieces","halves"] λ_=>?_
 kd_all
theorem Fz (_:qP Z "is_kind" 1 24 c_4)(_:qP Z "need_text" 1 1 c_y)(_:qP Z "kind_in" 2 22 c_g):qP Z "read_kind" 1 25 (oP 2 (rc c_4 c_y c_g)):=by
 refine i3 tx.C_1s ["text","kind"] λ_=>?_
 kd_all
theorem Fa (_:qP Z "number_in" 1 1 c_n):qP Z "single_rule_in" 1 2 (oP 1 (Ke c_n)):=by
 refine i3 tx.C_12 ["pieces"] λ_=>?_
 kd_all
theorem Ab {j:Nat}(a:2<=j)(_:qP Z "text_inside" 3 1 c_p)(_:qP Z "pieces_between" 2 1 c_s)(_:qP Z "is_of_rules" 1 1 c_w)(_:qP Z "rule_in" 2 j c_7)(_:qP Z "single_rule_in" 1 2 c_12):qP Z "rule_in" 2 (j+1) (oP 4 (n8 c_p c_s c_w c_7 c_12)):=by
 refine i3 tx.C_7 ["text","levels","halves","pieces"] λ_=>?_
 kd_all
theorem HC (_:qP Z "is_rule" 1 11 c_a)(_:qP Z "need_text" 1 1 c_y)(_:qP Z "rule_in" 2 10 c_7):qP Z "read_rule" 1 12 (oP 2 (rQ c_a c_y c_7)):=by
 refine i3 tx.C_1x ["text","rule"] λ_=>?_
 kd_all
theorem EB (_:qP Z "read_rule" 1 12 c_1x):qP Z "step_in" 1 13 (oP 2 (sj c_1x)):=by
 refine i3 tx.C_1m ["line","halves"] λ_=>?_
 kd_all
theorem FP (_:qP Z "count_of" 1 20 c_3)(_:qP Z "read_kind" 1 25 c_1s)(_:qP Z "lines_in" 1 2 c_1t)(_:qP Z "step_in" 1 13 c_1m)(_:qI Z 101 "Sieve" 1 42 c_x)(_:qM Z 101 "do_step" 1 20 c_u):tE Z 101 "read_sieve" 1 44 (CT 101 6 3 (sZ c_3 c_1s c_1t c_1m c_x c_u)):=by
 refine A8 tx.C_1j ["text","lines","kind","sieve","step","?"] λ_=>?_
 kd_all
theorem BX {j:Nat}(a:0<=j)(_:qP Z "_law_leaves" 1 j c_r):qP Z "_law_leaves" 1 (j+1) (oP 3 (r9 c_r)):=by
 refine i3 tx.C_r ["_law_worth","_law_made","_law_part"] λ_=>?_
 kd_all
theorem AT {j:Nat}(a:8<=j)(_:qP Z "_law_leaves" 1 8 c_r)(_:qP Z "_law_keeps" 2 j c_c):qP Z "_law_keeps" 2 (j+1) (oP 7 (rd c_r c_c)):=by
 refine i3 tx.C_c ["_law_rule_here","_law_worth","_law_numbers","_law_parts","_law_total","_law_number","_law_some"] λ_=>?_
 kd_all
theorem Fg (_:qP Z "_law_keeps" 2 16 c_c):qP Z "_law_sifted" 2 17 (oP 2 (rn c_c)):=by
 refine i3 tx.C_1h ["_law_worths","_law_deed_here"] λ_=>?_
 kd_all
theorem AJ {f:Addr}{a:FuncData}(C:Fn Z.K Z.mg "law" (iY 99) ["_law_script"] f a)(_:qP Z "_law_pick" 3 2 c_2)(_:qP Z "_law_all" 1 9 c_9)(_:qP Z "_law_small" 3 18 c_1i)(_:qP Z "_law_kind_text" 1 8 c_d)(_:qP Z "_law_rule_text" 1 8 c_k)(_:qP Z "_law_deed" 2 11 c_1k)(_:qP Z "_law_sifted" 2 17 c_1h)(_:tE Z 101 "read_sieve" 1 44 c_1j)(_:qI Z 101 "Sieve" 1 42 c_x)(_:qO Z 101 "worths" 0 1 c_16)(_:qO Z 101 "base" 0 1 c_17)(_:qO Z 101 "steps" 0 1 c_v)(_:qM Z 101 "back" 0 1 c_1a)(_:qO Z 101 "counts" 0 1 c_15)(_:sI Z 101 0 "sieve_text" 0 27 c_19)(_:re Z 101 "_law_did" 1 23 c_1b):je Z.P Z.w Z.K Z.mg Z.base (lh Z.P Z.w) 45 f a ["_law_script"] (spP Z.cl 1 (oS 13 (sL c_2 c_9 c_1i c_d c_k c_1k c_1h c_1j c_x c_16 c_17 c_v c_1a c_15 c_19 c_1b))):=by
 refine Bf C ["_law_script","_law_kind_here","_law_sieve","_law_k","_law_text","_law_word","_law_rule_here","_law_many","_law_here","_law_other","_law_deed_here","_law_some","?"] ?_
 kd_all
end
section
variable {Z:Zz}(tx:Tx Z.K Z.mg)(tc:To Z.K Z.mg Z.cl)
include tx tc
theorem D3 {f:Addr}{fd:FuncData}(C:Fn Z.K Z.mg "law" (iY 99) ["_law_script"] f fd):je Z.P Z.w Z.K Z.mg Z.base (lh Z.P Z.w) 45 f fd ["_law_script"] (spP Z.cl 1 np):=by
 have O_21:qP Z "_law_cell" 2 1 GO:=Hf tx tc;have d:qP Z "_law_pick" 3 2 lB:=Ak tx tc O_21;have L:qP Z "_law_word_of" 2 3 Ka:=E1 tx tc d;have O_1n:qP Z "_law_leaf_kind" 2 4 GP:=Fp tx tc d L;have R_1:∀n:Nat,qP Z "_law_kind" 3 (4+n) (mU n 0):=by
  intro n
  induction n with
  |zero=>exact lN tx.C_1
  |succ n a=>exact Af tx tc (aI _ _) d O_1n a
 have O_1:qP Z "_law_kind" 3 12 (nh 8):=(R_1 8);have O_i:qP Z "_law_rows_of" 1 1 lJ:=BH tx tc;have R_9:∀n:Nat,qP Z "_law_all" 1 (1+n) (om n 0):=by
  intro n
  induction n with
  |zero=>exact lN tx.C_9
  |succ n a=>exact BC tx tc (aI _ _) a O_i
 have O_9:qP Z "_law_all" 1 9 (mj 8):=(R_9 8);have R_e:∀n:Nat,qP Z "_law_size" 1 (9+n) (tO n 0):=by
  intro n
  induction n with
  |zero=>exact lN tx.C_e
  |succ n a=>exact BI tx tc (aI _ _) O_9 a
 have O_e:qP Z "_law_size" 1 17 (oH 8):=(R_e 8);have Q:qP Z "_law_small" 3 18 Kb:=E4 tx tc O_1 O_e;have i:qP Z "is_whole" 1 1 ni:=BV tx tc;have O_23:qP Z "is_span" 4 2 tM:=Ew tx tc i;have q:qP Z "is_tuple_of" 3 1 mV:=Cq tx tc;have l:qP Z "is_word" 1 1 k7:=Fq tx tc;have O_1r:qP Z "is_choice" 1 2 GQ:=Ie tx tc i q l;have O_1q:qP Z "are_choices" 1 3 GR:=Fi tx tc q O_1r;have X:∀n:Nat,qP Z "is_kind_within" 2 (3+n) (lZ n 0)/\qP Z "are_kinds_within" 2 (3+n) (lZ n 1):=by
  intro n
  induction n with
  |zero=>exact⟨lN tx.C_b,lN tx.C_27⟩
  |succ n a=>exact⟨AZ tx tc (aI _ _) O_23 a.1 O_1q a.2,FN tx tc (aI _ _) q a.1⟩
 have O_b:qP Z "is_kind_within" 2 23 (AD 20):=(X 20).1;have O_27:qP Z "are_kinds_within" 2 23 (BB 20):=(X 20).2;have O_4:qP Z "is_kind" 1 24 m3:=B5 tx tc O_b;have k:qP Z "need_kind" 1 25 Kc:=Hd tx tc O_4;have r:∀n:Nat,qP Z "count_of" 1 (0+n) (mo n 0)/\qP Z "count_of_parts" 1 (0+n) (mo n 1)/\qP Z "count_shorter" 2 (0+n) (mo n 2):=by
  intro n
  induction n with
  |zero=>exact⟨lN tx.C_3,lN tx.C_1f,lN tx.C_z⟩
  |succ n a=>exact⟨AB tx tc (aI _ _) a.2.1 a.2.2,FO tx tc (aI _ _) a.1,Bs tx tc (aI _ _) a.2.1⟩
 have y:qP Z "count_of" 1 20 (mF 20):=(r 20).1;have O_1f:qP Z "count_of_parts" 1 20 (An 20):=(r 20).2.1;have O_z:qP Z "count_shorter" 2 20 (nY 20):=(r 20).2.2;have U:qP Z "words_of_pick" 1 1 GT:=Ej tx tc;have u:∀n:Nat,qP Z "worth_at" 2 (20+n) (mq n 0)/\qP Z "many_at" 2 (20+n) (mq n 1)/\qP Z "parts_at" 2 (20+n) (mq n 2):=by
  intro n
  induction n with
  |zero=>exact⟨lN tx.C_f,lN tx.C_26,lN tx.C_1l⟩
  |succ n a=>exact⟨Bj tx tc (aI _ _) U a.2.1 a.2.2,Ht tx tc (aI _ _) O_z a.2.2,D9 tx tc (aI _ _) y a.1⟩
 have O_f:qP Z "worth_at" 2 40 (ox 20):=(u 20).1;have O_26:qP Z "many_at" 2 40 (BA 20):=(u 20).2.1;have O_1l:qP Z "parts_at" 2 40 (A6 20):=(u 20).2.2;have O_1d:qP Z "all_worths" 1 41 xa:=EJ tx tc k y O_f;have O_x:qI Z 101 "Sieve" 1 42 mJ:=BY tx tc O_1d;have O_1y:qP Z "is_bound" 1 2 rN:=FX tx tc i;have R_q:∀n:Nat,qP Z "is_rule_within" 2 (2+n) (oG n 0):=by
  intro n
  induction n with
  |zero=>exact lN tx.C_q
  |succ n a=>exact Cf tx tc (aI _ _) l a O_1y
 have O_q:qP Z "is_rule_within" 2 10 (ri 8):=(R_q 8);have O_a:qP Z "is_rule" 1 11 nH:=BD tx tc O_q;have j:qP Z "need_rule" 1 12 k8:=F9 tx tc O_a;have O_1v:qO Z 101 "left" 0 1 GW:=F2 tx tc;have R_l:∀n:Nat,qP Z "leaves_of" 1 (0+n) (oK n 0):=by
  intro n
  induction n with
  |zero=>exact lN tx.C_l
  |succ n a=>exact Ao tx tc (aI _ _) a
 have G:qP Z "leaves_of" 1 8 (oy 8):=(R_l 8);have O_1w:qP Z "numbers_in" 1 9 sh:=EY tx tc i G;have N:qP Z "parts_of" 1 1 rH:=Fj tx tc;have O_24:qP Z "are_rising" 1 1 BG:=HZ tx tc;have O_25:qP Z "are_unlike" 1 1 AG:=E6 tx tc;have O_1o:qP Z "is_single_kept" 2 10 GX:=EQ tx tc N G O_1w O_24 O_25;have R_h:∀n:Nat,qP Z "is_kept" 2 (10+n) (mE n 0):=by
  intro n
  induction n with
  |zero=>exact lN tx.C_h
  |succ n a=>exact AR tx tc (aI _ _) a O_1o
 have O_h:qP Z "is_kept" 2 18 (pS 8):=(R_h 8);have O_1u:qP Z "left_by" 2 19 GY:=Fw tx tc O_h;have O_u:qM Z 101 "do_step" 1 20 mB:=Bu tx tc O_1u;have p:qM Z 101 "new_step" 2 21 k9:=Hz tx tc j O_1v O_u;have J:qM Z 101 "keep" 1 22 GZ:=Ii tx tc p;have O_20:qM Z 101 "bar" 1 22 oR:=Fb tx tc p;have O_1b:re Z 101 "_law_did" 1 23 QW:=E7 tx tc J O_20;have R_5:∀n:Nat,qP Z "_law_rule" 3 (2+n) (na n 0):=by
  intro n
  induction n with
  |zero=>exact lN tx.C_5
  |succ n a=>exact AC tx tc (aI _ _) d a
 have O_5:qP Z "_law_rule" 3 10 (Am 8):=(R_5 8);have O_1k:qP Z "_law_deed" 2 11 pd:=Fu tx tc d O_5;have O_1a:qM Z 101 "back" 0 1 xb:=FL tx tc;have R_d:∀n:Nat,qP Z "_law_kind_text" 1 (0+n) (mG n 0):=by
  intro n
  induction n with
  |zero=>exact lN tx.C_d
  |succ n a=>exact B9 tx tc (aI _ _) a
 have O_d:qP Z "_law_kind_text" 1 8 (oi 8):=(R_d 8);have O_v:qO Z 101 "steps" 0 1 mO:=Bh tx tc;have R_k:∀n:Nat,qP Z "_law_rule_text" 1 (0+n) (nU n 0):=by
  intro n
  induction n with
  |zero=>exact lN tx.C_k
  |succ n a=>exact By tx tc (aI _ _) a
 have O_k:qP Z "_law_rule_text" 1 8 (ou 8):=(R_k 8);have O_15:qO Z 101 "counts" 0 1 V2:=EZ tx tc;have O_16:qO Z 101 "worths" 0 1 V3:=Ea tx tc;have O_1c:qP Z "span_written" 2 1 V4:=Ig tx tc;have R_j:∀n:Nat,qP Z "kind_written" 1 (1+n) (nk n 0):=by
  intro n
  induction n with
  |zero=>exact lN tx.C_j
  |succ n a=>exact Ai tx tc (aI _ _) a O_1c
 have O_j:qP Z "kind_written" 1 21 (CK 20):=(R_j 20);have O_6:qP Z "kind_text" 1 26 pF:=Cg tx tc k O_j;have o:qO Z 101 "base" 0 1 ka:=F4 tx tc;have O_w:qP Z "is_of_rules" 1 1 mw:=B6 tx tc;have R_o:∀n:Nat,qP Z "rule_written" 1 (1+n) (nJ n 0):=by
  intro n
  induction n with
  |zero=>exact lN tx.C_o
  |succ n a=>exact Bp tx tc (aI _ _) a O_w
 have O_o:qP Z "rule_written" 1 9 (Cy 8):=(R_o 8);have O_8:qP Z "rule_text" 1 13 o4:=Au tx tc j O_o;have O_19:sI Z 101 0 "sieve_text" 0 27 V5:=HG tx tc O_6 O_8 o O_v;have B:qP Z "need_text" 1 1 nE:=Bk tx tc;have O_1t:qP Z "lines_in" 1 2 pr:=Ef tx tc B;have v:qP Z "number_in" 1 1 mN:=CL tx tc;have O_1e:qP Z "choice_in" 1 2 xf:=Hu tx tc v;have O_p:qP Z "text_inside" 3 1 mf:=Bd tx tc;have O_s:qP Z "pieces_between" 2 1 mv:=AI tx tc;have O_14:qP Z "span_in" 1 2 QX:=Fk tx tc v;have R_g:∀n:Nat,qP Z "kind_in" 2 (2+n) (mR n 0):=by
  intro n
  induction n with
  |zero=>exact lN tx.C_g
  |succ n a=>exact Cm tx tc (aI _ _) O_p O_s a O_1e O_14
 have O_g:qP Z "kind_in" 2 22 (sT 20):=(R_g 20);have O_1s:qP Z "read_kind" 1 25 pQ:=Fz tx tc O_4 B O_g;have O_12:qP Z "single_rule_in" 1 2 V6:=Fa tx tc v;have R_7:∀n:Nat,qP Z "rule_in" 2 (2+n) (nz n 0):=by
  intro n
  induction n with
  |zero=>exact lN tx.C_7
  |succ n a=>exact Ab tx tc (aI _ _) O_p O_s O_w a O_12
 have O_7:qP Z "rule_in" 2 10 (sY 8):=(R_7 8);have O_1x:qP Z "read_rule" 1 12 tX:=HC tx tc O_a B O_7;have I:qP Z "step_in" 1 13 Kf:=EB tx tc O_1x;have O_1j:tE Z 101 "read_sieve" 1 44 Kg:=FP tx tc y O_1s O_1t I O_x O_u;have R_r:∀n:Nat,qP Z "_law_leaves" 1 (0+n) (oB n 0):=by
  intro n
  induction n with
  |zero=>exact lN tx.C_r
  |succ n a=>exact BX tx tc (aI _ _) a
 have O_r:qP Z "_law_leaves" 1 8 (pB 8):=(R_r 8);have R_c:∀n:Nat,qP Z "_law_keeps" 2 (8+n) (lY n 0):=by
  intro n
  induction n with
  |zero=>exact lN tx.C_c
  |succ n a=>exact AT tx tc (aI _ _) O_r a
 have O_c:qP Z "_law_keeps" 2 16 (o7 8):=(R_c 8);have O_1h:qP Z "_law_sifted" 2 17 Kh:=Fg tx tc O_c;exact AJ tx tc C d O_9 Q O_d O_k O_1k O_1h O_1j O_x O_16 o O_v O_1a O_15 O_19 O_1b
end
noncomputable def xD:List Str:=["NoKind","NoWorth","NoRule","TooMany","Ended","NoText","NoBack"]
noncomputable def ny (K:ag)(c:Nat):Value:=match f9 K mainGlobals (if c=101 then ("Sieve":Str)else if c=102 then "Finder"else xD.getD c "")with
 |some (some v)=>v
 |_=>.none
theorem clK_at {K:ag}{c:Nat}{x:Str}{q:Addr}(a:(if c=101 then ("Sieve":Str)else if c=102 then "Finder"else xD.getD c "")=x)(h:f9 K mainGlobals x=some (some (.ref q))):ny K c=.ref q:=by unfold ny;rw[a,h]
theorem lz {us:List Value}{n:Nat}(h:us.length=n+1):∃a t,us=a::t/\t.length=n:=by
 cases us with
 |nil=>cases h
 |cons a t=>exact⟨a,t,rfl,Nat.succ.inj h⟩
theorem lz1 {d:FuncData}{f:Str}(us:List Value)(j:us.length=1)(h:∀a,bindArgs d ⟨[a],[]⟩=pure ([f].zip [a])):bindArgs d ⟨us,[]⟩=pure ([f].zip us):=by
 obtain⟨a,_,rfl,i⟩:=lz j;obtain rfl:=bH.mp i;exact h a
theorem lz2 {i:FuncData}{j f:Str}(us:List Value)(o:us.length=2)(h:∀a d,bindArgs i ⟨[a,d],[]⟩=pure ([j,f].zip [a,d])):bindArgs i ⟨us,[]⟩=pure ([j,f].zip us):=by
 obtain⟨a,_,rfl,l⟩:=lz o;obtain⟨d,_,rfl,k⟩:=lz l;obtain rfl:=bH.mp k;exact h a d
theorem lz3 {j:FuncData}{l i k:Str}(us:List Value)(r:us.length=3)(h:∀a d f,bindArgs j ⟨[a,d,f],[]⟩=pure ([l,i,k].zip [a,d,f])):bindArgs j ⟨us,[]⟩=pure ([l,i,k].zip us):=by
 obtain⟨a,_,rfl,p⟩:=lz r;obtain⟨d,_,rfl,o⟩:=lz p;obtain⟨f,_,rfl,q⟩:=lz o;obtain rfl:=bH.mp q;exact h a d f
theorem lz4 {k:FuncData}{o p l j:Str}(us:List Value)(y:us.length=4)(h:∀a f i d,bindArgs k ⟨[a,f,i,d],[]⟩=pure ([o,p,l,j].zip [a,f,i,d])):bindArgs k ⟨us,[]⟩=pure ([o,p,l,j].zip us):=by
 obtain⟨a,_,rfl,r⟩:=lz y;obtain⟨f,_,rfl,q⟩:=lz r;obtain⟨i,_,rfl,u⟩:=lz q;obtain⟨d,_,rfl,v⟩:=lz u;obtain rfl:=bH.mp v;exact h a f i d
theorem fn1 {K:ag}{h:Heap}{o:Str->Option Value}{f:Addr}{q d:Option Addr}{u:Array (Option Value)}{v kV i j a ct:Value}{x:Str}{st:Stmt}{p:List Str}(X:K.In h)(G:h.Ns mainGlobals o)(e:f9 K mainGlobals x=some (some (.ref f)))(l:K.lookup f=some ⟨v,q,.func (bv x x (ZC st) (zP st) (zx st) .none kV i j d a ct),u⟩)(g:dn K a x=true)(k:bE K (.ref f)=true)
  (r:∀F:Fun K x x st f (bv x x (ZC st) (zP st) (zx st) .none kV i j d a ct),L2.Binds K (bv x x (ZC st) (zP st) (zx st) .none kV i j d a ct) p []):Fn K o x st p f (bv x x (ZC st) (zP st) (zx st) .none kV i j d a ct):=
 have F:=VF (st:=st) l g k
 ⟨F,r F,PySem.W.mg_of X G e⟩
theorem zs_of {K:ag}{h:Heap}{d:Str->Option Value}{a:List Str}(X:K.In h)(G:h.Ns mainGlobals d)(i:(a.all λx=>f9 K mainGlobals x==some none)=true):∀x,a.contains x=true->d x=none:=λx f=>PySem.W.mg_none_of X G (beq_iff_eq.mp (aU.mp i x (fy.mp f)))
theorem fo1 {K:ag}{f C:Addr}{r j:Option Addr}{v:Array (Option Value)}{y kV o p d ct:Value}{x a:Str}{st:Stmt}{q:List Str}(i:bp K (.ref C) x=some (some (.ref f)))(l:K.lookup f=some ⟨y,r,.func (bv x a (ZC st) (zP st) (zx st) .none kV o p j d ct),v⟩)(g:dn K d a=true)(k:bE K (.ref f)=true)(fn:eY K (.ref f)=true)
  (u:∀F:Fun K x a st f (bv x a (ZC st) (zP st) (zx st) .none kV o p j d ct),L2.Binds K (bv x a (ZC st) (zP st) (zx st) .none kV o p j d ct) q []):nT K x a st q f (bv x a (ZC st) (zP st) (zx st) .none kV o p j d ct) C:=
 have F:=VF (st:=st) l g k
 ⟨F,u F,⟨i,fn,k⟩⟩
theorem no_of {K:ag}{C:Addr}{a:List Str}(d:(a.all λx=>bp K (.ref C) x==some none)=true):∀x,a.contains x=true->L2.NoAttr K C x:=λx f=>beq_iff_eq.mp (aU.mp d x (fy.mp f))
noncomputable abbrev Tx' {K:ag}{h:Heap}(_:K.In h)(mg:Str->Option Value):Prop:=Tx K mg
abbrev To' {K:ag}{h:Heap}(_:K.In h)(mg:Str->Option Value):Prop:=To K mg (ny K)
theorem fin_ {l:PySem.W.OpenLaw}{w:World}{K:ag}{h:Heap}{d:Str->Option Value}{fa:Addr}(X:K.In h)(G:h.Ns mainGlobals d)(j:d "law"=some (.ref fa))(tx:Tx K d)(tc:To K d (ny K)):∃i:FuncData,(∀(s:Shared) (v:Value),BindsTo s i ⟨[v],[]⟩ [("_law_script",v)])/\∀a:Heap,K.In a->a.Ns mainGlobals d->je l.prog w K d a (lh l.prog w) 45 fa i ["_law_script"] (spP (ny K) 1 np):=by
 obtain⟨f,i,C⟩:=tx.C_0;have e:=j.symm.trans C.m;cases e;obtain⟨B,q,kV,o,r,u,cdv,ct,p,rfl,lk,k⟩:=C.F.ex;exact⟨_,λs v=>.of_eq rfl,λa y _=>D3 (Z:=⟨l.prog,w,K,d,a,(ny K)⟩) tx tc C⟩
def Uc (K:ag):Bool:=K.all λp=> !(p.2.cls==Value.type "list")
theorem K3 {K:ag}(h:Uc K=true){a:Addr}{o:Obj}(e:K.lookup a=some o)(c:o.cls=Value.type "list"):False:=by
 have i:(a,o)∈K:=by
  clear h
  induction K with
  |nil=>cases e
  |cons p r j=>
   obtain⟨b,u⟩:=p
   by_cases f:a=b
   ·subst f;have d:some u=some o:=by simpa[aM]using e
    cases d;exact aj
   ·have d:r.lookup a=some o:=by rw[aM,(beq_eq_false_iff_ne.mpr f)]at e;exact e
    exact ai _ (j d)
 have:=aU.mp h _ i;rw[c]at this;simp at this
theorem Ih {cl:Nat->Value}{K:ag}{H:Hp}{a:Addr}{ns:List Int}(p:np [.fz (ns.map T.int)]=.ok (.bl true))(f:Uc K=true)(j:rV H)(i:SqL K H a (ns.map V.int)):spP cl 1 np [.ref a] H (λv _=>v=.bl true) λ_ _ _=>False:=by
 have d:∀ns:List Int,zJ H (ns.map V.int) (ns.map T.int):=λns=>by
  induction ns with
  |nil=>exact .nil
  |cons n r k=>exact .cons (.int n) k
 rcases i with (h|⟨o,h⟩)|⟨o,l,n,e,c,_⟩
 ·rcases j a with z|⟨ob,xs,z⟩<;>(rw[h]at z;cases z)
 ·refine⟨H,[.fz (ns.map T.int)],rfl,zy.refl H,.cons (.fz h (d ns)) .nil,?_⟩;rw[p];intro v q _ r;cases r;rfl
 ·exact(K3 f e c).elim
theorem walk {l:PySem.W.OpenLaw}{q:Program}{j:List Str}{XP:(Str->Option Value)->Heap->Prop}{y:World->Heap->Prop}{d:DefRec}{K:Params->ag}(hn:l.most=some 63)(r:d.params.defaults=[])
  (G:∀ns:List Int,ns.length<=63->np [.fz (ns.map T.int)]=.ok (.bl true)) (B:∀p,Uc (K p)=true)
  (J:∀(w:World) (h:Heap),y w h->(K w.params).In h)
  (F:∀(w:World) (o:Str->Option Value) (fa:Addr) (h:Heap),(K w.params).In h->h.Ns mainGlobals o->o d.name=some (.ref fa)->
   ∃v:FuncData,(∀(s:Shared) (u:Value),BindsTo s v ⟨[u],[]⟩ [("_law_script",u)])/\∀i:Heap,(K w.params).In i->i.Ns mainGlobals o->je l.prog w (K w.params) o i (lh l.prog w) 45 fa v ["_law_script"] (spP (ny (K w.params)) 1 np)):
  PySem.W.WalkO q j XP y l.row.toRowW d [] (λf vs=>iL f vs):=
 L2.walk_of (n:=63) (k:=45) (x:="_law_script") (CX:=λw=>(lh l.prog w)) (sp:=λw=>spP (ny (K w.params)) 1 np) hn (by decide) r ⟨rfl,by decide,by decide,rfl⟩ J F (λw H a ns N I L=>Ih (G ns N) (B w.params) I L) λ_ _ _ _ _ ⟨_,_,_,_,_,_,_,z⟩=>z
end G
namespace PySem.W.Fast
def tw2679954013836553045:=Nat
def tw13668836838547448077:=Nat
def tw15724461282069844924:=Nat
def tw12585798881447682076:=Nat
def tw1827956192134518593:=Nat
def tw8488475500764584351:=Nat
def tw10984774886583764424:=Nat
def tw8479976986170521496:=Nat
def tw11282243286863321373:=Nat
def tw11158703792824736875:=Nat
def tw1236580136383240951:=Nat
def tw12580759047519429318:=Nat
def tw14017647276619915541:=Nat
def tw13451463572353530216:=Nat
def tw9888436483720383250:=Nat
def tw14025383644714776957:=Nat
def tw4660739969668728734:=Nat
def tw16050539823795579550:=Nat
def tw10613060620334937281:=Nat
def tw822893951138541555:=Nat
def tw17051293623070808230:=Nat
def tw8333849851861547072:=Nat
def tw2843295346757138097:=Nat
def tw4052212519264001873:=Nat
def tw17913691652786962221:=Nat
def tw488826921034844531:=Nat
def tw14256700824845611549:=Nat
def tw2355797272345427715:=Nat
def tw1177588351732927997:=Nat
def tw17891381647413917844:=Nat
def tw9071239192286995960:=Nat
def tw2345667822323976633:=Nat
def tw8508635980904767753:=Nat
def tw9782955322259998570:=Nat
def tw17501752027297466584:=Nat
def tw15162762646635960172:=Nat
def tw17080441107483613894:=Nat
def tw8528070523975304381:=Nat
def tw5479537085534585283:=Nat
def tw8721901867870734887:=Nat
def tw4040022812098021882:=Nat
def tw12584003774649397997:=Nat
def tw10278246126914501026:=Nat
def tw6668748744134346332:=Nat
def tw13745065948529291809:=Nat
def tw12221864297792249983:=Nat
def tw12270589129903685895:=Nat
def tw12515078438421123714:=Nat
def tw6772180800820378479:=Nat
def tw14677832722224262317:=Nat
def tw16541523671417438075:=Nat
def tw12431646487020444601:=Nat
def tw123038656285083639:=Nat
def tw17564732859892042865:=Nat
def tw17757259505180512435:=Nat
def tw8926223369874571782:=Nat
def tw12270172952709449585:=Nat
def tw11465321450379753771:=Nat
def tw10733551859594493964:=Nat
def tw12114042494904398838:=Nat
def tw536751590264889206:=Nat
def tw14344335907373304947:=Nat
def tw13363502772753860427:=Nat
def tw15203522940331187930:=Nat
def tw9364871183342947640:=Nat
def tw12827228873296122294:=Nat
def tw5523486383123026157:=Nat
def tw162864978199304428:=Nat
def tw10068259248207736256:=Nat
def tw5534132293683661547:=Nat
def tw3368441299518307981:=Nat
def tw8507335421677551834:=Nat
def tw16097941840570029302:=Nat
def tw5763280130430178015:=Nat
def tw10350223459184082856:=Nat
def tw6348962226670491755:=Nat
def tw11019740161669060984:=Nat
def tw10375499129350497263:=Nat
def tw636086729913243285:=Nat
def tw11307099835335919190:=Nat
def tw16822173966912804760:=Nat
def tw6126509641003539347:=Nat
def tw14546860706076432656:=Nat
def tw14873713036486514695:=Nat
def tw16962990402926590277:=Nat
def tw17906207349907066088:=Nat
def tw17541590860574643708:=Nat
def tw16010925503726308245:=Nat
def tw14183992117304648460:=Nat
def tw7628898220894666035:=Nat
def tw13615821917768491708:=Nat
def tw12062712129376278819:=Nat
def tw39608928445061740:=Nat
def tw13272715340642063646:=Nat
def tw13537877818686415105:=Nat
def tw13764209314234381085:=Nat
def tw15855404313433898762:=Nat
def tw10094788888669002763:=Nat
def tw2291225168827986510:=Nat
def tw12390556528362895594:=Nat
def tw6595643126791073188:=Nat
def tw132562307159952022:=Nat
def tw13142282940394723215:=Nat
def tw15545411389909713823:=Nat
def tw9076820234486465790:=Nat
def tw7644050724423074598:=Nat
def tw6829159105387893727:=Nat
def tw1171432118384889329:=Nat
def tw5219475187523300051:=Nat
def tw15946218733552105389:=Nat
def tw15330598849233419503:=Nat
def tw14997720843964106210:=Nat
def tw3200484209398432056:=Nat
def tw7912914061444855550:=Nat
def tw16605198284685750185:=Nat
def tw7508923535387006427:=Nat
def tw2479231721333449761:=Nat
def tw4784620499701968935:=Nat
def tw8404035297535664999:=Nat
def tw8649075051982789350:=Nat
def tw3887587877176476367:=Nat
def tw12964014187527516143:=Nat
def tw7593063883505289617:=Nat
def tw2290827094650629901:=Nat
def tw8265626643299207416:=Nat
def tw16280023785737473702:=Nat
def tw8008823002357340107:=Nat
def tw7712838456052774520:=Nat
def tw17841396068880411618:=Nat
def tw10945529378963610223:=Nat
def tw10264066625276496628:=Nat
def tw12580564063029460353:=Nat
def tw11778037511851870018:=Nat
def tw12918458793679788868:=Nat
def tw5941335013544501253:=Nat
def tw1960338565989418046:=Nat
def tw6235374368728873933:=Nat
def tw14151781635222419852:=Nat
def tw16557027390316897894:=Nat
def tw9858966222633071249:=Nat
def tw13884320978457529605:=Nat
def tw3999705327535681905:=Nat
def tw11141326664666851519:=Nat
def tw1213989337333390996:=Nat
def tw60227655719735308:=Nat
def tw13291881052054511039:=Nat
def tw11308459831428995678:=Nat
def tw13888303116729491977:=Nat
def tw17416486941548020692:=Nat
def tw14124603011652864870:=Nat
def tw9217394602117207346:=Nat
def tw10418153168574749874:=Nat
def tw13810983003548196685:=Nat
def tw6044346333178363027:=Nat
def tw6858148936777583690:=Nat
def tw13881060864090516077:=Nat
def tw16060363209006713775:=Nat
def tw10180114731061088886:=Nat
def tw7160343049969851404:=Nat
def tw6904581540198356161:=Nat
def tw3629638684686995775:=Nat
def tw12442033308832394291:=Nat
def tw16985877043734745332:=Nat
def tw17034721567778706754:=Nat
def tw5158122129676190408:=Nat
def tw3341303353228797543:=Nat
def tw3319535827452693869:=Nat
def tw2103529019059074816:=Nat
def tw16047927623934208058:=Nat
def tw6476317857962811314:=Nat
def tw17099910821555694546:=Nat
def tw16239150961872018375:=Nat
def tw4418277630047510127:=Nat
def tw6576379865922598548:=Nat
def tw18397408598195040891:=Nat
def tw17389591085746920867:=Nat
def tw6555110602867241746:=Nat
def tw13074879236354313079:=Nat
def tw5241460292724260257:=Nat
def tw3359446348158380463:=Nat
def tw5397218805954458504:=Nat
def tw13890582521521515818:=Nat
def tw7716209858190950631:=Nat
def tw16219539032025966672:=Nat
def tw2483455296911246038:=Nat
def tw11734302598967463263:=Nat
def tw123275466971431893:=Nat
def tw3525317514365650426:=Nat
def tw2498643959193265632:=Nat
def tw5285399256672439554:=Nat
def tw462108604017781573:=Nat
def tw12960451663638327076:=Nat
def tw15186913824168035096:=Nat
def tw5446607813648261170:=Nat
def tw16394014375497420260:=Nat
def tw2714924274758237726:=Nat
def tw16242978062805772733:=Nat
def tw16848526941515518199:=Nat
def tw15093645552066677031:=Nat
def tw2552922507397445652:=Nat
def tw6899728521547494650:=Nat
def tw7355778474693711615:=Nat
def tw9319427132150413905:=Nat
def tw12408035033959498201:=Nat
def tw10741159554345768679:=Nat
def tw2495995353655519578:=Nat
def tw9160493222095791140:=Nat
def tw2471158127303403487:=Nat
def tw804756551184124228:=Nat
def tw15060652842661930536:=Nat
def tw17339872526893344780:=Nat
def tw9516756773152680661:=Nat
def tw12259915797560462959:=Nat
def tw11756366987375329228:=Nat
def tw6738877578330359299:=Nat
def tw7256471448706405733:=Nat
def tw8887335899877921669:=Nat
def tw18051687610690200972:=Nat
def tw16131012811812985264:=Nat
def tw7227911696031753299:=Nat
def tw16869595079345965409:=Nat
def tw9032410091077939012:=Nat
def tw1212316695855172323:=Nat
def tw2489829240260449920:=Nat
def tw3345578714121485288:=Nat
def tw5343511842551617904:=Nat
def tw10074405559412028664:=Nat
def tw9165034965200618561:=Nat
def tw1949177775286859442:=Nat
def tw1709785769187106715:=Nat
def tw7616672967146792574:=Nat
def tw4272501641553133592:=Nat
def tw15883459828763478191:=Nat
def tw9821004495341997331:=Nat
def tw17175071261608405336:=Nat
def tw1036376912182111030:=Nat
def tw17720184180798341484:=Nat
def tw8408942542685435992:=Nat
def tw14089431118587659129:=Nat
def tw5726504754282088828:=Nat
def tw15089456065411226685:=Nat
def tw2603954195218771496:=Nat
def tw17879304119668043423:=Nat
def tw14101294690148741628:=Nat
def tw11880417628998219790:=Nat
def tw11717330735383207646:=Nat
def tw9022350375003059404:=Nat
def tw12145110074211388790:=Nat
def tw6896343057013583823:=Nat
def tw3781040136362827204:=Nat
def tw5300245647063068609:=Nat
def tw17345611276296155390:=Nat
def tw6362520241386297929:=Nat
def tw9783070109814314768:=Nat
def tw7146019586322312632:=Nat
def tw5372756960751774373:=Nat
def tw2311253148842250584:=Nat
def tw12758562401180525936:=Nat
def tw16425577286740131008:=Nat
def tw16174453432541457558:=Nat
def tw905549490887907311:=Nat
def tw9509450375170778241:=Nat
def tw17344450200020333240:=Nat
def tw7803853702633133120:=Nat
def tw5296229028649378154:=Nat
def tw15730662609925852554:=Nat
def tw9015365453840533561:=Nat
def tw2739402470408444188:=Nat
def tw6511882170551507831:=Nat
def tw17838334713042306187:=Nat
def tw2307375993953305827:=Nat
def tw9700078600994765002:=Nat
def tw11691015868131849819:=Nat
def tw17885241915747765659:=Nat
def tw6648505680816064266:=Nat
def tw13072153981482949869:=Nat
def tw8960458481248187414:=Nat
def tw14226090967383875304:=Nat
def tw5468307981599755384:=Nat
def tw10757208444735032989:=Nat
def tw17074874649207349845:=Nat
def tw9948599738400766553:=Nat
def tw9573529084632943482:=Nat
def tw11297083311808822635:=Nat
def tw14473001417211207497:=Nat
def tw12623539791047849255:=Nat
def tw2578072085493984586:=Nat
def tw17702947825400469897:=Nat
def tw17639210235905350607:=Nat
def tw15706089159702205149:=Nat
def tw14180439556806006548:=Nat
def tw3819751843807687258:=Nat
def tw8621014399341441864:=Nat
def tw13791811859444914257:=Nat
def tw11141744263869550588:=Nat
def tw14304328494994419481:=Nat
def tw329271835016901422:=Nat
def tw7757835279389501465:=Nat
def tw5397593513374387113:=Nat
def tw11289485597455308632:=Nat
def tw18445423768368772944:=Nat
def tw9493396476845947803:=Nat
def tw2263601208408106750:=Nat
def tw8709366753344140835:=Nat
def tw10410022641312137071:=Nat
def tw17648442125566690711:=Nat
end PySem.W.Fast
open PySem PySem.W PyProof.Rows
set_option maxRecDepth 100000 in
set_option maxHeartbeats 0 in
theorem PySem.Challenge.cw_worthkinds_k85_whole_sieve_texts_holds : PySem.Challenge.rw_worthkinds_k85_whole_sieve_texts.Holds := by
 w_on; o_law; k_head; (case hw=>w_witness2)
 k_fill
 refine G.walk (l:=PySem.Challenge.rw_worthkinds_k85_whole_sieve_texts) rfl rfl G.law_ok ?nl (fun w h Y=>PySem.W.kIn_of Y) ?F
 case nl=>intro p; kernel_rfl
 case F=>
  intro w mg fa h KX G0 hmg
  have tx:G.Tx' KX mg:=by
   constructor
   all_goals first
    | (refine' ⟨_,_,G.fn1 KX G0 ?e ?l ?g ?k (fun F=>F.binds fun _ _ _ _ _ _ us hl=>by first | exact G.lz1 us hl fun _=>rfl | exact G.lz2 us hl fun _ _=>rfl | exact G.lz3 us hl fun _ _ _=>rfl | exact G.lz4 us hl fun _ _ _ _=>rfl)⟩; (case e | l | g | k=>k_is))
    | exact ⟨_,PySem.W.mg_of KX G0 (by k_is),_,rfl⟩
    | exact G.zs_of KX G0 (by kernel_rfl)
  have tc:G.To' KX mg:=by
   constructor
   ·refine' ⟨_,G.clK_at (x:="Sieve") rfl ?ze,⟨?zp, ?zh, ?zo, ?zs⟩,G.no_of ?zn⟩; (case ze=>k_is); (case zp | zh | zo | zs | zn=>kernel_rfl)
   all_goals first
    | (refine' ⟨_,_,_,_,G.clK_at (x:="Sieve") rfl ?ze,G.fo1 ?zi ?zl ?zg ?zk ?zf (fun F=>F.binds fun _ _ _ _ _ _ us hl=>by first | exact G.lz1 us hl fun _=>rfl | exact G.lz2 us hl fun _ _=>rfl | exact G.lz3 us hl fun _ _ _=>rfl | exact G.lz4 us hl fun _ _ _ _=>rfl)⟩; (case ze | zi | zl | zg | zk=>k_is); (case zf=>kernel_rfl))
    | (refine' ⟨_,_,_,_,G.clK_at (x:="Sieve") rfl ?ze,PySem.W.mg_of KX G0 ?ze,⟨?zm, ?zi, ?zf, ?zc⟩,G.fo1 ?zi ?zl ?zg ?zk ?zf (fun F=>F.binds fun _ _ _ _ _ _ us hl=>by first | exact G.lz1 us hl fun _=>rfl | exact G.lz2 us hl fun _ _=>rfl | exact G.lz3 us hl fun _ _ _=>rfl | exact G.lz4 us hl fun _ _ _ _=>rfl)⟩; (case ze | zi | zl | zg | zk | zc=>k_is); (case zf | zm=>kernel_rfl))
  refine' G.fin_ KX G0 hmg tx tc
