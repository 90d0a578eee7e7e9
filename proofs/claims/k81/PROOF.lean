import PyProof.Rows.All
import Wide.All
import OpenK.AllK
import Wide.FinOn
import Lean
import PyProof.EqAt
import PyProof.EqKinds
import PyProof.TupleCall
import PyProof.NeKinds
import PyProof.WalksEnum
import PyProof.StrWalks
import PyProof.ExcAttrAll.ValueError
import PyProof.ZipIter
import KE.KRevIter
import PyProof.ListNew
import PyProof.WalksMore
import PyProof.ReprLoop
import PyProof.FactsAll.list
import PyProof.CollectIter
import PyProof.TupleOfGen
import PyProof.Draws
import PyProof.EnumMake
import PyProof.SeqI3
import KE.KMinBuiltin
import PyProof.SetRoads
import PyProof.CollectWalk
import KE.KDictSum
import PyProof.AttrMiss
import PyProof.IsiH_tuple
import KE.KDictOf
import PyProof.FitsBits
import PyProof.SliceList
import PyProof.InstFacts
import PyProof.Rows.StrNews2
import PyProof.StrBlockH
import PyProof.CallStr
import KE.KIntText
import PyProof.Rows.RuleB_pow
import KE.KSortTup
import PyProof.ReprRoads
import KE.KLam
import PySem.Challenge.RW_worthkinds_k81_whole_sieves
open PySem renaming wpAny_bind->a7,wpAny_pure->ak,wpAny_truthy_bool->aZ,wpAny_newObj_type->a_,wpAny_field->b6,wpAny_callSpecial?_slot->bi,wpAny_setField_rec->bm,wpAny_call_entry->bB,wpAny_seqItems->bE,codeAny_builtin->bH,mem_of_lookup->bI,wpAny_Call_Name_kw->bK,wpAny_passesOwn->bM,sizeLine_eq->bO,wpAny_of_eq->bR,wpAny_holding->cu,wpAny_typeOf->cC,plainId_quiet->cN,wpAny_rule->cP,codeAny_mono->cU,wpAny_mono->d7,call_meets->dC,Within->eK,seqSlot_of->i4,call->iC
open PySem.W renaming Frag->a8,findIn->bj,kia_one->bo,fnOf->bq,keepIn->bu,kitOne->bX,instObj->ci,emptyDict->cz,codeIn->cV,methodCall_KW->d6,plainGet->d8,plainGet_of->dk,lookIn->dv,callWith_K->dz,hasDictIn->dM,isFn->eM,cellsFrom_some->eN,nsIn->eV,takerIn->eX,plainOver->fM,kitx_list->fN,kitx_dict->fO,handedIn->hV,makesIn->io
open List renaming mem_cons_of_mem->a9,replicate->aa,length_map->ac,mem_cons_self->ad,getElem?_eq_getElem->ag,mem_cons->ah,length_cons->aj,map_cons->ao,getElem?_set_ne->ar,length_append->av,getElem?_eq_some_iff->aw,getElem?_map->ax,size_toArray->ay,lookup_cons->aA,getElem?_append_right->aB,mem_map->aC,getElem?_append_left->aE,length_singleton->aF,mem_singleton->aG,length_set->aI,length_replicate->aK,all_eq_true->aL,not_mem_nil->aM,getElem?_replicate->aN,getElem?_set_self->aO,getElem?_eq_none->aP,map_replicate->aS,range->aT,map_map->aV,mem_append_right->aX,append_nil->aY,flatMap_cons->b7,replicate_succ->ba,length_range->be,mem_range->bg,eq_of_mem_replicate->bh,nil_append->bp,append_assoc->br,map_nil->bz,length_nil->bA,of_mem_zip->bG,length_reverse->bJ,reverse_cons->bS,all_cons->bU,mem_flatMap->c8,range_succ_eq_map->c9,pairwise_cons->cf,nodup_cons->cj,map_append->cn,set_comm->cq,length_take->cB,prefix_refl->cD,filterMap_cons->cH,getElem?_range->cJ,map_congr_left->cK,mem_append->cO,lookup->cQ,ext_getElem?->cY,sum_cons->d9,mem_append_left->db,mem_of_getElem?->df,length_zip->dj,foldl->dB,drop_zero->dE,zip_cons_cons->dH,drop_eq_getElem_cons->dJ,pairwise_iff_getElem->dL,flatten_cons->dN,any_cons->dO,length_drop->eA,length_eq_zero_iff->eC,any_eq_true->eG,getElem?_cons_succ->eH,cons_append->eI,flatMap_map->eJ,take_of_length_le->eS,mem_filter->eW,range_succ->eY,getElem?_reverse->f7,contains_iff_mem->f8,reverse_reverse->fj,drop_succ_cons->fx,mem_filterMap->fF,length_zipIdx->fI,any_eq_false->fL,all_map->fT,getElem_inj->hU,drop_length->i5,getElem_map->i8,map_reverse->ib,filter_cons->ic,flatMap_nil->ig,range'->ik,forIn_cons->ir,find?_cons->iw,sum_append->ix
open PySem.Heap renaming get?_push_of_some->ab,get?_push_size->af,lt_size->am,size_push->bx,SameBut->bN,ExtBut->f9,IsTuple->fV
open Bool renaming and_eq_true->ae,false_ne_true->au,false_eq_true->aR,not_true->dR,eq_iff_iff->e_,or_eq_false_iff->fk,true_and->fB,or_eq_true->iu
open Nat renaming le_refl->ai,le_trans->aq,ne_of_lt->az,le_add_right->aD,lt_of_lt_of_le->aJ,mul_le_mul->aW,zero_le->b9,lt_of_le_of_lt->bf,lt_irrefl->bn,one_mul->bv,pow_le_pow_right->bw,mul_comm->bP,lt_succ_of_lt->bQ,mul_pos->bT,lt_succ_self->bW,le_mul_of_pos_right->b_,mul_assoc->cx,pow_succ->cF,pow_add->cT,gcd->d5,le_succ->de,add_mul->dg,mul_le_mul_right->dh,add_le_add_left->dm,ne_of_gt->dn,gcd_comm->dq,gcd_pos_of_pos_right->dZ,le_of_lt->eL,succ_mul->eP,lt_trans->eT,sub_self->eU,pow_lt_pow_right->fr,mod_lt->fJ,gcd_zero_right->fK,add_comm->fR,zero_add->fZ,gcd_one_right->hJ,succ_ne_self->i7,succ_ne_zero->i9,gcd_le_right->ie,min_eq_left->iz,not_lt_zero->iA,div_le_self->iB
open Option.some renaming inj->aH
open PyProof.Rows renaming callWith_type1->aQ,slot_tuple_getitem->b8
open Ne renaming symm->aU
open Int renaming toNat_natCast->bc,eq_ofNat_of_zero_le->bZ,natAbs_natCast->cg,natCast_mul->ck,fdiv_eq_ediv_of_nonneg->du,emod_lt_of_pos->dG,emod_nonneg->eZ,natAbs_mul->fq,le_trans->fX,zero_add->fY,mul_one->ij,natCast_add->iy
open PySem.Str renaming ofString->bC
open False renaming elim->bF
open PySem.F renaming slot_tuple_getattribute->bL,called_set->ce,slot_zip_next->cy,args_tuple_add_2->cL,entry_tuple_add->cR,plainAttrs_list->cS,slot_tuple_add->cW,slot_tuple_iterator_next->c_,slot_int_rmul->di,slot_list_append->dP,type_list_append->dQ,slot_dict_values->dW,slot_tuple_mul->eB,args_zip_next_1->eF,entry_zip_next->eR,called_tuple->ff,args_object_init_2->fg,args_int_rmul_2->fS,slot_tuple_rmul->fU,plain_tuple_new->fW,slot_int_index->hZ,entry_int_rmul->h_,fills_int_mul->ip
open PyProof.Rows.KeyOrd renaming klt_of_klt_of_kle->bV,kle_of_klt->d4
open PySem.AutoSeq1 renaming wpAny_loadPart'->bY
open Array renaming getElem?_eq_none->cb,length_toList->cI,perm_iff_toList_perm->dF,getD->iE
open PySem.SeqAt renaming EqAt->cA,RcNeAt->cX,RcAt->eQ
open PySem.Builtin.Slice renaming slicePlaces->cG,sliceAdjust->dI
open PySem.Builtin.List renaming listTooLong->cM,listSameRef->dS
open PySem.Calls renaming Name_function_global->dr,spliced_cons->dy,callWith_builtin->eO,spliced_nil->fQ
open PySem.Builtin.Tuple renaming tupleItemsOf->dA,tupleTooMany->dD,tupleExact->dU
open Rat renaming num_mkRat->dX,den_mkRat->dY,mkRat_mul_mkRat->fy,add_assoc->fD,mkRat_one->fE,add_def'->f_,add_zero->g7,zero_add->g_,mkRat_eq_iff->ii,mul_one->im
open PySem.Builtin.Range renaming rangeSize->d_
open PyProof.Rows.F renaming entry_set_update_loop->eD
open PySem.PassesOwn renaming never->f6
open PySem.Heap.SameBut renaming update->fu
open PySem.Builtin.Int renaming intBits->fv
open Option renaming some_ne_none->fw,getD_none->hW,map->iF
open PySem.Shared renaming TypeIs->fA,heap->il
open PySem.SeqAt.EqAt renaming of_refs->fG,same->iq
open PySem.Obj renaming data_mapFields->fH
open PySem.Code renaming isFrame->fP
open PySem.WalksT renaming enumerate->i6
open Classical renaming skolem->ia
open PySem.Walks renaming list->iD
open PyProof.Rows.IsTup renaming new->iG
noncomputable section
set_option maxHeartbeats 4000000
set_option Elab.async false
set_option linter.all false
set_option maxRecDepth 100000
namespace L2
open PySem PySem.Spec PyProof.Rows
noncomputable abbrev Key:=Sum Int Str
noncomputable def QE:Key->Value->Bool
 | .inl k,v=>Value.isInt k v
 | .inr x,v=>Value.isStrOf x v
noncomputable def keyH (w:World):Key->Int
 | .inl k=>hashInt k
 | .inr x=>hashStr w x
theorem Z2:∀{k:Key} {v:Value},QE k v=true->(∃i t,k=Sum.inl i/\v=Value.int i t)\/(∃x t,k=Sum.inr x/\v=Value.str x t)
 | .inl i,v,h=>by
  obtain⟨t,e⟩:=Value.isInt_shape h;exact .inl ⟨i,t,rfl,e⟩
 | .inr x,v,h=>by
  obtain⟨t,e⟩:=Value.isStrOf_shape h;exact .inr ⟨x,t,rfl,e⟩
theorem yN (x:Str)(t:Tok):QE (.inr x) (.str x t)=true:=by simp[QE,Value.isStrOf]
theorem kA (a b:Int):decide ((Sum.inl a:Key)=Sum.inl b)=(a == b):=by
 by_cases e:a=b
 ·subst e;simp
 ·have h:¬ (Sum.inl a:Key)=Sum.inl b:=λq=>e (Sum.inl.inj q);rw[decide_eq_false h];exact(beq_eq_false_iff_ne.mpr e).symm
theorem kB (a b:Str):decide ((Sum.inr a:Key)=Sum.inr b)=decide (a=b):=by
 by_cases e:a=b
 ·simp
 ·have h:¬ (Sum.inr a:Key)=Sum.inr b:=λq=>e (Sum.inr.inj q);rw[decide_eq_false h,decide_eq_false e]
theorem kC (a:Int)(b:Str):decide ((Sum.inl a:Key)=Sum.inr b)=false:=decide_eq_false (λq=>nomatch q)
theorem kD (a:Str)(b:Int):decide ((Sum.inr a:Key)=Sum.inl b)=false:=decide_eq_false (λq=>nomatch q)
noncomputable def ZZ (prog:Program)(w:World):PySem.KeyKind prog w Key where
 is:=QE
 hash:=keyH w
 inj:=λv a b ha hb=>by
  rcases Z2 ha with ⟨i,t,rfl,rfl⟩ | ⟨x,t,rfl,rfl⟩
  ·rcases Z2 hb with ⟨j,u,rfl,e⟩ | ⟨y,u,rfl,e⟩
   ·injection e with e1 _;rw[e1]
   ·exact nomatch e
  ·rcases Z2 hb with ⟨j,u,rfl,e⟩ | ⟨y,u,rfl,e⟩
   ·exact nomatch e
   ·injection e with e1 _;rw[e1]
 byValue:=λk v h=>by
  rcases Z2 h with ⟨i,t,rfl,rfl⟩ | ⟨x,t,rfl,rfl⟩ <;> rfl
 pyHash:=λhv h=>by
  rcases Z2 hv with ⟨i,t,rfl,rfl⟩ | ⟨x,t,rfl,rfl⟩
  ·exact wpAny_pyHash_int h
  ·exact wpAny_pyHash_str h
 eqBool:=λhu hv h=>by
  rcases Z2 hu with ⟨i,t,rfl,rfl⟩ | ⟨x,t,rfl,rfl⟩
  ·rcases Z2 hv with ⟨j,u,rfl,rfl⟩ | ⟨y,u,rfl,rfl⟩
   ·rw[kA]at h;exact wpAny_eqBool_int h
   ·rw[kC]at h;exact cA.int_str i t y u _ _ _ _ h
  ·rcases Z2 hv with ⟨j,u,rfl,rfl⟩ | ⟨y,u,rfl,rfl⟩
   ·rw[kD]at h;exact cA.str_int x t j u _ _ _ _ h
   ·rw[kB]at h;exact wpAny_eqBool_str h
 «strs»:=λk x t v h=>by
  rcases Z2 h with ⟨i,u,rfl,e⟩ | ⟨y,u,rfl,e⟩
  ·exact nomatch e
  ·injection e with e1 _;subst e1;cases v <;> rfl
theorem Jw (prog:Program)(w:World)(x:Str)(t:Tok):(ZZ prog w).is (.inr x) (.str x t)=true:=yN x t
end L2
namespace L2
open PySem PySem.Spec PyProof.Rows
inductive V where
 | non | bl (b:Bool) | int (i:Int) | str (x:Str) | byt (b:Array UInt8) | flt (b:UInt64) | ref (a:Addr) | ty (n:String)
 deriving DecidableEq
noncomputable def Zb:V->Value->Prop
 | .non,u=>u=Value.none
 | .bl b,u=>u=Value.bool b
 | .int i,u=>∃t,u=Value.int i t
 | .str x,u=>∃t,u=Value.str x t
 | .byt b,u=>∃t,u=Value.bytes b t
 | .flt b,u=>∃t,u=Value.float b t
 | .ref a,u=>u=Value.ref a
 | .ty n,u=>u=Value.type n
noncomputable abbrev zZ:List V->List Value->Prop:=Paired Zb
theorem zZ.length {xs:List V}{us:List Value}(r:zZ xs us):xs.length=us.length:=Paired.length r
theorem zZ.get:∀{xs:List V} {us:List Value} {i:Nat} {x:V},zZ xs us->xs[i]? =some x->∃u,us[i]? =some u/\Zb x u
 | _,_,_,_,.nil,e=>by simp at e
 | _,_,0,_,.cons r _,e=>by simp at e;subst e;exact⟨_,rfl,r⟩
 | _,_,i+1,x,.cons _ t,e=>by
  obtain⟨u,h1,h2⟩:=zZ.get t (by simpa using e)
  exact⟨u,by simpa using h1,h2⟩
theorem zZ.append:∀{xs ys:List V} {us ws:List Value},zZ xs us->zZ ys ws->zZ (xs++ys) (us++ws)
 | _,_,_,_,.nil,s=>s
 | _,_,_,_,.cons r t,s=> .cons r (zZ.append t s)
theorem zZ.take:∀{xs:List V} {us:List Value} (n:Nat),zZ xs us->zZ (xs.take n) (us.take n)
 | _,_,0,_=> .nil
 | _,_,_+1,.nil=> .nil
 | _,_,n+1,.cons r t=> .cons r (zZ.take n t)
theorem zZ.drop:∀{xs:List V} {us:List Value} (n:Nat),zZ xs us->zZ (xs.drop n) (us.drop n)
 | _,_,0,r=>r
 | _,_,_+1,.nil=> .nil
 | _,_,n+1,.cons _ t=>zZ.drop n t
noncomputable def QF:Option V->Option Value->Prop
 | some v,some u=>Zb v u
 | none,none=>True
 | _,_=>False
noncomputable def KV {κ:Type}:List (κ×V)->List (κ×Value)->Prop:=Paired λ(p:κ×V) (q:κ×Value)=>p.1=q.1/\Zb p.2 q.2
noncomputable def kV:Key->V
 | .inl i=> .int i
 | .inr x=> .str x
inductive HO where
 | lst (xs:List V)
 | tup (xs:List V)
 | dK (kvs:List (Key×V)) | dT (kvs:List (List Key×V))
 | set (S:Int->Bool) (n:Nat)
 | ins (C dx:Addr) (fs:List (Str×V))
 | own (x:Addr)
 | xd (fs:List (Str×V))
 | met (f x:Addr)
 | rng (lo hi:Int)
 | frz (o:Obj) (u:HO)
 | tbl (ps:Array Value) (q:Str)
 | ext (φ:Heap->Prop)
noncomputable abbrev Hp:=Addr->Option HO
noncomputable def upd (H:Hp)(a:Addr)(o:HO):Hp:=λb=>if b=a then some o else H b
theorem zC {H:Hp}{a:Addr}{o:HO}:upd H a o a=some o:=by unfold upd;rw[if_pos rfl]
theorem zv {H:Hp}{a b:Addr}{o:HO}(h:b ≠ a):upd H a o b=H b:=by unfold upd;rw[if_neg h]
theorem zL {H:Hp}{a b:Addr}{o:HO}(h:H a=some o)(h' :H b=none):a ≠ b:=by
 intro e;subst e;rw[h]at h';cases h'
noncomputable def ITN (h:Heap)(a:Addr)(its:Array Value):Prop:=IsTup h a its/\((∃i t,its[0]? =some (Value.int i t))\/∃o,h.get? a=some o/\o.dict=none)
theorem ITN.new (h:Heap)(its:Array Value):ITN (h.push { cls:= .type "tuple",data:= .seq its }) h.objs.size its:=⟨iG h its,.inr ⟨_,af _ rfl,rfl⟩⟩
section
variable (P:Program)(w:World)
noncomputable def Zc (H:Hp)(h:Heap)(a:Addr):HO->Prop
 | .lst xs=>xs.length<=sizeLine/\∃(its:List Value) (n:Nat),zZ xs its/\h.get? a=some { cls:= .type "list",data:= .seq its.toArray n }
 | .tup xs=>xs.length<=sizeLine/\∃its:List Value,zZ xs its/\ITN h a its.toArray
 | .dK kvs=>kvs.length<=sizeLine/\(a == sysModules)=false/\∃vs,KV kvs vs/\h.DictOf (ZZ P w) a vs
 | .dT kvs=>kvs.length<=sizeLine/\(a == sysModules)=false/\∃xs:List (List Key×Addr×Value),
   Paired (λ(p:List Key×V) (q:List Key×Addr×Value)=>p.1=q.1/\H q.2.1=some (.tup (p.1.map kV))/\Zb p.2 q.2.2) kvs xs/\
   ∃o es ep,h.get? a=some o/\o.ExactDict/\o.data= .dict es ep/\es.toList=xs.map (entryOfKey (tupleKind (ZZ P w)))/\(xs.map (·.1)).Nodup
 | .set S n=>h.SetOf (intKind P w) a S n
 | .ins C dx fs=>H dx=some (.own a)/\fs.length<=1000/\dx ≠ a/\h.get? a=some (ci C dx)/\
   ∃mA,h.Ns1 dx mA/\(∀f,QF (fs.lookup f) (mA f))/\eK mA (fs.map (·.1))
 | .own _=>∃o,h.get? a=some o
 | .xd fs=>∃mA,h.Ns1 a mA/\∀f,QF (fs.lookup f) (mA f)
 | .rng lo hi=>∃t u v,h.get? a=some { cls:= .type "range",data:= .fields #[.int lo t,.int hi u,.int 1 v] }
 | .frz o u=>h.get? a=some o/\Zc H h a u
 | .tbl ps q=>∃more:Array Value,h.get? a=some { cls:= .none,data:= .fields (ps++more) }/\TriplesOk (ps++more).toList/\∀p cv,codeAmong p (ps++more).toList=some cv->∃c oc vs t,cv= .ref c/\H c=some (.frz oc (.own c))/\oc.data= .fields vs/\vs[1]? =some (.str q t)
 | .met f x=>h.get? a=some (PySem.W.methodObj (.ref f) (.ref x))
 | .ext φ=>φ h/\(∃o,h.get? a=some o)/\∀h1 h2:Heap,φ h1->(∀o,h1.get? a=some o->h2.get? a=some o)->φ h2
noncomputable def HOk (H:Hp)(h:Heap):Prop:=∀a o,H a=some o->Zc P w H h a o
end
section
variable {P:Program}{w:World}{H H' :Hp}{h h' :Heap}{a:Addr}{o:HO}
theorem Zc.lt (x:Zc P w H h a o):a < h.objs.size:=by
 cases o with
 | lst xs=>obtain⟨_,_,_,_,e⟩:=x;exact am e
 | tup xs=>obtain⟨_,_,_,p,_⟩:=x;exact p.lt
 | dK kvs=>obtain⟨_,_,_,_,o,_,_,e,_⟩:=x;exact am e
 | dT kvs=>obtain⟨_,_,_,_,o,_,_,e,_⟩:=x;exact am e
 | set S n=>obtain⟨o,_,_,_,e,_⟩:=x;exact am e
 | ins C dx fs=>obtain⟨_,_,_,e,_⟩:=x;exact am e
 | own y=>obtain⟨_,e⟩:=x;exact am e
 | xd fs=>obtain⟨_,⟨_,_,_,e,_⟩,_⟩:=x;exact am e
 | rng lo hi=>obtain⟨_,_,_,e⟩:=x;exact am e
 | frz ob u=>obtain⟨e,_⟩:=x;exact am e
 | tbl ps q=>obtain⟨_,e,_⟩:=x;exact am e
 | met f y=>exact am (x)
 | ext φ=>obtain⟨_,⟨_,e⟩,_⟩:=x;exact am e
theorem Paired.mapP {α β:Type}{F G:α->β->Prop}:∀{l₁:List α} {l₂:List β},Paired F l₁ l₂->(∀a b,F a b->G a b)->Paired G l₁ l₂
 | _,_,.nil,_=> .nil
 | _,_,.cons r t,f=> .cons (f _ _ r) (Paired.mapP t f)
theorem Zc.stay (x:Zc P w H h a o)(k:∀b u,(b=a\/H b=some (.own a))->h.get? b=some u->h'.get? b=some u)
  (ho:∀b,H b=some (.own a)->H' b=some (.own a)) (ht:∀b xs,H b=some (.tup xs)->H' b=some (.tup xs)) (hf:∀b o u,H b=some (.frz o u)->H' b=some (.frz o u):=by exact λ_ _ _ q=>q):Zc P w H' h' a o:=by
 induction o with
 | lst xs=>obtain⟨z,its,n,r,e⟩:=x;exact⟨z,its,n,r,k _ _ (.inl rfl) e⟩
 | tup xs=>obtain⟨z,its,r,⟨ob,e,c⟩,q⟩:=x;exact⟨z,its,r,⟨ob,k _ _ (.inl rfl) e,c⟩,q.imp id λ⟨o2,e2,d2⟩=>⟨o2,k _ _ (.inl rfl) e2,d2⟩⟩
 | dK kvs=>obtain⟨z,y,vs,r,ob,es,ep,e,c⟩:=x;exact⟨z,y,vs,r,ob,es,ep,k _ _ (.inl rfl) e,c⟩
 | dT kvs=>
  obtain⟨z,y,xs,r,ob,es,ep,e,c⟩:=x;exact⟨z,y,xs,Paired.mapP r λp q z=>⟨z.1,ht _ _ z.2.1,z.2.2⟩,ob,es,ep,k _ _ (.inl rfl) e,c⟩
 | set S n=>obtain⟨ob,es,ep,t,e,c⟩:=x;exact⟨ob,es,ep,t,k _ _ (.inl rfl) e,c⟩
 | ins C dx fs=>
  obtain⟨d,z,ne,e,mA,⟨od,es,ep,e2,c⟩,r⟩:=x;exact⟨ho _ d,z,ne,k _ _ (.inl rfl) e,mA,⟨od,es,ep,k _ _ (.inr d) e2,c⟩,r⟩
 | own y=>obtain⟨ob,e⟩:=x;exact⟨ob,k _ _ (.inl rfl) e⟩
 | xd fs=>obtain⟨mA,⟨od,es,ep,e,c⟩,r⟩:=x;exact⟨mA,⟨od,es,ep,k _ _ (.inl rfl) e,c⟩,r⟩
 | rng lo hi=>obtain⟨t,u,v,e⟩:=x;exact⟨t,u,v,k _ _ (.inl rfl) e⟩
 | frz ob u ih=>obtain⟨e,q⟩:=x;exact⟨k _ _ (.inl rfl) e,ih q⟩
 | tbl ps q=>
  obtain⟨m,e,tr,al⟩:=x;exact⟨m,k a _ (.inl rfl) e,tr,λp cv z=>let ⟨c,oc,vs,t,e1,e2,e3⟩:=al p cv z;⟨c,oc,vs,t,e1,hf _ _ _ e2,e3⟩⟩
 | met f y=>
  have e:=x;exact k a _ (.inl rfl) e
 | ext φ=>obtain⟨p,⟨o,e⟩,st⟩:=x;exact⟨st _ _ p λo q=>k _ _ (.inl rfl) q,⟨o,k _ _ (.inl rfl) e⟩,st⟩
theorem HOk.lt (x:HOk P w H h)(e:H a=some o):a < h.objs.size:=(x a o e).lt
theorem HOk.fresh (x:HOk P w H h)(e:h.objs.size<=a):H a=none:=by
 cases q:H a with
 | none=>rfl
 | some u=>exact absurd (aJ (x.lt q) e) (bn _)
theorem HOk.kept (x:HOk P w H h)(k:∀b u,h.get? b=some u->h'.get? b=some u):HOk P w H h' :=λa o e=>
 (x a o e).stay (λb u _ q=>k b u q) (λ_ q=>q) λ_ _ q=>q
theorem HOk.laid (x:HOk P w H h)(k:∀b u,h.get? b=some u->h'.get? b=some u)(hp:h.objs.size<=a)(new:Zc P w (upd H a o) h' a o):HOk P w (upd H a o) h' :=λb u e=>by
 have hn:=x.fresh hp
 by_cases hb:b=a
 ·subst hb;rw[zC]at e;cases e;exact new
 ·rw[zv hb]at e;exact(x b u e).stay (λc v _ q=>k c v q) (λc q=>by rw[zv (zL q hn)];exact q) (λc xs q=>by rw[zv (zL q hn)];exact q) λc o u q=>by rw[zv (zL q hn)];exact q
end
noncomputable def Rd (H:Hp)(a:Addr)(u:HO):Prop:=H a=some u\/∃o,H a=some (.frz o u)
theorem Rd.ok {P:Program}{w:World}{H:Hp}{h:Heap}{a:Addr}{u:HO}(r:Rd H a u)(x:HOk P w H h):Zc P w H h a u:=by
 rcases r with r | ⟨o,r⟩
 ·exact x a u r
 ·obtain⟨_,q⟩:=x a _ r;exact q
noncomputable def Mut:Option HO->Prop
 | some (.lst _)=>True
 | some (.dK _)=>True
 | some (.dT _)=>True
 | some (.set _ _)=>True
 | some (.ins _ _ _)=>True
 | some (.ext _)=>True
 | _=>False
section
variable {P:Program}{w:World}{H:Hp}{h h' :Heap}{x e:Addr}{o' :HO}
theorem HOk.write (ok:HOk P w H h)(mu:Mut (H x))(he:e=x\/H e=some (.own x))(k:∀b u,b ≠ e->h.get? b=some u->h'.get? b=some u)(heo:∃u,h'.get? e=some u)
  (new:Zc P w (upd H x o') h' x o'):HOk P w (upd H x o') h' :=λb u q=>by
 have nown:∀c y,H c=some (.own y)->c ≠ x:=λc y r z=>by subst z;rw[r]at mu;exact mu
 have ntup:∀c xs,H c=some (.tup xs)->c ≠ x:=λc xs r z=>by subst z;rw[r]at mu;exact mu
 by_cases hb:b=x
 ·subst hb;rw[zC]at q;cases q;exact new
 ·rw[zv hb]at q
  by_cases hbe:b=e
  ·have q' :H b=some (.own x):=by
    rcases he with z | z
    ·exact absurd (hbe.trans z) hb
    ·rw[hbe];exact z
   rw[q]at q';cases q';obtain⟨v,hv⟩:=heo;exact⟨v,by rw[hbe];exact hv⟩
  ·refine(ok b u q).stay (λc v hc r=>k c v ?_ r) (λc r=>by rw[zv (nown c b r)];exact r) (λc xs r=>by rw[zv (ntup c xs r)];exact r) λc o u r=>by rw[zv (λz=>by subst z;rw[r]at mu;exact mu)];exact r
   rcases hc with rfl | hc
   ·exact hbe
   ·rintro rfl
    rcases he with z | z
    ·exact nown c b hc z
    ·rw[hc]at z;cases z;exact hb rfl
end
structure Un (fs ex:List Addr) (H H' :Hp) (h h' :Heap):Prop where
 keep:∀b o,h.get? b=some o->H b=none->b ∉ fs->b ∉ ex->h'.get? b=some o
 slot:∀b o,h.get? b=some o->H b=none->b∈fs->b ∉ ex->∃sl,h'.get? b=some { o with slots:=sl }
 free:∀b o,h.get? b=some o->H b=none->b ∉ ex->H' b=none
 there:∀b o,h.get? b=some o->b ∉ ex->∃o',h'.get? b=some o'
 tups:∀b xs,H b=some (.tup xs)->H' b=some (.tup xs)
 frzs:∀b o u,H b=some (.frz o u)->H' b=some (.frz o u)
 tbls:∀b ps q,H b=some (.tbl ps q)->H' b=some (.tbl ps q)
section
variable {fs fs' ex ex' :List Addr}{H H1 H2:Hp}{h h1 h2 h' :Heap}{a x e:Addr}{o:HO}
theorem Un.any (u:Un fs ex H H1 h h1){b:Addr}{ob:Obj}(q:h.get? b=some ob)(n:H b=none)(hx:b ∉ ex):∃sl,h1.get? b=some { ob with slots:=sl }:=by
 by_cases hb:b∈fs
 ·exact u.slot b ob q n hb hx
 ·exact⟨ob.slots,u.keep b ob q n hb hx⟩
theorem Un.kept (k:∀b u,h.get? b=some u->h'.get? b=some u):Un fs ex H H h h' :=
 ⟨λb ob q _ _ _=>k b ob q,λb ob q _ _ _=>⟨ob.slots,k b ob q⟩,λ_ _ _ n _=>n,λb ob q _=>⟨ob,k b ob q⟩,λ_ _ q=>q,λ_ _ _ q=>q,λ_ _ _ q=>q⟩
theorem Un.refl:Un fs ex H H h h:=Un.kept λ_ _ q=>q
theorem Un.laid (k:∀b u,h.get? b=some u->h'.get? b=some u)(hp:h.objs.size<=a)(hn:H a=none):Un fs ex H (upd H a o) h h' where
 keep:=λb u q _ _ _=>k b u q
 slot:=λb u q _ _ _=>⟨u.slots,k b u q⟩
 free:=λb u q n _=>by rw[zv (az (aJ (am q) hp))];exact n
 there:=λb u q _=>⟨u,k b u q⟩
 tups:=λb xs q=>by rw[zv (zL q hn)];exact q
 frzs:=λb u xs q=>by rw[zv (zL q hn)];exact q
 tbls:=λb ps q e=>by rw[zv (zL e hn)];exact e
theorem Un.write (mu:Mut (H x))(he:e=x\/H e=some (.own x))(k:∀b u,b ≠ e->h.get? b=some u->h'.get? b=some u)(heo:∃u,h'.get? e=some u):Un fs ex H (upd H x o) h h' :=by
 have hx:∀b,H b=none->b ≠ x:=λb n z=>by subst z;rw[n]at mu;exact mu
 have hb:∀b,H b=none->b ≠ e:=λb n z=>by
  subst z;rcases he with r | r
  ·exact hx b n r
  ·rw[n]at r;cases r
 have hm:∀b u,H b=some u->¬ Mut (some u)->b ≠ x:=λb u q nm z=>by subst z;rw[q]at mu;exact nm mu
 refine⟨λb u q n _ _=>k b u (hb b n) q,λb u q n _ _=>⟨u.slots,k b u (hb b n) q⟩,λb u q n _=>by rw[zv (hx b n)];exact n,λb u q _=> ?_,
  λb xs q=>by rw[zv (hm b _ q λz=>z)];exact q,λb u xs q=>by rw[zv (hm b _ q λz=>z)];exact q,λb ps q e=>by rw[zv (hm b _ e λz=>z)];exact e⟩
 by_cases hbe:b=e
 ·subst hbe;exact heo
 ·exact⟨u,k b u hbe q⟩
end
noncomputable def trk (h:Heap)(H:Hp):List Addr:=(aT h.objs.size).filter λa=>(H a).isSome
noncomputable def ke (h:Heap)(H:Hp):Heap:=PySem.W.hideAll h (trk h H)
theorem yO (h:Heap)(H:Hp):(ke h H).objs.size=h.objs.size:=PySem.W.hideAll_size _ _
theorem QG {h:Heap}{H:Hp}{b:Addr}{o:Obj}(e:h.get? b=some o)(n:H b=none):(ke h H).get? b=some o:=
 PySem.W.hideAll_get _ e λhm=>by
  have q:=(eW.mp hm).2;rw[n]at q;simp at q
theorem VQ {h:Heap}{H:Hp}{b:Addr}{o:Obj}(e:(ke h H).get? b=some o):h.get? b=some o/\H b=none:=by
 have e' :=PySem.W.of_hideAll _ e;refine⟨e', ?_⟩;cases q:H b with
 | none=>rfl
 | some x=>
  have hm:b∈trk h H:=eW.mpr ⟨bg.mpr (am e'),by simp[q]⟩
  have z:(ke h H).get? b=none:=PySem.W.hideAll_none _ hm;rw[z]at e;cases e
end L2
namespace L2
open PySem PySem.Spec PyProof.Rows
structure Mod (K:a8) (mg:Str->Option Value) (base:Heap):Prop where
 kin:K.In base
 glob:base.Ns mainGlobals mg
 blt:∃mb,base.Ns builtinsNs mb/\∀x:Str,x ≠ "__name__"->mb x=bootBuiltins x
 nolimit:base.NoLimit
structure Cx where
 prog:Program
 w:World
 K:a8
 mg:Str->Option Value
 base:Heap
 A:Around
 N:List Str
 s₀:Shared
 H₀:Hp
 env:Env
 outer:List Env
 stack:List Env
 ex:List Addr
 fn:Str->Bool
 calm:Bool
 pn:List (Addr×Obj)
 xe:Value->Shared->Prop
noncomputable def frs (l:List Env):List Addr:=l.filterMap (·.frame)
noncomputable abbrev Cx.fs (X:Cx):List Addr:=frs X.outer
noncomputable def Vis (sc:Scope)(x:Str):Prop:=sc.names.lookup x=some .local\/sc.names.lookup x=some .cell\/sc.names.lookup x=some .free
noncomputable def Loc (sc:Scope)(x:Str):Prop:=sc.names.lookup x=some .local\/sc.names.lookup x=some .cell
noncomputable def Look (env:Env)(h:Heap)(m:Str->Option Value)(x:Str)(u:Value):Prop:=
 (env.kindOf x=some .local/\m x=some u)\/((env.kindOf x=some .cell\/env.kindOf x=some .free)/\∃c,env.cells.lookup x=some c/\h.IsCell c (some u))
structure Cx.Ok (X:Cx):Prop where
 mod:Mod X.K X.mg X.base
 kind:X.env.scope.kind= .function
 glob:X.env.globals=mainGlobals
 blt:X.env.builtins=builtinsNs
 above:X.s₀.heap.objs.size<=X.env.locals
 inj:∀x y c,X.env.cells.lookup x=some c->X.env.cells.lookup y=some c->x=y
 has:∀x,(X.env.kindOf x=some .cell\/X.env.kindOf x=some .free)->∃c,X.env.cells.lookup x=some c
 cab:∀x c,X.fn x=true->X.env.cells.lookup x=some c->X.s₀.heap.objs.size<=c
 hd:X.calm=true->X.A.handled=none
 frames:X.A.frames=some X.stack
 stk:X.stack=X.outer\/(X.stack=X.env :: X.outer/\X.env.frame=some X.env.locals)
 exf:∀b∈X.ex,b ≠ X.env.locals/\∀x c,X.env.cells.lookup x=some c->c ≠ b
 bs:∀b o,X.base.get? b=some o->X.s₀.heap.get? b=some o/\X.H₀ b=none
 bsz:X.base.objs.size<=X.s₀.heap.objs.size
 noex:∀b o,X.base.get? b=some o->b ∉ X.ex
 exfs:∀b∈X.ex,b ∉ X.fs
 funs:X.s₀.heap.FunFrames X.base X.outer
 frf:∀b∈X.fs,X.H₀ b=none
structure Inv (X:Cx) (pins:List (Addr×Obj)) (σ:List (Option V)) (H:Hp) (s:Shared):Prop where
 ok:X.Ok
 os:s.os=X.s₀.os
 bare:AllBare s.gens
 base:Un X.fs X.ex X.H₀ H X.s₀.heap s.heap
 loc:∃m,s.heap.Ns X.env.locals m/\∀(i:Nat) (x:Str) (v:V),X.N[i]? =some x->σ[i]? =some (some v)->Vis X.env.scope x->∃u,Zb v u/\Look X.env s.heap m x u
 cell:∀x c,X.env.cells.lookup x=some c->∃v,s.heap.IsCell c v
 free:H X.env.locals=none
 freeC:∀x c,X.env.cells.lookup x=some c->H c=none
 pin:∀p∈X.pn++pins,s.heap.get? p.1=some p.2/\H p.1=none/\p.1 ≠ X.env.locals/\p.1 ∉ X.fs/\∀v,p.2.data ≠ .cell v
 hok:HOk X.prog X.w H s.heap
 len:σ.length=X.N.length
section
variable {X:Cx}{pins:List (Addr×Obj)}{σ:List (Option V)}{H H' :Hp}{s:Shared}{h' :Heap}
theorem Cx.Ok.nofr (ok:X.Ok){b:Addr}{o:Obj}(e:X.base.get? b=some o):b ∉ X.fs:=λhb=>by
 have:=(ok.funs.mem hb).1;rw[e]at this;cases this
theorem Inv.bs (I:Inv X pins σ H s):∀b o,X.base.get? b=some o->s.heap.get? b=some o/\H b=none:=λb o e=>
 ⟨I.base.keep b o (I.ok.bs b o e).1 (I.ok.bs b o e).2 (I.ok.nofr e) (I.ok.noex b o e),I.base.free b o (I.ok.bs b o e).1 (I.ok.bs b o e).2 (I.ok.noex b o e)⟩
theorem Inv.bk (I:Inv X pins σ H s):∀b o,X.base.get? b=some o->s.heap.get? b=some o:=λb o e=>(I.bs b o e).1
theorem Inv.mod (I:Inv X pins σ H s):Mod X.K X.mg X.base:=I.ok.mod
theorem Inv.kIn (I:Inv X pins σ H s):X.K.In s.heap:=I.ok.mod.kin.keeps I.bk
theorem Inv.lt (I:Inv X pins σ H s):X.env.locals < s.heap.objs.size:=let ⟨_,hn,_⟩:=I.loc;hn.lt
theorem Inv.sz (I:Inv X pins σ H s):X.s₀.heap.objs.size<=s.heap.objs.size:=aq I.ok.above (eL I.lt)
theorem Inv.nofs (I:Inv X pins σ H s){a:Addr}(h:s.heap.objs.size<=a):a ∉ X.fs:=λhb=>by
 obtain⟨_,o,ho,_⟩:=I.ok.funs.mem hb;exact absurd (aJ (am ho) (aq I.sz h)) (bn _)
theorem Inv.cne (I:Inv X pins σ H s):∀x c,X.env.cells.lookup x=some c->c ≠ X.env.locals:=λx c e z=>by
 obtain⟨v,o,ho,hd⟩:=I.cell x c e;obtain⟨m,⟨o',es,ep,ho',hd',_⟩,_⟩:=I.loc;rw[z,ho']at ho;cases ho;rw[hd']at hd;cases hd
theorem Inv.funs (I:Inv X pins σ H s):s.heap.FunFrames X.base X.outer:=by
 have all:∀(l:List Env),(∀b∈frs l,b∈X.fs)->X.s₀.heap.FunFrames X.base l->s.heap.FunFrames X.base l:=by
  intro l
  induction l with
  | nil=>intro _ _;trivial
  | cons env r ih=>
   intro hs hl;obtain⟨hk,⟨L,o,hf,hn,ho,hd⟩,hr⟩:=hl;have hL:=hs L (by unfold frs;rw[cH,hf];exact ad)
   obtain⟨sl,e⟩:=I.base.slot L o ho (I.ok.frf L hL) hL λz=>I.ok.exfs L z hL;exact⟨hk,⟨L,_,hf,hn,e,hd⟩,ih (λb hb=>hs b (by unfold frs;rw[cH,hf];exact a9 _ hb)) hr⟩
 exact all _ (λ_ hb=>hb) I.ok.funs
theorem Inv.stack (I:Inv X pins σ H s):s.heap.FunFrames X.base X.stack:=by
 rcases I.ok.stk with e | ⟨e,hf⟩
 ·rw[e];exact I.funs
 ·rw[e];obtain⟨m,hn,_⟩:=I.loc;refine .cons (by rw[I.ok.kind];decide) hf hn ?_ I.funs
  exact Heap.get?_none_of_le (aq I.ok.bsz I.ok.above)
theorem Inv.stkSub (I:Inv X pins σ H s):∀b∈frs X.stack,b∈X.env.locals :: X.fs:=λb hb=>by
 rcases I.ok.stk with e | ⟨e,hf⟩
 ·rw[e]at hb;exact a9 _ hb
 ·rw[e]at hb;unfold frs at hb;rw[cH,hf]at hb;exact hb
theorem Inv.stkFree (I:Inv X pins σ H s):∀b∈frs X.stack,H b=none:=λb hb=>by
 rcases ah.mp (I.stkSub b hb) with e | hb
 ·rw[e];exact I.free
 ·obtain⟨_,o,ho,_⟩:=I.ok.funs.mem hb;exact I.base.free b o ho (I.ok.frf b hb) λz=>I.ok.exfs b z hb
theorem Inv.step {g' :Array GenState}{t' :Nat}{d' :Drawn}{ch:List Addr}(I:Inv X pins σ H s)
  (hch:∀b∈ch,(b∈X.ex\/X.s₀.heap.objs.size<=b)/\b ≠ X.env.locals/\(∀x c,X.env.cells.lookup x=some c->c ≠ b)/\∀p∈X.pn++pins,p.1 ≠ b)
  (keep:∀b o,b ≠ X.env.locals->b ∉ X.fs->b ∉ ch->s.heap.get? b=some o->H b=none->h'.get? b=some o)
  (slot:∀b o,b ≠ X.env.locals->b∈X.fs->b ∉ ch->s.heap.get? b=some o->H b=none->∃sl,h'.get? b=some { o with slots:=sl }) (free:∀b o,b ∉ ch->s.heap.get? b=some o->H b=none->H' b=none)
  (there:∀b o,b ∉ ch->s.heap.get? b=some o->∃o',h'.get? b=some o')
  (tups:∀b xs,H b=some (.tup xs)->H' b=some (.tup xs)) (frzs:∀b o u,H b=some (.frz o u)->H' b=some (.frz o u)) (tbls:∀b ps q,H b=some (.tbl ps q)->H' b=some (.tbl ps q))
  (ns:∀m,s.heap.Ns X.env.locals m->h'.Ns X.env.locals m) (hok:HOk X.prog X.w H' h') (hg:AllBare g'):
  Inv X pins σ H' { s with heap:=h',gens:=g',drawn:=d',toks:=t' }:=by
 have neL:∀b o,X.s₀.heap.get? b=some o->b ≠ X.env.locals:=λb o e=>az (aJ (am e) I.ok.above);have neC:∀b o,X.s₀.heap.get? b=some o->b ∉ X.ex->b ∉ ch:=λb o e hx hb=>by
  rcases(hch b hb).1 with z | z
  ·exact hx z
  ·exact absurd (aJ (am e) z) (bn _)
 have cellK:∀x c,X.env.cells.lookup x=some c->∀v,s.heap.IsCell c v->h'.IsCell c v:=λx c e v ⟨o,ho,hd⟩=>by
  have nch:=λz=>(hch c z).2.2.1 x c e rfl
  by_cases hc:c∈X.fs
  ·obtain⟨sl,q⟩:=slot c o (I.cne x c e) hc nch ho (I.freeC x c e);exact⟨_,q,hd⟩
  ·exact⟨o,keep c o (I.cne x c e) hc nch ho (I.freeC x c e),hd⟩
 refine⟨I.ok,I.os,hg,⟨λb o e n hb hx=> ?_,λb o e n hb hx=> ?_,λb o e n hx=> ?_,λb o e hx=> ?_,λb xs e=>tups b xs (I.base.tups b xs e),λb o xs e=>frzs b o xs (I.base.frzs b o xs e),λb ps q e=>tbls b ps q (I.base.tbls b ps q e)⟩, ?_,λx c e=> ?_, ?_,λx c e=> ?_,λp hp=> ?_,hok,I.len⟩
 ·exact keep b o (neL b o e) hb (neC b o e hx) (I.base.keep b o e n hb hx) (I.base.free b o e n hx)
 ·obtain⟨sl,e1⟩:=I.base.slot b o e n hb hx;obtain⟨sl',e2⟩:=slot b _ (neL b o e) hb (neC b o e hx) e1 (I.base.free b o e n hx);exact⟨sl',e2⟩
 ·obtain⟨o',e1⟩:=I.base.there b o e hx;exact free b o' (neC b o e hx) e1 (I.base.free b o e n hx)
 ·obtain⟨o',e1⟩:=I.base.there b o e hx;exact there b o' (neC b o e hx) e1
 ·obtain⟨m,hn,hl⟩:=I.loc;refine⟨m,ns m hn,λi x v e1 e2 e3=> ?_⟩;obtain⟨u,r,l⟩:=hl i x v e1 e2 e3;refine⟨u,r, ?_⟩;rcases l with l | ⟨k,c,e,z⟩
  ·exact .inl l
  ·exact .inr ⟨k,c,e,cellK x c e _ z⟩
 ·obtain⟨v,z⟩:=I.cell x c e;exact⟨v,cellK x c e v z⟩
 ·obtain⟨m,⟨o,_,_,ho,_⟩,_⟩:=I.loc;exact free _ o (λz=>(hch _ z).2.1 rfl) ho I.free
 ·obtain⟨v,o,ho,hd⟩:=I.cell x c e;exact free c o (λz=>(hch c z).2.2.1 x c e rfl) ho (I.freeC x c e)
 ·obtain⟨e,n,ne,nf,d⟩:=I.pin p hp;have nch:=λz=>(hch p.1 z).2.2.2 p hp rfl;exact⟨keep p.1 p.2 ne nf nch e n,free p.1 p.2 nch e n,ne,nf,d⟩
theorem Inv.un {t' :Nat}(I:Inv X pins σ H s)(u:Un X.fs [] H H' s.heap h')(hok:HOk X.prog X.w H' h'):Inv X pins σ H' { s with heap:=h',toks:=t' }:=by
 obtain⟨m,⟨o,es,ep,ho,r⟩,_⟩:=id I.loc;obtain⟨sl,hL⟩:=u.any ho I.free (by simp)
 exact I.step (ch:=[]) (λ_ z=>nomatch z) (λb o _ hb _ e n=>u.keep b o e n hb (by simp)) (λb o _ hb _ e n=>u.slot b o e n hb (by simp)) (λb o _ e n=>u.free b o e n (by simp)) (λb o _ e=>u.there b o e (by simp)) u.tups u.frzs u.tbls (λm' hm=>by
  obtain⟨o',es',ep',ho',r'⟩:=hm;rw[ho]at ho';cases ho';exact⟨_,es',ep',hL,r'⟩) hok I.bare
theorem Inv.call {g' :Array GenState}{t' :Nat}{d' :Drawn}{ch:List Addr}(I:Inv X pins σ H s)(u:Un (frs X.stack) ch H H' s.heap h')(hok:HOk X.prog X.w H' h')(hg:AllBare g')
  (hch:∀b∈ch,(b∈X.ex\/X.s₀.heap.objs.size<=b)/\b ≠ X.env.locals/\(∀x c,X.env.cells.lookup x=some c->c ≠ b)/\∀p∈X.pn++pins,p.1 ≠ b):
  Inv X pins σ H' { s with heap:=h',gens:=g',drawn:=d',toks:=t' }:=by
 obtain⟨m,⟨o,es,ep,ho,r⟩,_⟩:=id I.loc;obtain⟨sl,hL⟩:=u.any ho I.free λz=>(hch _ z).2.1 rfl;exact I.step hch (λb o hL hb hc e n=>u.keep b o e n (λz=>(ah.mp (I.stkSub b z)).elim hL hb) hc) (λb o _ _ hc e n=>u.any e n hc) (λb o hc e n=>u.free b o e n hc) (λb o hc e=>u.there b o e hc) u.tups u.frzs u.tbls (λm' hm=>by
  obtain⟨o',es',ep',ho',r'⟩:=hm;rw[ho]at ho';cases ho';exact⟨_,es',ep',hL,r'⟩) hok hg
theorem Inv.turned {t' :Nat}{it:Addr}(I:Inv X pins σ H s)(k:∀b o,b ≠ it->s.heap.get? b=some o->h'.get? b=some o)(hn:H it=none)(hL:it ≠ X.env.locals)
  (h1:it∈X.ex\/X.s₀.heap.objs.size<=it) (h2:∀x c,X.env.cells.lookup x=some c->c ≠ it) (h3:∀p∈X.pn++pins,p.1 ≠ it):Inv X pins σ H { s with heap:=h',toks:=t' }:=by
 have nit:∀b u,H b=some u->b ≠ it:=λb u e z=>by rw[z,hn]at e;cases e
 refine I.step (ch:=[it]) (λb hb=> ?_) (λb o _ _ hc e _=>k b o (λz=>hc (by simp[z])) e) (λb o _ _ hc e _=>⟨o.slots,k b o (λz=>hc (by simp[z])) e⟩) (λ_ _ _ _ n=>n)
  (λb o hc e=>⟨o,k b o (λz=>hc (by simp[z])) e⟩) (λ_ _ e=>e) (λ_ _ _ e=>e) (λ_ _ _ e=>e) (λm hm=> ?_) (λb u e=> ?_) I.bare
 ·have e:=by simpa using hb
  subst e;exact⟨h1,hL,h2,h3⟩
 ·obtain⟨o,es,ep,ho,r⟩:=hm;exact⟨o,es,ep,k _ o (aU hL) ho,r⟩
 ·refine(I.hok b u e).stay (λc v hc q=>k c v ?_ q) (λ_ q=>q) λ_ _ q=>q;rcases hc with z | z
  ·rw[z];exact nit b u e
  ·exact nit c _ z
theorem Inv.tok (I:Inv X pins σ H s)(t:Nat):Inv X pins σ H { s with toks:=t }:=I.un Un.refl I.hok
theorem Inv.kept {t' :Nat}(I:Inv X pins σ H s)(k:∀b u,s.heap.get? b=some u->h'.get? b=some u):Inv X pins σ H { s with heap:=h',toks:=t' }:=I.un (Un.kept k) (I.hok.kept k)
theorem Inv.laid {a:Addr}{o:HO}{t' :Nat}(I:Inv X pins σ H s)(k:∀b u,s.heap.get? b=some u->h'.get? b=some u)(hp:s.heap.objs.size<=a)(new:Zc X.prog X.w (upd H a o) h' a o):
  Inv X pins σ (upd H a o) { s with heap:=h',toks:=t' }:=I.un (Un.laid k hp (I.hok.fresh hp)) (I.hok.laid k hp new)
theorem Inv.write {x e:Addr}{o:HO}{t' :Nat}(I:Inv X pins σ H s)(mu:Mut (H x))(he:e=x\/H e=some (.own x))(k:∀b u,b ≠ e->s.heap.get? b=some u->h'.get? b=some u)(heo:∃u,h'.get? e=some u)
  (new:Zc X.prog X.w (upd H x o) h' x o):Inv X pins σ (upd H x o) { s with heap:=h',toks:=t' }:=I.un (Un.write mu he k heo) (I.hok.write mu he k heo new)
theorem Inv.pins_of {pins' :List (Addr×Obj)}(I:Inv X pins σ H s)(h:∀p∈pins',s.heap.get? p.1=some p.2/\H p.1=none/\p.1 ≠ X.env.locals/\p.1 ∉ X.fs/\∀v,p.2.data ≠ .cell v):Inv X pins' σ H s:=
 ⟨I.ok,I.os,I.bare,I.base,I.loc,I.cell,I.free,I.freeC,λp hp=>(cO.mp hp).elim (λz=>I.pin p (db _ z)) (h p),I.hok,I.len⟩
theorem uT {N:List Str}(hN:N.Nodup){i j:Nat}{x:Str}(a:N[i]? =some x)(b:N[j]? =some x):i=j:=by
 obtain⟨h1,e1⟩:=aw.mp a;obtain⟨h2,e2⟩:=aw.mp b;exact(hU hN).mp (e1.trans e2.symm)
theorem Wk {M:Model}{A:Around}{E:Value->Shared->Prop}{i:Nat}{x:Str}{v:V}{u:Value}{Q:Unit->Shared->Prop}(I:Inv X pins σ H s)(hN:X.N.Nodup)(hi:X.N[i]? =some x)(hx:Loc X.env.scope x)(r:Zb v u)
  (h:∀s',Inv X pins (σ.set i (some v)) H s' ->(∃a,bN a s.heap s'.heap/\(a=X.env.locals\/X.env.cells.lookup x=some a))->Q () s') (hf:X.fn x=true\/X.env.scope.names.lookup x=some .local:=by first | exact .inl rfl | exact .inr rfl | assumption):wpAny M A (storeName X.env x u) Q E s:=by
 obtain⟨m,hn,hl⟩:=id I.loc;have hcls:(X.env.scope.kind == .class || (X.env.scope.kind == .module && X.env.locals != X.env.globals))=false:=by rw[I.ok.kind];rfl
 have hiσ:i < σ.length:=by rw[I.len];exact(aw.mp hi).1
 have cne:=I.cne;have tracked:∀{a:Addr} {h' :Heap},(∃o,s.heap.get? a=some o/\H a=none)->bN a _ h' ->HOk _ X.w H h' :=λ{a h'} ha hs b ob e=>by
  obtain⟨_,_,hfree⟩:=ha;refine(I.hok b ob e).stay (λc w' hc q=>(hs.2 c ?_).trans q) (λ_ q=>q) λ_ _ q=>q
  rintro rfl
  rcases hc with rfl | hc
  ·rw[hfree]at e;cases e
  ·rw[hfree]at hc;cases hc
 rcases hx with hk | hk
 ·refine wpAny_storeName_local hk hn (λh' hn' hs=> ?_) hcls;obtain⟨oL,_,_,hoL,_⟩:=id hn;refine h _ ⟨I.ok,I.os,I.bare,⟨λb o e n hb hx=> ?_,λb o e n hb hx=> ?_,I.base.free,λb o e hx=> ?_,I.base.tups,I.base.frzs,I.base.tbls⟩,⟨_,hn',λj y v' e1 e2 e3=> ?_⟩,λy c e=> ?_,I.free,I.freeC,λp hp=> ?_,tracked ⟨oL,hoL,I.free⟩ hs,by simpa using I.len⟩ ⟨_,hs,.inl rfl⟩
  ·exact(hs.2 b (az (aJ (am e) I.ok.above))).trans (I.base.keep b o e n hb hx)
  ·obtain⟨sl,e1⟩:=I.base.slot b o e n hb hx;exact⟨sl,(hs.2 b (az (aJ (am e) I.ok.above))).trans e1⟩
  ·obtain⟨o',e1⟩:=I.base.there b o e hx;exact⟨o',(hs.2 b (az (aJ (am e) I.ok.above))).trans e1⟩
  ·by_cases hj:j=i
   ·subst hj;rw[hi]at e1;cases e1;rw[aO hiσ]at e2;cases e2;exact⟨u,r,.inl ⟨hk,by simp⟩⟩
   ·rw[ar (aU hj)]at e2;obtain⟨u',r',q⟩:=hl j y v' e1 e2 e3;refine⟨u',r', ?_⟩;rcases q with ⟨k,e⟩ | ⟨k,c,e,z⟩
    ·refine .inl ⟨k, ?_⟩;have:y ≠ x:=λe=>hj (uT hN e1 (e ▸ hi));simp[this,e]
    ·exact .inr ⟨k,c,e,z.sameBut hs (cne y c e)⟩
  ·obtain⟨w',z⟩:=I.cell y c e;exact⟨w',z.sameBut hs (cne y c e)⟩
  ·obtain⟨e,n,ne,nf,d⟩:=I.pin p hp;exact⟨(hs.2 p.1 ne).trans e,n,ne,nf,d⟩
 ·have hfn:X.fn x=true:=by
   rcases hf with z | z
   ·exact z
   ·rw[z]at hk;cases hk
  obtain⟨c,hc⟩:=I.ok.has x (.inl hk);obtain⟨w',z⟩:=I.cell x c hc;refine wpAny_storeName_cell I.ok.kind hk hc z (λh' hc' hs=> ?_);obtain⟨oc,hoc,hocd⟩:=id z;refine h _ ⟨I.ok,I.os,I.bare,⟨λb o e n hb hx=> ?_,λb o e n hb hx=> ?_,I.base.free,λb o e hx=> ?_,I.base.tups,I.base.frzs,I.base.tbls⟩,⟨m,hn.sameBut hs (aU (cne x c hc)),λj y v' e1 e2 e3=> ?_⟩,λy c' e=> ?_,I.free,I.freeC,λp hp=> ?_,tracked ⟨oc,hoc,I.freeC x c hc⟩ hs,by simpa using I.len⟩ ⟨c,hs,.inr hc⟩
  ·exact(hs.2 b (az (aJ (am e) (I.ok.cab x c hfn hc)))).trans (I.base.keep b o e n hb hx)
  ·obtain⟨sl,e1⟩:=I.base.slot b o e n hb hx;exact⟨sl,(hs.2 b (az (aJ (am e) (I.ok.cab x c hfn hc)))).trans e1⟩
  ·obtain⟨o',e1⟩:=I.base.there b o e hx;exact⟨o',(hs.2 b (az (aJ (am e) (I.ok.cab x c hfn hc)))).trans e1⟩
  ·by_cases hj:j=i
   ·subst hj;rw[hi]at e1;cases e1;rw[aO hiσ]at e2;cases e2;exact⟨u,r,.inr ⟨.inl hk,c,hc,hc'⟩⟩
   ·rw[ar (aU hj)]at e2;obtain⟨u',r',q⟩:=hl j y v' e1 e2 e3;refine⟨u',r', ?_⟩;rcases q with q | ⟨k,c',e,z'⟩
    ·exact .inl q
    ·refine .inr ⟨k,c',e,z'.sameBut hs ?_⟩
     rintro rfl
     exact hj (uT hN e1 (I.ok.inj _ _ _ e hc ▸ hi))
  ·by_cases hcc:c' =c
   ·subst hcc;exact⟨_,hc'⟩
   ·obtain⟨w2,z2⟩:=I.cell y c' e;exact⟨w2,z2.sameBut hs hcc⟩
  ·obtain⟨e,n,ne,nf,d⟩:=I.pin p hp;refine⟨(hs.2 p.1 ?_).trans e,n,ne,nf,d⟩;intro q;rw[q,hoc]at e;have q' :=aH e;exact d w' (by rw[← q'];exact hocd)
theorem j0 {M:Model}{A:Around}{E:Value->Shared->Prop}{i:Nat}{x:Str}{v:V}{u:Value}{Q:Unit->Shared->Prop}(I:Inv X pins σ H s)(hN:X.N.Nodup)(hi:X.N[i]? =some x)(hx:Loc X.env.scope x)(r:Zb v u)
  (h:∀s',Inv X pins (σ.set i (some v)) H s' ->Q () s') (hf:X.fn x=true\/X.env.scope.names.lookup x=some .local:=by first | exact .inl rfl | exact .inr rfl | assumption):wpAny M A (storeName X.env x u) Q E s:=
 Wk I hN hi hx r (λs' I' _=>h s' I') hf
theorem Inv.call' {s' :Shared}{ch:List Addr}(I:Inv X pins σ H s)(ho:s'.os=s.os)(u:Un (frs X.stack) ch H H' s.heap s'.heap)(hok:HOk X.prog X.w H' s'.heap)(hg:AllBare s'.gens)
  (hch:∀b∈ch,(b∈X.ex\/X.s₀.heap.objs.size<=b)/\b ≠ X.env.locals/\(∀x c,X.env.cells.lookup x=some c->c ≠ b)/\∀p∈X.pn++pins,p.1 ≠ b):Inv X pins σ H' s' :=by
 obtain⟨h',g',d',t',o'⟩:=s';have e:=ho;subst e;exact I.call u hok hg hch
end
noncomputable abbrev XK:=Value->Option Addr->Hp->Prop
noncomputable abbrev St:=List (Option V)
noncomputable abbrev VK:=V->Hp->Prop
noncomputable abbrev TE:=St->Hp->VK->Prop
noncomputable abbrev TT:=St->Hp->(Bool->Hp->Prop)->Prop
noncomputable abbrev TA:=St->Hp->(List V->Hp->Prop)->Prop
structure Qr where
 nx:St->Hp->Prop
 rt:VK
 bk:St->Hp->Prop:=λ_ _=>False
 ct:St->Hp->Prop:=λ_ _=>False
noncomputable abbrev TS:=Qr->St->Hp->Prop
noncomputable def EP (X:Cx)(pins:List (Addr×Obj))(σ:St)(Q:VK)(u:Value)(s' :Shared):Prop:=∃v H',Inv X pins σ H' s' /\Zb v u/\Q v H'
noncomputable def TP (X:Cx)(pins:List (Addr×Obj))(σ:St)(Q:Bool->Hp->Prop)(b:Bool)(s' :Shared):Prop:=∃H',Inv X pins σ H' s' /\Q b H'
noncomputable def AP (X:Cx)(pins:List (Addr×Obj))(σ:St)(Q:List V->Hp->Prop)(us:List Value)(s' :Shared):Prop:=∃vs H',Inv X pins σ H' s' /\zZ vs us/\Q vs H'
noncomputable def SP (X:Cx)(pins:List (Addr×Obj))(D:Qr)(f:Flow)(s' :Shared):Prop:=
 match f with
 | .next=>∃σ' H',Inv X pins σ' H' s' /\D.nx σ' H'
 | .brk=>∃σ' H',Inv X pins σ' H' s' /\D.bk σ' H'
 | .cont=>∃σ' H',Inv X pins σ' H' s' /\D.ct σ' H'
 | .ret u=>∃v σ' H',Inv X pins σ' H' s' /\Zb v u/\D.rt v H'
noncomputable def PE (X:Cx)(e:Expr)(t:TE):Prop:=
 ∀(pins:List (Addr×Obj)) (s:Shared) (σ:St) (H:Hp) (Q:VK),Inv X pins σ H s->t σ H Q->wpAny (model X.prog X.w) X.A (eval e X.env) (EP X pins σ Q) X.xe s
noncomputable def PT (X:Cx)(e:Expr)(t:TT):Prop:=
 ∀(pins:List (Addr×Obj)) (s:Shared) (σ:St) (H:Hp) (Q:Bool->Hp->Prop),Inv X pins σ H s->t σ H Q->wpAny (model X.prog X.w) X.A (isTrue e X.env (eval e X.env)) (TP X pins σ Q) X.xe s
noncomputable def PW (X:Cx)(e:Expr)(t:TT):Prop:=
 ∀(whole:Sem Value) (pins:List (Addr×Obj)) (s:Shared) (σ:St) (H:Hp) (Q:Bool->Hp->Prop),Inv X pins σ H s->t σ H Q->wpAny (model X.prog X.w) X.A (isTrue e X.env whole) (TP X pins σ Q) X.xe s
theorem PW.pt {X:Cx}{e:Expr}{t:TT}(h:PW X e t):PT X e t:=h _
noncomputable def PA (X:Cx)(es:List Expr)(t:TA):Prop:=
 ∀(pos:Pos) (pins:List _) (s:Shared) (σ:St) (H:Hp) (Q:List V->Hp->Prop),Inv X pins σ H s->t σ H Q->wpAny (model X.prog X.w) X.A (spliced (backTo pos (starEach es X.env))) (AP X pins σ Q) X.xe s
noncomputable def PS (X:Cx)(st:Stmt)(t:TS):Prop:=
 ∀(pins:List (Addr×Obj)) (s:Shared) (σ:St) (H:Hp) (D:Qr),Inv X pins σ H s->t D σ H->wpAny (model X.prog X.w) X.A (exec st X.env) (SP X pins D) X.xe s
noncomputable def PSs (X:Cx)(st:List Stmt)(t:TS):Prop:=
 ∀(pins:List (Addr×Obj)) (s:Shared) (σ:St) (H:Hp) (D:Qr),Inv X pins σ H s->t D σ H->wpAny (model X.prog X.w) X.A (execs st X.env) (SP X pins D) X.xe s
theorem thn {α:Type}{t:Sem α}{Q Q' :α->Shared->Prop}{M:Model}{A:Around}{E:Value->Shared->Prop}{s:Shared}(h:wpAny M A t Q E s)(hQ:∀a s,Q a s->Q' a s):wpAny M A t Q' E s:=d7 h hQ λ_ _ x=>x
end L2
namespace L2
open PySem PySem.Spec PyProof.Rows
section
variable {X:Cx}
theorem bin {a b:Expr}{ta tb:TE}(ha:PE X a ta)(hb:PE X b tb){pins:List (Addr×Obj)}{s:Shared}{σ:St}{H:Hp}{R:V->V->Hp->Prop}(I:Inv X pins σ H s)(h:ta σ H λx H1=>tb σ H1 λy H2=>R x y H2)
  {α:Type} {Q:α->Shared->Prop} {f:Value->Value->Sem α}
  (hf:∀v u s2 x y H2,Inv X pins σ H2 s2->Zb x v->Zb y u->R x y H2->wpAny (model X.prog X.w) X.A (f v u) Q X.xe s2):
  wpAny (model X.prog X.w) X.A (eval a X.env) (λv s₁=>wpAny (model X.prog X.w) X.A (eval b X.env) (λu s₂=>wpAny (model X.prog X.w) X.A (f v u) Q X.xe s₂) X.xe s₁) X.xe s:=by
 refine thn (ha _ s σ H _ I h) λv s1 ⟨x,H1,I1,r1,q1⟩=> ?_;refine thn (hb _ s1 σ H1 _ I1 q1) λu s2 ⟨y,H2,I2,r2,q2⟩=> ?_;exact hf v u s2 x y H2 I2 r1 r2 q2
noncomputable def wE (i:Nat):TE:=λσ H Q=>∃v,σ[i]? =some (some v)/\Q v H
noncomputable def tC (v:V):TE:=λ_ H Q=>Q v H
theorem V7 {i:Nat}{x:Str}{pos:Pos}(hN:X.N[i]? =some x)(hv:Vis X.env.scope x)(hd:(x == ("__debug__":Str))=false:=by decide)(hcd:(x == ("__classdict__":Str))=false:=by decide):PE X (.Name x pos) (wE i):=by
 intro pins s σ H Q I h;obtain⟨v,e,h⟩:=h;obtain⟨m,hn,hl⟩:=I.loc;obtain⟨u,r,l⟩:=hl i x v hN e hv;have fin:EP X _ σ Q u s:=⟨v,H,I,r,h⟩;rcases l with ⟨hk,hm⟩ | ⟨hk,c,hc,hcell⟩
 ·exact wpAny_Name (wpAny_loadName_local I.ok.kind hk hn hm fin) hd
 ·rcases hk with hk | hk
  ·exact wpAny_Name (wpAny_loadName_cell I.ok.kind hk hc hcell fin) hd
  ·exact wpAny_Name (wpAny_loadName_free I.ok.kind hk hc hcell fin hcd) hd
theorem kE {i j pos}:PE X (.Constant (.int i) j pos) (tC (.int i)):=λ_ _ _ H _ I h=>wpAny_Constant_int ⟨.int i,H,I.tok _,⟨_,rfl⟩,h⟩
theorem z0F {b j pos}:PE X (.Constant (.bool b) j pos) (tC (.bl b)):=λ_ _ _ H _ I h=>Constant_bool ⟨.bl b,H,I,rfl,h⟩
theorem V8 {x j pos}:PE X (.Constant (.str x) j pos) (tC (.str x)):=λ_ _ _ H _ I h=>Calls.Constant_str ⟨.str x,H,I.tok _,⟨_,rfl⟩,h⟩
noncomputable def Gl (X:Cx)(x:Str):Prop:=X.env.kindOf x=some .globalImplicit
theorem ui {E:Value->Shared->Prop}{pins:List (Addr×Obj)}{s:Shared}{σ:St}{H:Hp}{x:Str}{u:Value}{pos:Pos}{Q:Value->Shared->Prop}(I:Inv X pins σ H s)(hg:Gl X x)(hm:X.mg x=some u)(h:Q u s)
  (hd:(x == ("__debug__":Str))=false:=by decide):wpAny (model X.prog X.w) X.A (eval (.Name x pos) X.env) Q E s:=
 dr I.ok.kind hg (Calls.loadGlobal_global (by rw[I.ok.glob];exact I.mod.glob.keeps I.bk) hm h) hd
theorem j8 {E:Value->Shared->Prop}{pins:List (Addr×Obj)}{s:Shared}{σ:St}{H:Hp}{x:Str}{u:Value}{pos:Pos}{Q:Value->Shared->Prop}(I:Inv X pins σ H s)(hg:Gl X x)(hm:X.mg x=none)(hv:bootBuiltins x=some u)(h:Q u s)
  (hn:x ≠ "__name__":=by decide) (hd:(x == ("__debug__":Str))=false:=by decide):wpAny (model X.prog X.w) X.A (eval (.Name x pos) X.env) Q E s:=by
 obtain⟨mb,h1,h2⟩:=I.mod.blt;exact dr I.ok.kind hg (Calls.loadGlobal_builtin (by rw[I.ok.glob];exact I.mod.glob.keeps I.bk) hm (by rw[I.ok.blt];exact h1.keeps I.bk) ((h2 x hn).trans hv) h) hd
theorem VR {x:Str}{v:V}{u:Value}{pos:Pos}(hg:Gl X x)(hm:X.mg x=some u)(r:Zb v u)(hd:(x == ("__debug__":Str))=false:=by decide):PE X (.Name x pos) (tC v):=
 λ_ _ _ H _ I h=>ui I hg hm ⟨v,H,I,r,h⟩ hd
theorem VS {x:Str}{v:V}{u:Value}{pos:Pos}(hg:Gl X x)(hm:X.mg x=none)(hv:bootBuiltins x=some u)(r:Zb v u)(hn:x ≠ "__name__":=by decide)(hd:(x == ("__debug__":Str))=false:=by decide):PE X (.Name x pos) (tC v):=
 λ_ _ _ H _ I h=>j8 I hg hm hv ⟨v,H,I,r,h⟩ hn hd
variable {a b:Expr}{ta tb:TE}{pos:Pos}
noncomputable def tB (t:TE):TT:=λσ H Q=>t σ H λx H1=>∃c,x= .bl c/\Q c H1
variable {tA tB' :TT}{rest:List Expr}
noncomputable def tAnd (t u:TT):TT:=λσ H Q=>t σ H λc H1=>if c=true then u σ H1 Q else Q false H1
noncomputable def tOr (t u:TT):TT:=λσ H Q=>t σ H λc H1=>if c=true then Q true H1 else u σ H1 Q
noncomputable def tNot (t:TT):TT:=λσ H Q=>t σ H λc H1=>Q (!c) H1
theorem VT (ha:PT X a tA):PW X (.BoolOp .And [a] pos) tA:=by
 intro wh pins s σ H Q I h;refine isTrue_and (thn (ha _ s σ H Q I h) λc s1 e=> ?_);cases c with
 | true=>exact isTrue_and_nil e
 | false=>exact e
theorem V9 (ha:PT X a tA):PW X (.BoolOp .Or [a] pos) tA:=by
 intro wh pins s σ H Q I h;refine isTrue_or (thn (ha _ s σ H Q I h) λc s1 e=> ?_);cases c with
 | false=>exact isTrue_or_nil e
 | true=>exact e
theorem kF (ha:PT X a tA)(hb:PW X (.BoolOp .And (b :: rest) pos) tB'):PW X (.BoolOp .And (a :: b :: rest) pos) (tAnd tA tB'):=by
 intro wh pins s σ H Q I h;refine isTrue_and (thn (ha _ s σ H _ I h) λc s1 ⟨H1,I1,q1⟩=> ?_);cases c with
 | true=>exact hb wh _ s1 σ H1 Q I1 q1
 | false=>exact⟨H1,I1,q1⟩
theorem kG (ha:PT X a tA)(hb:PW X (.BoolOp .Or (b :: rest) pos) tB'):PW X (.BoolOp .Or (a :: b :: rest) pos) (tOr tA tB'):=by
 intro wh pins s σ H Q I h;refine isTrue_or (thn (ha _ s σ H _ I h) λc s1 ⟨H1,I1,q1⟩=> ?_);cases c with
 | true=>exact⟨H1,I1,q1⟩
 | false=>exact hb wh _ s1 σ H1 Q I1 q1
theorem kH (ha:PT X a tA):PT X (.UnaryOp .Not a pos) (tNot tA):=by
 intro pins s σ H Q I h;exact isTrue_not (ha _ s σ H (λc H1=>Q _ H1) I h)
noncomputable def z0G (ta tb:TE):TE:=λσ H Q=>ta σ H λx H1=>∃c,x= .bl c/\if c=true then tb σ H1 Q else Q (.bl false) H1
noncomputable def tOrV (ta tb:TE):TE:=λσ H Q=>ta σ H λx H1=>∃c,x= .bl c/\if c=true then Q (.bl true) H1 else tb σ H1 Q
noncomputable def z0H (ta:TE):TE:=λσ H Q=>ta σ H λx H1=>∃c,x= .bl c/\Q (.bl (!c)) H1
theorem kI {op}{t:TE}(h:PE X a t):PE X (.BoolOp op [a] pos) t:=λpins s σ H Q I hw=>BoolOp_one (h _ s σ H Q I hw)
theorem kJ (ha:PE X a ta)(hb:PE X (.BoolOp .And (b :: rest) pos) tb):PE X (.BoolOp .And (a :: b :: rest) pos) (z0G ta tb):=by
 intro pins s σ H Q I h;refine BoolOp_and (thn (ha _ s σ H _ I h) λv s1 ⟨x,H1,I1,r1,q1⟩=> ?_);obtain⟨c,rfl,q1⟩:=q1;cases r1;refine aZ ?_;cases c with
 | true=>exact hb _ s1 σ H1 Q I1 q1
 | false=>exact⟨.bl _,H1,I1,rfl,q1⟩
theorem z0I (ha:PE X a ta)(hb:PE X (.BoolOp .Or (b :: rest) pos) tb):PE X (.BoolOp .Or (a :: b :: rest) pos) (tOrV ta tb):=by
 intro pins s σ H Q I h;refine BoolOp_or (thn (ha _ s σ H _ I h) λv s1 ⟨x,H1,I1,r1,q1⟩=> ?_);obtain⟨c,rfl,q1⟩:=q1;cases r1;refine aZ ?_;cases c with
 | false=>exact hb _ s1 σ H1 Q I1 q1
 | true=>exact⟨.bl _,H1,I1,rfl,q1⟩
theorem kK (ha:PE X a ta):PE X (.UnaryOp .Not a pos) (z0H ta):=by
 intro pins s σ H Q I h;refine UnaryOp_ (thn (ha _ s σ H _ I h) λv s1 ⟨x,H1,I1,r1,q1⟩=> ?_);obtain⟨c,rfl,q1⟩:=q1;cases r1;exact not_of (aZ ⟨.bl _,H1,I1,rfl,q1⟩)
noncomputable def tIf (t:TT)(ta tb:TE):TE:=λσ H Q=>t σ H λc H1=>if c=true then ta σ H1 Q else tb σ H1 Q
theorem uU {c:Expr}(hc:PT X c tA)(ha:PE X a ta)(hb:PE X b tb):PE X (.IfExp c a b pos) (tIf tA ta tb):=by
 intro pins s σ H Q I h;refine wpAny_IfExp (thn (hc _ s σ H _ I h) λd s1 ⟨H1,I1,q1⟩=> ?_);cases d with
 | true=>exact ha _ s1 σ H1 Q I1 q1
 | false=>exact hb _ s1 σ H1 Q I1 q1
end
end L2
namespace L2
open PySem PySem.Spec PyProof.Rows
noncomputable def SqL (K:a8)(H:Hp)(a:Addr)(xs:List V):Prop:=
 Rd H a (.lst xs)\/
  ∃(o:Obj) (its:Array Value) (n:Nat),K.lookup a=some o/\o.cls= .type "list"/\o.dict=none/\o.data= .seq its n/\its.size<=sizeLine/\zZ xs its.toList
noncomputable def SqT (K:a8)(H:Hp)(a:Addr)(xs:List V):Prop:=
 Rd H a (.tup xs)\/
  ∃(o:Obj) (its:Array Value) (n:Nat),K.lookup a=some o/\o.cls= .type "tuple"/\o.data= .seq its n/\its.size<=sizeLine/\zZ xs its.toList
noncomputable def absV:Value->Option V
 | .none=>some .non
 | .bool b=>some (.bl b)
 | .int i _=>some (.int i)
 | .str x _=>some (.str x)
 | .bytes b _=>some (.byt b)
 | .float b _=>some (.flt b)
 | .ref a=>some (.ref a)
 | .type n=>some (.ty n)
 | _=>none
theorem Zb.abs {x:V}{u:Value}(r:Zb x u):absV u=some x:=by
 cases x with
 | non=>cases r;rfl
 | bl _=>cases r;rfl
 | int _=>obtain⟨t,rfl⟩:=r;rfl
 | str _=>obtain⟨t,rfl⟩:=r;rfl
 | byt _=>obtain⟨t,rfl⟩:=r;rfl
 | flt _=>obtain⟨t,rfl⟩:=r;rfl
 | ref _=>cases r;rfl
 | ty _=>cases r;rfl
theorem Zb.inj {x y:V}{u:Value}(r:Zb x u)(q:Zb y u):x=y:=aH (r.abs.symm.trans q.abs)
theorem zZ.inj:∀{xs ys:List V} {us:List Value},zZ xs us->zZ ys us->xs=ys
 | _,_,_,.nil,.nil=>rfl
 | _,_,_,.cons r t,.cons r' t' =>by rw[r.inj r',zZ.inj t t']
section
variable {X:Cx}{pins:List (Addr×Obj)}{σ:St}{H:Hp}{s:Shared}{a:Addr}{xs ys:List V}
theorem SqL.of {K:a8}(h:H a=some (.lst xs)):SqL K H a xs:= .inl (.inl h)
theorem SqT.of {K:a8}(h:H a=some (.tup xs)):SqT K H a xs:= .inl (.inl h)
theorem Inv.list (I:Inv X pins σ H s)(h:SqL X.K H a xs):∃its:List Value,zZ xs its/\PlainL s.heap a its.toArray/\xs.length<=sizeLine:=by
 rcases h with h | ⟨o,its,n,hk,hc,hd,hs,hz,r⟩
 ·obtain⟨z,its,n,r,e⟩:=h.ok I.hok;exact⟨its,r,⟨_,n,e,rfl,rfl,rfl⟩,z⟩
 ·refine⟨its.toList,r,⟨o,n,I.kIn a o hk,hc,hd,by simpa using hs⟩, ?_⟩
  have e:=r.length;simp only[cI]at e;omega
theorem Inv.tuple (I:Inv X pins σ H s)(h:SqT X.K H a xs):∃its:List Value,zZ xs its/\IsTup s.heap a its.toArray/\xs.length<=sizeLine:=by
 rcases h with h | ⟨o,its,n,hk,hc,hs,hz,r⟩
 ·obtain⟨z,its,r,p,_⟩:=h.ok I.hok;exact⟨its,r,p,z⟩
 ·refine⟨its.toList,r,⟨o,I.kIn a o hk,hc,n,by simpa using hs⟩, ?_⟩
  have e:=r.length;simp only[cI]at e;omega
theorem Inv.list_inj (I:Inv X pins σ H s)(h:SqL X.K H a xs)(h' :SqL X.K H a ys):xs=ys:=by
 obtain⟨its,r,⟨o,n,e,_,_,d⟩,_⟩:=I.list h;obtain⟨its',r',⟨o',n',e',_,_,d'⟩,_⟩:=I.list h';rw[e]at e';cases e';rw[d]at d';injection d' with d1 _;have:=by simpa using congrArg Array.toList d1
 subst this;exact r.inj r'
theorem Inv.tuple_inj (I:Inv X pins σ H s)(h:SqT X.K H a xs)(h' :SqT X.K H a ys):xs=ys:=by
 obtain⟨its,r,⟨o,e,_,n,d⟩,_⟩:=I.tuple h;obtain⟨its',r',⟨o',e',_,n',d'⟩,_⟩:=I.tuple h';rw[e]at e';cases e';rw[d]at d';injection d' with d1 _;have:=by simpa using congrArg Array.toList d1
 subst this;exact r.inj r'
end
noncomputable abbrev Cx.wish (X:Cx)(E:Value->Shared->Prop):Cx:={ X with xe:=E }
noncomputable abbrev Cx.nox (X:Cx):Cx:=X.wish λ_ _=>False
theorem Cx.Ok.wish {X:Cx}(ok:X.Ok)(E:Value->Shared->Prop):(X.wish E).Ok:=
 ⟨ok.mod,ok.kind,ok.glob,ok.blt,ok.above,ok.inj,ok.has,ok.cab,ok.hd,ok.frames,ok.stk,ok.exf,ok.bs,ok.bsz,ok.noex,ok.exfs,ok.funs,ok.frf⟩
theorem Cx.Ok.unwish {X:Cx}{E:Value->Shared->Prop}(ok:(X.wish E).Ok):X.Ok:=
 ⟨ok.mod,ok.kind,ok.glob,ok.blt,ok.above,ok.inj,ok.has,ok.cab,ok.hd,ok.frames,ok.stk,ok.exf,ok.bs,ok.bsz,ok.noex,ok.exfs,ok.funs,ok.frf⟩
section
variable {X:Cx}{pins:List (Addr×Obj)}{σ:St}{H:Hp}{s:Shared}{E:Value->Shared->Prop}
theorem Inv.wish (I:Inv X pins σ H s)(E:Value->Shared->Prop):Inv (X.wish E) pins σ H s:=⟨I.ok.wish E,I.os,I.bare,I.base,I.loc,I.cell,I.free,I.freeC,I.pin,I.hok,I.len⟩
theorem Inv.unwish (I:Inv (X.wish E) pins σ H s):Inv X pins σ H s:=⟨I.ok.unwish,I.os,I.bare,I.base,I.loc,I.cell,I.free,I.freeC,I.pin,I.hok,I.len⟩
theorem SP.unwish {D:Qr}{f:Flow}{s' :Shared}(h:SP (X.wish E) pins D f s'):SP X pins D f s' :=by
 cases f with
 | next=>obtain⟨σ',H',I,q⟩:=h;exact⟨σ',H',I.unwish,q⟩
 | brk=>obtain⟨σ',H',I,q⟩:=h;exact⟨σ',H',I.unwish,q⟩
 | cont=>obtain⟨σ',H',I,q⟩:=h;exact⟨σ',H',I.unwish,q⟩
 | ret u=>obtain⟨v,σ',H',I,r,q⟩:=h;exact⟨v,σ',H',I.unwish,r,q⟩
theorem PSs.nox {st:List Stmt}{t:TS}(h:PSs X.nox st t):PSs X st t:=λpins s σ H D I hw=>
 d7 (h _ s σ H D (I.wish _) hw) (λ_ _ q=>q.unwish) λ_ _ z=>bF z
end
section
variable {X:Cx}{st:Stmt}{rest:List Stmt}{t u:TS}{e:Expr}{te:TE}{pos:Pos}
noncomputable def z0J:TS:=λD σ H=>D.nx σ H
noncomputable def tSeq (t u:TS):TS:=λD σ H=>t { D with nx:=u D } σ H
theorem yP:PSs X [] z0J:=λ_ _ σ H _ I h=>wpAny_execs_nil ⟨σ,H,I,h⟩
theorem wF (h1:PS X st t)(h2:PSs X rest u):PSs X (st :: rest) (tSeq t u):=by
 intro pins s σ H D I h;refine wpAny_execs_cons (thn (h1 _ s σ H _ I h) λf s1 q=> ?_);cases f with
 | next=>
  obtain⟨σ',H',I',q⟩:=q;exact h2 _ s1 σ' H' D I' q
 | ret v=>exact q
 | brk=>exact q
 | cont=>exact q
theorem uj (h1:PS X st t):PSs X [st] t:=by
 intro pins s σ H D I h;refine wpAny_execs_cons (thn (h1 _ s σ H D I h) λf s1 q=> ?_);cases f with
 | next=>exact wpAny_execs_nil q
 | ret v=>exact q
 | brk=>exact q
 | cont=>exact q
theorem Inv.quiet {pins:List (Addr×Obj)}{σ:St}{H:Hp}{s:Shared}(I:Inv X pins σ H s):interactive X.env=false:=by simp[interactive,I.ok.kind]
noncomputable def z0K (te:TE):TS:=λD σ H=>te σ H λ_ H1=>D.nx σ H1
theorem Jx (he:PE X e te)(hs:swapsWith e none pos.line X.env=pure false:=by rfl):PS X (.Expr e pos) (z0K te):=by
 intro pins s σ H D I h;exact wpAny_Expr_any (thn (he _ s σ H _ I h) λv s1 ⟨x,H1,I1,r1,q1⟩=>⟨σ,H1,I1,q1⟩) I.quiet hs
noncomputable def tRet (te:TE):TS:=λD σ H=>te σ H D.rt
theorem Wl (he:PE X e te):PS X (.Return (some e) pos) (tRet te):=by
 intro pins s σ H D I h;exact wpAny_Return_some (thn (he _ s σ H _ I h) λv s1 ⟨x,H1,I1,r1,q1⟩=>⟨x,σ,H1,I1,r1,q1⟩)
noncomputable def tIfS (c:TT)(t u:TS):TS:=λD σ H=>c σ H λb H1=>if b=true then t D σ H1 else u D σ H1
theorem kL {c:Expr}{a b:List Stmt}{tc:TT}(hc:PT X c tc)(ha:PSs X a t)(hb:PSs X b u):PS X (.If c a b pos) (tIfS tc t u):=by
 intro pins s σ H D I h;refine wpAny_If (thn (hc _ s σ H _ I h) λd s1 ⟨H1,I1,q1⟩=> ?_);cases d with
 | true=>exact ha _ s1 σ H1 D I1 q1
 | false=>exact hb _ s1 σ H1 D I1 q1
end
noncomputable abbrev TG:=V->St->Hp->(St->Hp->Prop)->Prop
noncomputable abbrev TGs:=List V->St->Hp->(St->Hp->Prop)->Prop
noncomputable def PG (X:Cx)(target:Expr)(t:TG):Prop:=
 ∀(pins:List (Addr×Obj)) (s:Shared) (σ:St) (H:Hp) (v:V) (u:Value) (Q:St->Hp->Prop),Inv X pins σ H s->Zb v u->t v σ H Q->
  wpAny (model X.prog X.w) X.A (assign target X.env u) (λ_ s' =>∃σ' H',Inv X pins σ' H' s' /\Q σ' H') X.xe s
noncomputable def PGs (X:Cx)(ts:List Expr)(t:TGs):Prop:=
 ∀(pins:List (Addr×Obj)) (s:Shared) (σ:St) (H:Hp) (vs:List V) (us:List Value) (Q:St->Hp->Prop),Inv X pins σ H s->zZ vs us->t vs σ H Q->
  wpAny (model X.prog X.w) X.A (assignInOrder ((assignEach ts X.env).map (·.2)) us) (λ_ s' =>∃σ' H',Inv X pins σ' H' s' /\Q σ' H') X.xe s
section
variable {X:Cx}{pos:Pos}
noncomputable def wG (i:Nat):TG:=λv σ H Q=>Q (σ.set i (some v)) H
theorem jP {i:Nat}{x:Str}(hN:X.N.Nodup)(hi:X.N[i]? =some x)(hx:Loc X.env.scope x)(hf:X.fn x=true\/X.env.scope.names.lookup x=some .local:=by first | exact .inl rfl | exact .inr rfl | assumption):PG X (.Name x pos) (wG i):=by
 intro pins s σ H v u Q I r h;exact wpAny_assign_Name (j0 I hN hi hx r (λs' I' =>⟨_,H,I',h⟩) hf)
noncomputable def z0L:TGs:=λvs σ H Q=>vs=[]/\Q σ H
noncomputable def yQ (t:TG)(u:TGs):TGs:=λvs σ H Q=>∃v r,vs=v :: r/\t v σ H λσ' H' =>u r σ' H' Q
theorem yR:PGs X [] z0L:=by
 intro pins s σ H vs us Q I r h;obtain⟨e,h⟩:=h;exact assignInOrder_nil ⟨σ,H,I,h⟩
theorem Jj {e:Expr}{es:List Expr}{t:TG}{u:TGs}(h1:PG X e t)(h2:PGs X es u)
  (hs:(assignEach (e :: es) X.env).map (·.2)=assign e X.env :: (assignEach es X.env).map (·.2):=by rfl):PGs X (e :: es) (yQ t u):=by
 intro pins s σ H vs us Q I r h;obtain⟨v,vr,e1,h⟩:=h;subst e1;cases r with
 | cons r rr=>
  rw[hs];refine assignInOrder_cons (thn (h1 _ s σ H _ _ _ I r h) λ_ s1 ⟨σ1,H1,I1,q1⟩=> ?_);exact h2 _ s1 σ1 H1 _ _ Q I1 rr q1
noncomputable def GN (K:a8)(n:Nat)(t:TGs):TG:=λv σ H Q=>∃a xs,v= .ref a/\SqT K H a xs/\xs.length=n/\t xs σ H Q
theorem Va {es:List Expr}{k:Nat}{t:TGs}{n:Nat}(hc:X.calm=true)(h:PGs X es t)
  (hn:(assignEach es X.env).length=n:=by rfl) (hst:(assignEach es X.env).findIdx? (·.1)=none:=by rfl):PG X (.Tuple es k pos) (GN X.K n t):=by
 intro pins s σ H v u Q I r hw;obtain⟨a,xs,e1,hq,hl,hw⟩:=hw;subst e1;cases r;obtain⟨its,rv,ht,hz⟩:=I.tuple hq;refine assign_Tuple_tuple (I.ok.hd hc) ht (by simp[hn,← hl,rv.length]) hst λh' hx=> ?_
 have I1:Inv X _ σ H { s with heap:=h' }:=I.kept λb o e=>hx b o (az (am e)) e;exact h _ _ σ H xs _ Q I1 (by simpa using rv) hw
noncomputable def tAsg (te:TE)(g:TG):TS:=λD σ H=>te σ H λx H1=>g x σ H1 D.nx
theorem Wm {i:Nat}{x:Str}{e:Expr}{te:TE}{pos' :Pos}(hN:X.N.Nodup)(hi:X.N[i]? =some x)(hx:Loc X.env.scope x)(he:PE X e te)(hs:swapsWith e (some (.Name x pos')) pos.line X.env=pure false:=by rfl)(hf:X.fn x=true\/X.env.scope.names.lookup x=some .local:=by first | exact .inl rfl | exact .inr rfl | assumption):
  PS X (.Assign [.Name x pos'] e pos) (tAsg te (wG i)):=by
 intro pins s σ H D I h;refine wpAny_Assign_Name (thn (he _ s σ H _ I h) λv s1 ⟨y,H1,I1,r1,q1⟩=> ?_) hs;exact j0 I1 hN hi hx r1 (λs2 I2=>⟨_,H1,I2,q1⟩) hf
noncomputable def tPar (i j:Nat)(ta:TA):TS:=λD σ H=>ta σ H λvs H1=>∃v w,vs=[v,w]/\D.nx ((σ.set i (some v)).set j (some w)) H1
theorem kM {i j:Nat}{x y:Str}{a b:Expr}{ta:TA}{px py pt:Pos}{kt k2 pt2}(hc:X.calm=true)(hN:X.N.Nodup)(hi:X.N[i]? =some x)(hj:X.N[j]? =some y)(hij:i ≠ j)
  (hx:X.env.scope.names.lookup x=some .local) (hy:X.env.scope.names.lookup y=some .local) (ha:PA X [a,b] ta)
  (hw:swappedStores [.Tuple [.Name x px,.Name y py] kt pt] (.Tuple [a,b] k2 pt2) X.env=pure (some [x,y]))
  (hs:swapsWithSole [.Tuple [.Name x px,.Name y py] kt pt] (.Tuple [a,b] k2 pt2) pos.line X.env=pure false:=by rfl):
  PS X (.Assign [.Tuple [.Name x px,.Name y py] kt pt] (.Tuple [a,b] k2 pt2) pos) (tPar i j ta):=by
 intro pins s σ H D I h;refine a7 (wpAny_standAt ?_);refine a7 (ak ?_);refine a7 (Tuple_ (thn (ha _ _ s σ H _ I h) λus s1 ⟨vs,H1,I1,r1,q1⟩=> ?_));obtain⟨v,w,e1,q1⟩:=q1;subst e1;obtain⟨u1,u2,rfl,rv,rw'⟩:∃u1 u2,us=[u1,u2]/\Zb v u1/\Zb w u2:=by
  cases r1 with
  | cons p q=>
   cases q with
   | cons p' q' =>
    cases q';exact⟨_,_,rfl,p,p'⟩
 refine a_ ?_ (by show 2<=sizeLine;decide)
 have I2:Inv X _ σ H1 { s1 with heap:=s1.heap.push { cls:= .type "tuple",data:= .seq [u1,u2].toArray } }:=I1.kept λb o e=>ab _ e;rw[hw];refine a7 (ak ?_);refine a7 (cP (a7 (unpackItems_tuple (items:= #[u1,u2]) (I.ok.hd hc) (iG _ _) λh' hx' => ?_)));have I3:=I2.kept (t' :=s1.toks) λb o e=>hx' b o (az (am e)) e;refine a7 (assignInOrder_cons (wpAny_bindName (j0 I3 hN hj (.inl hy) rw' (λs2 I4=> ?_) (.inr hy))));refine assignInOrder_cons (wpAny_bindName (j0 I4 hN hi (.inl hx) rv (λs3 I5=>assignInOrder_nil (ak ?_)) (.inr hx)));rw[cq _ _ (aU hij)]at I5;exact⟨_,H1,I5,q1⟩
end
section
variable {X:Cx}{pos:Pos}
noncomputable def kN (c:TT)(tb:TS):TS:=λD σ H=>∃W:Nat->St->Hp->Prop,(∃m,W m σ H)/\∀m σ H,W m σ H->
 c σ H λb H1=>if b=true then ∃N:St->Hp->Prop,(∀σ' H',N σ' H' ->∃m',m' < m/\W m' σ' H')/\tb { D with nx:=N,ct:=N,bk:=D.nx } σ H1 else D.nx σ H1
theorem QH {c:Expr}{body:List Stmt}{tc:TT}{tb:TS}(hp:PassesOwn (model X.prog X.w) X.A X.env X.xe)(hc:PT X c tc)(hb:PSs X body tb):PS X (.While c body [] pos) (kN tc tb):=by
 intro pins s σ H D I h;obtain⟨W,⟨m0,w0⟩,turn⟩:=h;refine wpAny_While (codeAny_whileLoop (λn s' =>∃σ' H',Inv X _ σ' H' s' /\W n σ' H') ?_ m0 ⟨σ,H,I,w0⟩)
 rintro n s1 ⟨σ1,H1,I1,w1⟩
 refine bM hp (thn (hc _ s1 σ1 H1 _ I1 (turn n σ1 H1 w1)) λb s2 ⟨H2,I2,q2⟩=> ?_);cases b with
 | true=>
  obtain⟨N,hN,q2⟩:=q2;refine bM hp (thn (hb _ s2 σ1 H2 _ I2 q2) λf s3 q3=> ?_);cases f with
  | next=>
   obtain⟨σ3,H3,I3,n3⟩:=q3;obtain⟨m',hm,w3⟩:=hN σ3 H3 n3;exact⟨m',hm,σ3,H3,I3,w3⟩
  | cont=>
   obtain⟨σ3,H3,I3,n3⟩:=q3;obtain⟨m',hm,w3⟩:=hN σ3 H3 n3;exact⟨m',hm,σ3,H3,I3,w3⟩
  | brk=>exact q3
  | ret v=>exact q3
 | false=>
  exact wpAny_execs_nil ⟨σ1,H2,I2,q2⟩
end
structure It where
 go:Nat->Hp->Prop
 yld:Nat->Hp->V->Hp->Prop
 stop:Nat->Hp->Prop
noncomputable def Wn (X:Cx)(pins:List (Addr×Obj))(H:Hp)(b:Addr):Prop:=
 H b=none/\b ≠ X.env.locals/\b ∉ X.fs/\(b∈X.ex\/X.s₀.heap.objs.size<=b)/\(∀x c,X.env.cells.lookup x=some c->c ≠ b)/\∀p∈X.pn++pins,p.1 ≠ b
theorem Inv.fpOk {X:Cx}{pins:List (Addr×Obj)}{σ:St}{H H' :Hp}{s:Shared}{b:Addr}(I:Inv X pins σ H s)(hb:s.heap.objs.size<=b)(hn:H' b=none):Wn X pins H' b:=by
 refine⟨hn,dn (aJ I.lt hb),I.nofs hb,.inr (aq I.sz hb),λx c e z=> ?_,λp hp z=> ?_⟩
 ·obtain⟨v,q⟩:=I.cell x c e;exact absurd (aJ q.lt (by rw[z];exact hb)) (bn _)
 ·exact absurd (aJ (am (I.pin p hp).1) (by rw[z];exact hb)) (bn _)
structure yG (P:Program) (w:World) (K:a8) (tg:Expr) (J:It) (fp:List Addr) (it:Addr) (tn:Nat->Heap->Prop):Prop where
 mem:it∈fp
 obj:∀i h,tn i h->∀b∈fp,∃o,h.get? b=some o/\∀v,o.data ≠ .cell v
 keep:∀i h h',tn i h->(∀b∈fp,∀o,h.get? b=some o->h'.get? b=some o)->tn i h'
 item:∀(X:Cx),X.prog=P->X.w=w->X.K=K->X.calm=true->∀(i:Nat) (pins:List (Addr×Obj)) (s:Shared) (σ:St) (H:Hp) (E:Value->Shared->Prop),Inv X pins σ H s->(∀b∈fp,Wn X pins H b)->tn i s.heap->J.go i H->
  wpAny (model P w) X.A (pyNext (.ref it)) (λr s1=>∃u,r=some u/\
   wpAny (model P w) X.A (letOwnedTupleGo tg (.ref it) u) (λ_ s2=>∃x H',Inv X pins σ H' s2/\Zb x u/\J.yld i H x H' /\tn (i+1) s2.heap/\∀b∈fp,H' b=none) E s1) E s
 done:∀(X:Cx),X.prog=P->X.w=w->X.K=K->X.calm=true->∀(i:Nat) (pins:List (Addr×Obj)) (s:Shared) (σ:St) (H:Hp) (E:Value->Shared->Prop),Inv X pins σ H s->(∀b∈fp,Wn X pins H b)->tn i s.heap->J.stop i H->
  wpAny (model P w) X.A (pyNext (.ref it)) (λr s1=>r=none/\Inv X pins σ H s1) E s
 self:∀(A:Around) (i:Nat) (s:Shared) (Q:Value->Shared->Prop) (E:Value->Shared->Prop),tn i s.heap->Q (.ref it) s->wpAny (model P w) A (pyIter (.ref it)) Q E s
noncomputable abbrev TI:=St->Hp->(It->Hp->Prop)->Prop
noncomputable def PIE (X:Cx)(pins:List (Addr×Obj))(σ:St)(tg:Expr)(R:It->Hp->Prop)(itv:Value)(s2:Shared):Prop:=
 ∃(it:Addr) (fp:List Addr) (tn:Nat->Heap->Prop) (J:It) (H' :Hp),itv= .ref it/\Inv X pins σ H' s2/\yG X.prog X.w X.K tg J fp it tn/\tn 0 s2.heap/\(∀b∈fp,Wn X pins H' b)/\R J H'
noncomputable def PI (X:Cx)(tg iter:Expr)(wi:TI):Prop:=
 ∀(pins:List (Addr×Obj)) (s:Shared) (σ:St) (H:Hp) (R:It->Hp->Prop),Inv X pins σ H s->wi σ H R->
  wpAny (model X.prog X.w) X.A (eval iter X.env) (λv s1=>wpAny (model X.prog X.w) X.A (pyIter v) (PIE X pins σ tg R) X.xe s1) X.xe s
theorem UV {M:Model}{A:Around}{E:Value->Shared->Prop}{s:Shared}{tg:Expr}{it:Addr}{u:Value}{o:Obj}{n:String}{vs:Array Value}{Q:Unit->Shared->Prop}(ho:s.heap.get? it=some o)(hc:o.cls= .type n)(hd:o.data= .fields vs)
  (hn:["enumerate","zip","dict_itemiterator","dict_reverseitemiterator","odict_iterator","itertools.zip_longest","itertools.pairwise"].contains n=false) (hQ:Q () s):wpAny M A (letOwnedTupleGo tg (.ref it) u) Q E s:=by
 cases tg <;> first
  | exact ak hQ
  | (cases u <;> first
    | exact ak hQ
    | (refine a7 (wpAny_load ho ?_);rw[hc,hd];show wpAny M A (if (["enumerate","zip","dict_itemiterator","dict_reverseitemiterator","odict_iterator","itertools.zip_longest","itertools.pairwise"].contains n && vs[0]? == some _)=true then _ else _) Q E s;rw[if_neg (by intro h;rw[hn]at h;cases h)];exact ak hQ))
noncomputable def Itl (K:a8)(a:Addr):It:=
 ⟨λi H=>∃xs x,SqL K H a xs/\xs[i]? =some x,λi H x H' =>H' =H/\∀xs,SqL K H a xs->xs[i]? =some x,λi H=>∃xs,SqL K H a xs/\xs.length<=i⟩
noncomputable def Itt (K:a8)(a:Addr):It:=
 ⟨λi H=>∃xs x,SqT K H a xs/\xs[i]? =some x,λi H x H' =>H' =H/\∀xs,SqT K H a xs->xs[i]? =some x,λi H=>∃xs,SqT K H a xs/\xs.length<=i⟩
noncomputable def Itr (lo:Int)(n:Nat):It:=⟨λi _=>i < n,λi H x H' =>H' =H/\x= .int (lo+i),λi _=>n<=i⟩
theorem yS {P:Program}{w:World}{K:a8}{tg:Expr}(a it:Addr):yG P w K tg (Itl K a) [it] it (λi h=>h.IsListIter it a i) where
 mem:=by simp
 obj:=λi h st b hb=>by
  have e:b=it:=by simpa using hb
  subst e;obtain⟨o,e,c,d⟩:=st;exact⟨o,e,λv z=>by rw[d]at z;cases z⟩
 keep:=λi h h' st k=>st.at λo e=>k it (by simp) o e
 item:=by
  intro X hP hw hK hc i pins s σ H E I hf st hg;subst hP hw hK;obtain⟨xs,x,hq,hx⟩:=hg;obtain⟨its,rv,p,hz⟩:=I.list hq;obtain⟨u,hu,ru⟩:=rv.get hx;obtain⟨f0,f1,f2,f3,f4,f5⟩:=hf it (by simp)
  refine wpAny_pyNext_list_item st p.isList (x:=u) (by simpa using hu) λh' st' sb=> ?_
  have I1:Inv X pins σ H { s with heap:=h' }:=I.turned (t' :=s.toks) (λb o hb e=>(sb.2 b hb).trans e) f0 f1 f3 f4 f5;obtain⟨o,e,c,d⟩:=id st';exact⟨u,rfl,UV (s:={ s with heap:=h' }) e c d (by decide) ⟨x,H,I1,ru,⟨rfl,λys hy=>by rw[I.list_inj hy hq];exact hx⟩,st',λb hb=>(hf b hb).1⟩⟩
 done:=by
  intro X hP hw hK hc i pins s σ H E I hf st hg;subst hP hw hK;obtain⟨xs,hq,hx⟩:=hg;obtain⟨its,rv,p,hz⟩:=I.list hq;obtain⟨f0,f1,f2,f3,f4,f5⟩:=hf it (by simp)
  have hl:=rv.length;exact wpAny_pyNext_list_end (I.ok.hd hc) st p.isList (by simp;omega) λh' eb=>⟨rfl,I.turned (t' :=s.toks) (λb o hb e=>eb b o hb e) f0 f1 f3 f4 f5⟩
 self:=λ_ _ _ _ _ st h=>wpAny_pyIter_listiter st h
theorem UW {P:Program}{w:World}{K:a8}{tg:Expr}(a it:Addr):yG P w K tg (Itt K a) [it] it (λi h=>h.IsTupleIter it a i) where
 mem:=by simp
 obj:=λi h st b hb=>by
  have e:b=it:=by simpa using hb
  subst e;obtain⟨o,e,c,d⟩:=st;exact⟨o,e,λv z=>by rw[d]at z;cases z⟩
 keep:=λi h h' st k=>st.at λo e=>k it (by simp) o e
 item:=by
  intro X hP hw hK hc i pins s σ H E I hf st hg;subst hP hw hK;obtain⟨xs,x,hq,hx⟩:=hg;obtain⟨its,rv,p,hz⟩:=I.tuple hq;obtain⟨u,hu,ru⟩:=rv.get hx;obtain⟨f0,f1,f2,f3,f4,f5⟩:=hf it (by simp)
  refine wpAny_pyNext_tuple_item st (show s.heap.IsTuple a its.toArray from p) (x:=u) (by simpa using hu) λh' st' sb=> ?_
  have I1:Inv X pins σ H { s with heap:=h' }:=I.turned (t' :=s.toks) (λb o hb e=>(sb.2 b hb).trans e) f0 f1 f3 f4 f5;obtain⟨o,e,c,d⟩:=id st';exact⟨u,rfl,UV (s:={ s with heap:=h' }) e c d (by decide) ⟨x,H,I1,ru,⟨rfl,λys hy=>by rw[I.tuple_inj hy hq];exact hx⟩,st',λb hb=>(hf b hb).1⟩⟩
 done:=by
  intro X hP hw hK hc i pins s σ H E I hf st hg;subst hP hw hK;obtain⟨xs,hq,hx⟩:=hg;obtain⟨its,rv,p,hz⟩:=I.tuple hq;obtain⟨f0,f1,f2,f3,f4,f5⟩:=hf it (by simp)
  have hl:=rv.length;exact wpAny_pyNext_tuple_end (I.ok.hd hc) st (show s.heap.IsTuple a its.toArray from p) (by simp;omega) λh' eb=>⟨rfl,I.turned (t' :=s.toks) (λb o hb e=>eb b o hb e) f0 f1 f3 f4 f5⟩
 self:=λ_ _ _ _ _ st h=>wpAny_pyIter_tupleiter st h
theorem UX {P:Program}{w:World}{K:a8}{tg:Expr}(it:Addr)(lo:Int)(n:Nat):yG P w K tg (Itr lo n) [it] it (λi h=>IsRangeIter h it (lo+(i:Nat)*1) ((n:Int) - (i:Nat)) 1) where
 mem:=by simp
 obj:=λi h st b hb=>by
  have e:b=it:=by simpa using hb
  subst e;exact⟨_,st,λv z=>by
   have z' :Data.fields _=Data.cell v:=z;cases z'⟩
 keep:=λi h h' st k=>k it (by simp) _ st
 item:=by
  intro X hP hw hK hc i pins s σ H E I hf st hg;subst hP hw hK;obtain⟨f0,f1,f2,f3,f4,f5⟩:=hf it (by simp)
  have W:=Walks.range (prog:=X.prog) (w:=X.w) (I.ok.hd hc) it lo 1 n;refine W.item i s _ _ hg st λv h' tk hv st' kk=> ?_;obtain⟨t,rfl⟩:=hv;have I1:Inv X pins σ H { s with heap:=h',toks:=tk }:=I.turned (λb o hb e=>kk b o (by simpa using hb) e) f0 f1 f3 f4 f5
  refine⟨_,rfl,UV (s:={ s with heap:=h',toks:=tk }) (n:="range_iterator") st' rfl rfl (by decide) ⟨.int (lo+i),H,I1,⟨t, ?_⟩,⟨rfl,rfl⟩,st',λb hb=>(hf b hb).1⟩⟩
  rw[ij]
 done:=by
  intro X hP hw hK hc i pins s σ H E I hf st hg;subst hP hw hK;obtain⟨f0,f1,f2,f3,f4,f5⟩:=hf it (by simp)
  exact wpAny_pyNext_range_end (I.ok.hd hc) st (by have:n<=i:=hg;omega) λh' eb=>⟨rfl,I.turned (t' :=s.toks) (λb o hb e=>eb b o hb e) f0 f1 f3 f4 f5⟩
 self:=λ_ _ _ _ _ st h=>wpAny_pyIter_rangeiter st h
end L2
namespace L2
open PySem PySem.Spec PyProof.Rows
section
variable {X:Cx}{tg:Expr}
theorem uV {pins:List (Addr×Obj)}{σ:St}{H:Hp}{s:Shared}{R:It->Hp->Prop}{E:Value->Shared->Prop}{lo hi:Int}{t u v:Tok}{tk:Nat}(I:Inv X pins σ H s)(h1: -(2 ^ 62)<=lo)(h2:lo < 2 ^ 62)(h3: -(2 ^ 62)<=hi)(h4:hi < 2 ^ 62)
  (q:R (Itr lo (hi - lo).toNat) H):wpAny (model X.prog X.w) X.A (pyIter (.ref s.heap.objs.size)) (PIE X pins σ tg R) E { s with heap:=s.heap.push { cls:= .type "range",data:= .fields #[.int lo t,.int hi u,.int 1 v] },toks:=tk }:=by
 refine wpAny_pyIter_range (IsRange.new ..) (small_one h1 h2 h3 h4) ?_;have I1:Inv X _ σ H { s with heap:=s.heap.push { cls:= .type "range",data:= .fields #[.int lo t,.int hi u,.int 1 v] },toks:=tk }:=I.kept λb o e=>ab _ e;refine⟨(s.heap.push _).objs.size,[(s.heap.push _).objs.size],_,_,H,rfl,
  I1.kept λb o e=>ab _ e,UX _ lo _, ?_,λb hb=> ?_,q⟩
 ·have e1:lo+((0:Nat))*1=lo:=by simp
  have e2:(((hi - lo).toNat):Int) - ((0:Nat))=d_ lo hi 1:=by rw[rangeSize_one];split <;> omega
  rw[e1,e2];exact af _ rfl
 ·have e:b=(s.heap.push { cls:= .type "range",data:= .fields #[.int lo t,.int hi u,.int 1 v] }).objs.size:=by simpa using hb
  subst e;exact I1.fpOk (ai _) (I1.hok.fresh (ai _))
noncomputable def z0M (ta:TA):TI:=λσ H R=>ta σ H λvs H1=>∃j:Int,vs=[.int j]/\ -(2 ^ 62)<=j/\j < 2 ^ 62/\R (Itr 0 j.toNat) H1
noncomputable def z0N (ta:TA):TI:=λσ H R=>ta σ H λvs H1=>∃i j:Int,vs=[.int i,.int j]/\(-(2 ^ 62)<=i/\i < 2 ^ 62/\ -(2 ^ 62)<=j/\j < 2 ^ 62)/\R (Itr i (j - i).toNat) H1
theorem yT {a:Expr}{ta:TA}{p pos:Pos}(hg:Gl X "range")(hm:X.mg "range"=none)(ha:PA X [a] ta)(hs:starEach [a] X.env=[(false,eval a X.env)]:=by rfl):PI X tg (.Call (.Name "range" p) [a] [] pos) (z0M ta):=by
 intro pins s σ H R I h;refine Call_ (j8 I hg hm boot_range (aQ (thn (ha pos _ s σ H _ I h) λus s1 ⟨vs,H1,I1,r1,q1⟩=> ?_) hs rfl));obtain⟨j,e,q1,q2,q⟩:=q1;subst e;cases r1 with
 | cons r rr=>
  cases rr;obtain⟨t,rfl⟩:=r;exact call_range_1 (uV I1 (by omega) (by omega) q1 q2 (by simpa using q))
theorem yU {a b:Expr}{ta:TA}{p pos:Pos}(hg:Gl X "range")(hm:X.mg "range"=none)(ha:PA X [a,b] ta)(hs:starEach [a,b] X.env=[(false,eval a X.env),(false,eval b X.env)]:=by rfl)(hs2:starEach [b] X.env=[(false,eval b X.env)]:=by rfl):
  PI X tg (.Call (.Name "range" p) [a,b] [] pos) (z0N ta):=by
 intro pins s σ H R I h;refine Call_ (j8 I hg hm boot_range (aQ (thn (ha pos _ s σ H _ I h) λus s1 ⟨vs,H1,I1,r1,q1⟩=> ?_) (by rw[hs,hs2]) (by rw[hs2];rfl)))
 obtain⟨i,j,e,⟨q1,q2,q3,q4⟩,q⟩:=q1;subst e;cases r1 with
 | cons r rr=>
  cases rr with
  | cons r' rr=>
   cases rr;obtain⟨t,rfl⟩:=r;obtain⟨t',rfl⟩:=r';exact call_range_2 (uV I1 q1 q2 q3 q4 q)
noncomputable def tFor (wi:TI)(g:TG)(tb:TS):TS:=λD σ H=>wi σ H λJ H1=>∃W:Nat->Nat->St->Hp->Prop,(∃m,W 0 m σ H1)/\∀i m σ H,W i m σ H->
 (J.stop i H/\D.nx σ H)\/(J.go i H/\∃N:St->Hp->Prop,(∀σ' H',N σ' H' ->∃m',m' < m/\W (i+1) m' σ' H')/\∀x H',J.yld i H x H' ->g x σ H' λσ2 H2=>tb { D with nx:=N,ct:=N,bk:=D.nx } σ2 H2)
noncomputable def uW (fp:List Addr)(h:Heap):List (Addr×Obj):=fp.filterMap λb=>(h.get? b).map λo=>(b,o)
theorem jk {fp:List Addr}{h:Heap}{b:Addr}{o:Obj}(hb:b∈fp)(e:h.get? b=some o):(b,o)∈uW fp h:=fF.mpr ⟨b,hb,by rw[e];rfl⟩
theorem yV {fp:List Addr}{h:Heap}{p:Addr×Obj}(hp:p∈uW fp h):p.1∈fp/\h.get? p.1=some p.2:=by
 obtain⟨b,hb,e⟩:=fF.mp hp;cases q:h.get? b with
 | none=>rw[q]at e;cases e
 | some o=>
  rw[q]at e;have e' :=aH e;subst e';exact⟨hb,q⟩
theorem Inv.pinned {pins:List (Addr×Obj)}{σ:St}{H:Hp}{s:Shared}{fp:List Addr}(I:Inv X pins σ H s)(hf:∀b∈fp,Wn X pins H b)(ho:∀b∈fp,∃o,s.heap.get? b=some o/\∀v,o.data ≠ .cell v):Inv X (pins++uW fp s.heap) σ H s:=
 I.pins_of λp hp=>(cO.mp hp).elim (λz=>I.pin p (aX _ z)) λz=>by
  obtain⟨hb,e⟩:=yV z;obtain⟨f0,f1,f2,_⟩:=hf p.1 hb;obtain⟨o,e',d⟩:=ho p.1 hb;rw[e]at e';cases e';exact⟨e,f0,f1,f2,d⟩
theorem Inv.unpinned {pins pl:List (Addr×Obj)}{σ:St}{H:Hp}{s:Shared}(I:Inv X (pins++pl) σ H s):Inv X pins σ H s:=I.pins_of λp hp=>I.pin p (aX _ (db _ hp))
theorem kO {iter:Expr}{body:List Stmt}{wi:TI}{g:TG}{tb:TS}{pos:Pos}(hp:PassesOwn (model X.prog X.w) X.A X.env X.xe)(hc:X.calm=true)(hi:PI X tg iter wi)(hg:PG X tg g)(hb:PSs X body tb)
  (hs:∀x,foldedSetIterable iter X.env x=pure x:=by intro _;rfl):PS X (.For tg iter body [] pos) (tFor wi g tb):=by
 intro pins s σ H D I h;refine wpAny_For (thn (hi _ s σ H _ I h) λv s1 h1=>thn h1 λitv s2 h2=> ?_) hs;obtain⟨it,fp,tn,J,H2,e,I2,T,st2,f2,W,⟨m0,w0⟩,turn⟩:=h2;subst e;have stat:∀{H' :Hp},(∀b∈fp,H' b=none)->∀b∈fp,Wn X _ H' b:=λhn b hb=>⟨hn b hb,(f2 b hb).2⟩;refine codeAny_forLoop_any (λn s' =>∃i σ' H',Inv X _ σ' H' s' /\tn i s'.heap/\(∀b∈fp,H' b=none)/\W i n σ' H') ?_ m0 ⟨0,σ,H2,I2,st2,λb hb=>(f2 b hb).1,w0⟩
 rintro n s3 ⟨i,σ3,H3,I3,st3,fr3,w3⟩
 rcases turn i n σ3 H3 w3 with ⟨stop,qn⟩ | ⟨go,N,hN,step⟩
 ·refine bM hp (thn (T.done X rfl rfl rfl hc i _ s3 σ3 H3 _ I3 (stat fr3) st3 stop) λr s4 ⟨hr,I4⟩=> ?_);subst hr;exact wpAny_execs_nil ⟨σ3,H3,I4,qn⟩
 ·refine bM hp (thn (T.item X rfl rfl rfl hc i _ s3 σ3 H3 _ I3 (stat fr3) st3 go) λr s4 ⟨u,hr,h4⟩=> ?_);subst hr;refine bM hp (thn h4 λ_ s5 ⟨x,H5,I5,r5,y5,st5,fr5⟩=> ?_);have I5' :=I5.pinned (stat fr5) (T.obj _ _ st5);refine bM hp (thn (hg _ s5 σ3 H5 x u _ I5' r5 (step x H5 y5)) λ_ s6 ⟨σ6,H6,I6,q6⟩=> ?_);refine bM hp (thn (hb _ s6 σ6 H6 _ I6 q6) λf s7 q7=> ?_);have again:∀{σ7:St} {H7:Hp},Inv X (pins++uW fp _) σ7 H7 s7->N σ7 H7->∃m,m < n/\∃i σ' H',Inv X _ σ' H' s7/\tn i _/\(∀b∈fp,H' b=none)/\W i m σ' H' :=λ{σ7 H7} I7 n7=>by
   obtain⟨m',hm,w7⟩:=hN σ7 H7 n7;refine⟨m',hm,i+1,σ7,H7,I7.unpinned,T.keep _ _ _ st5 λb hb o e=>(I7.pin _ (aX _ (aX _ (jk hb e)))).1,λb hb=> ?_,w7⟩;obtain⟨o,e,d⟩:=T.obj _ _ st5 b hb;exact(I7.pin _ (aX _ (aX _ (jk hb e)))).2.1
  cases f with
  | next=>obtain⟨σ7,H7,I7,n7⟩:=q7;exact again I7 n7
  | cont=>obtain⟨σ7,H7,I7,n7⟩:=q7;exact again I7 n7
  | brk=>obtain⟨σ7,H7,I7,q7⟩:=q7;exact⟨σ7,H7,I7.unpinned,q7⟩
  | ret v=>obtain⟨x7,σ7,H7,I7,r7,q7⟩:=q7;exact⟨x7,σ7,H7,I7.unpinned,r7,q7⟩
end
end L2
namespace L2
open PySem PySem.Spec PyProof.Rows
noncomputable abbrev R2:=V->V->Hp->VK->Prop
noncomputable def OpR (X:Cx)(f:Value->Value->Sem Value)(r:R2):Prop:=
 ∀(pins:List (Addr×Obj)) (s:Shared) (σ:St) (H:Hp) (x y:V) (v u:Value) (Q:VK),Inv X pins σ H s->Zb x v->Zb y u->r x y H Q->
  wpAny (model X.prog X.w) X.A (f v u) (EP X pins σ Q) X.xe s
noncomputable def UnR (X:Cx)(f:Value->Sem Value)(r:V->Hp->VK->Prop):Prop:=
 ∀(pins:List (Addr×Obj)) (s:Shared) (σ:St) (H:Hp) (x:V) (v:Value) (Q:VK),Inv X pins σ H s->Zb x v->r x H Q->
  wpAny (model X.prog X.w) X.A (f v) (EP X pins σ Q) X.xe s
noncomputable def Zt (X:Cx)(f:Value)(r:List V->Hp->VK->Prop):Prop:=
 ∀(pins:List (Addr×Obj)) (s:Shared) (σ:St) (H:Hp) (xs:List V) (us:List Value) (Q:VK),Inv X pins σ H s->zZ xs us->r xs H Q->
  wpAny (model X.prog X.w) X.A (call f us) (EP X pins σ Q) X.xe s
noncomputable def TruR (X:Cx)(r:V->Hp->(Bool->Hp->Prop)->Prop):Prop:=
 ∀(pins:List _) (s:Shared) (σ:St) (H:Hp) (x:V) (v:Value) (Q:Bool->Hp->Prop),Inv X pins σ H s->Zb x v->r x H Q->
  wpAny (model X.prog X.w) X.A (truthy v) (TP X pins σ Q) X.xe s
noncomputable def tOp (r:R2)(ta tb:TE):TE:=λσ H Q=>ta σ H λx H1=>tb σ H1 λy H2=>r x y H2 Q
noncomputable def tUn (r:V->Hp->VK->Prop)(ta:TE):TE:=λσ H Q=>ta σ H λx H1=>r x H1 Q
noncomputable def rI (C:Int->Int->Prop)(g:Int->Int->V):R2:=λx y H Q=>∃i j,x= .int i/\y= .int j/\C i j/\Q (g i j) H
noncomputable def rI0 (g:Int->Int->V):R2:=λx y H Q=>∃i j,x= .int i/\y= .int j/\Q (g i j) H
noncomputable def rU (g:Int->V):V->Hp->VK->Prop:=λx H Q=>∃i,x= .int i/\Q (g i) H
section
variable {X:Cx}{a b c:Expr}{ta tb tc:TE}{pos:Pos}
theorem z0O (ha:PE X a ta)(hb:PE X b tb){pins:List (Addr×Obj)}{s:Shared}{σ:St}{H:Hp}{R:V->V->Hp->Prop}(I:Inv X pins σ H s)
  (h:ta σ H λx H1=>tb σ H1 λy H2=>R x y H2) {Q:Value->Shared->Prop} {f:Value->Value->Sem Value}
  (hf:∀v u s2 x y H2,Inv X pins σ H2 s2->Zb x v->Zb y u->R x y H2->wpAny (model X.prog X.w) X.A (f v u) Q X.xe s2):
  wpAny (model X.prog X.w) X.A (eval a X.env) (λv s₁=>wpAny (model X.prog X.w) X.A (eval b X.env) (λu s₂=>wpAny (model X.prog X.w) X.A (f v u) Q X.xe s₂) X.xe s₁) X.xe s:=by
 refine thn (ha _ s σ H _ I h) λv s1 ⟨x,H1,I1,r1,q1⟩=> ?_;refine thn (hb _ s1 σ H1 _ I1 q1) λu s2 ⟨y,H2,I2,r2,q2⟩=> ?_;exact hf v u s2 x y H2 I2 r1 r2 q2
theorem kP {op:Operator}{r:R2}(ho:OpR X (binaryOp op) r)(ha:PE X a ta)(hb:PE X b tb):PE X (.BinOp a op b pos) (tOp r ta tb):=by
 intro pins s σ H Q I h;exact wpAny_BinOp (z0O ha hb I h λv u s2 x y H2 I2 rx ry q=>ho _ s2 σ H2 x y v u Q I2 rx ry q)
theorem z0P {op:UnaryOp}{r:V->Hp->VK->Prop}(ho:UnR X (unaryOp op) r)(ha:PE X a ta):PE X (.UnaryOp op a pos) (tUn r ta):=by
 intro pins s σ H Q I h;exact UnaryOp_ (thn (ha _ s σ H _ I h) λv s1 ⟨x,H1,I1,r1,q1⟩=>ho _ s1 σ H1 x v Q I1 r1 q1)
theorem opI {f:Value->Value->Sem Value}{C:Int->Int->Prop}{g:Int->Int->Int}
  (rule:∀(i j:Int) (t u:Tok) (s:Shared) (Q:Value->Shared->Prop) (E:Value->Shared->Prop),C i j->Q (.int (g i j) s.toks) { s with toks:=s.toks+1 }->wpAny (model X.prog X.w) X.A (f (.int i t) (.int j u)) Q E s):
  OpR X f (rI C λi j=> .int (g i j)):=by
 intro pins s σ H x y v u Q I rx ry h;obtain⟨i,j,rfl,rfl,hc,q⟩:=h;obtain⟨t,rfl⟩:=rx;obtain⟨t',rfl⟩:=ry;exact rule i j t t' s _ _ hc ⟨.int _,H,I.tok _,⟨_,rfl⟩,q⟩
theorem opI0 {f:Value->Value->Sem Value}{g:Int->Int->Int}
  (rule:∀(i j:Int) (t u:Tok) (s:Shared) (Q:Value->Shared->Prop) (E:Value->Shared->Prop),Q (.int (g i j) s.toks) { s with toks:=s.toks+1 }->wpAny (model X.prog X.w) X.A (f (.int i t) (.int j u)) Q E s):
  OpR X f (rI0 λi j=> .int (g i j)):=by
 intro pins s σ H x y v u Q I rx ry h;obtain⟨i,j,rfl,rfl,q⟩:=h;obtain⟨t,rfl⟩:=rx;obtain⟨t',rfl⟩:=ry;exact rule i j t t' s _ _ ⟨.int _,H,I.tok _,⟨_,rfl⟩,q⟩
theorem GO {f:Value->Value->Sem Value}{g:Int->Int->Bool}
  (rule:∀(i j:Int) (t u:Tok) (s:Shared) (Q:Value->Shared->Prop) (E:Value->Shared->Prop),Q (.bool (g i j)) s->wpAny (model X.prog X.w) X.A (f (.int i t) (.int j u)) Q E s):
  OpR X f (rI0 λi j=> .bl (g i j)):=by
 intro pins s σ H x y v u Q I rx ry h;obtain⟨i,j,rfl,rfl,q⟩:=h;obtain⟨t,rfl⟩:=rx;obtain⟨t',rfl⟩:=ry;exact rule i j t t' s _ _ ⟨.bl _,H,I,rfl,q⟩
noncomputable def CDiv (i j:Int):Prop:=0 < j/\j < 1073741824
noncomputable def Wc (i j:Int):Prop:=(-(2 ^ 64) < i/\i < 2 ^ 64)\/(-(2 ^ 64) < j/\j < 2 ^ 64)
theorem Wc.ok {i j:Int}(h:Wc i j):IntMulOk i j:=by
 rcases h with ⟨h1,h2⟩ | ⟨h1,h2⟩
 ·exact .of_left (intBits_le_64 h1 h2)
 ·exact .of_right (intBits_le_64 h1 h2)
theorem kQ:OpR X (binaryOp .Add) (rI0 λi j=> .int (i+j)):=opI0 λ_ _ _ _ _ _ _ q=>add_int q
theorem kR:OpR X (binaryOp .Sub) (rI0 λi j=> .int (i - j)):=opI0 λ_ _ _ _ _ _ _ q=>sub_int q
theorem kS:OpR X (binaryOp .Mult) (rI Wc λi j=> .int (i*j)):=opI λ_ _ _ _ _ _ _ hc q=>mul_int q hc.ok
theorem VU:OpR X (binaryOp .FloorDiv) (rI CDiv λi j=> .int (i / j)):=opI λi j _ _ _ _ _ hc q=>by
 have h1:=hc.1;have h2:=hc.2;exact floordiv_int (by omega) (by rw[du i (by omega)];exact q) (.inl (PyProof.noPylong_small (by omega)))
theorem kT:OpR X (binaryOp .Mod) (rI (λ_ j=>0 < j) λi j=> .int (i % j)):=opI λi j _ _ _ _ _ hc q=>by
 exact mod_int' (by omega) (by rw[Int.fmod_eq_emod_of_nonneg i (by omega)];exact q)
theorem unI {f:Value->Sem Value}{g:Int->Int}
  (rule:∀(i:Int) (t:Tok) (s:Shared) (Q:Value->Shared->Prop) (E:Value->Shared->Prop),Q (.int (g i) s.toks) { s with toks:=s.toks+1 }->wpAny (model X.prog X.w) X.A (f (.int i t)) Q E s):
  UnR X f (rU λi=> .int (g i)):=by
 intro pins s σ H x v Q I rx h;obtain⟨i,rfl,q⟩:=h;obtain⟨t,rfl⟩:=rx;exact rule i t s _ _ ⟨.int _,H,I.tok _,⟨_,rfl⟩,q⟩
theorem kU:UnR X (unaryOp .USub) (rU λi=> .int (-i)):=unI λ_ _ _ _ _ q=>neg_int q
theorem yW:OpR X (binaryOp .Add) (λx y H Q=>∃i k,x= .int i/\y= .bl k/\Q (.int (i+b2i k)) H):=by
 intro pins s σ H x y v u Q I rx ry h;obtain⟨i,k,rfl,rfl,q⟩:=h;obtain⟨t,rfl⟩:=rx;cases ry;exact add_int_bool ⟨.int _,H,I.tok _,⟨_,rfl⟩,q⟩
end
section
variable {X:Cx}{a b c:Expr}{ta tb tc:TE}{pos:Pos}
theorem z0Q:OpR X (compareOp .Lt) (rI0 λi j=> .bl (decide (i < j))):=GO λ_ _ _ _ _ _ _ q=>lt_int q
theorem z0R:OpR X (compareOp .LtE) (rI0 λi j=> .bl (decide (i<=j))):=GO λ_ _ _ _ _ _ _ q=>le_int q
theorem z0S:OpR X (compareOp .Gt) (rI0 λi j=> .bl (decide (j < i))):=GO λ_ _ _ _ _ _ _ q=>gt_int q
theorem z0T:OpR X (compareOp .GtE) (rI0 λi j=> .bl (decide (j<=i))):=GO λ_ _ _ _ _ _ _ q=>ge_int q
theorem j9 (b:Expr){op:CmpOp}(h:op ≠ .In:=by decide)(h2:op ≠ .NotIn:=by decide):behindInMarks op b=false:=by
 have e1:(op == CmpOp.In)=false:=by cases op <;> first | rfl | exact absurd rfl h
 have e2:(op == CmpOp.NotIn)=false:=by cases op <;> first | rfl | exact absurd rfl h2
 cases b <;> simp[behindInMarks,e1,e2]
theorem yX {op:CmpOp}{r:R2}(ho:OpR X (compareOp op) r)(ha:PE X a ta)(hb:PE X b tb)(hm:behindInMarks op b=false):PE X (.Compare a [op] [b] pos) (tOp r ta tb):=by
 intro pins s σ H Q I h;exact wpAny_Compare1 (z0O ha hb I h λv u s2 x y H2 I2 rx ry q=>ho _ s2 σ H2 x y v u Q I2 rx ry q) hm
noncomputable def kW (t:TE):TT:=λσ H Q=>t σ H λx H' =>∃k,x= .bl k/\Q k H'
theorem yY {op:CmpOp}{r:R2}(ho:OpR X (compareOp op) r)(ha:PE X a ta)(hb:PE X b tb)(hm:behindInMarks op b=false):PT X (.Compare a [op] [b] pos) (kW (tOp r ta tb)):=by
 intro pins s σ H Q I h;refine wpAny_isTrue_Compare1 (thn (ha _ s σ H _ I h) λv s1 ⟨x,H1,I1,r1,q1⟩=>thn (hb _ s1 σ H1 _ I1 q1) λu s2 ⟨y,H2,I2,r2,q2⟩=>
  thn (ho _ s2 σ H2 x y v u _ I2 r1 r2 q2) λc s3 ⟨z,H3,I3,r3,k,e,q3⟩=> ?_) hm
 subst e;cases r3;exact aZ ⟨H3,I3,q3⟩
noncomputable def Vb (r r' :R2)(ta tb tc:TE):TE:=λσ H Q=>ta σ H λx H1=>tb σ H1 λy H2=>r x y H2 λz H3=>∃k,z= .bl k/\
 (if k=true then tc σ H3 λw' H4=>r' y w' H4 Q else Q (.bl false) H3)
theorem QJ {op op' :CmpOp}{r r' :R2}(ho:OpR X (compareOp op) r)(ho' :OpR X (compareOp op') r')(ha:PE X a ta)(hb:PE X b tb)(hc:PE X c tc)
  (hm:lastMarks [op,op'] [b,c]=false:=by with_unfolding_all rfl):PE X (.Compare a [op,op'] [b,c] pos) (Vb r r' ta tb tc):=by
 intro pins s σ H Q I h;refine Compare_chain (thn (ha _ s σ H _ I h) λv s1 ⟨x,H1,I1,r1,q1⟩=>chain_link (thn (hb _ s1 σ H1 _ I1 q1) λu s2 ⟨y,H2,I2,r2,q2⟩=>
  thn (ho _ s2 σ H2 x y v u _ I2 r1 r2 q2) λd s3 ⟨z,H3,I3,r3,k,e,q3⟩=> ?_)) hm
 subst e;cases r3;refine aZ ?_;cases k with
 | false=>exact ite_ff ⟨.bl _,H3,I3,rfl,q3⟩
 | true=>exact ite_tt (chain_last (thn (hc _ s3 σ H3 _ I3 q3) λw' s4 ⟨z',H4,I4,r4,q4⟩=>ho' _ s4 σ H4 y z' u w' Q I4 r2 r4 q4))
theorem QK {op op' :CmpOp}{r r' :R2}(ho:OpR X (compareOp op) r)(ho' :OpR X (compareOp op') r')(ha:PE X a ta)(hb:PE X b tb)(hc:PE X c tc)
  (hm:lastMarks [op,op'] [b,c]=false:=by with_unfolding_all rfl):PT X (.Compare a [op,op'] [b,c] pos) (kW (Vb r r' ta tb tc)):=by
 intro pins s σ H Q I h;refine isTrue_chain (thn (ha _ s σ H _ I h) λv s1 ⟨x,H1,I1,r1,q1⟩=>test_link (thn (hb _ s1 σ H1 _ I1 q1) λu s2 ⟨y,H2,I2,r2,q2⟩=>
  thn (ho _ s2 σ H2 x y v u _ I2 r1 r2 q2) λd s3 ⟨z,H3,I3,r3,k,e,q3⟩=> ?_)) hm
 subst e;cases r3;refine aZ ?_;cases k with
 | false=>
  obtain⟨k',e',q'⟩:=q3;cases e';exact ite_ff ⟨H3,I3,q'⟩
 | true=>
  refine ite_tt (test_last (thn (hc _ s3 σ H3 _ I3 q3) λw' s4 ⟨z',H4,I4,r4,q4⟩=>thn (ho' _ s4 σ H4 y z' u w' _ I4 r2 r4 q4) λd' s5 ⟨z2,H5,I5,r5,k2,e2,q5⟩=> ?_));subst e2;cases r5;exact aZ ⟨H5,I5,q5⟩
noncomputable def TruV (K:a8)(x:V)(H:Hp)(k:Bool):Prop:=
 match x with
 | .non=>k=false
 | .bl b=>k=b
 | .int i=>k=(i != 0)
 | .str y=>y.length<=sizeLine/\k=((y.length:Int) != 0)
 | .byt y=>y.size<=sizeLine/\k=((y.size:Int) != 0)
 | .ref p=>(∃xs,SqL K H p xs/\k= !xs.isEmpty)\/(∃xs,SqT K H p xs/\k= !xs.isEmpty)\/∃kvs,H p=some (.dK kvs)/\k= !kvs.isEmpty
 | _=>False
theorem UY {κ:Type}{kvs:List (κ×V)}{vs:List (κ×Value)}(r:KV kvs vs):(!vs.isEmpty)= !kvs.isEmpty:=by
 cases r <;> rfl
theorem wg {xs:List V}{its:List Value}(r:zZ xs its):(!its.toArray.isEmpty)= !xs.isEmpty:=by
 cases r <;> simp
theorem Wo:(sizeLine:Nat) < 2 ^ 63:=by decide
theorem kX:TruR X (λx H Q=>∃k,TruV X.K x H k/\Q k H):=by
 intro pins s σ H x v Q I rx h;obtain⟨k,e,q⟩:=h;have hs:=bO;cases x with
 | non=>
  cases rx;have e' :k=false:=e;subst e';exact truthy_none ⟨H,I,q⟩
 | bl b=>
  cases rx;have e' :k=b:=e;subst e';exact aZ ⟨H,I,q⟩
 | int i=>
  obtain⟨t,rfl⟩:=rx;have e' :k=(i != 0):=e;subst e';exact PySem.P.truthy_int ⟨H,I,q⟩
 | str y=>
  obtain⟨t,rfl⟩:=rx;obtain⟨hy,e'⟩:y.length<=sizeLine/\k=((y.length:Int) != 0):=e;subst e';exact PySem.P.truthy_str (by omega) ⟨H,I.tok _,q⟩
 | byt y=>
  obtain⟨t,rfl⟩:=rx;obtain⟨hy,e'⟩:y.size<=sizeLine/\k=((y.size:Int) != 0):=e;subst e';exact PySem.W.truthy_bytes (by omega) ⟨H,I.tok _,q⟩
 | ref p=>
  cases rx;have e' :=e;rcases e' with ⟨xs,hx,e'⟩ | ⟨xs,hx,e'⟩ | ⟨kvs,hx,e'⟩
  ·subst e';obtain⟨its,r,pl,hz⟩:=I.list hx;have hlen:=r.length;exact wpAny_truthy_list pl.isList (by simp only[ay];omega) ⟨H,I.tok _,by rw[wg r];exact q⟩
  ·subst e';obtain⟨its,r,pl,hz⟩:=I.tuple hx;have hlen:=r.length;exact truthy_tuple pl (by simp only[ay];omega) ⟨H,I.tok _,by rw[wg r];exact q⟩
  ·subst e';obtain⟨hz,hS,vs,r,m⟩:kvs.length<=sizeLine/\(p == sysModules)=false/\∃vs,KV kvs vs/\s.heap.DictOf _ p vs:=I.hok p _ hx;have hlen:=Paired.length r;exact wpAny_truthy_dict hS m (by omega) ⟨H,I.tok _,by rw[UY r];exact q⟩
 | _=>exact(e).elim
theorem QL (ha:PE X a ta)(he:∀whole,isTrue a X.env whole=(do let v ← whole;standAt a.pos;holding [v] (truthy v))):
  PT X a (λσ H Q=>ta σ H λx H' =>∃k,TruV X.K x H' k/\Q k H'):=by
 intro pins s σ H Q I h;exact isTrue_plain (thn (ha _ s σ H _ I h) λv s1 ⟨x,H1,I1,r1,q1⟩=>kX _ s1 σ H1 x v Q I1 r1 q1) (he _)
theorem UZ:OpR X (binaryOp .Add) (λx y H Q=>∃i j,x= .str i/\y= .str j/\i.length+j.length<=sizeLine/\Q (.str (i++j)) H):=by
 intro pins s σ H x y v u Q I rx ry h;obtain⟨i,j,rfl,rfl,hz,q⟩:=h;obtain⟨t,rfl⟩:=rx;obtain⟨t',rfl⟩:=ry;exact add_str (λt' tk=>⟨.str _,H,I.tok _,⟨_,rfl⟩,q⟩) hz
theorem ZN {x:V}{us:List Value}(r:zZ [x] us):∃u,us=[u]/\Zb x u:=by
 cases r with
 | cons r1 r2=>cases r2;exact⟨_,rfl,r1⟩
theorem yZ {x y:V}{us:List Value}(r:zZ [x,y] us):∃u w',us=[u,w']/\Zb x u/\Zb y w' :=by
 cases r with
 | cons r1 r2=>
  cases r2 with
  | cons r3 r4=>cases r4;exact⟨_,_,rfl,r1,r3⟩
theorem QN:Zt X (.builtin "abs") (λxs H Q=>∃i,xs=[.int i]/\Q (.int (if i < 0 then -i else i)) H):=by
 intro pins s σ H xs us Q I r h;obtain⟨i,rfl,q⟩:=h;obtain⟨u,rfl,t,rfl⟩:=ZN r;exact call_abs_int λu tk=>⟨.int _,H,I.tok _,⟨_,rfl⟩,q⟩
theorem Y0 (hc:X.calm=true):Zt X (.builtin "min") (λxs H Q=>∃i j,xs=[.int i,.int j]/\Q (.int (if j < i then j else i)) H):=by
 intro pins s σ H xs us Q I r h;obtain⟨i,j,rfl,q⟩:=h;obtain⟨u,w',rfl,⟨t,rfl⟩,⟨t',rfl⟩⟩:=yZ r;refine min_two_ints (I.ok.hd hc) λh' tk k=>⟨_,H,I.kept k, ?_,q⟩
 by_cases hj:j < i
 ·rw[if_pos hj,if_pos hj];exact⟨_,rfl⟩
 ·rw[if_neg hj,if_neg hj];exact⟨_,rfl⟩
theorem Y1:Zt X (.type "int") (λxs H Q=>(∃i,xs=[.int i]/\Q (.int i) H)\/∃k,xs=[.bl k]/\Q (.int (if k then 1 else 0)) H):=by
 intro pins s σ H xs us Q I r h;rcases h with ⟨i,rfl,q⟩ | ⟨k,rfl,q⟩
 ·obtain⟨u,rfl,t,rfl⟩:=ZN r;exact call_int_int ⟨.int i,H,I,⟨_,rfl⟩,q⟩
 ·obtain⟨u,rfl,r1⟩:=ZN r;cases r1;exact call_int_bool ⟨.int _,H,I.tok _,⟨_,rfl⟩,q⟩
end
end L2
namespace L2
open PySem PySem.Spec PyProof.Rows
structure VV (h:Heap) (x dx C:Addr) (mA:Str->Option Value):Prop where
 obj:h.get? x=some (ci C dx)
 ns:h.Ns1 dx mA
 ne:dx ≠ x
theorem Y2 {h:Heap}{dx:Addr}{mA:Str->Option Value}(n:h.Ns1 dx mA):∃od,h.get? dx=some od/\∀name,dv name od=some (mA name):=by
 obtain⟨o,es,ep,ho,hd,hk,_,hm⟩:=n;refine⟨o,ho,λname=> ?_⟩;have e:=hm name;unfold nsFind findBy at e;rw[← Array.find?_toList]at e;unfold dv;rw[hd];dsimp only;split
 ·rename_i y q;rw[q]at e;exact congrArg _ e
 ·rename_i q;rw[q]at e;have a:es.toList.any (·.refKey)=false:=by
   rw[fL];intro y hy;obtain⟨z,t,hkey⟩:=hk y (Array.mem_toList_iff.mp hy);simp[DictEntry.refKey,hkey]
  have a' :¬ es.toList.any (·.refKey)=true:=by rw[a];exact au
  rw[if_neg a'];exact congrArg _ e
theorem VV.look {h:Heap}{x dx C:Addr}{mA:Str->Option Value}(I:VV h x dx C mA):∃od,PySem.W.InstAt h x (ci C dx) C (some od)/\∀name,dv name od=some (mA name):=
 let ⟨od,ho,hl⟩:=Y2 I.ns
 ⟨od,⟨I.obj,rfl,rfl,ho⟩,hl⟩
section
variable {prog:Program}{w:World}{A:Around}{E:Value->Shared->Prop}{s:Shared}{K:a8}{x dx C f:Addr}{mA:Str->Option Value}{name:Str}{v:Value}
theorem VW {expr:Bool}{Q:Value->Shared->Prop}(X:K.In s.heap)(I:VV s.heap x dx C mA)(hg:d8 K C name=true)(hh:dM K C=true)
  (ha:bj K (.ref C) name=some none) (hv:mA name=some v) (hv' :hV v=true) (h:Q v { s with toks:=s.toks+1 }):
  wpAny (model prog w) A (getAttr (.ref x) name expr) Q E s:=by
 obtain⟨od,J,hl⟩:=I.look;exact PySem.W.get_value X J (dk hg).1 (PySem.W.findObj_own hh ha rfl (by rw[hl,hv])) hv' h
theorem QO {pl:Sem Bool}{Q:Value×List Value->Shared->Prop}(X:K.In s.heap)(I:VV s.heap x dx C mA)(hg:d8 K C name=true)
  (hf:bj K (.ref C) name=some (some (.ref f))) (ht:eM K (.ref f)=true) (hv:mA name=none) (h:Q (.ref f,[.ref x]) s):
  wpAny (model prog w) A (getMethod (.ref x) name pl) Q E s:=by
 obtain⟨od,J,hl⟩:=I.look;exact PySem.W.method_fn X J (dk hg).1 (dk hg).2 hf (beq_iff_eq.mp ht) (by show (dv _ od).map _=some _;rw[hl,hv];rfl) h
theorem VX {ns:List Str}{Q:Unit->Shared->Prop}(X:K.In s.heap)(I:VV s.heap x dx C mA)
  (hs:bj K (.ref C) "__setattr__"=some (some (.builtin "object.__setattr__"))) (hp:fM K C=true) (ht:eX K C name=some none) (hh:dM K C=true)
  (hw:eK mA ns) (hsz:ns.length<=sizeLine)
  (h:∀h',VV h' x dx C (λy=>if y=name then some v else mA y)->bN dx s.heap h' ->Q () { s with heap:=h',toks:=s.toks+2 }):
  wpAny (model prog w) A (setAttr (.ref x) name v) Q E s:=by
 obtain⟨od,J,hl⟩:=I.look;refine PySem.W.set_plain X J hs (PySem.W.osa_open X J hp ht λb=> ?_);obtain⟨cd,hc,hd'⟩:=PySem.W.any_some hh;have hx:=I.obj;refine a7 (ak (a7 (a7 (wpAny_loadPart hx (a7 (PySem.W.Looks.here (PySem.W.looks_clsIn X hc) ?_))))));rw[hd'];refine ak (a7 (ak (a7 ?_)));refine wpAny_nsSet1 I.ns λh' hn2 hs2=> ?_;obtain⟨oD,esD,epD,hoD,hdD,hcD⟩:=hn2.count (eK.cons _ v hw);refine a7 (wpAny_lookBehind hoD (by rw[hdD];exact pastItsLine_dict (aq hcD (by rw[aj];omega))) ?_)
 exact ak (h _ ⟨(hs2.2 _ (aU I.ne)).trans I.obj,hn2,I.ne⟩ hs2)
theorem QP {R:Result->Shared->Prop}{vs:List Value}{kw:List (Str×Value)}(X:K.In s.heap)(hm:io K C=true)
  (hi:bj K (.ref C) "__init__"=some (some (.ref f))) (hf:PySem.W.typeIn K (.ref f)=some (.type "function"))
  (h:codeAny (model prog w) (A.under (.builtin "type.__call__" ⟨.ref C :: vs,kw⟩)) (.call (.ref f) ⟨.ref (s.heap.objs.size+1) :: vs,kw⟩) (PySem.W.InitBack (s.heap.objs.size+1) R)
   { s with heap:=(s.heap.push cz).push (ci C s.heap.objs.size) }):
  codeAny (model prog w) A (.call (.ref C) ⟨vs,kw⟩) R s:=by
 exact PySem.W.make_core (PySem.W.makes_of X hm) (PySem.W.looks_findIn X hi) (λself=>PySem.W.bind_fn X _ hf) (.inl rfl) h
end
noncomputable def putF (f:Str)(v:V):List (Str×V)->List (Str×V)
 | []=>[(f,v)]
 | (g,x) :: r=>if g=f then (g,v) :: r else (g,x) :: putF f v r
theorem lookup_putF (f g:Str)(v:V):∀fs:List (Str×V),(putF f v fs).lookup g=if g=f then some v else fs.lookup g
 | []=>by
  show cQ g [(f,v)]=_
  by_cases h:g=f
  ·have hb:=beq_iff_eq.mpr h;simp only[cQ,hb,if_pos h]
  ·have hb:=beq_eq_false_iff_ne.mpr h;simp only[cQ,hb,if_neg h]
 | (k,x) :: r=>by
  have ih:=lookup_putF f g v r;rw[show putF f v _=(if k=f then (k,v) :: r else (k,x) :: putF f v r) from rfl]
  by_cases hk:k=f
  ·rw[if_pos hk]
   by_cases h:g=k
   ·have hb:=beq_iff_eq.mpr h;simp only[cQ,hb,if_pos (h.trans hk)]
   ·have hb:=beq_eq_false_iff_ne.mpr h;simp only[cQ,hb,if_neg (λe:g=f=>h (e.trans hk.symm))]
  ·rw[if_neg hk]
   by_cases h:g=k
   ·have hb:=beq_iff_eq.mpr h;simp only[cQ,hb,if_neg (λe=>hk (h.symm.trans e))]
   ·have hb:=beq_eq_false_iff_ne.mpr h;simp only[cQ,hb];exact ih
theorem Jy (f:Str)(v:V):∀fs:List (Str×V),f∈(putF f v fs).map (·.1)/\∀g,g∈fs.map (·.1)->g∈(putF f v fs).map (·.1)
 | []=>⟨by simp[putF],λg h=>by simp at h⟩
 | (k,x) :: r=>by
  obtain⟨i1,i2⟩:=Jy f v r;rw[show putF f v _=(if k=f then (k,v) :: r else (k,x) :: putF f v r) from rfl]
  by_cases hk:k=f
  ·subst hk;exact⟨by simp,λg h=>by simpa using h⟩
  ·rw[if_neg hk];refine⟨?_,λg h=> ?_⟩
   ·exact a9 _ i1
   ·rcases ah.mp h with e | e
    ·exact ah.mpr (.inl e)
    ·exact a9 _ (i2 g e)
theorem Jz (f:Str)(v:V):∀fs:List (Str×V),(putF f v fs).length<=fs.length+1
 | []=>by simp[putF]
 | (k,x) :: r=>by
  have ih:=Jz f v r;rw[show putF f v _=(if k=f then (k,v) :: r else (k,x) :: putF f v r) from rfl]
  by_cases hk:k=f
  ·rw[if_pos hk,aj,aj];omega
  ·rw[if_neg hk,aj,aj];omega
theorem QF.some_of {v:V}{o:Option Value}(r:QF (some v) o):∃u,o=some u/\Zb v u:=by
 cases o with
 | none=>exact(r).elim
 | some u=>exact⟨u,rfl,r⟩
theorem QF.none_of {o:Option Value}(r:QF none o):o=none:=by
 cases o with
 | none=>rfl
 | some u=>exact(r).elim
theorem Y3 {v:V}{u:Value}(r:Zb v u):hV u=true:=by
 cases v with
 | non=>cases (r);rfl
 | bl b=>cases (r);rfl
 | int i=>obtain⟨t,e⟩:=(r);cases e;rfl
 | str x=>obtain⟨t,e⟩:=(r);cases e;rfl
 | byt b=>obtain⟨t,e⟩:=(r);cases e;rfl
 | flt b=>obtain⟨t,e⟩:=(r);cases e;rfl
 | ref a=>cases (r);rfl
 | ty n=>cases (r);rfl
section
variable {P:Program}{w:World}{H H' :Hp}{h h' :Heap}{a C dx:Addr}{fs fs' :List (Str×V)}
theorem wH (hok:HOk P w H h)(e:H a=some (.ins C dx fs)):∃mA,VV h a dx C mA/\(∀f,QF (fs.lookup f) (mA f))/\eK mA (fs.map (·.1))/\fs.length<=1000/\H dx=some (.own a):=by
 obtain⟨d,z,ne,ob,mA,n,r,q⟩:=(show Zc P w H h a _ from hok a _ e);exact⟨mA,⟨ob,n,ne⟩,r,q,z,d⟩
end
structure Cls (K:a8) (C:Addr):Prop where
 pg:d8 K C Str.empty=true
 hd:dM K C=true
 po:fM K C=true
 sa:bj K (.ref C) "__setattr__"=some (some (.builtin "object.__setattr__"))
theorem Cls.get {K:a8}{C:Addr}(c:Cls K C)(f:Str):d8 K C f=true:=c.pg
noncomputable def NoAttr (K:a8)(C:Addr)(f:Str):Prop:=bj K (.ref C) f=some none
theorem NoAttr.taker {K:a8}{C:Addr}{f:Str}(n:NoAttr K C f):eX K C f=some none:=by
 unfold eX;rw[show bj K _ f=some _ from n];rfl
structure Meth (K:a8) (C:Addr) (m:Str) (f:Addr):Prop where
 at_:bj K (.ref C) m=some (some (.ref f))
 fn:eM K (.ref f)=true
 kp:bu K (.ref f)=true
section
variable {X:Cx}{pins:List (Addr×Obj)}{σ:St}{H:Hp}{s:Shared}{a C dx:Addr}{fs:List (Str×V)}{f:Str}{v:V}{A:Around}{E:Value->Shared->Prop}
theorem y9 {b:Bool}{Q:Value->Shared->Prop}(I:Inv X pins σ H s)(e:H a=some (.ins C dx fs))(c:Cls X.K C)(n:NoAttr X.K C f)(l:fs.lookup f=some v)
  (h:∀u s',Inv X pins σ H s' ->Zb v u->Q u s'):wpAny (model X.prog X.w) A (getAttr (.ref a) f b) Q E s:=by
 obtain⟨mA,O,r,_,_,_⟩:=wH I.hok e;obtain⟨u,hu,ru⟩:=QF.some_of (by rw[← l];exact r f)
 exact VW I.kIn O (c.get f) c.hd n hu (Y3 ru) (h u _ (I.tok _) ru)
theorem jQ {m:Str}{g:Addr}{pl:Sem Bool}{Q:Value×List Value->Shared->Prop}(I:Inv X pins σ H s)(e:H a=some (.ins C dx fs))(c:Cls X.K C)(k:Meth X.K C m g)(l:fs.lookup m=none)
  (h:Q (.ref g,[.ref a]) s):wpAny (model X.prog X.w) A (getMethod (.ref a) m pl) Q E s:=by
 obtain⟨mA,O,r,_,_,_⟩:=wH I.hok e;have hn:=QF.none_of (by rw[← l];exact r m)
 exact QO I.kIn O (c.get m) k.at_ k.fn hn h
theorem ya {y:V}{u:Value}{Q:Unit->Shared->Prop}(I:Inv X pins σ H s)(e:H a=some (.ins C dx fs))(c:Cls X.K C)(n:NoAttr X.K C f)(hl:fs.length < 1000)(ry:Zb y u)
  (h:∀s',Inv X pins σ (upd H a (.ins C dx (putF f y fs))) s' ->Q () s'):wpAny (model X.prog X.w) A (setAttr (.ref a) f u) Q E s:=by
 obtain⟨mA,O,r,wi,_,ho⟩:=wH I.hok e;have hz:(fs.map (·.1)).length<=sizeLine:=by rw[ac,bO];omega
 refine VX I.kIn O c.sa c.po n.taker c.hd wi hz λh' O' sb=>h _ ?_;have hd:∃o,h'.get? dx=some o:=let ⟨o,_,_,e',_⟩:=O'.ns;⟨o,e'⟩;refine I.write (by rw[e];exact True.intro) (.inr ho) (λb q hb z=>(sb.2 b hb).trans z) hd ?_
 refine⟨by rw[zv O.ne];exact ho, ?_,O.ne,O'.obj,_,O'.ns,λg=> ?_,λg hg=> ?_⟩
 ·have:=Jz f y fs;omega
 ·rw[lookup_putF]
  by_cases q:g=f
  ·rw[if_pos q,if_pos q];exact ry
  ·rw[if_neg q,if_neg q];exact r g
 ·by_cases q:g=f
  ·rw[q];exact(Jy f y fs).1
  ·refine(Jy f y fs).2 g (wi g λz=>hg ?_);show (if g=f then some u else mA g)=none
   rw[if_neg q];exact z
theorem Inv.made (I:Inv X pins σ H s):Inv X pins σ (upd (upd H s.heap.objs.size (.own (s.heap.objs.size+1))) (s.heap.objs.size+1) (.ins C s.heap.objs.size []))
  { s with heap:=(s.heap.push cz).push (ci C s.heap.objs.size) }:=by
 have e1:(s.heap.push cz).get? _=some _:=af _ rfl;have e2:=by
  have:=af (s.heap.push cz) (o:=ci C s.heap.objs.size) rfl;rwa[bx]at this
 have e3:(s.heap.push _).Ns _ (λ_=>none):=⟨cz, #[],_,e1,rfl,(λe he=>absurd he (by simp)),λ_=>rfl⟩
 have I1:=I.laid (o:= .own (s.heap.objs.size+1)) (t' :=s.toks) (λb u q=>ab _ q) (ai _) ⟨_,e1⟩;refine I1.laid (λb u q=>ab _ q) (Nat.le_of_eq (bx _ _)) ?_;have ne:s.heap.objs.size ≠ s.heap.objs.size+1:=az (bW _);refine⟨by rw[zv ne,zC],b9 _,ne,e2,λ_=>none,(Heap.Ns1.of_empty e3).at λo q=>ab _ q,λ_=>True.intro,λy hy=>absurd rfl hy⟩
theorem VY {prog:Program}{w:World}{env:Env}{e:Expr}{f:Str}{pos:Pos}{s:Shared}{Q:Value->Shared->Prop}(hb:attributeBase e f env (eval e env)=eval e env)
  (h:wpAny (model prog w) A (eval e env) (λo s₁=>wpAny (model prog w) A (getAttr o f true) Q E s₁) E s):wpAny (model prog w) A (eval (.Attribute e f pos) env) Q E s:=
 Attribute_any_ h (by rw[arm_eval_Attribute,hb])
end
noncomputable def tFld (K:a8)(ta:TE)(f:Str):TE:=λσ H Q=>ta σ H λx H1=>∃a C dx fs v,x= .ref a/\H1 a=some (.ins C dx fs)/\Cls K C/\NoAttr K C f/\fs.lookup f=some v/\Q v H1
noncomputable def sFld (K:a8)(ta tv:TE)(f:Str):TS:=λD σ H=>tv σ H λy H1=>ta σ H1 λx H2=>∃a C dx fs,x= .ref a/\H2 a=some (.ins C dx fs)/\Cls K C/\NoAttr K C f/\fs.length < 1000/\
 D.nx σ (upd H2 a (.ins C dx (putF f y fs)))
section
variable {X:Cx}{o e value:Expr}{f:Str}{pos pos' tpos:Pos}{ta tv:TE}
theorem uX (he:PE X e ta)(hb:attributeBase e f X.env (eval e X.env)=eval e X.env):PE X (.Attribute e f pos) (tFld X.K ta f):=by
 intro pins s σ H Q I h;refine VY hb (thn (he _ s σ H _ I h) λu s1 ⟨x,H1,I1,rx,a,C,dx,fs,v,ex,ea,c,n,l,q⟩=> ?_);subst ex;obtain rfl:u=Value.ref a:=rx;exact y9 I1 ea c n l λu' s2 I2 ru=>⟨v,H1,I2,ru,q⟩
theorem Vc (ha:PE X o ta)(hv:PE X value tv)(hs:swapsWith value (some (.Attribute o f pos')) pos.line X.env=pure false):PS X (.Assign [.Attribute o f pos'] value pos) (sFld X.K ta tv f):=by
 intro pins s σ H D I h;refine plainObj_wpAny_Assign_Attribute (thn (hv _ s σ H _ I h) λu s1 ⟨y,H1,I1,ry,q⟩=>thn (ha _ s1 σ H1 _ I1 q) λov s2 ⟨x,H2,I2,rx,a,C,dx,fs,ex,ea,c,n,l,q2⟩=> ?_) hs;subst ex;obtain rfl:ov=Value.ref a:=rx;exact ya I2 ea c n l ry λs3 I3=>⟨σ,_,I3,q2⟩
theorem VZ {pl:Sem Bool}{m:Str}{apos:Pos}{args:List Expr}{pins:List (Addr×Obj)}{s:Shared}{σ:St}{H:Hp}{Q:Value->Shared->Prop}{te:TE}(he:PE X e te)(I:Inv X pins σ H s)
  (h:te σ H λx H1=>∃a C dx fs g,x= .ref a/\H1 a=some (.ins C dx fs)/\Cls X.K C/\Meth X.K C m g/\fs.lookup m=none/\
   ∀s1,Inv X pins σ H1 s1->wpAny (model X.prog X.w) X.A (callWith pos (.ref g) [.ref a] (backTo pos (starEach args X.env)) (backToKw pos (keywordEach [] X.env))) Q X.xe s1)
  (ht:eval (.Call (.Attribute e m apos) args [] pos) X.env=(do
   let ov ← eval e X.env
   standAt apos.atName
   let (f,first) ← holding [ov] (getMethod ov m pl)
   callWith pos f first (backTo pos (starEach args X.env)) (backToKw pos (keywordEach [] X.env)))):
  wpAny (model X.prog X.w) X.A (eval (.Call (.Attribute e m apos) args [] pos) X.env) Q X.xe s:=by
 refine d6 (thn (he _ s σ H _ I h) λu s1 ⟨x,H1,I1,rx,a,C,dx,fs,g,ex,ea,c,k,l,q⟩=> ?_) ht;subst ex;obtain rfl:u=Value.ref a:=rx;exact jQ I1 ea c k l (q s1 I1)
end
section
variable {X:Cx}{pins:List (Addr×Obj)}{σ:St}{H:Hp}{s:Shared}{A:Around}{E:Value->Shared->Prop}{Q:Value->Shared->Prop}{c:Value}{b:Bool}
inductive yb (K:a8) (H:Hp):V->Value->Prop where
 | non:yb K H .non (.type "NoneType")
 | bl (x:Bool):yb K H (.bl x) (.type "bool")
 | int (i:Int):yb K H (.int i) (.type "int")
 | str (x:Str):yb K H (.str x) (.type "str")
 | flt (x:UInt64):yb K H (.flt x) (.type "float")
 | lst {a:Addr} {xs:List V} (e:H a=some (.lst xs)):yb K H (.ref a) (.type "list")
 | frz {a:Addr} {o:Obj} {xs:List V} (e:H a=some (.frz o (.lst xs))):yb K H (.ref a) (.type "list")
 | tup {a:Addr} {xs:List V} (e:H a=some (.tup xs)):yb K H (.ref a) (.type "tuple")
 | dK {a:Addr} {kvs:List (Key×V)} (e:H a=some (.dK kvs)):yb K H (.ref a) (.type "dict")
 | dT {a:Addr} {kvs:List (List Key×V)} (e:H a=some (.dT kvs)):yb K H (.ref a) (.type "dict")
 | ins {a C dx:Addr} {fs:List (Str×V)} (e:H a=some (.ins C dx fs)) (cl:Cls K C) (ha:bj K (.ref C) "__class__"=some (some (.builtin "object.__class__")))
   (hn:PySem.W.specialIn K (.builtin "object.__class__") "__get__"=some (some (.builtin "getset_descriptor.__get__"))) (htk:PySem.W.takesIn K (.builtin "object.__class__")=some true)
   (hm:PySem.W.mroIn K C (.type "object")=some true):yb K H (.ref a) (.ref C)
theorem Y4 {x:V}{u t:Value}(I:Inv X pins σ H s)(rx:Zb x u)(ty:yb X.K H x t)(e:bX X.K t c=some b)(h:∀tk,Q (.bool b) { s with toks:=tk }):
  wpAny (model X.prog X.w) A (call (.builtin "isinstance") [u,c]) Q E s:=by
 cases ty with
 | non=>cases (rx);exact bo PySem.W.kitx_none I.kIn True.intro e (λz=>nomatch z) h
 | bl y=>cases (rx);exact bo PySem.W.kitx_bool I.kIn True.intro e (λz=>nomatch z) h
 | int i=>obtain⟨t,q⟩:=(rx);cases q;exact bo PySem.W.kitx_int I.kIn True.intro e (λz=>nomatch z) h
 | str y=>obtain⟨t,q⟩:=(rx);cases q;exact bo PySem.W.kitx_str I.kIn True.intro e (λz=>nomatch z) h
 | flt y=>obtain⟨t,q⟩:=(rx);cases q;exact bo PySem.W.kitx_float I.kIn True.intro e (λz=>nomatch z) h
 | @lst a xs ea=>
  cases (rx);obtain⟨_,_,n,_,h1⟩:=(show Zc _ X.w H _ a _ from I.hok a _ ea);exact bo fN I.kIn ⟨_,h1,rfl⟩ e (λz=>nomatch z) h
 | @frz a ob xs ea=>
  cases (rx);obtain⟨_,_,_,n,_,h1⟩:=(show Zc _ X.w H _ a _ from I.hok a _ ea);exact bo fN I.kIn ⟨_,h1,rfl⟩ e (λz=>nomatch z) h
 | @tup a xs ea=>
  cases (rx);obtain⟨_,_,_,p,_⟩:=(show Zc _ X.w H _ a _ from I.hok a _ ea);obtain⟨o,h1,h2,_⟩:=p;exact bo PySem.W.kitx_tuple I.kIn ⟨o,h1,h2⟩ e (λz=>nomatch z) h
 | @dK a kvs ea=>
  cases (rx);obtain⟨_,_,vs,_,p⟩:=(show Zc _ X.w H _ a _ from I.hok a _ ea);obtain⟨o,es,ep,h1,h2,_⟩:=p;exact bo fO I.kIn ⟨o,h1,h2.1⟩ e (λz=>nomatch z) h
 | @dT a kvs ea=>
  cases (rx);obtain⟨_,_,xs,_,o,es,ep,h1,h2,_⟩:=(show Zc _ X.w H _ a _ from I.hok a _ ea);exact bo fO I.kIn ⟨o,h1,h2.1⟩ e (λz=>nomatch z) h
 | @ins a C dx fs ea cl ha hn htk hm=>
  cases (rx);obtain⟨mA,O,_⟩:=wH I.hok ea;obtain⟨od,J,_⟩:=O.look;exact bo (PySem.W.kitx_own (cl.get _) cl.hd ha hn htk hm) I.kIn J e (λz=>nomatch z) h
end
end L2
namespace L2
open PySem PySem.Spec PyProof.Rows
structure j3 (k:Nat) (A:Around):Prop where
 hd:A.handled=none
 dp:A.depth+3*k+5 < recursionLimit
 un:A.units+16*k+200 < cLine
 gd:A.guards=some []
theorem j3.mono {j k:Nat}{A:Around}(r:j3 k A)(h:j<=k):j3 j A:=⟨r.hd,by have:=r.dp;omega,by have:=r.un;omega,r.gd⟩
theorem j3.deeper {k:Nat}{A:Around}(r:j3 (k+1) A)(env:Env):j3 k (A.deeper env):=
 ⟨r.hd,by have:=r.dp;show A.depth+1+3*k+5 < _;omega,by have:=r.un;show A.units+3+16*k+200 < _;omega,r.gd⟩
theorem yc {A:Around}{C:Addr}{us:List Value}{kw:List (Str×Value)}:(A.under (.builtin "type.__call__" ⟨.ref C :: us,kw⟩)).depth=A.depth+1:=by
 first | rfl | simp[Around.under,Code.weight,Code.isCreation,Code.isGuard,Code.isCaller,Code.frames,fP,guardIds]
theorem yd {A:Around}{C:Addr}{us:List Value}{kw:List (Str×Value)}:(A.under (.builtin "type.__call__" ⟨.ref C :: us,kw⟩)).units=A.units+1:=by
 first | rfl | simp[Around.under,Code.cUnits,Code.frames,fP]
theorem j3.make {k:Nat}{A:Around}(r:j3 (k+1) A)(C:Addr)(us:List Value)(kw:List (Str×Value)):j3 k (A.under (.builtin "type.__call__" ⟨.ref C :: us,kw⟩)):=
 ⟨r.hd,by have:=r.dp;rw[yc];omega,by have:=r.un;rw[yd];omega,by first | exact r.gd | simpa[pushGuards] using r.gd⟩
theorem j3.depth {k:Nat}{A:Around}(r:j3 k A):A.depth < recursionLimit:=by have:=r.dp;omega
theorem j3.units {k:Nat}{A:Around}(r:j3 k A):A.units+64 < cLine:=by have:=r.un;omega
noncomputable def tNil:TA:=λ_ H Q=>Q [] H
noncomputable def z0U (ta:TE)(tr:TA):TA:=λσ H Q=>ta σ H λx H1=>tr σ H1 λxs H2=>Q (x :: xs) H2
section
variable {X:Cx}{e:Expr}{es:List Expr}{te:TE}{t:TA}{pos:Pos}
theorem Z5:PA X [] tNil:=λ_ _ _ _ H Q I h=>fQ ⟨[],H,I,.nil,h⟩
theorem zH (ha:PE X e te)(hr:PA X es t)(hs:starEach (e :: es) X.env=(false,eval e X.env) :: starEach es X.env:=by rfl):PA X (e :: es) (z0U te t):=by
 intro pos pins s σ H Q I h;rw[hs];refine dy (thn (ha _ s σ H _ I h) λu s1 ⟨x,H1,I1,r1,q1⟩=> ?_);exact thn (hr pos _ s1 σ H1 _ I1 q1) λus s2 ⟨xs,H2,I2,r2,q2⟩=>⟨x :: xs,H2,I2,.cons r1 r2,q2⟩
noncomputable def tTup (t:TA):TE:=λσ H Q=>t σ H λxs H1=>xs.length<=sizeLine/\∀p,H1 p=none->Q (.ref p) (upd H1 p (.tup xs))
noncomputable def tLst (t:TA):TE:=λσ H Q=>t σ H λxs H1=>xs.length<=sizeLine/\∀p,H1 p=none->Q (.ref p) (upd H1 p (.lst xs))
theorem kY {x1}(h:PA X es t):PE X (.Tuple es x1 pos) (tTup t):=by
 intro pins s σ H Q I hq;refine wpAny_Tuple_spliced (thn (h pos _ s σ H _ I hq) λus s1 ⟨xs,H1,I1,r,z,q⟩=>⟨by rw[← r.length];exact z, ?_⟩)
 have hf:=I1.hok.fresh (ai _);refine⟨.ref _,upd H1 _ _,I1.laid (λb u e=>ab _ e) (ai _) ?_,rfl,q _ hf⟩;exact⟨z,us,r,⟨_,af _ rfl,rfl,_,rfl⟩,.inr ⟨_,af _ rfl,rfl⟩⟩
theorem Y5 (h:PA X es t):PE X (.List es pos) (tLst t):=by
 intro pins s σ H Q I hq;refine wpAny_List_spliced (thn (h pos _ s σ H _ I hq) λus s1 ⟨xs,H1,I1,r,z,q⟩=>⟨by rw[← r.length];exact z, ?_⟩)
 have hf:=I1.hok.fresh (ai _);refine⟨.ref _,upd H1 _ _,I1.laid (λb u e=>ab _ e) (ai _) ?_,rfl,q _ hf⟩;exact⟨z,us,0,r,af _ rfl⟩
end
noncomputable abbrev Sp:=List V->Hp->VK->XK->Prop
noncomputable abbrev CXT:=List Env->Hp->Shared->XK->Value->Shared->Prop
structure x6 (P:Program) (w:World) (K:a8) (mg:Str->Option Value) (base:Heap) (A:Around) (outer:List Env) (s:Shared) (H:Hp):Prop where
 frames:A.frames=some outer
 mod:Mod K mg base
 bs:∀b o,base.get? b=some o->s.heap.get? b=some o/\H b=none
 bsz:base.objs.size<=s.heap.objs.size
 funs:s.heap.FunFrames base outer
 frf:∀b∈frs outer,H b=none
 hok:HOk P w H s.heap
 bare:AllBare s.gens
noncomputable def CE (outer:List Env)(P:Program)(w:World)(H:Hp)(s:Shared)(Q:VK)(u:Value)(s' :Shared):Prop:=
 ∃v H',s'.os=s.os/\AllBare s'.gens/\Un (frs outer) [] H H' s.heap s'.heap/\HOk P w H' s'.heap/\Zb v u/\Q v H'
noncomputable def CR (CX:CXT)(outer:List Env)(P:Program)(w:World)(H:Hp)(s:Shared)(Q:VK)(E:XK)(r:Result)(s' :Shared):Prop:=
 match r with
 | .ok (.ret u)=>CE outer P w H s Q u s'
 | .ok _=>False
 | .error e=>CX outer H s E e s'
structure jw (P:Program) (w:World) (K:a8) (mg:Str->Option Value) (base:Heap) (CX:CXT) (k:Nat) (f:Addr) (fd:FuncData) (ps:List Str) (sp:Sp):Prop where
 len:∀vs H Q E,sp vs H Q E->vs.length=ps.length
 run:∀(A:Around) (outer:List Env) (s:Shared) (H:Hp) (args:Args) (us:List Value) (vs:List V) (Q:VK) (E:XK),j3 k A->x6 P w K mg base A outer s H->BindsTo s fd args (ps.zip us)->zZ vs us->sp vs H Q E->
  codeAny (model P w) A (.call (.ref f) args) (CR CX outer P w H s Q E) s
theorem x6.make {P:Program}{w:World}{K:a8}{mg:Str->Option Value}{base:Heap}{A:Around}{outer:List Env}{s:Shared}{H:Hp}(e:x6 P w K mg base A outer s H)(C:Addr)(us:List Value)(kw:List (Str×Value)):
  x6 P w K mg base (A.under (.builtin "type.__call__" ⟨.ref C :: us,kw⟩)) outer s H:=⟨by first | exact e.frames | (simpa[fP] using e.frames),e.mod,e.bs,e.bsz,e.funs,e.frf,e.hok,e.bare⟩
section
variable {X:Cx}{pins:List (Addr×Obj)}{σ:St}{H:Hp}{s s' :Shared}
theorem Inv.env0 (I:Inv X pins σ H s):x6 X.prog X.w X.K X.mg X.base X.A X.stack s H:=
 ⟨I.ok.frames,I.ok.mod,I.bs,aq I.ok.bsz I.sz,I.stack,I.stkFree,I.hok,I.bare⟩
theorem Inv.after {Q:VK}{u:Value}(I:Inv X pins σ H s)(h:CE X.stack X.prog X.w H s Q u s'):EP X pins σ Q u s' :=by
 obtain⟨v,H',os,bare,un,hok,r,q⟩:=h;obtain⟨hh,g,d,t,os'⟩:=s';obtain rfl:os' =s.os:=os;exact⟨v,H',I.call un hok bare (λb z=>absurd z (by simp)),r,q⟩
end
noncomputable def z0V (sp:Sp)(dvs:List V)(E:XK)(t:TA):TE:=λσ H Q=>t σ H λvs H1=>sp (vs++dvs) H1 Q E
noncomputable def kZ (C:Addr)(m:Str)(sp:Sp)(dvs:List V)(E:XK)(ta:TE)(t:TA):TE:=λσ H Q=>ta σ H λx H1=>∃a dx fs,x= .ref a/\H1 a=some (.ins C dx fs)/\fs.lookup m=none/\
 t σ H1 λvs H2=>sp (x :: (vs++dvs)) H2 Q E
noncomputable def z0W (C:Addr)(sp:Sp)(dvs:List V)(E:XK)(t:TA):TE:=λσ H Q=>t σ H λvs H1=>∀x dx,H1 x=none->H1 dx=none->dx ≠ x->
 sp (.ref x :: (vs++dvs)) (upd (upd H1 dx (.own x)) x (.ins C dx [])) (λv H2=>v= .non/\Q (.ref x) H2) E
noncomputable def Binds (K:a8)(fd:FuncData)(ps:List Str)(ds:List Value):Prop:=
 ∀(s:Shared) (us:List Value),K.In s.heap->(us++ds).length=ps.length->BindsTo s fd ⟨us,[]⟩ (ps.zip (us++ds))
theorem Binds.all {K:a8}{fd:FuncData}{ps:List Str}(h:∀us:List Value,us.length=ps.length->bindArgs fd ⟨us,[]⟩=pure (ps.zip us)):Binds K fd ps []:=λs us _ hl=>by
 rw[aY]at hl ⊢;exact .of_eq (h us hl)
noncomputable def Zu (CX:CXT)(X:Cx)(E:XK):Prop:=∀(pins:List (Addr×Obj)) (σ:St) (H:Hp) (s:Shared) (e:Value) (s' :Shared),Inv X pins σ H s->CX X.stack H s E e s' ->X.xe e s'
section
variable {X:Cx}{CX:CXT}{k:Nat}{f C:Addr}{fd:FuncData}{ps:List Str}{sp:Sp}{dvs:List V}{ds:List Value}{E:XK}{x m:Str}{p pos apos:Pos}{e o:Expr}{es:List Expr}{ta:TE}{t:TA}
theorem Y6 {pins:List (Addr×Obj)}{σ:St}{H:Hp}{s:Shared}{Q:VK}{us:List Value}{vs:List V}(F:jw X.prog X.w X.K X.mg X.base CX k f fd ps sp)(hr:j3 k X.A)(hb:Binds X.K fd ps ds)(hd:zZ dvs ds)(hx:Zu CX X E)
  (I:Inv X pins σ H s) (r:zZ vs us) (h:sp (vs++dvs) H Q E):wpAny (model X.prog X.w) X.A (call (.ref f) us) (EP X pins σ Q) X.xe s:=by
 have r2:=r.append hd;have hl:(us++ds).length=ps.length:=by rw[← r2.length];exact F.len _ _ _ _ h
 refine wpAny_call (cU (F.run X.A _ s H _ _ _ Q E hr I.env0 (hb s us I.kIn hl) r2 h) λr s' hq=> ?_);cases r with
 | error e=>exact hx _ σ H s e s' I hq
 | ok fl=>
  cases fl with
  | ret u=>exact I.after hq
  | next=>exact bF hq
  | brk=>exact bF hq
  | cont=>exact bF hq
theorem uk (F:jw X.prog X.w X.K X.mg X.base CX k f fd ps sp)(hr:j3 k X.A)(hg:Gl X x)(hm:X.mg x=some (.ref f))(hk:bu X.K (.ref f)=true)(hb:Binds X.K fd ps ds)(hd:zZ dvs ds)(hx:Zu CX X E)
  (ha:PA X (e :: es) t) (hdb:(x == ("__debug__":Str))=false:=by decide) (he:starEach (e :: es) X.env=(false,eval e X.env) :: starEach es X.env:=by rfl) (hpl:(backTo pos (starEach es X.env)).any (·.1)=false:=by rfl):
  PE X (.Call (.Name x p) (e :: es) [] pos) (z0V sp dvs E t):=by
 intro pins s σ H Q I h;refine bK (ui I hg hm ?_ hdb);refine dz I.ok.mod.kin hk (thn (ha pos _ s σ H _ I h) λus s1 ⟨vs,H1,I1,r,q⟩=>⟨I1.kIn, ?_⟩) he hpl;exact Y6 F hr hb hd hx I1 r q
theorem x8 {pl:Sem Bool}(he:PE X o ta)(c:Cls X.K C)(hm:Meth X.K C m f)(F:jw X.prog X.w X.K X.mg X.base CX k f fd ps sp)(hr:j3 k X.A)(hb:Binds X.K fd ps ds)(hd:zZ dvs ds)(hx:Zu CX X E)(ha:PA X (e :: es) t)
  (hst:starEach (e :: es) X.env=(false,eval e X.env) :: starEach es X.env:=by rfl) (hpl:(backTo pos (starEach es X.env)).any (·.1)=false:=by rfl)
  (ht:eval (.Call (.Attribute o m apos) (e :: es) [] pos) X.env=(do
   let ov ← eval o X.env
   standAt apos.atName
   let (f,first) ← holding [ov] (getMethod ov m pl)
   callWith pos f first (backTo pos (starEach (e :: es) X.env)) (backToKw pos (keywordEach [] X.env))):=by rfl):
  PE X (.Call (.Attribute o m apos) (e :: es) [] pos) (kZ C m sp dvs E ta t):=by
 intro pins s σ H Q I h;refine d6 (thn (he _ s σ H _ I h) λu s1 ⟨x,H1,I1,rx,a,dx,fs,ex,ea,l,q⟩=> ?_) ht;subst ex;obtain rfl:u=Value.ref a:=rx;refine jQ I1 ea c hm l ?_;refine dz I.ok.mod.kin hm.kp (thn (ha pos _ s1 σ H1 _ I1 q) λus s2 ⟨vs,H2,I2,r,q2⟩=>⟨I2.kIn, ?_⟩) hst hpl;exact Y6 (vs:= .ref a :: vs) F hr hb hd hx I2 (.cons rfl r) q2
theorem QR {pl:Sem Bool}(he:PE X o ta)(c:Cls X.K C)(hm:Meth X.K C m f)(F:jw X.prog X.w X.K X.mg X.base CX k f fd ps sp)(hr:j3 k X.A)(hb:Binds X.K fd ps ds)(hd:zZ dvs ds)(hx:Zu CX X E)
  (ht:eval (.Call (.Attribute o m apos) [] [] pos) X.env=(do
   let ov ← eval o X.env
   standAt apos.atName
   let (f,first) ← holding [ov] (getMethod ov m pl)
   callWith pos f first (backTo pos (starEach [] X.env)) (backToKw pos (keywordEach [] X.env))):=by rfl):
  PE X (.Call (.Attribute o m apos) [] [] pos) (kZ C m sp dvs E ta tNil):=by
 intro pins s σ H Q I h;refine d6 (thn (he _ s σ H _ I h) λu s1 ⟨x,H1,I1,rx,a,dx,fs,ex,ea,l,q⟩=> ?_) ht;subst ex;obtain rfl:u=Value.ref a:=rx;refine jQ I1 ea c hm l ?_;exact PySem.W.callWith_K0 I1.kIn hm.kp (Y6 (vs:=[.ref a]) F hr hb hd hx I1 (.cons rfl .nil) q)
structure Mk (K:a8) (C f:Addr):Prop where
 makes:io K C=true
 init:bj K (.ref C) "__init__"=some (some (.ref f))
 fn:eM K (.ref f)=true
 kp:bu K (.ref C)=true
theorem QS {pins:List (Addr×Obj)}{σ:St}{H:Hp}{s:Shared}{Q:VK}{us:List Value}{vs:List V}(M:Mk X.K C f)(F:jw X.prog X.w X.K X.mg X.base CX k f fd ps sp)(hr:j3 (k+1) X.A)(hb:Binds X.K fd ps ds)(hd:zZ dvs ds)
  (hx:Zu CX X E) (I:Inv X pins σ H s) (r:zZ vs us)
  (h:∀x dx,H x=none->H dx=none->dx ≠ x->sp (.ref x :: (vs++dvs)) (upd (upd H dx (.own x)) x (.ins C dx [])) (λv H2=>v= .non/\Q (.ref x) H2) E):
  wpAny (model X.prog X.w) X.A (call (.ref C) us) (EP X pins σ Q) X.xe s:=by
 have hq:=h _ _ (I.hok.fresh (de _)) (I.hok.fresh (ai _)) (az (bW _));have I2:=Inv.made (C:=C) I;have r2:zZ (V.ref (s.heap.objs.size+1) :: (vs++dvs)) _:= .cons rfl (r.append hd);have hl:=by
  have e:=r2.length;rw[F.len _ _ _ _ hq]at e;exact e.symm
 refine wpAny_call (QP I.kIn M.makes M.init (beq_iff_eq.mp M.fn) (cU (F.run _ _ _ _ _ _ _ _ E (hr.make C us [])
  (I2.env0.make C us []) (hb _ _ I2.kIn hl) r2 hq) λr s' hq' => ?_))
 cases r with
 | error e=>exact hx _ σ _ _ e s' I2 hq'
 | ok fl=>
  cases fl with
  | ret u=>
   obtain⟨v,H',I3,rv,ev,q3⟩:=I2.after hq';subst ev;exact⟨rv,⟨V.ref _,H',I3,rfl,q3⟩⟩
  | next=>exact bF hq'
  | brk=>exact bF hq'
  | cont=>exact bF hq'
theorem x9 (M:Mk X.K C f)(F:jw X.prog X.w X.K X.mg X.base CX k f fd ps sp)(hr:j3 (k+1) X.A)(hg:Gl X x)(hm:X.mg x=some (.ref C))(hb:Binds X.K fd ps ds)(hd:zZ dvs ds)(hx:Zu CX X E)
  (ha:PA X (e :: es) t) (hdb:(x == ("__debug__":Str))=false:=by decide) (he:starEach (e :: es) X.env=(false,eval e X.env) :: starEach es X.env:=by rfl) (hpl:(backTo pos (starEach es X.env)).any (·.1)=false:=by rfl):
  PE X (.Call (.Name x p) (e :: es) [] pos) (z0W C sp dvs E t):=by
 intro pins s σ H Q I h;refine bK (ui I hg hm ?_ hdb);refine dz I.ok.mod.kin M.kp (thn (ha pos _ s σ H _ I h) λus s1 ⟨vs,H1,I1,r,q⟩=>⟨I1.kIn, ?_⟩) he hpl;exact QS M F hr hb hd hx I1 r q
end
section
variable {X:Cx}{CX:CXT}{k:Nat}{f C:Addr}{fd:FuncData}{ps ks:List Str}{sp:Sp}{E:XK}{x m:Str}{p pos apos kpos:Pos}{e o:Expr}{es:List Expr}{kws:List Keyword}{te ta:TE}{t tk:TA}{nm:Option Str}
variable {g:List Value->List Value->List Value}{gV:List V->List V->List V}
end
structure ja (N P:List Str) (sc:Scope):Prop where
 kind:sc.kind= .function
 co:sc.isCoroutine=false
 gen:sc.isGenerator=false
 nd:N.Nodup
 pre:N.take P.length=P
 par:∀x∈P,sc.names.lookup x=some .local\/sc.names.lookup x=some .cell
 nofree:∀y∈sc.names,y.2 ≠ .free
theorem Wp {kindOf:Str->Option NameKind}{x:Str}:∀{binds:List (Str×Value)} {m:Str->Option Value},(∀v,(x,v) ∉ binds)->bindL kindOf binds m x=m x
 | [],_,_=>rfl
 | (n,v) :: r,m,h=>by
  unfold bindL;rw[Wp λw hw=>h w (a9 _ hw)];split
  ·have:x ≠ n:=by rintro rfl;exact h v ad
   simp[this]
  ·rfl
theorem Wq {kindOf:Str->Option NameKind}{x:Str}:∀{binds:List (Str×Value)} {m:Str->Option Value},(∀v,(x,v) ∉ binds)->bindC kindOf binds m x=m x
 | [],_,_=>rfl
 | (n,v) :: r,m,h=>by
  unfold bindC;rw[Wq λw hw=>h w (a9 _ hw)];split
  ·rfl
  ·have:x ≠ n:=by rintro rfl;exact h v ad
   simp[this]
theorem Wr {kindOf:Str->Option NameKind}{x:Str}{v:Value}:∀{P:List Str} {vs:List Value} {i:Nat} {m:Str->Option Value},P.Nodup->P[i]? =some x->vs[i]? =some v->kindOf x=some .local->
  bindL kindOf (P.zip vs) m x=some v
 | [],_,_,_,_,h,_,_=>by simp at h
 | _ :: _,[],_,_,_,_,h,_=>by simp at h
 | p :: P,w :: vs,0,m,nd,h1,h2,hk=>by
  simp at h1 h2;subst h1;subst h2;show bindL _ ((p,w) :: P.zip vs) m p=_;unfold bindL;rw[Wp λv hv=>(cj.mp nd).1 (bG hv).1,if_pos hk];simp
 | p :: P,w :: vs,i+1,m,nd,h1,h2,hk=>by
  show bindL _ ((p,w) :: P.zip vs) m x=_;exact Wr (cj.mp nd).2 (by simpa using h1) (by simpa using h2) hk
theorem Ws {kindOf:Str->Option NameKind}{x:Str}{v:Value}:∀{P:List Str} {vs:List Value} {i:Nat} {m:Str->Option Value},P.Nodup->P[i]? =some x->vs[i]? =some v->kindOf x ≠ some .local->
  bindC kindOf (P.zip vs) m x=some v
 | [],_,_,_,_,h,_,_=>by simp at h
 | _ :: _,[],_,_,_,_,h,_=>by simp at h
 | p :: P,w :: vs,0,m,nd,h1,h2,hk=>by
  simp at h1 h2;subst h1;subst h2;show bindC _ ((p,w) :: P.zip vs) m p=_;unfold bindC;rw[Wq λv hv=>(cj.mp nd).1 (bG hv).1,if_neg hk];simp
 | p :: P,w :: vs,i+1,m,nd,h1,h2,hk=>by
  show bindC _ ((p,w) :: P.zip vs) m x=_;exact Ws (cj.mp nd).2 (by simpa using h1) (by simpa using h2) hk
noncomputable def start (N:List Str)(vs:List V):St:=vs.map some++aa (N.length - vs.length) none
noncomputable def ud (CX:CXT)(P:Program)(w:World)(K:a8)(mg:Str->Option Value)(base:Heap)(N:List Str)(qual:Str)(scope:Scope)(f:Addr)(cd:Value)(A:Around)(outer:List Env)(s:Shared)(H:Hp)(E:XK):Cx where
 prog:=P
 w:=w
 K:=K
 mg:=mg
 base:=base
 A:=A.deeper (envOfC qual scope s.heap.objs.size f cd)
 N:=N
 s₀:=s
 H₀:=H
 env:=envOfC qual scope s.heap.objs.size f cd
 outer:=outer
 stack:=envOfC qual scope s.heap.objs.size f cd :: outer
 ex:=[]
 calm:=true
 fn:=λ_=>true
 pn:=[]
 xe:=λe s' =>wpAny (model P w) (A.deeper (envOfC qual scope s.heap.objs.size f cd)) (leaving (envOfC qual scope s.heap.objs.size f cd) e) (λ_ s'' =>CX outer H s E e s'') (λe' s'' =>CX outer H s E e' s'') s'
theorem uY {sc:Scope}{n:Nat}{x:Str}(h:sc.names.lookup x=some .cell):∃c,(cellsFrom n sc.names []).lookup x=some c:=by
 have q:=eN _ n [] (.inl h);exact Option.isSome_iff_exists.mp q
theorem Y7 {CX:CXT}{P:Program}{w:World}{K:a8}{mg:Str->Option Value}{base:Heap}{N ps:List Str}{qual:Str}{scope:Scope}{f:Addr}{cd:Value}{A:Around}{outer:List Env}{s s1:Shared}{H:Hp}{E:XK}{us:List Value}{vs:List V}
  (S:ja N ps scope) (hd:A.handled=none) (e0:x6 P w K mg base A outer s H) (hl:vs.length=ps.length) (r:zZ vs us)
  (x:InCallC s s.heap.objs.size (bindL (envOfC qual scope s.heap.objs.size f cd).kindOf (ps.zip us) λ_=>none) (cellsFrom (s.heap.objs.size+1) scope.names []) (bindC (envOfC qual scope s.heap.objs.size f cd).kindOf (ps.zip us) λ_=>none) s1):
  Inv (ud CX P w K mg base N qual scope f cd A outer s H E) [] (start N vs) H s1:=by
 have hpl:=by have:=congrArg List.length S.pre;rw[cB]at this;omega
 obtain⟨h1,tk,rfl,hk⟩:=x.done;have noA:∀b,b ∉ (ud CX P w K mg base N qual scope f cd A outer s H E).ex:=λb z=>absurd (show b∈([]:List _) from z) (by simp)
 refine⟨⟨e0.mod,S.kind,rfl,rfl,ai _,λy z c h1 h2=> ?_,λy hy=> ?_,λy c _ h=> ?_,λ_=>hd,Around.frames_deeper e0.frames,.inr ⟨rfl,rfl⟩,λb z=>absurd z (noA b),e0.bs,e0.bsz,λb _ _=>noA b,λb z=>absurd z (noA b),e0.funs,e0.frf⟩,
  rfl,e0.bare,Un.kept hk,⟨_,x.toInCall.ns,λi y v h1 h2 h3=> ?_⟩,λy c h=>⟨_,x.cell y c h⟩,e0.hok.fresh (ai _),λy c h=> ?_,λp hp=>absurd (show p∈([]:List _) from hp) (by simp),e0.hok.kept hk, ?_⟩
 ·exact name_of_addr x.apart (bI h1) (bI h2)
 ·rcases hy with hy | hy
  ·exact uY hy
  ·exact absurd rfl (S.nofree _ (bI hy))
 ·exact eL (x.above y c (bI h))
 ·have hi:i < vs.length:=by
   unfold start at h2
   by_cases hi:i < vs.length
   ·exact hi
   ·rw[aB (by simpa using hi)]at h2
    rw[aN]at h2;split at h2 <;> cases h2
  have ha:vs[i]? =some v:=by
   unfold start at h2;rw[aE (by simpa using hi),ax]at h2
   cases e:vs[i]? with
   | none=>rw[e]at h2;cases h2
   | some a=>rw[e]at h2;cases h2;rfl
  obtain⟨u,hu,rv⟩:=r.get ha;have hp:ps[i]? =some y:=by
   rw[← S.pre,List.getElem?_take_of_lt (by omega)];exact h1
  have ndP:ps.Nodup:=by rw[← S.pre];exact S.nd.sublist (List.take_sublist _ _)
  refine⟨u,rv, ?_⟩;rcases S.par y (df hp) with k | k
  ·exact .inl ⟨k,Wr ndP hp hu k⟩
  ·obtain⟨c,e⟩:=uY k;refine .inr ⟨.inl k,c,e, ?_⟩;have q:=x.cell y c e;rw[Ws ndP hp hu (by show scope.names.lookup y ≠ _;rw[k];decide)]at q
   exact q
 ·exact e0.hok.fresh (eL (x.above y c (bI h)))
 ·unfold start;show _=N.length;rw[av,ac,aK];omega
theorem K0 {CX:CXT}{P:Program}{w:World}{K:a8}{mg:Str->Option Value}{base:Heap}{k:Nat}{f:Addr}{name qual:Str}{params:Arguments}{body:List Stmt}{scope:Scope}{dV kV doc pm cdv ct oc:Value}{an od:Option Addr}
  {osl:Array (Option Value)} {N ps:List Str} {sp:Sp} (lk:K.lookup f=some ⟨oc,od,.func (bq name qual params body scope dV kV doc pm an cdv ct),osl⟩) (hcd:cV K cdv qual=true) (S:ja N ps scope)
  (len:∀vs H Q E,sp vs H Q E->vs.length=ps.length)
  (hbody:∀(A:Around) (outer:List Env) (s:Shared) (H:Hp) (vs:List V) (Q:VK) (E:XK),j3 k (A.deeper (envOfC qual scope s.heap.objs.size f cdv))->sp vs H Q E->
   ∃t,PSs (ud CX P w K mg base N qual scope f cdv A outer s H E) body t/\t { nx:=λ_ H' =>Q .non H',rt:=Q } (start N vs) H):
  jw P w K mg base CX (k+1) f (bq name qual params body scope dV kV doc pm an cdv ct) ps sp:=by
 refine⟨len,λA outer s H args us vs Q E hr e0 hb r hsp=> ?_⟩;have hl:=len _ _ _ _ hsp;have KX:=e0.mod.kin.keeps λb o e=>(e0.bs b o e).1;have lim:=e0.mod.nolimit.keeps λb o e=>(e0.bs b o e).1;have hkind:∀y∈ps.zip us,scope.names.lookup y.1=some _\/(scope.names.lookup y.1=some _/\((cellsFrom (s.heap.objs.size+1) _ []).lookup y.1).isSome=true):=λ⟨n,v⟩ hy=>by
  rcases S.par n (bG hy).1 with q | q
  ·exact .inl q
  ·exact .inr ⟨q,eN _ _ _ (.inl q)⟩
 refine codeAny_call_function hr.depth (KX _ _ lk) rfl S.co S.gen rfl (PySem.W.codeRec_of KX hcd) (hb _ _ _ _ ?_);refine wpAny_newFunctionEnv_cells S.kind hkind λenv he s1 x=> ?_;subst he;refine⟨lim.keeps x.toInCall.keep,codeAny_func ?_⟩;obtain⟨t,ht,hq⟩:=hbody A _ s H vs Q E (hr.deeper _) hsp;have I:Inv (ud CX P w K mg _ N _ _ f cdv A _ s H E) [] _ H s1:=Y7 S hr.hd e0 hl r x;refine d7 (ht [] s1 _ H _ I hq) (λfl s' hs=> ?_) λe s' hs=>hs;have fin:∀{σ' :St} {H' :Hp} {v:V} {u:Value},Inv (ud CX P w K mg base N qual scope f cdv A outer s H E) [] σ' H' s' ->Zb v u->Q v H' ->CE _ P w H s Q u s' :=
  λ{σ' H' v u} J rv q=>⟨v,H',J.os,J.bare,J.base,J.hok,rv,q⟩
 cases fl with
 | ret u=>
  obtain⟨v,σ',H',J,rv,q⟩:=hs;exact fin J rv q
 | next=>
  obtain⟨σ',H',J,q⟩:=hs;exact fin (v:=V.non) J rfl q
 | brk=>
  obtain⟨_,_,_,q⟩:=hs;exact bF q
 | cont=>
  obtain⟨_,_,_,q⟩:=hs;exact bF q
end L2
namespace L2
open PySem PySem.Spec PyProof.Rows
section
variable {X:Cx}{x:Str}{p pos:Pos}{e:Expr}{es:List Expr}{t:TA}{id T:String}{r:List V->Hp->VK->Prop}
noncomputable def tCB (r:List V->Hp->VK->Prop)(t:TA):TE:=λσ H Q=>t σ H λvs H1=>r vs H1 Q
theorem jG (hc:Zt X (.builtin id) r)(hg:Gl X x)(hm:X.mg x=none)(hv:bootBuiltins x=some (.builtin id))(ha:PA X (e :: es) t)(hn:x ≠ "__name__":=by decide)(hdb:(x == ("__debug__":Str))=false:=by decide)
  (he:starEach (e :: es) X.env=(false,eval e X.env) :: starEach es X.env:=by rfl) (hpl:(backTo pos (starEach es X.env)).any (·.1)=false:=by rfl):PE X (.Call (.Name x p) (e :: es) [] pos) (tCB r t):=by
 intro pins s σ H Q I h;refine bK (j8 I hg hm hv ?_ hn hdb);exact PyProof.Rows.callWith_builtin1 (thn (ha pos _ s σ H _ I h) λus s1 ⟨vs,H1,I1,r1,q1⟩=>hc _ s1 σ H1 vs us Q I1 r1 q1) he hpl
theorem ZU (hc:Zt X (.type T) r)(hg:Gl X x)(hm:X.mg x=none)(hv:bootBuiltins x=some (.type T))(ha:PA X (e :: es) t)(hn:x ≠ "__name__":=by decide)(hdb:(x == ("__debug__":Str))=false:=by decide)
  (he:starEach (e :: es) X.env=(false,eval e X.env) :: starEach es X.env:=by rfl) (hpl:(backTo pos (starEach es X.env)).any (·.1)=false:=by rfl):PE X (.Call (.Name x p) (e :: es) [] pos) (tCB r t):=by
 intro pins s σ H Q I h;refine bK (j8 I hg hm hv ?_ hn hdb);exact aQ (thn (ha pos _ s σ H _ I h) λus s1 ⟨vs,H1,I1,r1,q1⟩=>hc _ s1 σ H1 vs us Q I1 r1 q1) he hpl
end
end L2
namespace HT
open PySem PyProof.Rows
section
open PySem.SeqAt
open PySem.AutoSeq1 (wpAny_loadPart')
open PySem.MeetsSeq PySem.MeetsSeq2 PySem.MeetsSeq3
end
section
variable {prog:Program}{w:World}{A:Around}{E:Value->Shared->Prop}{s:Shared}
theorem cat_tup {t b:Addr}{vs ws:List Value}{Q:Value->Shared->Prop}(ht:IsTup s.heap t vs.toArray)(hb:IsTup s.heap b ws.toArray)(hv:vs ≠ [])
  (h1:ws=[]->Q (.ref t) s) (h2:ws ≠ []->Q (.ref s.heap.objs.size) { s with heap:=s.heap.push { cls:= .type "tuple",data:= .seq (vs++ws).toArray } })
  (hsz:vs.length+ws.length<=sizeLine):wpAny (model prog w) A (binaryOp .Add (.ref t) (.ref b)) Q E s:=by
 obtain⟨⟨cls,dd,data,sl⟩,ho,hc,n,hd⟩:=id ht;obtain⟨⟨cls2,dd2,data2,sl2⟩,ho2,hc2,n2,hd2⟩:=id hb;subst hc hd hc2 hd2;have e:vs.toArray++ws.toArray=(vs++ws).toArray:=by simp
 by_cases hw:ws=[]
 ·exact concat_meets ⟨_,ho,rfl⟩ ⟨_,ho2,rfl⟩ noFill_tuple_add seq_tuple_add cW cR (cL _ _)
   (tuple_addW1 t b _ _ n n2 dd dd2 sl sl2 (by simpa using hv) (by simp[hw])) ⟨ho,ho2,h1 hw⟩
 ·refine concat_meets ⟨_,ho,rfl⟩ ⟨_,ho2,rfl⟩ noFill_tuple_add seq_tuple_add cW cR (cL _ _)
   (tuple_addW2 t b _ _ n n2 dd dd2 sl sl2 (by simpa using hv) (by simpa using hw) (by exact hsz)) ⟨ho,ho2, ?_⟩
  rw[e];exact h2 hw
noncomputable def sIx (n d:Nat):Option Int->Nat
 | none=>d
 | some v=>if v < 0 then (v+(n:Int)).toNat else min v.toNat n
theorem sIx_none (n d:Nat):sIx n d none=d:=rfl
theorem sIx_nat (n d k:Nat):sIx n d (some (k:Int))=min k n:=by
 show (if (k) < 0 then ((k:Int)+(n)).toNat else min _ n)=min k n
 rw[if_neg (by omega),bc]
theorem Y8 (v:Int)(n d:Nat):(if v < 0 then max (v+(n:Int)) 0 else min v (n:Int))=((sIx n d (some v):Nat):Int):=by
 show (if v < 0 then max _ 0 else min v (n))=(((if v < 0 then (v+(n)).toNat else min _ n):Nat):Int)
 by_cases hv:v < 0
 ·simp only[if_pos hv];omega
 ·simp only[if_neg hv];omega
theorem ye (lo hi:Option Int)(n:Nat):dI lo hi 1 (n:Int)=(((sIx n 0 lo:Nat):Int),((sIx n n hi:Nat):Int)):=by
 refine Prod.ext ?_ ?_
 ·cases lo with
  | none=>rfl
  | some v=>exact Y8 v n 0
 ·cases hi with
  | none=>rfl
  | some v=>exact Y8 v n n
theorem yf (i j:Nat):cG (i:Int) (j:Int) 1=j - i:=by
 unfold cG;split <;> omega
theorem wj {v:Value}{o:Option Int}{Q:Option Int->Shared->Prop}(p:IsPart v o)(h:Q o s):wpAny (model prog w) A (Builtin.Slice.slicePartIndex v) Q E s:=by
 cases p with
 | none=>exact slicePart_none h
 | int i t=>exact slicePart_int h
theorem sliceApplied_gen {sl:Addr}{vl vu:Value}{lo hi:Option Int}{n:Nat}{Q:Int×Int×Nat->Shared->Prop}(hs:s.heap.IsSliceOf sl vl vu .none)(pl:IsPart vl lo)(pu:IsPart vu hi)
  (h:Q (((sIx n 0 lo:Nat):Int),1,sIx n n hi - sIx n 0 lo) s):wpAny (model prog w) A (Builtin.Slice.sliceApplied (.ref sl) (pure (n:Int))) Q E s:=by
 obtain⟨os,hos,hcs,hds⟩:=id hs;refine a7 (a7 (b6 hos hds rfl (a7 (b6 hos hds rfl (a7 (b6 hos hds rfl (ak ?_)))))));refine a7 (slicePart_none ?_);refine a7 (wj pl (a7 (wj pu (a7 (ak ?_)))));show wpAny _ _ (match dI lo hi 1 _ with | (lo,hi)=>pure (lo,(1:Int),cG lo hi 1)) _ _ s
 rw[ye lo hi n];show wpAny _ _ (pure _) _ _ s;rw[yf];exact ak h
theorem QT (xs:Array Value)(i k:Nat):((aT k).filterMap λ(m:Nat)=>xs[((i:Int)+(m:Int)*1).toNat]?).toArray=((xs.toList.drop i).take k).toArray:=by
 have e:(λ(m:Nat)=>xs[((i:Int)+(m)*1).toNat]?)=λm=>xs[i+m]? :=by
  funext m
  have:((i:Int)+(m)*1).toNat=i+m:=by omega
  rw[this]
 rw[e];have:=pick_run xs i k;rw[List.filterMap_map]at this;have e2:((λx=>xs[x]?) ∘ λx=>i+x)=λm=>xs[i+m]? :=rfl;rw[e2]at this;rw[this]
theorem getItem_tuple_cut {t sl:Addr}{items:Array Value}{vl vu:Value}{lo hi:Option Int}{Q:Value->Shared->Prop}(ht:IsTup s.heap t items)(hs:s.heap.IsSliceOf sl vl vu .none)(pl:IsPart vl lo)(pu:IsPart vu hi)
  (hw:¬ (sIx items.size 0 lo=0/\sIx items.size items.size hi=items.size))
  (h:Q (.ref s.heap.objs.size) { s with heap:=s.heap.push { cls:= .type "tuple",data:= .seq ((items.toList.drop (sIx items.size 0 lo)).take (sIx items.size items.size hi - sIx items.size 0 lo)).toArray } })
  (hsz:items.size<=sizeLine):wpAny (model prog w) A (getItem (.ref t) (.ref sl)) Q E s:=by
 have htake:sizeOk (.seq ((items.toList.drop (sIx items.size 0 lo)).take (sIx items.size items.size hi - sIx items.size 0 lo)).toArray):=by
  show ((items.toList.drop _).take _).toArray.size<=sizeLine;rw[ay,cB,eA,cI];omega
 obtain⟨os,hos,hcs,hds⟩:=id hs;have hTs:s.TypeIs (.ref sl) _:=⟨os,hos,hcs⟩;unfold getItem
 try with_reducible refine cu ?_
 refine a7 (wpAny_sequenceKey ht.typeIs (by decide) ?_)
 refine a7 (bi ht.typeIs b8
  (bB b8 ht.typeIs entry_tuple_getitem ?_ (args_tuple_getitem _ _)))
 show wpAny _ _ (dA _ >>= _) _ _ s;refine a7 (tupleItemsOf_ ht ?_);refine a7 (cC hTs ?_);refine a7 (sliceApplied_gen hs pl pu ?_);have hno:¬ ((((sIx items.size 0 lo):Int) == 0 && (1:Int) == 1 && (sIx items.size items.size hi - sIx items.size 0 lo) == items.size)=true):=by
  intro q;rw[ae,ae]at q;have q1:=eq_of_beq q.1.1;have q2:=eq_of_beq q.2;exact hw ⟨by omega,by omega⟩
 show wpAny _ _ (if (((sIx _ 0 lo:Nat):Int) == 0 && (1) == 1 && (sIx _ _ hi - sIx _ 0 lo) == items.size)=true then _ else _) _ _ s
 rw[if_neg hno,QT]
 first
  | exact a7 (a_ (ak ⟨_,rfl,ak h⟩) htake)
  | exact a7 _
  | exact a7 _
  | exact a7 _
end
end HT
namespace L2
open PySem PySem.Spec PyProof.Rows
noncomputable abbrev TO:=St->Hp->(Option Int->Hp->Prop)->Prop
noncomputable def PO (X:Cx)(e:Option Expr)(t:TO):Prop:=
 ∀(pins:List (Addr×Obj)) (s:Shared) (σ:St) (H:Hp) (Q:Option Int->Hp->Prop),Inv X pins σ H s->t σ H Q->
  wpAny (model X.prog X.w) X.A (evalPart e X.env) (λu s' =>∃o H',Inv X pins σ H' s' /\IsPart u o/\Q o H') X.xe s
noncomputable def xa:TO:=λ_ H Q=>Q none H
noncomputable def z0X (t:TE):TO:=λσ H Q=>t σ H λx H1=>∃i,x= .int i/\Q (some i) H1
section
variable {X:Cx}{e:Expr}{te:TE}{lo hi:Option Expr}{tl th:TO}{pos p2:Pos}
theorem xb:PO X none xa:=by
 intro pins s σ H Q I h;exact ak ⟨none,H,I,.none,h⟩
theorem xf (h:PE X e te):PO X (some e) (z0X te):=by
 intro pins s σ H Q I hw;refine thn (h _ s σ H _ I hw) λu s1 ⟨x,H1,I1,r1,q1⟩=> ?_;obtain⟨i,rfl,q⟩:=q1;obtain⟨t,rfl⟩:=r1;exact⟨some i,H1,I1,.int i t,q⟩
noncomputable def SlR (X:Cx)(r:V->Option Int->Option Int->Hp->VK->Prop):Prop:=
 ∀(pins:List (Addr×Obj)) (s:Shared) (σ:St) (H:Hp) (x:V) (v vl vu:Value) (lo hi:Option Int) (sl:Addr) (Q:VK),Inv X pins σ H s->Zb x v->s.heap.IsSliceOf sl vl vu .none->IsPart vl lo->IsPart vu hi->r x lo hi H Q->
  ∃T id,typeLookup (.type T) "__getitem__"=pure (some (.builtin id))/\s.TypeIs v T/\wpAny (model X.prog X.w) X.A (getItem v (.ref sl)) (EP X pins σ Q) X.xe s
theorem SlR.or {r r' :V->Option Int->Option Int->Hp->VK->Prop}(h:SlR X r)(h' :SlR X r'):SlR X (λx lo hi H Q=>r x lo hi H Q\/r' x lo hi H Q):=by
 intro pins s σ H x v vl vu lo hi sl Q I rx hs pl pu q;rcases q with q | q
 ·exact h _ s σ H x v vl vu lo hi sl Q I rx hs pl pu q
 ·exact h' _ s σ H x v vl vu lo hi sl Q I rx hs pl pu q
noncomputable def tSl (r:V->Option Int->Option Int->Hp->VK->Prop)(te:TE)(tl th:TO):TE:=λσ H Q=>te σ H λx H1=>tl σ H1 λl H2=>th σ H2 λu H3=>r x l u H3 Q
theorem QU {r:V->Option Int->Option Int->Hp->VK->Prop}(hr:SlR X r)(he:PE X e te)(hl:PO X lo tl)(hu:PO X hi th):PE X (.Subscript e (.Slice lo hi none p2) pos) (tSl r te tl th):=by
 intro pins s σ H Q I h;refine Subscript_ (thn (he _ s σ H _ I h) λv s1 ⟨x,H1,I1,r1,q1⟩=> ?_);refine wpAny_Slice (thn (hl _ s1 σ H1 _ I1 q1) λvl s2 ⟨l,H2,I2,pl,q2⟩=>thn (hu _ s2 σ H2 _ I2 q2) λvu s3 ⟨u,H3,I3,pu,q3⟩=> ?_);refine ak ?_;have I4:Inv X _ σ H3 { s3 with heap:=s3.heap.push { cls:= .type "slice",data:= .fields #[vl,vu,.none] } }:=I3.kept λb ob q=>ab _ q;obtain⟨T,id,hT,ht,hg⟩:=hr _ _ σ H3 x v vl vu l u _ Q I4 r1 (Heap.IsSliceOf.new ..) pl pu q3;exact tail_any ht hT hg (by with_unfolding_all rfl)
noncomputable def kf (xs:List V)(lo hi:Option Int):List V:=(xs.drop (HT.sIx xs.length 0 lo)).take (HT.sIx xs.length xs.length hi - HT.sIx xs.length 0 lo)
theorem JA (xs:List V)(lo hi:Option Int):(kf xs lo hi).length<=xs.length:=by
 unfold kf;rw[cB,eA];omega
noncomputable def rSlT (K:a8):V->Option Int->Option Int->Hp->VK->Prop:=λx lo hi H Q=>∃a xs,x= .ref a/\SqT K H a xs/\
 ¬ (HT.sIx xs.length 0 lo=0/\HT.sIx xs.length xs.length hi=xs.length)/\∀p,H p=none->Q (.ref p) (upd H p (.tup (kf xs lo hi)))
theorem K1:SlR X (rSlT X.K):=by
 intro pins s σ H x v vl vu lo hi sl Q I rx hs pl pu h;obtain⟨a,xs,rfl,hx,hw,q⟩:=h;cases rx;obtain⟨its,r,ht,hz⟩:=I.tuple hx;have hlen:its.toArray.size=xs.length:=by exact r.length.symm
 refine⟨"tuple",_,b8.lookup,ht.typeIs, ?_⟩;refine HT.getItem_tuple_cut ht hs pl pu (by rw[hlen];exact hw) ?_ (by rw[hlen];exact hz)
 rw[hlen];refine⟨.ref _,_,I.laid (λb ob q=>ab _ q) (ai _) ?_,rfl,q _ (I.hok.fresh (ai _))⟩;exact⟨aq (JA xs lo hi) hz,_,(r.drop _).take _,ITN.new _ _⟩
noncomputable def z0Y (K:a8):R2:=λx y H Q=>∃a b xs ys,x= .ref a/\y= .ref b/\SqT K H a xs/\SqT K H b ys/\xs ≠ []/\xs.length+ys.length<=sizeLine/\
 (ys=[]->Q (.ref a) H)/\(ys ≠ []->∀p,H p=none->Q (.ref p) (upd H p (.tup (xs++ys))))
theorem zZ.nil_iff {xs:List V}{us:List Value}(r:zZ xs us):us=[]↔xs=[]:=by
 cases r with
 | nil=>simp
 | cons _ _=>simp
theorem xg:OpR X (binaryOp .Add) (z0Y X.K):=by
 intro pins s σ H x y v u Q I rx ry h;obtain⟨a,b,xs,ys,rfl,rfl,ha,hb,hx,hz,q1,q2⟩:=h;cases rx;cases ry;obtain⟨its,r1,p1,_⟩:=I.tuple ha;obtain⟨its2,r2,p2,_⟩:=I.tuple hb;refine HT.cat_tup p1 p2 (λz=>hx (r1.nil_iff.mp z)) (λz=>⟨.ref a,H,I,rfl,q1 (r2.nil_iff.mp z)⟩) (λz=> ?_) (by rw[← r1.length,← r2.length];exact hz)
 refine⟨.ref _,_,I.laid (λb ob q=>ab _ q) (ai _) ?_,rfl,q2 (λw=>z (r2.nil_iff.mpr w)) _ (I.hok.fresh (ai _))⟩;exact⟨by rw[av];exact hz,_,r1.append r2,ITN.new _ _⟩
end
end L2
namespace L2
open PySem PySem.Spec PyProof.Rows
noncomputable def ixN (n:Nat)(i:Int):Option Nat:=if 0<=i then (if i < n then some i.toNat else none) else if -(n:Int)<=i then some (i+n).toNat else none
noncomputable def atI {α:Type}(xs:List α)(i:Int):Option α:=(ixN xs.length i).bind λj=>xs[j]?
theorem xh {n:Nat}{i:Int}{j:Nat}(h:ixN n i=some j):seqIndex? i n=some j/\j < n/\ -(n:Int)<=i/\i < n:=by
 unfold ixN at h
 by_cases h0:0<=i
 ·rw[if_pos h0]at h
  by_cases h1:i < n
  ·rw[if_pos h1]at h;have e:=aH h;exact⟨by rw[seqIndex_of h0 h1,e],by omega,by omega,h1⟩
  ·rw[if_neg h1]at h;cases h
 ·rw[if_neg h0]at h
  by_cases h1: -(n)<=i
  ·rw[if_pos h1]at h;have e:=aH h;exact⟨by rw[seqIndex_neg (by omega) h1,e],by omega,h1,by omega⟩
  ·rw[if_neg h1]at h;cases h
theorem ul {α:Type}{xs:List α}{i:Int}{v:α}(h:atI xs i=some v):∃j,seqIndex? i xs.length=some j/\xs[j]? =some v/\j < xs.length/\ -(xs.length:Int)<=i/\i < xs.length:=by
 unfold atI at h;cases e:ixN _ i with
 | none=>rw[e]at h;cases h
 | some j=>
  rw[e]at h;obtain⟨h1,h2,h3,h4⟩:=xh e;exact⟨j,h1,h,h2,h3,h4⟩
theorem jb {α:Type}{xs:List α}{j:Nat}{v:α}(h:xs[j]? =some v):atI xs (j:Int)=some v:=by
 have hj:=(aw.mp h).1;have e:ixN xs.length (j)=some j:=by
  unfold ixN;rw[if_pos (by omega),if_pos (by omega)];simp
 unfold atI;rw[e];exact h
noncomputable def um (b:Expr):Prop:=∀o i,subscripted b false o i=operate [o,i] (getItem o i)
noncomputable def IxR (X:Cx)(r:R2):Prop:=
 ∀(value slice:Expr) (pins:List (Addr×Obj)) (s:Shared) (σ:St) (H:Hp) (x y:V) (v u:Value) (Q:VK),Inv X pins σ H s->Zb x v->Zb y u->r x y H Q->
  subscripted slice false v u=operate [v,u] (getItem v u)->wpAny (model X.prog X.w) X.A (subscriptTail value slice v u) (EP X pins σ Q) X.xe s
noncomputable def MtR (X:Cx)(id:String)(r:V->List V->Hp->VK->Prop):Prop:=
 ∀(pins:List (Addr×Obj)) (s:Shared) (σ:St) (H:Hp) (x:V) (xs:List V) (v:Value) (us:List Value) (Q:VK),Inv X pins σ H s->Zb x v->zZ xs us->r x xs H Q->
  wpAny (model X.prog X.w) X.A (call (.builtin id) (v :: us)) (EP X pins σ Q) X.xe s
section
variable {X:Cx}{a b:Expr}{ta tb:TE}{pos:Pos}
theorem IxR.or {r r' :R2}(h:IxR X r)(h' :IxR X r'):IxR X (λx y H Q=>r x y H Q\/r' x y H Q):=by
 intro value slice pins s σ H x y v u Q I rx ry q hs;rcases q with q | q
 ·exact h _ _ _ s σ H x y v u Q I rx ry q hs
 ·exact h' _ _ _ s σ H x y v u Q I rx ry q hs
theorem xi {r:R2}(hr:IxR X r)(ha:PE X a ta)(hb:PE X b tb)(hs:um b):PE X (.Subscript a b pos) (tOp r ta tb):=by
 intro pins s σ H Q I h;exact Subscript_ (z0O ha hb I h λv u s2 x y H2 I2 rx ry q=>hr a b _ s2 σ H2 x y v u Q I2 rx ry q (hs _ _))
noncomputable def rIxL (K:a8):R2:=λx y H Q=>∃p xs i v,x= .ref p/\y= .int i/\SqL K H p xs/\atI xs i=some v/\Q v H
noncomputable def rIxT (K:a8):R2:=λx y H Q=>∃p xs i v,x= .ref p/\y= .int i/\SqT K H p xs/\atI xs i=some v/\Q v H
noncomputable def rIxS:R2:=λx y H Q=>∃z i c,x= .str z/\y= .int i/\z.length<=sizeLine/\atI z.cps.toList i=some c/\Q (.str ⟨#[c]⟩) H
theorem xj:IxR X (rIxL X.K):=by
 intro value slice pins s σ H x y v u Q I rx ry h hs;obtain⟨p,xs,i,z,rfl,rfl,hq,he,q⟩:=h;cases rx;obtain⟨t,rfl⟩:=ry;obtain⟨its,r,pl,hz⟩:=I.list hq;obtain⟨j,h1,h2,h3,h4,h5⟩:=ul he;obtain⟨w,ew,rw'⟩:=r.get h2;have hl:=r.length;have hn:=Wo;have fin:EP X _ σ Q w s:=⟨z,H,I,rw',q⟩
 by_cases h0:0<=i
 ·have hj:=by
   rw[seqIndex_of h0 h5]at h1;exact aH h1
  exact item_listR pl.isList h0 (by omega) (by rw[hj];simpa using ew) fin hs
 ·have hj:(i+(its.toArray.size)).toNat=j:=by
   rw[seqIndex_neg (by omega) h4]at h1
   rw[ay,← hl];exact aH h1
  exact subscriptTail_builtinR pl.isList.typeIs slot_list_getitem.lookup
   (wpAny_getItem_list_neg pl.isList (by omega) (by rw[ay] <;> omega) (by omega) (by rw[hj];simpa using ew) ⟨rfl,fin⟩) hs
theorem K2:IxR X (rIxT X.K):=by
 intro value slice pins s σ H x y v u Q I rx ry h hs;obtain⟨p,xs,i,z,rfl,rfl,hq,he,q⟩:=h;cases rx;obtain⟨t,rfl⟩:=ry;obtain⟨its,r,pl,hz⟩:=I.tuple hq;obtain⟨j,h1,h2,h3,h4,h5⟩:=ul he;obtain⟨w,ew,rw'⟩:=r.get h2;have hl:=r.length;have hn:=Wo;have fin:EP X _ σ Q w s:=⟨z,H,I,rw',q⟩;exact subscriptTail_builtinR pl.typeIs slot_tuple_getitem.lookup
  (getItem_tuple pl (by omega) (by omega) (by rw[ay,← hl];exact h1) (by simpa using ew) ⟨rfl,fin⟩) hs
theorem K3:IxR X rIxS:=by
 intro value slice pins s σ H x y v u Q I rx ry h hs;obtain⟨z,i,c,rfl,rfl,hz,he,q⟩:=h;obtain⟨t,rfl⟩:=rx;obtain⟨t',rfl⟩:=ry;obtain⟨j,h1,h2,h3,h4,h5⟩:=ul he;have hl:z.cps.toList.length=z.length:=by simp[Str.length]
 rw[hl]at h1 h4 h5;have hn:=Wo;exact tail_any (typeIs_str s z t) slot_str_getitem.lookup (getItem_str (by
  have e1:decide (i < -(2 ^ 63))=false:=decide_eq_false (by omega)
  have e2:decide (i ≥ 2 ^ 63)=false:=decide_eq_false (by omega)
  rw[e1,e2,Bool.or_false]) (by rw[h1];simpa using h2) ⟨.str _,H,I.tok _,⟨_,rfl⟩,q⟩) hs
noncomputable def rIx (K:a8):R2:=λx y H Q=>rIxL K x y H Q\/rIxT K x y H Q\/rIxS x y H Q
theorem Vd:IxR X (rIx X.K):=xj.or (K2.or K3)
theorem Wt (lo hi:Option Int)(n:Nat):(sliceBounds lo hi none n).1=((HT.sIx n 0 lo:Nat):Int)/\(sliceBounds lo hi none n).2.1=((HT.sIx n n hi:Nat):Int)/\(sliceBounds lo hi none n).2.2=1:=by
 refine⟨?_, ?_,rfl⟩
 ·cases lo with
  | none=>simp[sliceBounds,HT.sIx]
  | some i=>
   simp only[sliceBounds,HT.sIx,hW,show (1) > 0 by decide,if_true]
   by_cases h:i < 0
   ·simp only[h,if_true] <;> omega
   ·simp only[h,if_false] <;> omega
 ·cases hi with
  | none=>simp[sliceBounds,HT.sIx]
  | some i=>
   simp only[sliceBounds,HT.sIx,hW,show (1) > 0 by decide,if_true]
   by_cases h:i < 0
   ·simp only[h,if_true] <;> omega
   ·simp only[h,if_false] <;> omega
theorem wI (its:List Value)(lo hi:Option Int):slicePick its.toArray lo hi none=((its.drop (HT.sIx its.length 0 lo)).take (HT.sIx its.length its.length hi - HT.sIx its.length 0 lo)).toArray:=by
 obtain⟨h1,h2,h3⟩:=Wt lo hi _;unfold slicePick;rw[h1,h2,h3];simp only[sliceRange_one,pick_run,ay] <;> rfl
noncomputable def rSlL (K:a8):V->Option Int->Option Int->Hp->VK->Prop:=λx lo hi H Q=>∃a xs,x= .ref a/\SqL K H a xs/\∀p,H p=none->Q (.ref p) (upd H p (.lst (kf xs lo hi)))
theorem xk:SlR X (rSlL X.K):=by
 intro pins s σ H x v vl vu lo hi sl Q I rx hs pl pu h;obtain⟨a,xs,rfl,hx,q⟩:=h;cases rx;obtain⟨its,r,ht,hz⟩:=I.list hx;have hlen:=r.length;refine⟨"list",_,slot_list_getitem.lookup,ht.isList.typeIs, ?_⟩;refine wpAny_getItem_list_slice ht.isList hs pl pu .none (by simp) ?_ (by rw[ay] <;> omega)
 rw[wI,← hlen];refine⟨.ref _,_,I.laid (λb ob q=>ab _ q) (ai _) ?_,rfl,q _ (I.hok.fresh (ai _))⟩;exact⟨aq (JA xs lo hi) hz,_,0,(r.drop _).take _,af _ rfl⟩
theorem Wu:Zt X (.builtin "len") (λxs H Q=>∃p ys,xs=[.ref p]/\(SqL X.K H p ys\/SqT X.K H p ys)/\Q (.int ys.length) H):=by
 intro pins s σ H xs us Q I r h;obtain⟨p,ys,rfl,hq,q⟩:=h;obtain⟨u,rfl,rx⟩:=ZN r;cases rx;have hn:=Wo;rcases hq with hq | hq
 ·obtain⟨its,r',pl,hz⟩:=I.list hq;have hlen:=r'.length;exact Calls.call_len_list pl.isList (by simp only[ay] <;> omega) ⟨.int _,H,I.tok _,⟨s.toks+1,by rw[ay,hlen]⟩,q⟩
 ·obtain⟨its,r',pl,hz⟩:=I.tuple hq;have hlen:=r'.length;exact len_tuple pl (by simp only[ay] <;> omega) ⟨.int _,H,I.tok _,⟨s.toks+1,by rw[ay,hlen]⟩,q⟩
theorem Wv:Zt X (.builtin "len") (λxs H Q=>∃z,xs=[.str z]/\z.length<=sizeLine/\Q (.int z.length) H):=by
 intro pins s σ H xs us Q I r h;obtain⟨z,rfl,hz,q⟩:=h;obtain⟨u,rfl,t,rfl⟩:=ZN r;have hn:=Wo;exact len_str (by omega) ⟨.int _,H,I.tok _,⟨_,rfl⟩,q⟩
theorem Zt.or {f:Value}{r r' :List V->Hp->VK->Prop}(h:Zt X f r)(h' :Zt X f r'):Zt X f (λxs H Q=>r xs H Q\/r' xs H Q):=by
 intro pins s σ H xs us Q I rs q;rcases q with q | q
 ·exact h _ s σ H xs us Q I rs q
 ·exact h' _ s σ H xs us Q I rs q
theorem Ja:Zt X (.type "list") (λxs H Q=>∃p ys,xs=[.ref p]/\(SqL X.K H p ys\/SqT X.K H p ys)/\∀l,H l=none->Q (.ref l) (upd H l (.lst ys))):=by
 intro pins s σ H xs us Q I r h;obtain⟨p,ys,rfl,hq,q⟩:=h;obtain⟨u,rfl,rx⟩:=ZN r;cases rx;have fin:∀(its:List _),zZ ys its->ys.length<=sizeLine->∀(h' :Heap) (c' :Nat),(∀b o',s.heap.get? b=some o' ->h'.get? b=some o')->
   h'.get? _=some _->EP X _ σ Q _ { s with heap:=h' }:=λits r' hz h' c' kp e=>
  ⟨.ref _,_,I.laid kp (ai _) (show Zc _ X.w _ h' _ (.lst ys) from ⟨hz,its,c',r',e⟩),rfl,q _ (I.hok.fresh (ai _))⟩
 rcases hq with hq | hq
 ·obtain⟨its,r',pl,hz⟩:=I.list hq;have hlen:=r'.length;obtain⟨o,ho,hc,n,hd⟩:=pl.isList;exact call_list_seq p (.inl rfl) ho hc hd (λh' c' kp e=>fin its r' hz h' c' kp e) (by simp only[ay] <;> omega)
 ·obtain⟨its,r',pl,hz⟩:=I.tuple hq;have hlen:=r'.length;obtain⟨o,ho,hc,n,hd⟩:=pl;exact call_list_seq p (.inr rfl) ho hc hd (λh' c' kp e=>fin its r' hz h' c' kp e) (by simp only[ay] <;> omega)
theorem wJ:Zt X (.type "tuple") (λxs H Q=>∃p ys,xs=[.ref p]/\((SqL X.K H p ys/\∀l,H l=none->Q (.ref l) (upd H l (.tup ys)))\/(SqT X.K H p ys/\Q (.ref p) H))):=by
 intro pins s σ H xs us Q I r h;obtain⟨p,ys,rfl,h⟩:=h;obtain⟨u,rfl,rx⟩:=ZN r;cases rx;rcases h with ⟨hq,q⟩ | ⟨hq,q⟩
 ·obtain⟨its,r',pl,hz⟩:=I.list hq;have hlen:=r'.length;refine call_tuple_list pl.isList (λh' kp=> ?_) (by simp only[ay] <;> omega)
  have I1:Inv X _ σ H { s with heap:=h' }:=I.kept kp;have I2:Inv X _ σ (upd H _ (.tup ys)) { s with heap:=h'.push _ }:=
   I1.laid (λb o e=>ab _ e) (ai _) (show Zc _ X.w _ _ _ _ from ⟨hz,its,r',ITN.new _ _⟩)
  exact⟨.ref _,_,I2,rfl,q _ (I1.hok.fresh (ai _))⟩
 ·obtain⟨its,r',pl,hz⟩:=I.tuple hq;exact call_tuple_same pl ⟨.ref p,H,I,rfl,q⟩
noncomputable def tyV (K:a8)(T:String)(x:V)(H:Hp):Prop:=match x with
 | .str _=>T="str"
 | .int _=>T="int"
 | .ref p=>(T="list"/\∃xs,SqL K H p xs)\/(T="tuple"/\∃o,K.lookup p=some o/\o.cls= .type "tuple"/\o.dict=none)\/
   (T="dict"/\((∃kvs,H p=some (.dK kvs))\/∃kvs,H p=some (.dT kvs)))\/(T="set"/\∃S n,H p=some (.set S n))
 | _=>False
theorem Ve {pins:List (Addr×Obj)}{σ:St}{H:Hp}{s:Shared}{T:String}{x:V}{v:Value}(I:Inv X pins σ H s)(r:Zb x v)(ty:tyV X.K T x H):
  s.TypeIs v T/\∀a,v= .ref a->∃ob,s.heap.get? a=some ob/\ob.dict=none:=by
 cases x with
 | str z=>
  obtain⟨t,rfl⟩:=r;cases (ty);exact⟨typeIs_str s z t,λ_ e=>nomatch e⟩
 | int i=>
  obtain⟨t,rfl⟩:=r;cases (ty);exact⟨typeIs_int s i t,λ_ e=>nomatch e⟩
 | ref p=>
  cases r;rcases ty with ⟨rfl,xs,hq⟩ | ⟨rfl,o,hk,hc,hd⟩ | ⟨rfl,hk⟩ | ⟨rfl,S,n,hk⟩
  ·obtain⟨its,_,pl,_⟩:=I.list hq;refine⟨pl.isList.typeIs,λa e=> ?_⟩;cases e;obtain⟨o,n,e,c,hd,_⟩:=pl;exact⟨o,e,hd⟩
  ·refine⟨⟨o,I.kIn p o hk,hc⟩,λa e=> ?_⟩;cases e;exact⟨o,I.kIn _ o hk,hd⟩
  ·have z:∃o,s.heap.get? p=some o/\o.ExactDict:=by
    rcases hk with ⟨kvs,hk⟩ | ⟨kvs,hk⟩
    ·obtain⟨_,_,_,_,o,_,_,e,ex,_⟩:=I.hok p _ hk;exact⟨o,e,ex⟩
    ·obtain⟨_,_,_,_,o,_,_,e,ex,_⟩:=I.hok p _ hk;exact⟨o,e,ex⟩
   obtain⟨o,e,ex⟩:=z;refine⟨⟨o,e,ex.1⟩,λa e2=> ?_⟩;cases e2;exact⟨o,e,ex.2.1⟩
  ·obtain⟨o,_,_,_,e,ex,_⟩:=I.hok p _ hk;refine⟨⟨o,e,ex.1⟩,λa e2=> ?_⟩;cases e2;exact⟨o,e,ex.2.1⟩
 | _=>exact bF ty
noncomputable def tBM0 (K:a8)(T:String)(r:V->List V->Hp->VK->Prop)(to:TE):TE:=λσ H Q=>to σ H λx H1=>tyV K T x H1/\r x [] H1 Q
noncomputable def tBM (K:a8)(T:String)(r:V->List V->Hp->VK->Prop)(to:TE)(t:TA):TE:=λσ H Q=>to σ H λx H1=>tyV K T x H1/\t σ H1 λxs H2=>r x xs H2 Q
variable {o e:Expr}{es:List Expr}{to:TE}{t:TA}{name:Str}{apos cpos:Pos}{T id:String}{r:V->List V->Hp->VK->Prop}
theorem K4 (pa:PlainAttrs T)(slot:Slot T name id)(hty:typeOf (.builtin id)=pure (.type "method_descriptor"))(hm:MtR X id r)(ho:PE X o to)
  (hbase:attributeBase o name X.env (eval o X.env)=eval o X.env:=by rfl) (hline:(apos.endLine == cpos.line)=true:=by rfl):PE X (.Call (.Attribute o name apos) [] [] cpos) (tBM0 X.K T r to):=by
 intro pins s σ H Q I h;refine wpAny_Call_method0_late hbase hline (thn (ho _ s σ H _ I h) λv s1 ⟨x,H1,I1,r1,ty,q1⟩=> ?_);obtain⟨h1,h2⟩:=Ve I1 r1 ty;exact⟨T,id,pa,slot,hty,h1,h2,eO rfl (PySem.evalArgs_none (hm _ s1 σ H1 x [] v [] Q I1 r1 .nil q1))⟩
theorem QV (pa:PlainAttrs T)(slot:Slot T name id)(hty:typeOf (.builtin id)=pure (.type "method_descriptor"))(hm:MtR X id r)(ho:PE X o to)(ha:PA X (e :: es) t)
  (hbase:attributeBase o name X.env (eval o X.env)=eval o X.env:=by rfl)
  (hfew:((backTo cpos (starEach (e :: es) X.env)).all (λx=> !x.1) && (backToKw cpos (keywordEach [] X.env)).all (λx=>x.1.isSome)
   && decide ((e :: es).length+([]:List Keyword).length+(if ([]:List Keyword).isEmpty then 0 else 1) < 30))=true:=by rfl)
  (hline:(apos.endLine == cpos.line)=true:=by rfl) (hs:starEach (e :: es) X.env=(false,eval e X.env) :: starEach es X.env:=by rfl) (hplain:(backTo cpos (starEach es X.env)).any (·.1)=false:=by rfl):
  PE X (.Call (.Attribute o name apos) (e :: es) [] cpos) (tBM X.K T r to t):=by
 intro pins s σ H Q I h;refine wpAny_Call_method_late hbase hfew hline rfl (thn (ho _ s σ H _ I h) λv s1 ⟨x,H1,I1,r1,ty,q1⟩=> ?_);obtain⟨h1,h2⟩:=Ve I1 r1 ty;refine⟨T,id,pa,slot,hty,h1,h2, ?_⟩;have hA:=ha cpos _ s1 σ H1 _ I1 q1;rw[hs]at hA ⊢;refine eO (by show (false || (backTo _ _).any _)=false;rw[hplain] <;> rfl) (Calls.evalArgs_plain ?_)
 exact thn hA λus s2 ⟨vs,H2,I2,r2,q2⟩=>hm _ s2 σ H2 x vs v us Q I2 r1 r2 q2
end
end L2
namespace L2
open PySem PySem.Spec PyProof.Rows
noncomputable def MtM (X:Cx)(id:String)(r:V->List V->Hp->VK->Prop):Prop:=
 ∀(pins:List (Addr×Obj)) (s:Shared) (σ:St) (H:Hp) (x:V) (xs:List V) (v:Value) (us:List Value) (Q:VK),Inv X pins σ H s->Zb x v->zZ xs us->r x xs H Q->
  wpAny (model X.prog X.w) X.A (call (.builtin id) (v :: us)) (EP X pins σ Q) X.xe s
theorem zZ.one:∀{x:V} {us:List Value},zZ [x] us->∃u,us=[u]/\Zb x u
 | _,_,.cons r .nil=>⟨_,rfl,r⟩
theorem zZ.rep {xs:List V}{us:List Value}(h:zZ xs us):∀k:Nat,zZ (aa k xs).flatten (aa k us).flatten
 | 0=> .nil
 | k+1=>by
  exact zZ.append h (zZ.rep h k)
theorem jH (its:List Value):∀(k:Nat) (acc:List Value),
  dB (λx1 x2=>x1++x2) acc.toArray (aa k its.toArray)=(acc++(aa k its).flatten).toArray
 | 0,acc=>by simp
 | k+1,acc=>by
  have e:acc.toArray++its.toArray=(acc++its).toArray:=by simp
  have e2:(acc++its)++(aa k its).flatten=acc++(aa (k+1) its).flatten:=by
   rw[ba,dN,br]
  rw[← e2,← jH its k _,← e,ba,List.foldl_cons]
section
variable {X:Cx}{pins:List (Addr×Obj)}{σ:St}{H:Hp}{s:Shared}{l b:Addr}{xs ys zs:List V}
theorem Inv.lset {its its' :List Value}{n:Nat}{f:Array Value->Array Value}{t' :Nat}(I:Inv X pins σ H s)(hH:H l=some (.lst xs))
  (e:s.heap.get? l=some { cls:= .type "list",data:= .seq its.toArray n }) (hf:f its.toArray=its'.toArray) (hv:zZ ys its') (hz:ys.length<=sizeLine):
  Inv X pins σ (upd H l (.lst ys)) { s with heap:=s.heap.update l (Obj.mapSeq f),toks:=t' }:=by
 have q:=PySem.IsL.update e f;rw[hf]at q;refine I.write (by rw[hH];exact trivial) (.inl rfl) (λb' u hb hu=>(Heap.get?_update_other _ _ (aU hb)).trans hu) ⟨_,q⟩ ?_
 exact⟨hz,its',_,hv,q⟩
theorem Inv.lnew {its:List Value}{t' :Nat}(I:Inv X pins σ H s)(hv:zZ ys its)(hz:ys.length<=sizeLine):
  Inv X pins σ (upd H s.heap.objs.size (.lst ys)) { s with heap:=s.heap.push { cls:= .type "list",data:= .seq its.toArray },toks:=t' }:=
 I.laid (λ_ _ q=>ab _ q) (ai _) ⟨hz,its,0,hv,af _ rfl⟩
theorem Inv.fresh (I:Inv X pins σ H s):H s.heap.objs.size=none:=I.hok.fresh (ai _)
theorem Inv.lstM (I:Inv X pins σ H s)(hH:H l=some (.lst xs)):xs.length<=sizeLine/\∃(its:List Value) (n:Nat),zZ xs its/\xs.length=its.length/\s.heap.get? l=some { cls:= .type "list",data:= .seq its.toArray n }:=by
 obtain⟨z,its,n,r,e⟩:=I.hok l _ hH;exact⟨z,its,n,r,r.length,e⟩
theorem uZ {n:Nat}(h:n<=sizeLine):cM n=false:=by
 exact decide_eq_false (by omega)
end
section
variable {X:Cx}
noncomputable def xl:V->List V->Hp->VK->Prop:=λx vs H Q=>∃l xs y,x= .ref l/\vs=[y]/\H l=some (.lst xs)/\xs.length < sizeLine/\Q .non (upd H l (.lst (xs++[y])))
theorem JB:MtM X "list.append" xl:=by
 intro pins s σ H x vs v us Q I rx rv h;obtain⟨l,xs,y,rfl,rfl,hH,hz,q⟩:=h;cases rx;obtain⟨u,rfl,ru⟩:=rv.one;obtain⟨z,its,n,r,hl,e⟩:=I.lstM hH;refine dC F.slot_list_append ⟨_,e,rfl⟩ F.entry_list_append (F.args_list_append_2 _ _) (PySem.list_append l _ n u (by rw[ay];omega)) ⟨e, ?_⟩
 refine⟨.non,_,I.lset hH e (by simp) (r.append (.cons ru .nil)) ?_,rfl,q⟩
 rw[av,aF];omega
noncomputable def xm:V->List V->Hp->VK->Prop:=λx vs H Q=>∃l b xs zs,x= .ref l/\vs=[.ref b]/\H l=some (.lst xs)/\H b=some (.lst zs)/\xs.length+zs.length<=sizeLine/\Q .non (upd H l (.lst (xs++zs)))
theorem Y9:MtM X "list.extend" xm:=by
 intro pins s σ H x vs v us Q I rx rv h;obtain⟨l,b,xs,zs,rfl,rfl,hH,hB,hz,q⟩:=h;cases rx;obtain⟨u,rfl,ru⟩:=rv.one;cases ru;obtain⟨z,its,n,r,hl,e⟩:=I.lstM hH;obtain⟨z2,its2,n2,r2,hl2,e2⟩:=I.lstM hB;have hsz:its.toArray.size+its2.toArray.size<=sizeLine:=by rw[ay,ay];omega
 have hlong:¬ (!its.toArray.isEmpty && cM (its.toArray.size+its2.toArray.size))=true:=by
  rw[uZ hsz,Bool.and_false];exact au
 refine dC F.slot_list_extend ⟨_,e,rfl⟩ F.entry_list_extend (F.args_list_extend_2 _ _)
  (AutoSeq1.list_extend_list_list_0 l _ n b _ n2 hlong (by omega) (by omega)) ⟨e,e2, ?_⟩
 refine⟨.non,_,I.lset hH e (by simp) (r.append r2) ?_,rfl,q⟩
 rw[av];omega
noncomputable def rCat:R2:=λx y H Q=>∃l b xs zs,x= .ref l/\y= .ref b/\H l=some (.lst xs)/\H b=some (.lst zs)/\xs.length+zs.length<=sizeLine/\∀p,H p=none->Q (.ref p) (upd H p (.lst (xs++zs)))
theorem K5:OpR X (binaryOp .Add) rCat:=by
 intro pins s σ H x y v u Q I rx ry h;obtain⟨l,b,xs,zs,rfl,rfl,hH,hB,hz,q⟩:=h;cases rx;cases ry;obtain⟨z,its,n,r,hl,e⟩:=I.lstM hH;obtain⟨z2,its2,n2,r2,hl2,e2⟩:=I.lstM hB;refine PySem.P.add_list e e2 ?_ (by rw[ay,ay];omega)
 have ea:its.toArray++its2.toArray=(its++its2).toArray:=by simp
 rw[ea];exact⟨.ref _,_,I.lnew (r.append r2) (by rw[av];omega),rfl,q _ I.fresh⟩
noncomputable def rRep:R2:=λx y H Q=>∃l k xs,x= .ref l/\y= .int k/\H l=some (.lst xs)/\ -(2 ^ 63)<=k/\k < 2 ^ 63/\xs.length*k.toNat<=sizeLine/\
 ∀p,H p=none->Q (.ref p) (upd H p (.lst (aa k.toNat xs).flatten))
theorem jR {α:Type}(xs:List α)(k:Nat):(aa k xs).flatten.length=k*xs.length:=by
 induction k with
 | zero=>simp
 | succ k ih=>rw[ba,dN,av,ih,eP,fR]
theorem K6:OpR X (binaryOp .Mult) rRep:=by
 intro pins s σ H x y v u Q I rx ry h;obtain⟨l,k,xs,rfl,rfl,hH,h1,h2,hz,q⟩:=h;cases rx;obtain⟨t,rfl⟩:=ry;obtain⟨z,its,n,r,hl,e⟩:=I.lstM hH;have hlen:its.toArray.size*k.toNat<=sizeLine:=by rw[ay,← hl];exact hz
 have hcap:¬ its.toArray.size*k.toNat > (2 ^ 63 - 1) / 8:=by
  have:(sizeLine)<=(2 ^ 63 - 1) / 8:=by decide
  omega
 have hfit:¬ (!Builtin.List.listFitsIndex k)=true:=by
  rw[fitsIndex_both h1 h2];exact au
 have hlong:¬ cM (its.toArray.size*k.toNat)=true:=by
  rw[uZ hlen];exact au
 have hnew:dB (λx1 x2=>x1++x2) #[] (aa (if its.toArray.isEmpty=true then 0 else k.toNat) its.toArray)=(aa k.toNat its).flatten.toArray:=by
  have f0:∀m,dB (λx1 x2=>x1++x2) #[] _=(aa m its).flatten.toArray:=λm=>by
   have:=jH its m [];exact this
  rw[f0];cases its with
  | nil=>simp
  | cons a r' =>rw[if_neg (by simp)]
 refine wpAny_binaryOp_repeat_ref (by decide) ⟨_,e,rfl⟩ (λs' =>typeIs_int s' k t) noFill_list_mul ip di repeat_list hZ.lookup
  (dC di (typeIs_int s k t) h_ (fS _ _) (int___rmul___int_list k t l _ n)
   ⟨e,rfl,⟨_,e,rfl⟩,dC F.slot_list_mul ⟨_,e,rfl⟩ F.entry_list_mul (F.args_list_mul_2 _ _) (AutoListH.list___mul___list_int_3 l _ n k t hfit hcap hlong) ⟨e, ?_⟩⟩)
 rw[hnew];exact⟨.ref _,_,I.lnew (r.rep _) (by rw[jR,bP];exact hz),rfl,q _ I.fresh⟩
end
end L2
namespace Att
open PySem PySem.W PySem.Calls PyProof.Rows
theorem JC {P:Params}{h:Heap}:∀(ns:List Int) (vs:List Value),WellAll P h vs (ns.map WData.int)->IntsAre vs ns:=by
 intro ns
 induction ns with
 | nil=>
  intro vs w;cases w;exact .nil
 | cons n ns ih=>
  intro vs w;cases w with
  | cons a b=>
   cases a;exact .cons _ _ (ih _ b)
theorem Ya {l:OpenLaw}{n:Nat}(hn:l.most=some n){P:Params}{h:Heap}{args:List WData}{vals:List Value}
  (hpre:l.row.toRowW.claim.pre args=true) (hwl:WellAll P h vals args):
  ∃a vs ns,vals=[Value.ref a]/\args=[WData.list (ns.map WData.int)]/\h.get? a=some { cls:= .type "list",data:= .seq vs.toArray }/\IntsAre vs ns/\ns.length<=n:=by
 have hsh:=(pre_splitW hpre).1;have hc:=(pre_splitW hpre).2;obtain⟨d,r,rfl,h1,h2⟩:=hasAllW_cons hsh;obtain rfl:=hasAllW_nil h2;obtain⟨xs,rfl,h3⟩:=hasW_list h1;obtain⟨ns,rfl⟩:=items_int h3;have hlen:ns.length<=n:=by
  have h4:=by
   have h4:=(holds_andW hc).1;rw[hn]at h4;exact h4
  have h5:=condW_of h4 (w_not (w_lt w_lit (w_len_list (w_arg rfl))));rw[ac]at h5;refine Nat.le_of_not_lt λq=> ?_;have q' :(n) < ((ns.length):Int):=by omega
  first
   | (rw[decide_eq_true q']at h5;exact absurd h5 (by decide))
   | (simp at h5)
 cases hwl with
 | cons w1 w2=>
  cases w2;cases w1 with
  | list ho hall=>exact⟨_,_,ns,rfl,rfl,ho,JC ns _ hall,hlen⟩
theorem Yb (l:OpenLaw)(args:List WData):l.row.toRowW.claim.post args (.bool true) args=true:=
 postW_of
  (show WShape.has [] _ _=true by first | rfl | decide | simp[WShape.has,WShape.arms,WShape.armsAll])
  (show (WTm.eq _ _).value [] _=some _ from w_eq_bool (w_res rfl) w_lit) rfl
theorem attach_call {l:OpenLaw}{n:Nat}{q:Program}{loose:List Str}{XP:(Str->Option Value)->Heap->Prop}{YP:World->Heap->Prop}{d:DefRec}
  (hn:l.most=some n) (hdf:d.params.defaults=[])
  (call:∀(w:World) (s₀ s₁:Shared) (mg mb:Str->Option Value) (fa:Addr) (o:Obj) (pm cd doc:Value) (a:Addr) (vs:List Value) (ns:List Int),
   Ground q loose [] XP w s₀ mg mb s₁.heap->YP w s₁.heap->
   s₁.heap.get? fa=some o->o.data= .func (docDef d.name d.params d.body d.scope pm cd doc)->s₁.heap.CodeRec cd d.name->mg d.name=some (.ref fa)->
   s₁.heap.get? a=some { cls:= .type "list",data:= .seq vs.toArray }->IntsAre vs ns->ns.length<=n->s₁.gens= #[]->
   codeAny (model l.prog w) callerA (.call (.ref fa) ⟨[.ref a],[]⟩) (λr s' =>r= .ok (.ret (.bool true))/\OldK s₁.heap s'.heap/\s'.os=s₁.os/\AllBare s'.gens) s₁):
  WalkO q loose XP YP l.row.toRowW d [] (λf vs=>iC f vs):=by
 intro w s₀ s₁ mg mb G Y fa o pm cd doc dV kV ho hd hcd hD hmg hg args vals as hpre hlay hrd hwl hlo;obtain rfl:dV= .none:=Dflts.none hD hdf;obtain rfl:kV= .none:=Dflts.noKw hD;obtain⟨a,vs,ns,rfl,rfl,hobj,hints,hlen⟩:=Ya hn hpre hwl;refine enter_call (cU (call w _ _ mg mb fa o pm cd doc a vs ns G Y ho (fd_plain hd) hcd hmg hobj hints hlen hg) λr s' hq=> ?_);obtain⟨rfl,h2,h3,h4⟩:=hq;exact⟨.inl ⟨.bool _,.bool _,[],rfl,λ_=>rfl,.bool _,Yb l _,λ_=>⟨List.Pairwise.nil,λ_ hm=>(nomatch hm)⟩⟩,h2,h3,h4⟩
end Att
namespace L2
open PySem PySem.Spec PyProof.Rows
theorem jI:∀{vs:List Value} {ns:List Int},IntsAre vs ns->zZ (ns.map V.int) vs
 | _,_,.nil=> .nil
 | _,_,.cons n t h=> .cons ⟨t,rfl⟩ (jI h)
noncomputable def GP (H:Hp):Prop:=∀b,H b=none\/∃o xs,H b=some (.frz o (.lst xs))
theorem QW {P:Program}{w:World}{K:a8}{mg mb:Str->Option Value}{CX:CXT}{k:Nat}{fa a:Addr}{fd:FuncData}{x:Str}{sp:Sp}{s₁:Shared}{vs:List Value}{ns:List Int}
  (KX:K.In s₁.heap) (hns:s₁.heap.Ns mainGlobals mg) (hb:s₁.heap.Ns builtinsNs mb) (hbb:∀x:Str,x ≠ "__name__"->mb x=bootBuiltins x) (hlim:s₁.heap.NoLimit) (hg:s₁.gens= #[])
  (ha:s₁.heap.get? a=some { cls:= .type "list",data:= .seq vs.toArray }) (hi:IntsAre vs ns) (hl:ns.length<=sizeLine) (hr:j3 k callerA)
  (F:∀base:Heap,K.In base->base.Ns mainGlobals mg->jw P w K mg base CX k fa fd [x] sp) (hbind:∀(s:Shared) (u:Value),BindsTo s fd ⟨[u],[]⟩ [(x,u)])
  (hsp:∀H:Hp,GP H->SqL K H a (ns.map V.int)->sp [.ref a] H (λv _=>v= .bl true) λ_ _ _=>False)
  (hCX:∀H e s',CX [] H s₁ (λ_ _ _=>False) e s' ->False):
  codeAny (model P w) callerA (.call (.ref fa) ⟨[.ref a],[]⟩) (λr s' =>r= .ok (.ret (.bool true))/\OldK s₁.heap s'.heap/\s'.os=s₁.os/\AllBare s'.gens) s₁:=by
 have rv:=jI hi;have lenV:=hi.length;have core:∀H,GP H->SqL K H a (ns.map V.int)->HOk P w H s₁.heap->(∀b,H b ≠ none->b=a)->(H a ≠ none->K.lookup a=none)->
   codeAny (model P w) callerA (.call (.ref fa) ⟨[.ref a],[]⟩) (λr s' =>r= .ok (.ret (.bool true))/\OldK s₁.heap s'.heap/\s'.os=s₁.os/\AllBare s'.gens) s₁:=by
  intro H hO hS hok hA hK;have base_of:∀{b:Addr} {o:Obj},s₁.heap.get? b=some o->H b=none->(ke _ H).get? b=some o:=λe n=>QG e n;have noA:∀{b:Addr} {o:Obj} {es:Array _} {ep:Nat},s₁.heap.get? b=some o->o.data= .dict es ep->H b=none:=λ{b o es ep} e d=>by
   cases q:H b with
   | none=>rfl
   | some u=>
    have e' :=hA b (by rw[q];simp)
    subst e';rw[ha]at e;cases e;have d' :=d;cases d'
  have nsK:∀{b:Addr} {m:Str->Option _},s₁.heap.Ns b m->(ke _ H).Ns b m:=λ{b m} ⟨o,es,ep,e,d,r⟩=>⟨o,es,ep,base_of e (noA e d),d,r⟩;have hKb:=λb o e=>base_of (KX b o e) (by
   cases q:H b with
   | none=>rfl
   | some u=>
    have e' :=hA b (by rw[q];simp)
    subst e';rw[hK (by rw[q];simp)]at e;cases e)
  have hM:Mod K mg _:=⟨hKb,nsK hns,⟨mb,nsK hb,hbb⟩,let ⟨mc,h1,h2⟩:=hlim;⟨mc,nsK h1,h2⟩⟩;have e0:x6 P w K mg _ callerA [] _ H:=⟨rfl,hM,λb o e=>VQ e,Nat.le_of_eq (yO _ _),trivial,λb hb=>absurd (show b∈([]:List _) from hb) (by simp),hok,.of_eq hg⟩
  refine cU ((F _ hKb (nsK hns)).run _ [] _ H _ _ [.ref a] _ _ hr e0 (hbind _ _) (.cons rfl .nil) (hsp H hO hS)) λr s' h=> ?_;cases r with
  | error e=>exact(hCX H e s' h).elim
  | ok fl=>
   cases fl with
   | next=>exact bF h
   | brk=>exact bF h
   | cont=>exact bF h
   | ret u=>
    obtain⟨v,H',os,bare,un,hok',r',q⟩:=h;have q' :=q;subst q';obtain rfl:u=Value.bool _:=r';refine⟨rfl,OldK.of_keep λb o e=> ?_,os,bare⟩;cases q:H b with
    | none=>exact un.keep b o e q (by intro z;exact absurd (show b∈([]:List _) from z) (by simp)) (by simp)
    | some u=>
     rcases hO b with z | ⟨ob,xs,z⟩
     ·rw[q]at z;cases z
     ·have z2:=un.frzs b ob _ z;obtain⟨e1,_⟩:=hok b _ z;obtain⟨e2,_⟩:=hok' b _ z2;rw[e]at e1;cases e1;exact e2
 cases hk:K.lookup a with
 | some o=>
  have e:=KX a o hk;rw[ha]at e;cases e;refine core (λ_=>none) (λ_=> .inl rfl) (.inr ⟨_,vs.toArray,_,hk,rfl,rfl,rfl,by rw[ay,lenV];exact hl,by simpa using rv⟩) (λb u z=>by have z' :=z;cases z') (λb z=>absurd rfl z) λz=>absurd rfl z
 | none=>
  refine core (λb=>if b=a then some (.frz { cls:= .type "list",data:= .seq vs.toArray } _) else none) (λb=> ?_) (.inl (.inr ⟨{ cls:= .type _,data:= .seq _ },if_pos rfl⟩)) (λb u z=> ?_) (λb z=> ?_) λ_=>hk
  ·by_cases hb:b=a
   ·exact .inr ⟨_,_,if_pos hb⟩
   ·exact .inl (if_neg hb)
  ·by_cases hb:b=a
   ·have z' :=(if_pos hb).symm.trans z;cases z';subst hb;exact⟨ha,by rw[ac];exact hl,vs,_,rv,ha⟩
   ·have z' :=(if_neg hb).symm.trans z;cases z'
  ·by_cases hb:b=a
   ·exact hb
   ·exact absurd (if_neg hb) z
end L2
namespace L2
open PySem PySem.Spec PyProof.Rows
theorem walk_of {l:PySem.W.OpenLaw}{n k:Nat}{q:Program}{loose:List Str}{XP:(Str->Option Value)->Heap->Prop}{YP:World->Heap->Prop}{d:DefRec}{K:Params->a8}{CX:World->CXT}{sp:World->Sp}{x:Str}
  (hn:l.most=some n) (hn2:n<=sizeLine) (hdf:d.params.defaults=[]) (hr:j3 k callerA)
  (hY:∀(w:World) (h:Heap),YP w h->(K w.params).In h)
  (F:∀(w:World) (mg:Str->Option Value) (fa:Addr) (h:Heap),(K w.params).In h->h.Ns mainGlobals mg->mg d.name=some (.ref fa)->
   ∃fd:FuncData,(∀(s:Shared) (u:Value),BindsTo s fd ⟨[u],[]⟩ [(x,u)])/\
    ∀base:Heap,(K w.params).In base->base.Ns mainGlobals mg->jw l.prog w (K w.params) mg base (CX w) k fa fd [x] (sp w))
  (hsp:∀(w:World) (H:Hp) (a:Addr) (ns:List Int),ns.length<=n->GP H->SqL (K w.params) H a (ns.map V.int)->sp w [.ref a] H (λv _=>v= .bl true) λ_ _ _=>False)
  (hCX:∀(w:World) (H:Hp) (s:Shared) (e:Value) (s' :Shared),CX w [] H s (λ_ _ _=>False) e s' ->False):
  PySem.W.WalkO q loose XP YP l.row.toRowW d [] (λf vs=>iC f vs):=by
 refine Att.attach_call hn hdf λw s₀ s₁ mg mb fa o pm cd doc a vs ns G Y ho hd hcd hmg hobj hints hlen hg=> ?_;have KX:=hY w _ Y;obtain⟨fd,hb,hF⟩:=F w mg fa _ KX G.T.g hmg;exact QW KX G.T.g G.T.b G.T.builtins G.T.nolimit hg hobj hints (aq hlen hn2) hr hF hb (λH hO hS=>hsp w H a ns hlen hO hS) λH e s' =>hCX w H _ e s'
end L2
namespace L2
open PySem PySem.Spec PyProof.Rows
noncomputable def Zy (s:Stmt):Arguments:=match s with
 | .FunctionDef _ a _ _ _ _ _ _ _ _=>a
 | _=>{ posonlyargs:=[],args:=[],vararg:=none,kwonlyargs:=[],kw_defaults:=[],kwarg:=none,defaults:=[] }
noncomputable def zT (s:Stmt):List Stmt:=match s with
 | .FunctionDef _ _ b _ _ _ _ _ _ _=>b
 | _=>[]
noncomputable def zx (s:Stmt):Scope:=match s with
 | .FunctionDef _ _ _ _ _ _ sc _ _ _=>sc
 | _=>{ kind:= .function,names:=[],isGenerator:=false,isCoroutine:=false }
noncomputable abbrev CX0:CXT:=λ_ _ _ _ _ _=>False
structure Fun (K:a8) (x qual:Str) (st:Stmt) (f:Addr) (fd:FuncData):Prop where
 ex:∃(oc:Value) (od:Option Addr) (kV doc pm:Value) (an:Option Addr) (cdv ct:Value) (osl:Array (Option Value)),
  fd=bq x qual (Zy st) (zT st) (zx st) .none kV doc pm an cdv ct/\K.lookup f=some ⟨oc,od,.func fd,osl⟩/\cV K cdv qual=true
 kp:bu K (.ref f)=true
section
variable {P:Program}{w:World}{K:a8}{mg:Str->Option Value}{base:Heap}
theorem Fun.ok {x qual:Str}{st:Stmt}{f:Addr}{fd:FuncData}{N ps:List Str}{k:Nat}{sp:Sp}(F:Fun K x qual st f fd)(S:ja N ps (zx st))(len:∀vs H Q E,sp vs H Q E->vs.length=ps.length)
  (hbody:∀(cdv:Value) (A:Around) (outer:List Env) (s:Shared) (H:Hp) (vs:List V) (Q:VK) (E:XK),j3 k (A.deeper (envOfC qual (zx st) s.heap.objs.size f cdv))->sp vs H Q E->
   ∃t,PSs (ud CX0 P w K mg base N qual (zx st) f cdv A outer s H E).nox (zT st) t/\t { nx:=λ_ H' =>Q .non H',rt:=Q } (start N vs) H):jw P w K mg base CX0 (k+1) f fd ps sp:=by
 obtain⟨oc,od,kV,doc,pm,an,cdv,ct,osl,rfl,lk,hcd⟩:=F.ex;refine K0 lk hcd S len λA outer s H vs Q E hr hsp=> ?_;obtain⟨t,h,q⟩:=hbody cdv A _ s H vs Q E hr hsp;exact⟨t,h.nox,q⟩
theorem Fun.binds {x qual:Str}{st:Stmt}{f:Addr}{fd:FuncData}{ps:List Str}(F:Fun K x qual st f fd)
  (h:∀(kV doc pm:Value) (an:Option Addr) (cdv ct:Value) (us:List Value),us.length=ps.length->bindArgs (bq x qual (Zy st) (zT st) (zx st) .none kV doc pm an cdv ct) ⟨us,[]⟩=pure (ps.zip us)):Binds K fd ps []:=by
 obtain⟨oc,od,kV,doc,pm,an,cdv,ct,osl,rfl,lk,hcd⟩:=F.ex;exact .all (h kV doc pm an cdv ct)
theorem Vf {x qual:Str}{st:Stmt}{f:Addr}{oc:Value}{od an:Option Addr}{osl:Array (Option Value)}{kV doc pm cdv ct:Value}(l:K.lookup f=some ⟨oc,od,.func (bq x qual (Zy st) (zT st) (zx st) .none kV doc pm an cdv ct),osl⟩)
  (c:cV K cdv qual=true) (k:bu K (.ref f)=true):Fun K x qual st f (bq x qual (Zy st) (zT st) (zx st) .none kV doc pm an cdv ct):=⟨⟨oc,od,kV,doc,pm,an,cdv,ct,osl,rfl,l,c⟩,k⟩
end
section
variable {X:Cx}
theorem pv (i:Nat){x:Str}{pos:Pos}(hN:X.N[i]? =some x:=by rfl)(hv:Vis X.env.scope x:=by first | exact Or.inl rfl | exact Or.inr (Or.inl rfl) | exact Or.inr (Or.inr rfl))(hd:(x == ("__debug__":Str))=false:=by decide)
  (hcd:(x == ("__classdict__":Str))=false:=by decide):PE X (.Name x pos) (wE i):=V7 hN hv hd hcd
end
noncomputable def zy (H H' :Hp):Prop:=∀b o,H b=some o->H' b=some o
theorem zy.refl (H:Hp):zy H H:=λ_ _ h=>h
theorem zy.trans {H H1 H2:Hp}(a:zy H H1)(b:zy H1 H2):zy H H2:=λc o h=>b c o (a c o h)
theorem zy.free {H H' :Hp}(e:zy H H'){l:Addr}(h:H' l=Option.none):H l=Option.none:=by
 cases q:H l with
 | none=>rfl
 | some o=>
  rw[e l o q]at h;cases h
end L2
namespace L2
open PySem PySem.Spec PyProof.Rows PySem.W
theorem U0 {env:Env}{outer:List Env}{L:Addr}(h:env.frame=some L):frs (env :: outer)=L :: frs outer:=by
 unfold frs;rw[cH,h]
structure GQ (P:Program) (w:World) (outer:List Env) (H:Hp) (s s' :Shared) (ea:Addr) (cls a0:Value) (B:Heap) (H' :Hp):Prop where
 os:s'.os=s.os
 bare:AllBare s'.gens
 fly:Heap.FlyingW B outer ea cls a0 s'.heap
 hok:HOk P w H' B
 un:Un (frs outer) [] H H' s.heap s'.heap
 inB:∀b o,s.heap.get? b=some o->b ∉ frs outer->(H b=none->B.get? b=some o)/\∃o',B.get? b=some o'
noncomputable def CX1 (P:Program)(w:World):CXT:=λouter H s E e s' =>∃ea cls a0 B H',e= .ref ea/\GQ P w outer H s s' ea cls a0 B H' /\E cls none H'
section
variable {X:Cx}{pins:List (Addr×Obj)}{σ:St}{H H' :Hp}{s s' :Shared}{ea:Addr}{cls a0:Value}{B:Heap}{h' h'' :Heap}
theorem Inv.frNf (I:Inv X pins σ H s):∀b∈frs X.stack,H b=none/\∃o,s.heap.get? b=some o/\∀vs,o.data ≠ .fields vs:=λb hb=>⟨I.stkFree b hb,(I.stack.mem hb).2⟩
theorem Inv.old (I:Inv X pins σ H s){b:Addr}{o:Obj}(hX:X.stack=X.env :: X.outer)(hf:X.env.frame=some X.env.locals)(e:X.s₀.heap.get? b=some o)(hb:b ∉ frs X.outer):b ∉ frs X.stack:=by
 rw[hX,U0 hf];intro z;rcases ah.mp z with z | z
 ·exact absurd (aJ (am e) I.ok.above) (by rw[z];exact bn _)
 ·exact hb z
theorem Yc {X:Cx}(hX:X.stack=X.env :: X.outer)(hf:X.env.frame=some X.env.locals){b:Addr}(hb:b∈frs X.outer):b∈frs X.stack:=by
 rw[hX,U0 hf];exact a9 _ hb
theorem GQ.out (I:Inv X pins σ H s)(hX:X.stack=X.env :: X.outer)(hf:X.env.frame=some X.env.locals)(hex:X.ex=[])(L:GQ X.prog X.w X.stack H s s' ea cls a0 B H')
  (fl:Heap.FlyingW B X.outer ea cls a0 h') (sl:s'.heap.UpToSlots h'):GQ X.prog X.w X.outer X.H₀ X.s₀ { s' with heap:=h' } ea cls a0 B H' where
 os:=L.os.trans I.os
 bare:=L.bare
 fly:=fl
 hok:=L.hok
 inB:=λb o e hb=>by
  have nx:b ∉ X.ex:=by rw[hex];simp
  obtain⟨o1,e1⟩:=I.base.there b o e nx;have hb' :=I.old hX hf e hb;exact⟨λn=>(L.inB b o (I.base.keep b o e n hb nx) hb').1 (I.base.free b o e n nx),(L.inB b o1 e1 hb').2⟩
 un:=by
  have nx:∀b,b ∉ X.ex:=λb=>by rw[hex];simp
  have slot:∀b o,X.s₀.heap.get? b=some o->X.H₀ b=none->b∈frs X.outer->∃sl,h'.get? b=some { o with slots:=sl }:=λb o e n hb=>by
   obtain⟨sl1,e1⟩:=I.base.slot b o e n hb (nx b);have n1:=I.base.free b o e n (nx b);obtain⟨sl2,e2⟩:=L.un.slot b _ e1 n1 (Yc hX hf hb) (by simp)
   obtain⟨_,o3,e3,nf⟩:=I.frNf b (Yc hX hf hb);rw[e1]at e3;cases e3;obtain⟨sl4,e4⟩:=sl b _ e2 nf;exact⟨sl4,e4⟩
  refine⟨λb o e n hb _=> ?_,λb o e n hb _=>slot b o e n hb,λb o e n _=> ?_,λb o e _=> ?_,λb xs e=>L.un.tups b xs (I.base.tups b xs e),λb o xs e=>L.un.frzs b o xs (I.base.frzs b o xs e),λb ps q e=>L.un.tbls b ps q (I.base.tbls b ps q e)⟩
  ·exact fl.1 b o ((L.inB b o (I.base.keep b o e n hb (nx b)) (I.old hX hf e hb)).1 (I.base.free b o e n (nx b)))
  ·obtain⟨o1,e1⟩:=I.base.there b o e (nx b);exact L.un.free b o1 e1 (I.base.free b o e n (nx b)) (by simp)
  ·by_cases hb:b∈frs X.outer
   ·obtain⟨sl1,e1⟩:=slot b o e (I.ok.frf b hb) hb;exact⟨_,e1⟩
   ·obtain⟨o1,e1⟩:=I.base.there b o e (nx b);obtain⟨o',e'⟩:=(L.inB b o1 e1 (I.old hX hf e hb)).2;exact⟨o',fl.1 b o' e'⟩
end
section
variable {P:Program}{w:World}{K:Frag}{mg:Str->Option Value}{base:Heap}{N:List Str}{qual:Str}{scope:Scope}{f:Addr}{cd:Value}{A:Around}{outer:List Env}{s:Shared}{H:Hp}{E:XK}
theorem QX:Zu (CX1 P w) (ud (CX1 P w) P w K mg base N qual scope f cd A outer s H E) E:=by
 intro pins σ H1 s1 e s' I ⟨ea,cls,a0,B,H',he,L,hE⟩;subst he;exact wpAny_leaves_onW I.ok.frames rfl L.fly λh' fl sl=>⟨ea,cls,a0,B,H',rfl,L.out I rfl rfl rfl fl sl,hE⟩
end
end L2
namespace L2
open PySem PySem.Spec PyProof.Rows PySem.W
noncomputable def ExAt (cls:Value)(a:Addr)(h:Heap):Prop:=∃o,h.get? a=some o/\o.cls=cls
end L2
namespace L2
open PySem PySem.Spec PyProof.Rows PySem.W
end L2
namespace PySem
open PySem.W
end PySem
namespace L2
open PySem PySem.Spec PyProof.Rows PySem.W
section
variable {X:Cx}{pins:List (Addr×Obj)}{σ:St}{H H' :Hp}{s s' :Shared}{ea C:Addr}{cls a0:Value}{B:Heap}{h' :Heap}
noncomputable def K7 (X:Cx)(E:XK):Prop:=∀(pins:List (Addr×Obj)) (σ:St) (H:Hp) (s:Shared) (e:Value) (s' :Shared) (C:Addr) (m:Str->Option Value) (E' :Value->Shared->Prop) (cenv:Env),Inv X pins σ H s->s.heap.Ns C m->H C=none->X.s₀.heap.objs.size<=C->C ∉ frs X.stack->cenv.frame=X.env.frame->CX1 X.prog X.w X.stack H s E e s' ->
 wpAny (model X.prog X.w) X.A (noteFrame e cenv) (λ_ s'' =>∃m,s''.heap.Ns C m/\∀h',bN C s''.heap h' ->∀env:Env,env.locals=C->wpAny (model X.prog X.w) X.A (passOn "comprehension.variables-let-go" e env:Sem Value) (λ_ _=>False) X.xe { s'' with heap:=h' }) E' s'
theorem jS {E:XK}(h:E=λ_ _ _=>False):K7 X E:=λpins σ H s e s' C m E' cenv I _ _ _ _ _ ⟨_,_,_,_,_,_,_,z⟩=>by subst h;exact z.elim
end
end L2
namespace L2
open PySem PySem.Spec PyProof.Rows
theorem PE.imp {X:Cx}{e:Expr}{t t' :TE}(h:PE X e t)(i:∀σ H Q,t' σ H Q->t σ H Q):PE X e t' :=λpins s σ H Q I q=>h _ s σ H Q I (i σ H Q q)
theorem PT.imp {X:Cx}{e:Expr}{t t' :TT}(h:PT X e t)(i:∀σ H Q,t' σ H Q->t σ H Q):PT X e t' :=λpins s σ H Q I q=>h _ s σ H Q I (i σ H Q q)
theorem PA.imp {X:Cx}{e:List Expr}{t t' :TA}(h:PA X e t)(i:∀σ H Q,t' σ H Q->t σ H Q):PA X e t' :=λpos pins s σ H Q I q=>h pos _ s σ H Q I (i σ H Q q)
theorem PS.imp {X:Cx}{e:Stmt}{t t' :TS}(h:PS X e t)(i:∀D σ H,t' D σ H->t D σ H):PS X e t' :=λpins s σ H D I q=>h _ s σ H D I (i D σ H q)
theorem PSs.imp {X:Cx}{e:List Stmt}{t t' :TS}(h:PSs X e t)(i:∀D σ H,t' D σ H->t D σ H):PSs X e t' :=λpins s σ H D I q=>h _ s σ H D I (i D σ H q)
end L2
namespace PV
open PySem
noncomputable def Ww:Expr->Bool
 | .Starred _ _=>false
 | _=>true
theorem zX {e:Expr}{rest:List Expr}{env:Env}(h:Ww e=true):starEach (e :: rest) env=(false,eval e env) :: starEach rest env:=by
 cases e <;> first | rfl | cases h
theorem st2 {a b:Expr}{env:Env}(h:Ww a=true)(h' :Ww b=true):starEach [a,b] env=[(false,eval a env),(false,eval b env)]:=by
 rw[zX h,zX h'];rfl
theorem st1 {a:Expr}{env:Env}(h:Ww a=true):starEach [a] env=[(false,eval a env)]:=by
 rw[zX h];rfl
theorem ZB {pos:Pos}{env:Env}:∀{es:List Expr},es.all Ww=true->((backTo pos (starEach es env)).any λx=>x.fst)=false
 | [],_=>rfl
 | e :: es,h=>by
  rw[bU,ae]at h;rw[zX h.1];have:=ZB (pos:=pos) (env:=env) h.2;show (false || ((backTo pos _).any λx=>x.fst))=false
  rw[this];rfl
open PySem PySem.Spec PyProof.Rows L2
noncomputable abbrev Sg:=L2.St
inductive T where
 | non | bl (b:Bool) | int (i:Int) | str (x:Str) | tup (xs:List T) | lst (xs:List T) | fz (xs:List T)
inductive R (α:Type) where
 | ok (a:α) | ex (c:Nat) | bad
noncomputable def R.bind {α β:Type}(r:R α)(f:α->R β):R β:=match r with
 | .ok a=>f a
 | .ex c=> .ex c
 | .bad=> .bad
mutual
inductive Rep (H:Hp):V->T->Prop where
 | non:Rep H .non .non
 | bl (b:Bool):Rep H (.bl b) (.bl b)
 | int (i:Int):Rep H (.int i) (.int i)
 | str (x:Str):Rep H (.str x) (.str x)
 | tup {a:Addr} {xs:List V} {ts:List T}:H a=some (.tup xs)->zI H xs ts->Rep H (.ref a) (.tup ts)
 | lst {a:Addr} {xs:List V} {ts:List T}:H a=some (.lst xs)->zI H xs ts->Rep H (.ref a) (.lst ts)
 | fz {a:Addr} {o:Obj} {xs:List V} {ts:List T}:H a=some (.frz o (.lst xs))->zI H xs ts->Rep H (.ref a) (.fz ts)
inductive zI (H:Hp):List V->List T->Prop where
 | nil:zI H [] []
 | cons {v:V} {t:T} {vs:List V} {ts:List T}:Rep H v t->zI H vs ts->zI H (v :: vs) (t :: ts)
end
mutual
theorem Rep.mono {H H' :Hp}(s:zy H H'):∀{v:V} {t:T},Rep H v t->Rep H' v t
 | _,_,.non=> .non
 | _,_,.bl b=> .bl b
 | _,_,.int i=> .int i
 | _,_,.str x=> .str x
 | _,_,.tup h r=> .tup (s _ _ h) (zI.mono s r)
 | _,_,.lst h r=> .lst (s _ _ h) (zI.mono s r)
 | _,_,.fz h r=> .fz (s _ _ h) (zI.mono s r)
theorem zI.mono {H H' :Hp}(s:zy H H'):∀{v:List V} {t:List T},zI H v t->zI H' v t
 | _,_,.nil=> .nil
 | _,_,.cons h r=> .cons (Rep.mono s h) (zI.mono s r)
end
theorem zI.length {H:Hp}:∀{vs:List V} {ts:List T},zI H vs ts->vs.length=ts.length
 | _,_,.nil=>rfl
 | _,_,.cons _ r=>congrArg _ (zI.length r)
theorem zI.get {H:Hp}:∀{vs:List V} {ts:List T} {i:Nat} {t:T},zI H vs ts->ts[i]? =some t->∃v,vs[i]? =some v/\Rep H v t
 | _,_,_,_,.nil,e=>by simp at e
 | _,_,0,_,.cons r _,e=>by simp at e;subst e;exact⟨_,rfl,r⟩
 | _,_,i+1,t,.cons _ q,e=>by
  obtain⟨v,h1,h2⟩:=zI.get q (by simpa using e)
  exact⟨v,by simpa using h1,h2⟩
theorem zI.getV {H:Hp}:∀{vs:List V} {ts:List T} {i:Nat} {v:V},zI H vs ts->vs[i]? =some v->∃t,ts[i]? =some t/\Rep H v t
 | _,_,_,_,.nil,e=>by simp at e
 | _,_,0,_,.cons r _,e=>by simp at e;subst e;exact⟨_,rfl,r⟩
 | _,_,i+1,v,.cons _ q,e=>by
  obtain⟨t,h1,h2⟩:=zI.getV q (by simpa using e)
  exact⟨t,by simpa using h1,h2⟩
theorem zI.append {H:Hp}:∀{vs ws:List V} {ts us:List T},zI H vs ts->zI H ws us->zI H (vs++ws) (ts++us)
 | _,_,_,_,.nil,q=>q
 | _,_,_,_,.cons r t,q=> .cons r (zI.append t q)
theorem zI.take {H:Hp}:∀{vs:List V} {ts:List T} (n:Nat),zI H vs ts->zI H (vs.take n) (ts.take n)
 | _,_,0,_=> .nil
 | _,_,_+1,.nil=> .nil
 | _,_,n+1,.cons r t=> .cons r (zI.take n t)
theorem zI.drop {H:Hp}:∀{vs:List V} {ts:List T} (n:Nat),zI H vs ts->zI H (vs.drop n) (ts.drop n)
 | _,_,0,r=>r
 | _,_,_+1,.nil=> .nil
 | _,_,n+1,.cons _ t=>zI.drop n t
theorem zI.rep {H:Hp}{vs:List V}{ts:List T}(h:zI H vs ts):∀n:Nat,zI H (aa n vs).flatten (aa n ts).flatten
 | 0=> .nil
 | n+1=>by
  exact h.append (zI.rep h n)
theorem zI.nil_iff {H:Hp}{vs:List V}{ts:List T}(h:zI H vs ts):vs=[]↔ts=[]:=by
 cases h <;> simp
noncomputable def zS (B H H' :Hp):Hp:=λb=>match H b with
 | none=>H' b
 | some _=>B b
theorem Zf {B H H' :Hp}{b:Addr}(h:H b=none):zS B H H' b=H' b:=by unfold zS;rw[h]
theorem Zg {B H H' :Hp}{b:Addr}{o:HO}(h:H b=some o):zS B H H' b=B b:=by unfold zS;rw[h]
theorem zS.ge {B H H' :Hp}(s:zy B H)(s' :zy H H'):zy B (zS B H H'):=λb o h=>by
 rw[Zg (s b o h)];exact h
theorem zS.le {B H H' :Hp}(s:zy B H)(s' :zy H H'):zy (zS B H H') H' :=λb o h=>by
 cases q:H b with
 | none=>rw[Zf q]at h;exact h
 | some u=>rw[Zg q]at h;exact s' b o (s b o h)
theorem zS.self (B H:Hp)(s:zy B H):zS B H H=B:=by
 funext b
 cases q:H b with
 | none=>
  rw[Zf q,q];cases z:B b with
  | none=>rfl
  | some o=>rw[s b o z]at q;cases q
 | some u=>rw[Zg q]
theorem zS.trans {B H H1 H2:Hp}(s1:zy H H1)(s2:zy H1 H2):zS (zS B H H1) H1 H2=zS B H H2:=by
 funext b
 cases q:H b with
 | none=>
  rw[Zf q];cases z:H1 b with
  | none=>rw[Zf z]
  | some o=>rw[Zg z,Zf q,z,s2 b o z]
 | some u=>rw[Zg q,Zg (s1 b u q),Zg q]
inductive Fd where
 | tv (t:T) | tl (ts:List T)
noncomputable abbrev Ob:=Nat×List (Str×Fd)
noncomputable def K8:List Str:=["kind","remaining","done","undone","first","last","answered"]
noncomputable def InC (vs:List (Str×V)):Prop:=∀f,f ∉ K8->vs.lookup f=none
inductive Sl where
 | un | vl (t:T) | ow (ts:List T) | xc (c:Nat) | ob (k n:Nat) | oc (k:Nat) (fs:List (Str×Fd)) | st (os:List Ob)
noncomputable def Sl.isS:Sl->Bool
 | .ob _ _=>true
 | .st _=>true
 | _=>false
noncomputable def Sl.isO:Sl->Bool
 | .ob _ _=>true
 | .oc _ _=>true
 | .st _=>true
 | _=>false
noncomputable abbrev En:=List Sl
structure Fx where
 B0:Hp
 H0:Hp
 E:XK
 cl:Nat->Value
 as:List Addr
noncomputable def uo (ρ:En)(σ:Sg)(l:Addr):Prop:=∀(j:Nat) (us:List T),ρ[j]? =some (Sl.ow us)->σ[j]? ≠ some (some (V.ref l))
noncomputable def FdR (Y:Fx)(B:Hp)(ρ:En)(σ:Sg)(H:Hp)(o:Addr->Prop)(v:V):Fd->Prop
 | .tv t=>Rep B v t
 | .tl ts=>∃l xs,v= .ref l/\B l=none/\Y.H0 l=none/\H l=some (.lst xs)/\zI B xs ts/\uo ρ σ l/\o l
noncomputable def FsO (B H:Hp)(vs:List (Str×V))(fs:List (Str×Fd)):Prop:=∀(m:Nat) (f:Str) (d:Fd),fs[m]? =some (f,d)->∃v,vs[m]? =some (f,v)/\match d with
 | .tv t=>Rep B v t
 | .tl ts=>∃l xs,v= .ref l/\H l=some (.lst xs)/\zI B xs ts
theorem FsO.mono {B B' H H' :Hp}{vs:List (Str×V)}{fs:List (Str×Fd)}(h:FsO B H vs fs)(s:zy B B')(s' :zy H H'):FsO B' H' vs fs:=λm f d e=>by
 obtain⟨v,e1,r⟩:=h m f d e;refine⟨v,e1, ?_⟩;cases d with
 | tv t=>exact Rep.mono s r
 | tl ts=>obtain⟨l,xs,a,b,c⟩:=r;exact⟨l,xs,a,s' _ _ b,c.mono s⟩
structure StI (Y:Fx) (B:Hp) (ρ:En) (σ:Sg) (H:Hp) (as:List Addr) (O:Addr->Option (Nat×Nat)):Prop where
 pre:Y.as <+:as
 len:∀(i:Nat) (os:List Ob),ρ[i]? =some (Sl.st os)->as.length=os.length
 one:∀(i j:Nat) (os os' :List Ob),ρ[i]? =some (Sl.st os)->ρ[j]? =some (Sl.st os')->i=j
 ob:∀(i k n:Nat),ρ[i]? =some (Sl.ob k n)->∃a C dx vs,as[n]? =some a/\σ[i]? =some (some (V.ref a))/\Y.cl k= .ref C/\H a=some (.ins C dx vs)/\B a=none/\Y.H0 a=none/\InC vs
 oc:∀(i k:Nat) (fs:List (Str×Fd)),ρ[i]? =some (Sl.oc k fs)->∃a C dx vs,σ[i]? =some (some (V.ref a))/\Y.cl k= .ref C/\Y.H0 a=some (.ins C dx vs)/\InC vs/\FsO B Y.H0 vs fs
 st:∀(i:Nat) (os:List Ob),ρ[i]? =some (Sl.st os)->∀(n k:Nat) (fs:List (Str×Fd)),os[n]? =some (k,fs)->∃a C dx vs,as[n]? =some a/\Y.cl k= .ref C/\H a=some (.ins C dx vs)/\B a=none/\Y.H0 a=none/\O a=some (n,0)/\(vs.length=fs.length/\InC vs)/\
  ∀(m:Nat) (f:Str) (d:Fd),fs[m]? =some (f,d)->∃v,vs[m]? =some (f,v)/\FdR Y B ρ σ H (λl=>O l=some (n,m+1)) v d
structure SI (Y:Fx) (B:Hp) (ρ:En) (σ:Sg) (H:Hp):Prop where
 s0:zy Y.B0 Y.H0
 sH:zy Y.H0 H
 sB:zy B H
 old:∀b o,Y.H0 b=some o->B b=Y.B0 b
 len:ρ.length=σ.length
 vl:∀(i:Nat) (t:T),ρ[i]? =some (Sl.vl t)->∃v:V,σ[i]? =some (some v)/\Rep B v t
 ow:∀(i:Nat) (ts:List T),ρ[i]? =some (Sl.ow ts)->∃(a:Addr) (xs:List V),σ[i]? =some (some (V.ref a))/\B a=none/\Y.H0 a=none/\H a=some (.lst xs)/\zI B xs ts/\
  ∀(j:Nat) (us:List T),j ≠ i->ρ[j]? =some (Sl.ow us)->σ[j]? ≠ some (some (V.ref a))
 xc:∀(i:Nat) (c:Nat),ρ[i]? =some (Sl.xc c)->∃a:Addr,σ[i]? =some (some (V.ref a))/\B a=some (.ext (ExAt (Y.cl c) a))
 st:∃as O,StI Y B ρ σ H as O
theorem StI.on {Y Y' :Fx}{B B' :Hp}{ρ ρ' :En}{σ σ' :Sg}{H H' :Hp}{as:List Addr}{O:Addr->Option (Nat×Nat)}(x:StI Y B ρ σ H as O)(hO:∀(i:Nat) (s:Sl),s.isO=true->ρ'[i]? =some s->ρ[i]? =some s/\σ'[i]? =σ[i]?)(hB:zy B B')(hc:Y'.cl=Y.cl)(hA:Y'.as=Y.as)(h0:zy Y.H0 Y'.H0)
  (hH:∀b o,H b=some o->B b=none->Y.H0 b=none->((∃C dx vs,o= .ins C dx vs)\/uo ρ σ b)->H' b=some o/\B' b=none/\Y'.H0 b=none/\(uo ρ σ b->uo ρ' σ' b)):StI Y' B' ρ' σ' H' as O where
 pre:=by rw[hA];exact x.pre
 len:=λi os h=>x.len i os (hO i _ rfl h).1
 one:=λi j os os' h1 h2=>x.one i j os os' (hO i _ rfl h1).1 (hO j _ rfl h2).1
 ob:=λi k n h=>by
  obtain⟨h1,h2⟩:=hO i _ rfl h;obtain⟨a,C,dx,vs,e1,e2,e3,e4,e5,e6⟩:=x.ob i k n h1;obtain⟨g1,g2,g3,_⟩:=hH a _ e4 e5 e6.1 (.inl ⟨_,_,_,rfl⟩);rw[h2,hc];exact⟨a,C,dx,vs,e1,e2,e3,g1,g2,g3,e6.2⟩
 oc:=λi k fs h=>by
  obtain⟨h1,h2⟩:=hO i _ rfl h;obtain⟨a,C,dx,vs,e1,e2,e3,e4,e5⟩:=x.oc i k fs h1;rw[h2,hc];exact⟨a,C,dx,vs,e1,e2,h0 _ _ e3,e4,e5.mono hB h0⟩
 st:=λi os h n k fs e=>by
  obtain⟨a,C,dx,vs,e1,e2,e3,e4,e5,e6,e7,e8⟩:=x.st i os (hO i _ rfl h).1 n k fs e;obtain⟨g1,g2,g3,_⟩:=hH a _ e3 e4 e5 (.inl ⟨_,_,_,rfl⟩);refine⟨a,C,dx,vs,e1,by rw[hc];exact e2,g1,g2,g3,e6,e7,λm f d z=> ?_⟩
  obtain⟨v,z1,z2⟩:=e8 m f d z;refine⟨v,z1, ?_⟩;cases d with
  | tv t=>exact Rep.mono hB z2
  | tl ts=>
   obtain⟨l,xs,p1,p2,p3,p4,p5,p6,p7⟩:=z2;obtain⟨g1,g2,g3,g4⟩:=hH l _ p4 p2 p3 (.inr p6);exact⟨l,xs,p1,g2,g3,g1,p5.mono hB,g4 p6,p7⟩
theorem StI.no {Y:Fx}{B:Hp}{ρ:En}{σ:Sg}{H:Hp}(h:∀(i:Nat) (s:Sl),s.isO=true->ρ[i]? ≠ some s):∃as O,StI Y B ρ σ H as O:=⟨Y.as,λ_=>none,cD _,λi os e=>(h i _ rfl e).elim,λi j os os' e=>(h i _ rfl e).elim,λi k n e=>(h i _ rfl e).elim,λi k fs e=>(h i _ rfl e).elim,λi os e=>(h i _ rfl e).elim⟩
theorem SI.grow {Y:Fx}{B:Hp}{ρ:En}{σ:Sg}{H H' :Hp}(I:SI Y B ρ σ H)(s:zy H H'):SI Y (zS B H H') ρ σ H' where
 s0:=I.s0
 sH:=I.sH.trans s
 sB:=zS.le I.sB s
 old:=λb o h=>by rw[Zg (I.sH b o h)];exact I.old b o h
 len:=I.len
 vl:=λi t h=>let ⟨v,e,r⟩:=I.vl i t h;⟨v,e,r.mono (zS.ge I.sB s)⟩
 ow:=λi ts h=>let ⟨a,xs,e,b,h0,hh,r,d⟩:=I.ow i ts h;⟨a,xs,e,by rw[Zg hh];exact b,h0,s _ _ hh,r.mono (zS.ge I.sB s),d⟩
 xc:=λi c h=>let ⟨a,e,r⟩:=I.xc i c h;⟨a,e,zS.ge I.sB s a _ r⟩
 st:=let ⟨as,O,x⟩:=I.st;⟨as,O,x.on (λ_ _ _ h=>⟨h,rfl⟩) (zS.ge I.sB s) rfl rfl (zy.refl _) λb o h hb h0 _=>⟨s _ _ h,by rw[Zg h];exact hb,h0,id⟩⟩
noncomputable def XP (Y:Fx)(B:Hp)(c:Nat):Prop:=∀(d:Option Addr) (H' :Hp),zy Y.H0 H' ->zy B H' ->Y.E (Y.cl c) d H'
noncomputable def Po {α β:Type}(Y:Fx)(rel:Hp->Hp->β->α->Prop)(B H:Hp)(r:R α)(Q:β->Hp->Prop):Prop:=match r with
 | .ok a=>∀b H',zy H H' ->rel (zS B H H') H' b a->Q b H'
 | .ex c=>XP Y B c
 | .bad=>False
noncomputable abbrev rC:Hp->Hp->V->T->Prop:=λB _ v t=>Rep B v t
noncomputable abbrev rB:Hp->Hp->V->T->Prop:=λ_ H v t=>Rep H v t
noncomputable abbrev rCs:Hp->Hp->List V->List T->Prop:=λB _ v t=>zI B v t
noncomputable abbrev rE {α:Type}:Hp->Hp->α->α->Prop:=λ_ _ a b=>a=b
noncomputable def tS {α β:Type}(Y:Fx)(rel:Hp->Hp->β->α->Prop)(f:En->R α)(ρ:En):Sg->Hp->(β->Hp->Prop)->Prop:=λσ H Q=>∃B,SI Y B ρ σ H/\Po Y rel B H (f ρ) Q
structure Snd (X:Cx) (Y:Fx) (e:Expr) (f:En->R T):Prop where
 mk ::
 go:∀ρ,PE X e (tS Y rC f ρ)
noncomputable instance {X:Cx}{Y:Fx}{e:Expr}{f:En->R T}:CoeFun (Snd X Y e f) λ_=>∀ρ,PE X e (tS Y rC f ρ):=⟨Snd.go⟩
structure jz (X:Cx) (Y:Fx) (e:Expr) (f:En->R T):Prop where
 mk ::
 go:∀ρ,PE X e (tS Y rB f ρ)
noncomputable instance {X:Cx}{Y:Fx}{e:Expr}{f:En->R T}:CoeFun (jz X Y e f) λ_=>∀ρ,PE X e (tS Y rB f ρ):=⟨jz.go⟩
structure Wd (X:Cx) (Y:Fx) (e:Expr) (f:En->R Bool):Prop where
 mk ::
 go:∀ρ,PT X e (tS Y rE f ρ)
noncomputable instance {X:Cx}{Y:Fx}{e:Expr}{f:En->R Bool}:CoeFun (Wd X Y e f) λ_=>∀ρ,PT X e (tS Y rE f ρ):=⟨Wd.go⟩
structure We (X:Cx) (Y:Fx) (es:List Expr) (f:En->R (List T)):Prop where
 mk ::
 go:∀ρ,PA X es (tS Y rCs f ρ)
noncomputable instance {X:Cx}{Y:Fx}{es:List Expr}{f:En->R (List T)}:CoeFun (We X Y es f) λ_=>∀ρ,PA X es (tS Y rCs f ρ):=⟨We.go⟩
theorem step {α α' β β' :Type}{Y:Fx}{rel:Hp->Hp->β->α->Prop}{rel' :Hp->Hp->β' ->α' ->Prop}{f:En->R α}{k:α->R α'}{ρ:En}{B:Hp}{σ:Sg}{H:Hp}{Q:β' ->Hp->Prop}{K:β->Hp->Prop}
  (I:SI Y B ρ σ H) (h:Po Y rel' B H ((f ρ).bind k) Q)
  (n:∀a b H1,f ρ= .ok a->zy H H1->rel (zS B H H1) H1 b a->SI Y (zS B H H1) ρ σ H1->Po Y rel' (zS B H H1) H1 (k a) Q->K b H1):tS Y rel f ρ σ H K:=by
 refine⟨B,I, ?_⟩;cases e:f ρ with
 | bad=>rw[e]at h;exact h
 | ex c=>rw[e]at h;exact h
 | ok a=>
  rw[e]at h;intro b H1 s r;refine n a b H1 e s r (I.grow s) ?_;have h' :Po Y _ B H (k a) Q:=h;revert h';cases k a with
  | bad=>exact λh' =>h'
  | ex c=>exact λh' d H' s0 sB' =>h' d H' s0 ((zS.ge I.sB s).trans sB')
  | ok a' =>exact λh' b' H2 s2 r2=>h' b' H2 (s.trans s2) (by rw[← zS.trans s s2];exact r2)
theorem ZS {α β:Type}{Y:Fx}{rel:Hp->Hp->β->α->Prop}{ρ:En}{B:Hp}{σ:Sg}{H:Hp}{a:α}{b:β}{Q:β->Hp->Prop}(I:SI Y B ρ σ H)(h:Po Y rel B H (.ok a) Q)(r:rel B H b a):Q b H:=h b H (zy.refl H) (by rw[zS.self B H I.sB];exact r)
theorem Snd.b {X:Cx}{Y:Fx}{e:Expr}{f:En->R T}(h:Snd X Y e f):jz X Y e f:= .mk λρ=>PE.imp (h ρ) λσ H Q ⟨B,I,q⟩=>⟨B,I,by
 revert q;cases f ρ with
 | bad=>exact λq=>q
 | ex c=>exact λq=>q
 | ok a=>exact λq b H' s r=>q b H' s (r.mono (zS.le I.sB s))⟩
section
variable {X:Cx}{Y:Fx}{a b c:Expr}{fa fb fc:En->R T}{pos:Pos}
noncomputable def vE (i:Nat):En->R T:=λρ=>match ρ[i]? with
 | some (.vl t)=> .ok t
 | _=> .bad
noncomputable def vB (i:Nat):En->R T:=λρ=>match ρ[i]? with
 | some (.vl t)=> .ok t
 | some (.ow ts)=> .ok (.lst ts)
 | _=> .bad
noncomputable def cE (t:T):En->R T:=λ_=> .ok t
theorem z0Z (i:Nat){x:Str}(h:PE X (.Name x pos) (wE i)):Snd X Y (.Name x pos) (vE i):= .mk λρ=>PE.imp h λσ H Q ⟨B,I,q⟩=>by
 unfold vE at q;split at q
 ·rename_i t e;obtain⟨v,e1,r⟩:=I.vl i t e;exact⟨v,e1,ZS I q r⟩
 ·exact q.elim
theorem K9 (i:Nat){x:Str}(h:PE X (.Name x pos) (wE i)):jz X Y (.Name x pos) (vB i):= .mk λρ=>PE.imp h λσ H Q ⟨B,I,q⟩=>by
 unfold vB at q;split at q
 ·rename_i t e;obtain⟨v,e1,r⟩:=I.vl i t e;exact⟨v,e1,ZS I q (r.mono I.sB)⟩
 ·rename_i ts e;obtain⟨a,xs,e1,_,_,hh,r,_⟩:=I.ow i ts e;exact⟨.ref a,e1,ZS I q (.lst hh (r.mono I.sB))⟩
 ·exact q.elim
theorem z10 {i j}:Snd X Y (.Constant (.int i) j pos) (cE (.int i)):= .mk λρ=>PE.imp kE λσ H Q ⟨B,I,q⟩=>ZS I q (.int i)
theorem s_bl {i j}:Snd X Y (.Constant (.bool i) j pos) (cE (.bl i)):= .mk λρ=>PE.imp z0F λσ H Q ⟨B,I,q⟩=>ZS I q (.bl i)
theorem z11 {i j}:Snd X Y (.Constant (.str i) j pos) (cE (.str i)):= .mk λρ=>PE.imp V8 λσ H Q ⟨B,I,q⟩=>ZS I q (.str i)
noncomputable def zj:En->R (List T):=λ_=> .ok []
noncomputable def z9 (f:En->R T)(g:En->R (List T)):En->R (List T):=λρ=>(f ρ).bind λt=>(g ρ).bind λts=> .ok (t :: ts)
theorem z12:We X Y [] zj:= .mk λρ=>PA.imp Z5 λσ H Q ⟨B,I,q⟩=>ZS I q .nil
theorem Ka {es:List Expr}{g:En->R (List T)}(h:Snd X Y a fa)(hs:We X Y es g)(hq:starEach (a :: es) X.env=(false,eval a X.env) :: starEach es X.env:=by exact zX rfl):We X Y (a :: es) (z9 fa g):= .mk λρ=>
 PA.imp (zH (h ρ) (hs ρ) hq) λσ H Q ⟨B,I,q⟩=>step I q λt v H1 _ s1 r1 I1 q1=>step I1 q1 λts vs H2 _ s2 r2 I2 q2=>ZS I2 q2 (.cons (r1.mono (zS.ge I1.sB s2)) r2)
theorem zy.new {H:Hp}{p:Addr}(h:H p=none)(o:HO):zy H (upd H p o):=λb u q=>by rw[zv (zL q h)];exact q
theorem jc {B H:Hp}{p:Addr}(h:H p=none)(o:HO):zS B H (upd H p o) p=some o:=by rw[Zf h,zC]
noncomputable def bnd:Nat:=16777216
theorem ZF {n:Nat}(h:n<=bnd):n<=sizeLine:=by exact h
noncomputable def Zh (g:En->R (List T)):En->R T:=λρ=>(g ρ).bind λts=>if ts.length<=bnd then .ok (.tup ts) else .bad
noncomputable def ZT (g:En->R (List T)):En->R T:=λρ=>(g ρ).bind λts=>if ts.length<=bnd then .ok (.lst ts) else .bad
theorem xn {ρ:En}{σ:Sg}{B H:Hp}{xs:List V}{ts:List T}(I:SI Y B ρ σ H)(r:zI B xs ts){p:Addr}(h:H p=none):Rep (zS B H (upd H p (.tup xs))) (.ref p) (.tup ts):=
 .tup (jc h _) (r.mono (zS.ge I.sB (zy.new h _)))
theorem xo {ρ:En}{σ:Sg}{B H:Hp}{xs:List V}{ts:List T}(I:SI Y B ρ σ H)(r:zI B xs ts){p:Addr}(h:H p=none):Rep (zS B H (upd H p (.lst xs))) (.ref p) (.lst ts):=
 .lst (jc h _) (r.mono (zS.ge I.sB (zy.new h _)))
theorem z13 {es:List Expr}{g:En->R (List T)}{x1}(h:We X Y es g):Snd X Y (.Tuple es x1 pos) (Zh g):= .mk λρ=>PE.imp (kY (h ρ)) λσ H Q ⟨B,I,q⟩=>
 step I q λts vs H1 _ s1 r1 I1 q1=>by
  split at q1
  ·rename_i hb;refine⟨by rw[r1.length];exact ZF hb,λp hp=>q1 _ _ (zy.new hp _) (xn I1 r1 hp)⟩
  ·exact q1.elim
theorem z14 {es:List Expr}{g:En->R (List T)}(h:We X Y es g):Snd X Y (.List es pos) (ZT g):= .mk λρ=>PE.imp (Y5 (h ρ)) λσ H Q ⟨B,I,q⟩=>
 step I q λts vs H1 _ s1 r1 I1 q1=>by
  split at q1
  ·rename_i hb;refine⟨by rw[r1.length];exact ZF hb,λp hp=>q1 _ _ (zy.new hp _) (xo I1 r1 hp)⟩
  ·exact q1.elim
end
end PV
namespace PV
open PySem PySem.Spec PyProof.Rows L2
noncomputable def eqL (f:T->T->Option Bool):List T->List T->Option Bool
 | [],[]=>some true
 | [],_ :: _=>some false
 | _ :: _,[]=>some false
 | x :: xs,y :: ys=>match f x y with
  | none=>none
  | some b=>match eqL f xs ys with
   | none=>none
   | some c=>some (b && c)
noncomputable def b2 (b:Bool):Int:=if b then 1 else 0
noncomputable def eqF:Nat->T->T->Option Bool
 | _,.non,.non=>some true
 | _,.bl a,.bl b=>some (a == b)
 | _,.bl a,.int j=>some (b2 a == j)
 | _,.int i,.bl b=>some (i == b2 b)
 | _,.int i,.int j=>some (i == j)
 | _,.str x,.str y=>some (x == y)
 | n+1,.tup xs,.tup ys=>eqL (eqF n) xs ys
 | n+1,.lst xs,.lst ys=>eqL (eqF n) xs ys
 | n+1,.fz xs,.lst ys=>eqL (eqF n) xs ys
 | n+1,.lst xs,.fz ys=>eqL (eqF n) xs ys
 | n+1,.fz xs,.fz ys=>eqL (eqF n) xs ys
 | 0,.tup _,.tup _=>none
 | 0,.lst _,.lst _=>none
 | 0,.fz _,.lst _=>none
 | 0,.lst _,.fz _=>none
 | 0,.fz _,.fz _=>none
 | _,.non,_=>some false
 | _,.bl _,_=>some false
 | _,.int _,_=>some false
 | _,.str _,_=>some false
 | _,.tup _,_=>some false
 | _,.lst _,_=>some false
 | _,.fz _,_=>some false
mutual
theorem Rep.fn {H:Hp}:∀{v:V} {t t' :T},Rep H v t->Rep H v t' ->t=t'
 | _,_,_,.non,.non=>rfl
 | _,_,_,.bl _,.bl _=>rfl
 | _,_,_,.int _,.int _=>rfl
 | _,_,_,.str _,.str _=>rfl
 | _,_,_,.tup h r,.tup h' r' =>by
  rw[h]at h';cases h';rw[zI.fn r r']
 | _,_,_,.tup h r,.lst h' r' =>by rw[h]at h';cases h'
 | _,_,_,.tup h r,.fz h' r' =>by rw[h]at h';cases h'
 | _,_,_,.lst h r,.tup h' r' =>by rw[h]at h';cases h'
 | _,_,_,.lst h r,.lst h' r' =>by
  rw[h]at h';cases h';rw[zI.fn r r']
 | _,_,_,.lst h r,.fz h' r' =>by rw[h]at h';cases h'
 | _,_,_,.fz h r,.tup h' r' =>by rw[h]at h';cases h'
 | _,_,_,.fz h r,.lst h' r' =>by rw[h]at h';cases h'
 | _,_,_,.fz h r,.fz h' r' =>by
  rw[h]at h';cases h';rw[zI.fn r r']
theorem zI.fn {H:Hp}:∀{v:List V} {t t' :List T},zI H v t->zI H v t' ->t=t'
 | _,_,_,.nil,.nil=>rfl
 | _,_,_,.cons h r,.cons h' r' =>by rw[Rep.fn h h',zI.fn r r']
end
theorem Zr {f:T->T->Option Bool}(hf:∀x b,f x x=some b->b=true):∀(xs:List T) (b:Bool),eqL f xs xs=some b->b=true
 | [],b,h=>by
  have h' :=h;cases h';rfl
 | x :: xs,b,h=>by
  unfold eqL at h;cases e:f x x with
  | none=>rw[e]at h;cases h
  | some c=>
   rw[e]at h;cases e' :eqL f xs xs with
   | none=>rw[e']at h;cases h
   | some d=>
    rw[e']at h;cases h;rw[hf x c e,Zr hf xs d e'];rfl
theorem Z9:∀(n:Nat) (t:T) (b:Bool),eqF n t t=some b->b=true
 | n,.non,b,h=>by unfold eqF at h;cases h;rfl
 | n,.bl x,b,h=>by unfold eqF at h;cases h;simp
 | n,.int x,b,h=>by unfold eqF at h;cases h;simp
 | n,.str x,b,h=>by unfold eqF at h;cases h;simp
 | 0,.tup x,b,h=>by cases h
 | 0,.lst x,b,h=>by cases h
 | 0,.fz x,b,h=>by cases h
 | n+1,.tup x,b,h=>by exact Zr (Z9 n) x b h
 | n+1,.lst x,b,h=>by exact Zr (Z9 n) x b h
 | n+1,.fz x,b,h=>by exact Zr (Z9 n) x b h
theorem Yd {f:T->T->Option Bool}:∀{xs ys:List T} {b:Bool},eqL f xs ys=some b->
  ∃e:Nat->Bool,(∀j x y,xs[j]? =some x->ys[j]? =some y->f x y=some (e j))/\((aT (min xs.length ys.length)).all e && xs.length == ys.length)=b
 | [],[],b,h=>by
  have h' :=h;cases h';exact⟨λ_=>true,λj x y h=>by simp at h,by simp⟩
 | [],y :: ys,b,h=>by
  have h' :=h;cases h';exact⟨λ_=>true,λj x y h=>by simp at h,by simp⟩
 | x :: xs,[],b,h=>by
  have h' :=h;cases h';exact⟨λ_=>true,λj x y h h' =>by simp at h',by simp⟩
 | x :: xs,y :: ys,b,h=>by
  unfold eqL at h;cases e:f x y with
  | none=>rw[e]at h;cases h
  | some c=>
   rw[e]at h;cases e' :eqL f xs ys with
   | none=>rw[e']at h;cases h
   | some d=>
    rw[e']at h;cases h;obtain⟨g,h1,h2⟩:=Yd e';refine⟨λj=>match j with | 0=>c | j+1=>g j,λj u v hu hv=> ?_, ?_⟩
    ·cases j with
     | zero=>simp at hu hv;subst hu hv;exact e
     | succ j=>exact h1 j u v (by simpa using hu) (by simpa using hv)
    ·have z:min (x :: xs).length (y :: ys).length=min xs.length ys.length+1:=by simp only[aj];omega
     rw[z,c9,bU,fT];have z2:((x :: xs).length == (y :: ys).length)=(xs.length == ys.length):=by simp
     rw[z2,← h2,Bool.and_assoc];rfl
section
variable {X:Cx}{pins:List (Addr×Obj)}{σ:Sg}{H:Hp}{s:Shared}
theorem ZO {a:Addr}{xs:List V}{ts:List T}(I:L2.Inv X pins σ H s)(h:H a=some (.tup xs))(r:zI H xs ts):∃its:List Value,zZ xs its/\s.heap.IsTuple a its.toArray/\ts.length=its.length/\xs.length<=sizeLine:=by
 obtain⟨its,rv,p,z⟩:=I.tuple (SqT.of h);exact⟨its,rv,p,by rw[← r.length];exact rv.length,z⟩
theorem zV {a:Addr}{xs:List V}{ts:List T}(I:L2.Inv X pins σ H s)(h:Rd H a (.lst xs))(r:zI H xs ts):∃its:List Value,zZ xs its/\s.heap.IsList a its.toArray/\ts.length=its.length/\xs.length<=sizeLine:=by
 obtain⟨its,rv,p,z⟩:=I.list (.inl h);exact⟨its,rv,p.isList,by rw[← r.length];exact rv.length,z⟩
end
noncomputable abbrev EqN (A:Around)(s:Shared)(u u' :Value)(b:Bool):Prop:=cA A s u u' b/\eQ A s u u' b/\cX A s u u' (!b)
section
variable {X:Cx}{pins:List (Addr×Obj)}{σ:Sg}{H:Hp}{s:Shared}
theorem Ye {xs ys:List V}{ts us:List T}{its its' :List Value}{A:Around}{f:T->T->Option Bool}{e:Nat->Bool}(r:zI H xs ts)(r' :zI H ys us)(v:zZ xs its)(v' :zZ ys its')
  (he:∀(j:Nat) (x y:T),ts[j]? =some x->us[j]? =some y->f x y=some (e j))
  (ih:∀(x y:T) (b:Bool) (p q:V) (u w:Value),f x y=some b->Rep H p x->Rep H q y->Zb p u->Zb q w->EqN A s u w b) (j:Nat) (h1:j < its.toArray.size) (h2:j < its'.toArray.size):
  cA A s its.toArray[j] its'.toArray[j] (e j):=by
 have l1:=v.length;have l2:=v'.length;have k1:j < xs.length:=by simp at h1;omega
 have k2:j < ys.length:=by simp at h2;omega
 obtain⟨t,et,rt⟩:=r.getV (ag k1);obtain⟨t',et',rt'⟩:=r'.getV (ag k2);obtain⟨u,eu,ru⟩:=v.get (ag k1);obtain⟨u',eu',ru'⟩:=v'.get (ag k2);have q1:=by
  have:its[j]? =some its.toArray[j]:=by simp at h1 ⊢
  rw[eu]at this;exact(aH this).symm
 have q2:=by
  have:its'[j]? =some its'.toArray[j]:=by simp at h2 ⊢
  rw[eu']at this;exact(aH this).symm
 rw[q1,q2];exact(ih t t' _ _ _ u u' (he j t t' et et') rt rt' ru ru').1
theorem xp {A:Around}{a c:Addr}{xs ys:List V}{ts us:List T}{b:Bool}{f:T->T->Option Bool}(I:L2.Inv X pins σ H s)(hu:A.units < cLine)(ha:H a=some (.tup xs))(hc:H c=some (.tup ys))(r:zI H xs ts)(r' :zI H ys us)
  (hb:eqL f ts us=some b) (hr:∀x b,f x x=some b->b=true)
  (ih:∀(x y:T) (b:Bool) (p q:V) (u w:Value),f x y=some b->Rep H p x->Rep H q y->Zb p u->Zb q w->EqN A.in1 s u w b):EqN A s (.ref a) (.ref c) b:=by
 obtain⟨its,v,p,l,_⟩:=ZO I ha r;obtain⟨its',v',p',l',_⟩:=ZO I hc r';obtain⟨e,he,hb'⟩:=Yd hb;have hp:=Ye r r' v v' he ih;have z:((aT (min its.toArray.size its'.toArray.size)).all e && its.toArray.size == its'.toArray.size)=b:=by
  rw[← hb'];simp[l,l']
 have R:=eQ.tuples p p' hu hp;have N:=cX.tuples p p' hu hp;rw[z]at R;have N' :cX A s (.ref a) (.ref c) (!b):=by
  rw[← z];exact N
 refine⟨?_,R,N'⟩
 by_cases hac:a=c
 ·subst hac;rw[ha]at hc;cases hc;have:=r.fn r';subst this;rw[Zr hr ts b hb];exact iq _
 ·exact fG hac R
theorem wK {A:Around}{a c:Addr}{xs ys:List V}{ts us:List T}{b:Bool}{f:T->T->Option Bool}(I:L2.Inv X pins σ H s)(hu:A.units < cLine)(ha:Rd H a (.lst xs))(hc:Rd H c (.lst ys))(r:zI H xs ts)(r' :zI H ys us)
  (hb:eqL f ts us=some b) (hr:∀x b,f x x=some b->b=true)
  (ih:∀(x y:T) (b:Bool) (p q:V) (u w:Value),f x y=some b->Rep H p x->Rep H q y->Zb p u->Zb q w->EqN A.in1 s u w b):EqN A s (.ref a) (.ref c) b:=by
 obtain⟨its,v,p,l,_⟩:=zV I ha r;obtain⟨its',v',p',l',_⟩:=zV I hc r';obtain⟨e,he,hb'⟩:=Yd hb;have hp:=Ye r r' v v' he ih;have RN:eQ A s (.ref a) (.ref c) b/\cX A s (.ref a) (.ref c) (!b):=by
  by_cases hl:its.toArray.size=its'.toArray.size
  ·have z:(aT its.toArray.size).all e=b:=by
    rw[← hb'];have:ts.length=us.length:=by simp at hl;omega
    rw[this];have k:its.toArray.size=us.length:=by simp;omega
    rw[k];simp
   have R:=eQ.lists p p' hl hu hp;have N:=cX.lists p p' hl hu hp;rw[z]at R;refine⟨R, ?_⟩;rw[← z];exact N
  ·have hl' :(its.toArray.size != its'.toArray.size)=true:=by simpa using hl
   have z:b=false:=by
    rw[← hb'];have:¬ ts.length=us.length:=by simp at hl;omega
    simp[this]
   subst z;exact⟨eQ.lists_lengths p p' hl' hu,cX.lists_lengths p p' hl' hu⟩
 refine⟨?_,RN.1,RN.2⟩
 by_cases hac:a=c
 ·subst hac;have hxy:xs=ys:=by
   rcases ha with ha | ⟨o,ha⟩ <;> rcases hc with hc | ⟨o',hc⟩ <;> (rw[ha]at hc;cases hc) <;> rfl
  subst hxy;have:=r.fn r';subst this;rw[Zr hr ts b hb];exact iq _
 ·exact fG hac RN.1
end
section
variable {X:Cx}{pins:List (Addr×Obj)}{σ:Sg}{H:Hp}{s:Shared}
theorem Wx {A:Around}:A.in1.units=A.units+1:=rfl
set_option maxHeartbeats 2000000 in
theorem Yf (I:L2.Inv X pins σ H s):∀(A:Around),A.units < cLine->∀(x y:T) (b:Bool) (p q:V) (u w:Value),eqF 0 x y=some b->Rep H p x->Rep H q y->Zb p u->Zb q w->EqN A s u w b:=by
 intro A hu x y b p q u w h rp rq ru rw';have hu' :=hu;cases rp with
 | non=>
  obtain rfl:u=Value.none:=ru;cases rq with
  | non=>obtain rfl:w=Value.none:=rw';unfold eqF at h;cases h;exact⟨.same _,.none_none,.none_none⟩
  | bl c=>obtain rfl:w=Value.bool c:=rw';unfold eqF at h;cases h;exact⟨.none_bool _,.none_bool _,.none_bool _⟩
  | int c=>obtain⟨t,rfl⟩:=rw';unfold eqF at h;cases h;exact⟨.none_int _ _,.none_int _ _,.none_int _ _⟩
  | str c=>obtain⟨t,rfl⟩:=rw';unfold eqF at h;cases h;exact⟨.none_str _ _,.none_str _ _,.none_str _ _⟩
  | tup h1 r1=>obtain rfl:w=Value.ref _:=rw';unfold eqF at h;cases h;obtain⟨i,_,p,_⟩:=ZO I h1 r1;exact⟨.none_tuple p hu',.none_tuple p hu',.none_tuple p hu'⟩
  | lst h1 r1=>obtain rfl:w=Value.ref _:=rw';unfold eqF at h;cases h;obtain⟨i,_,p,_⟩:=zV I (.inl h1) r1;exact⟨.none_list p hu',.none_list p hu',.none_list p hu'⟩
  | fz h1 r1=>obtain rfl:w=Value.ref _:=rw';unfold eqF at h;cases h;obtain⟨i,_,p,_⟩:=zV I (.inr ⟨_,h1⟩) r1;exact⟨.none_list p hu',.none_list p hu',.none_list p hu'⟩
 | bl d=>
  obtain rfl:u=Value.bool d:=ru;cases rq with
  | non=>obtain rfl:w=Value.none:=rw';unfold eqF at h;cases h;exact⟨.bool_none _,.bool_none _,.bool_none _⟩
  | bl c=>obtain rfl:w=Value.bool c:=rw';unfold eqF at h;cases h;exact⟨.bool_bool _ _,.bool_bool _ _,.bool_bool _ _⟩
  | int c=>obtain⟨t,rfl⟩:=rw';unfold eqF at h;cases h;exact⟨.bool_int _ _ _,.bool_int _ _ _,.bool_int _ _ _⟩
  | str c=>obtain⟨t,rfl⟩:=rw';unfold eqF at h;cases h;exact⟨.bool_str _ _ _,.bool_str _ _ _,.bool_str _ _ _⟩
  | tup h1 r1=>obtain rfl:w=Value.ref _:=rw';unfold eqF at h;cases h;obtain⟨i,_,p,_⟩:=ZO I h1 r1;exact⟨.bool_tuple _ p hu',.bool_tuple _ p hu',.bool_tuple _ p hu'⟩
  | lst h1 r1=>obtain rfl:w=Value.ref _:=rw';unfold eqF at h;cases h;obtain⟨i,_,p,_⟩:=zV I (.inl h1) r1;exact⟨.bool_list _ p hu',.bool_list _ p hu',.bool_list _ p hu'⟩
  | fz h1 r1=>obtain rfl:w=Value.ref _:=rw';unfold eqF at h;cases h;obtain⟨i,_,p,_⟩:=zV I (.inr ⟨_,h1⟩) r1;exact⟨.bool_list _ p hu',.bool_list _ p hu',.bool_list _ p hu'⟩
 | int d=>
  obtain⟨t0,rfl⟩:=ru;cases rq with
  | non=>obtain rfl:w=Value.none:=rw';unfold eqF at h;cases h;exact⟨.int_none _ _,.int_none _ _,.int_none _ _⟩
  | bl c=>obtain rfl:w=Value.bool c:=rw';unfold eqF at h;cases h;exact⟨.int_bool _ _ _,.int_bool _ _ _,.int_bool _ _ _⟩
  | int c=>obtain⟨t,rfl⟩:=rw';unfold eqF at h;cases h;exact⟨.int_int _ _ _ _,.int_int _ _ _ _,.int_int _ _ _ _⟩
  | str c=>obtain⟨t,rfl⟩:=rw';unfold eqF at h;cases h;exact⟨.int_str _ _ _ _,.int_str _ _ _ _,.int_str _ _ _ _⟩
  | tup h1 r1=>obtain rfl:w=Value.ref _:=rw';unfold eqF at h;cases h;obtain⟨i,_,p,_⟩:=ZO I h1 r1;exact⟨.int_tuple _ _ p hu',.int_tuple _ _ p hu',.int_tuple _ _ p hu'⟩
  | lst h1 r1=>obtain rfl:w=Value.ref _:=rw';unfold eqF at h;cases h;obtain⟨i,_,p,_⟩:=zV I (.inl h1) r1;exact⟨.int_list _ _ p hu',.int_list _ _ p hu',.int_list _ _ p hu'⟩
  | fz h1 r1=>obtain rfl:w=Value.ref _:=rw';unfold eqF at h;cases h;obtain⟨i,_,p,_⟩:=zV I (.inr ⟨_,h1⟩) r1;exact⟨.int_list _ _ p hu',.int_list _ _ p hu',.int_list _ _ p hu'⟩
 | str d=>
  obtain⟨t0,rfl⟩:=ru;cases rq with
  | non=>obtain rfl:w=Value.none:=rw';unfold eqF at h;cases h;exact⟨.str_none _ _,.str_none _ _,.str_none _ _⟩
  | bl c=>obtain rfl:w=Value.bool c:=rw';unfold eqF at h;cases h;exact⟨.str_bool _ _ _,.str_bool _ _ _,.str_bool _ _ _⟩
  | int c=>obtain⟨t,rfl⟩:=rw';unfold eqF at h;cases h;exact⟨.str_int _ _ _ _,.str_int _ _ _ _,.str_int _ _ _ _⟩
  | str c=>obtain⟨t,rfl⟩:=rw';unfold eqF at h;cases h;exact⟨.str_str _ _ _ _,.str_str _ _ _ _,.str_str _ _ _ _⟩
  | tup h1 r1=>obtain rfl:w=Value.ref _:=rw';unfold eqF at h;cases h;obtain⟨i,_,p,_⟩:=ZO I h1 r1;exact⟨.str_tuple _ _ p hu',.str_tuple _ _ p hu',.str_tuple _ _ p hu'⟩
  | lst h1 r1=>obtain rfl:w=Value.ref _:=rw';unfold eqF at h;cases h;obtain⟨i,_,p,_⟩:=zV I (.inl h1) r1;exact⟨.str_list _ _ p hu',.str_list _ _ p hu',.str_list _ _ p hu'⟩
  | fz h1 r1=>obtain rfl:w=Value.ref _:=rw';unfold eqF at h;cases h;obtain⟨i,_,p,_⟩:=zV I (.inr ⟨_,h1⟩) r1;exact⟨.str_list _ _ p hu',.str_list _ _ p hu',.str_list _ _ p hu'⟩
 | tup h0 r0=>
  obtain rfl:u=Value.ref _:=ru;obtain⟨i0,_,p0,_⟩:=ZO I h0 r0;cases rq with
  | non=>obtain rfl:w=Value.none:=rw';unfold eqF at h;cases h;exact⟨.tuple_none p0 hu',.tuple_none p0 hu',.tuple_none p0 hu'⟩
  | bl c=>obtain rfl:w=Value.bool c:=rw';unfold eqF at h;cases h;exact⟨.tuple_bool _ p0 hu',.tuple_bool _ p0 hu',.tuple_bool _ p0 hu'⟩
  | int c=>obtain⟨t,rfl⟩:=rw';unfold eqF at h;cases h;exact⟨.tuple_int _ _ p0 hu',.tuple_int _ _ p0 hu',.tuple_int _ _ p0 hu'⟩
  | str c=>obtain⟨t,rfl⟩:=rw';unfold eqF at h;cases h;exact⟨.tuple_str _ _ p0 hu',.tuple_str _ _ p0 hu',.tuple_str _ _ p0 hu'⟩
  | tup h1 r1=>unfold eqF at h;cases h
  | lst h1 r1=>obtain rfl:w=Value.ref _:=rw';unfold eqF at h;cases h;obtain⟨i,_,p,_⟩:=zV I (.inl h1) r1;exact⟨.tuple_list p0 p hu',.tuple_list p0 p hu',.tuple_list p0 p hu'⟩
  | fz h1 r1=>obtain rfl:w=Value.ref _:=rw';unfold eqF at h;cases h;obtain⟨i,_,p,_⟩:=zV I (.inr ⟨_,h1⟩) r1;exact⟨.tuple_list p0 p hu',.tuple_list p0 p hu',.tuple_list p0 p hu'⟩
 | lst h0 r0=>
  obtain rfl:u=Value.ref _:=ru;obtain⟨i0,_,p0,_⟩:=zV I (.inl h0) r0;cases rq with
  | non=>obtain rfl:w=Value.none:=rw';unfold eqF at h;cases h;exact⟨.list_none p0 hu',.list_none p0 hu',.list_none p0 hu'⟩
  | bl c=>obtain rfl:w=Value.bool c:=rw';unfold eqF at h;cases h;exact⟨.list_bool _ p0 hu',.list_bool _ p0 hu',.list_bool _ p0 hu'⟩
  | int c=>obtain⟨t,rfl⟩:=rw';unfold eqF at h;cases h;exact⟨.list_int _ _ p0 hu',.list_int _ _ p0 hu',.list_int _ _ p0 hu'⟩
  | str c=>obtain⟨t,rfl⟩:=rw';unfold eqF at h;cases h;exact⟨.list_str _ _ p0 hu',.list_str _ _ p0 hu',.list_str _ _ p0 hu'⟩
  | tup h1 r1=>obtain rfl:w=Value.ref _:=rw';unfold eqF at h;cases h;obtain⟨i,_,p,_⟩:=ZO I h1 r1;exact⟨.list_tuple p0 p hu',.list_tuple p0 p hu',.list_tuple p0 p hu'⟩
  | lst h1 r1=>unfold eqF at h;cases h
  | fz h1 r1=>unfold eqF at h;cases h
 | fz h0 r0=>
  obtain rfl:u=Value.ref _:=ru;obtain⟨i0,_,p0,_⟩:=zV I (.inr ⟨_,h0⟩) r0;cases rq with
  | non=>obtain rfl:w=Value.none:=rw';unfold eqF at h;cases h;exact⟨.list_none p0 hu',.list_none p0 hu',.list_none p0 hu'⟩
  | bl c=>obtain rfl:w=Value.bool c:=rw';unfold eqF at h;cases h;exact⟨.list_bool _ p0 hu',.list_bool _ p0 hu',.list_bool _ p0 hu'⟩
  | int c=>obtain⟨t,rfl⟩:=rw';unfold eqF at h;cases h;exact⟨.list_int _ _ p0 hu',.list_int _ _ p0 hu',.list_int _ _ p0 hu'⟩
  | str c=>obtain⟨t,rfl⟩:=rw';unfold eqF at h;cases h;exact⟨.list_str _ _ p0 hu',.list_str _ _ p0 hu',.list_str _ _ p0 hu'⟩
  | tup h1 r1=>obtain rfl:w=Value.ref _:=rw';unfold eqF at h;cases h;obtain⟨i,_,p,_⟩:=ZO I h1 r1;exact⟨.list_tuple p0 p hu',.list_tuple p0 p hu',.list_tuple p0 p hu'⟩
  | lst h1 r1=>unfold eqF at h;cases h
  | fz h1 r1=>unfold eqF at h;cases h
set_option maxHeartbeats 2000000 in
theorem xq (I:L2.Inv X pins σ H s):∀(n:Nat) (A:Around),A.units+n < cLine->∀(x y:T) (b:Bool) (p q:V) (u w:Value),eqF n x y=some b->Rep H p x->Rep H q y->Zb p u->Zb q w->EqN A s u w b:=by
 intro n
 induction n with
 | zero=>exact λA hu x y b p q u w h=>Yf I A (by omega) x y b p q u w h
 | succ n ih=>
  intro A hu x y b p q u w h rp rq ru rw';have low:=λh=>Yf I A (by omega) x y b p q u w h rp rq ru rw'
  have hu' :A.units < cLine:=by omega
  have ih' :=ih A.in1 (by rw[Wx];omega)
  cases rp with
  | tup h0 r0=>
   cases rq with
   | tup h1 r1=>
    obtain rfl:u=Value.ref _:=ru;obtain rfl:w=Value.ref _:=rw';exact xp I hu' h0 h1 r0 r1 h (Z9 n) ih'
   | _=>exact low (by exact h)
  | lst h0 r0=>
   cases rq with
   | lst h1 r1=>
    obtain rfl:u=Value.ref _:=ru;obtain rfl:w=Value.ref _:=rw';exact wK I hu' (.inl h0) (.inl h1) r0 r1 h (Z9 n) ih'
   | fz h1 r1=>
    obtain rfl:u=Value.ref _:=ru;obtain rfl:w=Value.ref _:=rw';exact wK I hu' (.inl h0) (.inr ⟨_,h1⟩) r0 r1 h (Z9 n) ih'
   | _=>exact low (by exact h)
  | fz h0 r0=>
   cases rq with
   | lst h1 r1=>
    obtain rfl:u=Value.ref _:=ru;obtain rfl:w=Value.ref _:=rw';exact wK I hu' (.inr ⟨_,h0⟩) (.inl h1) r0 r1 h (Z9 n) ih'
   | fz h1 r1=>
    obtain rfl:u=Value.ref _:=ru;obtain rfl:w=Value.ref _:=rw';exact wK I hu' (.inr ⟨_,h0⟩) (.inr ⟨_,h1⟩) r0 r1 h (Z9 n) ih'
   | _=>exact low (by exact h)
  | _=>exact low (by cases rq <;> (exact h))
end
section
variable {X:Cx}{Y:Fx}{a b c d:Expr}{fa fb fc fd:En->R T}{pos:Pos}
noncomputable def rG (Y:Fx)(g:T->T->R T):R2:=λx y H Q=>∃B t t',zy B H/\Rep B x t/\Rep B y t' /\Po Y rC B H (g t t') Q
noncomputable def zb (g:T->T->R T)(fa fb:En->R T):En->R T:=λρ=>(fa ρ).bind λx=>(fb ρ).bind λy=>g x y
theorem uq {op:Operator}{g:T->T->R T}(ho:OpR X (binaryOp op) (rG Y g))(ha:Snd X Y a fa)(hb:Snd X Y b fb):Snd X Y (.BinOp a op b pos) (zb g fa fb):= .mk λρ=>
 PE.imp (kP ho (ha ρ) (hb ρ)) λσ H Q ⟨B,I,q⟩=>step I q λt v H1 _ s1 r1 I1 q1=>step I1 q1 λt' v' H2 _ s2 r2 I2 q2=>
  ⟨_,t,t',I2.sB,r1.mono (zS.ge I1.sB s2),r2,q2⟩
theorem po0 {g:R T}{B H:Hp}{Q:VK}{t:T}{v:V}(sB:zy B H)(q:Po Y rC B H g Q)(e:g= .ok t)(r:Rep B v t):Q v H:=by
 subst e;exact q v H (zy.refl H) (by rw[zS.self B H sB];exact r)
theorem Kb {g:R T}{B H:Hp}{Q:VK}{ts:List T}{xs:List V}{p:Addr}(sB:zy B H)(q:Po Y rC B H g Q)(e:g= .ok (.tup ts))(r:zI B xs ts)(h:H p=none):Q (.ref p) (upd H p (.tup xs)):=by
 subst e;exact q _ _ (zy.new h _) (.tup (jc h _) (r.mono (zS.ge sB (zy.new h _))))
theorem Kc {g:R T}{B H:Hp}{Q:VK}{ts:List T}{xs:List V}{p:Addr}(sB:zy B H)(q:Po Y rC B H g Q)(e:g= .ok (.lst ts))(r:zI B xs ts)(h:H p=none):Q (.ref p) (upd H p (.lst xs)):=by
 subst e;exact q _ _ (zy.new h _) (.lst (jc h _) (r.mono (zS.ge sB (zy.new h _))))
noncomputable def zD:T->T->R T
 | .int i,.int j=> .ok (.int (i+j))
 | .bl x,.int j=> .ok (.int (b2 x+j))
 | .int i,.bl y=> .ok (.int (i+b2 y))
 | .str x,.str y=>if x.length+y.length<=bnd then .ok (.str (x++y)) else .bad
 | .tup xs,.tup ys=>if xs.length+ys.length<=bnd then .ok (.tup (xs++ys)) else .bad
 | .lst xs,.lst ys=>if xs.length+ys.length<=bnd then .ok (.lst (xs++ys)) else .bad
 | _,_=> .bad
theorem QY {prog:Program}{w:World}{A:Around}{E:Value->Shared->Prop}{s:Shared}{t b:Addr}{vs ws:List Value}{Q:Value->Shared->Prop}(ht:IsTup s.heap t vs.toArray)(hb:IsTup s.heap b ws.toArray)(hv:vs=[])
  (h1:Q (.ref b) s):wpAny (model prog w) A (binaryOp .Add (.ref t) (.ref b)) Q E s:=by
 obtain⟨⟨cls,dd,data,sl⟩,ho,hc,n,hd⟩:=id ht;obtain⟨⟨cls2,dd2,data2,sl2⟩,ho2,hc2,n2,hd2⟩:=id hb;subst hc hd hc2 hd2;exact concat_meets ⟨_,ho,rfl⟩ ⟨_,ho2,rfl⟩ noFill_tuple_add seq_tuple_add cW cR (cL _ _)
   (tuple_addW0 t b _ _ n n2 dd dd2 sl sl2 (by simp[hv])) ⟨ho,ho2,h1⟩
theorem xr:OpR X (binaryOp .Add) (rG Y zD):=by
 intro pins s σ H x y v u Q I rx ry h;obtain⟨B,t,t',sB,r,r',q⟩:=h;cases r with
 | int i=>
  cases r' with
  | int j=>exact kQ pins s σ H _ _ v u Q I rx ry ⟨i,j,rfl,rfl,po0 sB q rfl (.int _)⟩
  | bl y=>exact yW pins s σ H _ _ v u Q I rx ry ⟨i,y,rfl,rfl,po0 sB q rfl (.int _)⟩
  | _=>exact q.elim
 | bl x=>
  cases r' with
  | int j=>
   obtain rfl:v=Value.bool x:=rx;obtain⟨tk,rfl⟩:=ry;exact IntBool.add_bool_int (⟨.int _,H,I.tok _,⟨_,rfl⟩,po0 sB q rfl (.int _)⟩)
  | _=>exact q.elim
 | str x=>
  cases r' with
  | str y=>
   by_cases hb:x.length+y.length<=bnd
   ·exact UZ pins s σ H _ _ v u Q I rx ry ⟨x,y,rfl,rfl,ZF hb,po0 sB q (if_pos hb) (.str _)⟩
   ·rw[show zD (.str x) (.str y)= .bad from if_neg hb]at q;exact q.elim
  | _=>exact q.elim
 | @tup a xs ts h1 r1=>
  cases r' with
  | @tup a' ys us h2 r2=>
   by_cases hb:ts.length+us.length<=bnd
   ·have eg:zD (.tup ts) (.tup us)= .ok _:=if_pos hb;have hz:xs.length+ys.length<=sizeLine:=by rw[r1.length,r2.length];exact ZF hb
    by_cases hx:xs=[]
    ·obtain rfl:v=Value.ref a:=rx;obtain rfl:u=Value.ref a' :=ry;obtain⟨its,rv,p,_⟩:=I.tuple (SqT.of (sB _ _ h1));obtain⟨its',rv',p',_⟩:=I.tuple (SqT.of (sB _ _ h2));have et:=r1.nil_iff.mp hx;refine QY p p' (rv.nil_iff.mpr hx) ⟨.ref a',H,I,rfl,po0 sB q eg ?_⟩;rw[et];exact .tup h2 r2
    ·refine xg _ s σ H _ _ v u Q I rx ry ⟨a,a',xs,ys,rfl,rfl,SqT.of (sB _ _ h1),SqT.of (sB _ _ h2),hx,hz,λhy=> ?_,λhy p hp=> ?_⟩
     ·refine po0 sB q eg ?_;rw[r2.nil_iff.mp hy,aY];exact .tup h1 r1
     ·exact Kb sB q eg (r1.append r2) hp
   ·rw[show zD (.tup ts) (.tup us)= .bad from if_neg hb]at q;exact q.elim
  | _=>exact q.elim
 | @lst a xs ts h1 r1=>
  cases r' with
  | @lst a' ys us h2 r2=>
   by_cases hb:ts.length+us.length<=bnd
   ·have eg:zD (.lst ts) (.lst us)= .ok _:=if_pos hb;have hz:xs.length+ys.length<=sizeLine:=by rw[r1.length,r2.length];exact ZF hb
    exact K5 _ s σ H _ _ v u Q I rx ry ⟨a,a',xs,ys,rfl,rfl,sB _ _ h1,sB _ _ h2,hz,λp hp=>Kc sB q eg (r1.append r2) hp⟩
   ·rw[show zD (.lst ts) (.lst us)= .bad from if_neg hb]at q;exact q.elim
  | _=>exact q.elim
 | _=>cases r' <;> exact q.elim
theorem z15 (ha:Snd X Y a fa)(hb:Snd X Y b fb):Snd X Y (.BinOp a .Add b pos) (zb zD fa fb):=uq xr ha hb
noncomputable def jA:T->T->R T
 | .int i,.int j=> .ok (.int (i - j))
 | _,_=> .bad
noncomputable def j5:T->T->R T
 | .int i,.int j=>if 0 < j then .ok (.int (i % j)) else .bad
 | _,_=> .bad
noncomputable def JD:T->T->R T
 | .int i,.int j=>if 0 < j/\j < 1073741824 then .ok (.int (i / j)) else .bad
 | _,_=> .bad
noncomputable instance (i j:Int):Decidable (Wc i j):=by unfold Wc;infer_instance
noncomputable def zY:T->T->R T
 | .int i,.int j=>if Wc i j then .ok (.int (i*j)) else .bad
 | .lst xs,.int k=>if 0<=k/\k < 1000000/\xs.length*k.toNat<=bnd then .ok (.lst (aa k.toNat xs).flatten) else .bad
 | .tup xs,.int k=>if 2<=k/\k < 1000000/\xs ≠ []/\xs.length*k.toNat<=bnd then .ok (.tup (aa k.toNat xs).flatten) else .bad
 | _,_=> .bad
theorem Yg:OpR X (binaryOp .Sub) (rG Y jA):=by
 intro pins s σ H x y v u Q I rx ry h;obtain⟨B,t,t',sB,r,r',q⟩:=h;cases r with
 | int i=>
  cases r' with
  | int j=>exact kR _ s σ H _ _ v u Q I rx ry ⟨i,j,rfl,rfl,po0 sB q rfl (.int _)⟩
  | _=>exact q.elim
 | _=>cases r' <;> exact q.elim
theorem xt:OpR X (binaryOp .Mod) (rG Y j5):=by
 intro pins s σ H x y v u Q I rx ry h;obtain⟨B,t,t',sB,r,r',q⟩:=h;cases r with
 | int i=>
  cases r' with
  | int j=>
   by_cases hj:0 < j
   ·exact kT _ s σ H _ _ v u Q I rx ry ⟨i,j,rfl,rfl,hj,po0 sB q (if_pos hj) (.int _)⟩
   ·rw[show j5 (.int i) (.int j)= .bad from if_neg hj]at q;exact q.elim
  | _=>exact q.elim
 | _=>cases r' <;> exact q.elim
theorem QZ:OpR X (binaryOp .FloorDiv) (rG Y JD):=by
 intro pins s σ H x y v u Q I rx ry h;obtain⟨B,t,t',sB,r,r',q⟩:=h;cases r with
 | int i=>
  cases r' with
  | int j=>
   by_cases hj:0 < j/\j < 1073741824
   ·exact VU _ s σ H _ _ v u Q I rx ry ⟨i,j,rfl,rfl,hj,po0 sB q (if_pos hj) (.int _)⟩
   ·rw[show JD (.int i) (.int j)= .bad from if_neg hj]at q;exact q.elim
  | _=>exact q.elim
 | _=>cases r' <;> exact q.elim
theorem yg (l:Addr)(items:Array Value)(n:Nat)(dd:Option Addr)(sl:Array (Option Value))(x:Int)(u:Tok)(h1:2<=x)(h2:x < 1000000)(hne:items.isEmpty=false)(hsz:items.size*x.toNat<=sizeLine):
  Meets (Builtin.«tuple.__mul__» ⟨[.ref l,.int x u],[]⟩) (λ_ R s=>s.heap.get? l=some { cls:= .type "tuple",dict:=dd,data:= .seq items n,slots:=sl }/\
   R (.ok (.ret (Value.ref s.heap.objs.size))) { s with heap:=s.heap.push { cls:=Value.type "tuple",data:=Data.seq (dB (λx1 x2=>x1++x2) #[] (aa x.toNat items)) },toks:=s.toks }):=
 .of_wp λprog w A R s h=>by
  obtain⟨hl,h⟩:=h;have e0:(items.size:Int)*x=((items.size*x.toNat:Nat):Int):=by
   have:x=((x.toNat:Nat):Int):=by omega
   rw[ck,← this]
  have sl1:(sizeLine:Nat)=16777216:=bO;have c1:¬ (decide (x < -(2 ^ 63)) || decide (x ≥ 2 ^ 63))=true:=by simp;omega
  have c2:¬ (items.isEmpty || x == 1)=true:=by simp[hne];omega
  have c3:¬ (decide (x<=0) || items.isEmpty)=true:=by simp[hne];omega
  have c4:¬ ((items.size:Int)*x > (2 ^ 63 - 1) / 8):=by rw[e0];omega
  have c5:¬ dD ((items.size:Int)*x)=true:=by
   unfold dD;rw[e0];intro z;have:=of_decide_eq_true z;omega
  unfold Builtin.«tuple.__mul__»
  wp_walk using wpAny_loadPart' hl
  rw[if_neg c1]
  wp_walk using wpAny_loadPart' hl
  rw[if_neg c2]
  try dsimp only
  rw[if_neg c3]
  try dsimp only
  rw[if_neg c4]
  try dsimp only
  rw[if_neg c5]
  try dsimp only
  have hsz' :sizeOk (.seq (dB (λx1 x2=>x1++x2) #[] (aa x.toNat items))):=by
   show (dB (λx1 x2=>x1++x2) #[] _).size<=sizeLine;have:=jH items.toList x.toNat [];have q:=by
    simpa using this
   rw[q,ay,jR,bP];exact hsz
  exact a7 (a_ (ak ⟨_,rfl,h⟩) hsz')
theorem Wy:seqRepeat? (.type "tuple")=pure (some (.builtin "tuple.__mul__")):=by
 unfold seqRepeat?;rw[i4 (name:="__mul__") eB.lookup (by decide+kernel),i4 (name:="__rmul__") fU.lookup (by decide+kernel)]
 rfl
theorem Jh:fillsNumberSlot (.type "tuple") "mul"=pure false:=
 PySem.fillsNumberSlot_seq eB.lookup (by decide+kernel) fU.lookup (by decide+kernel)
theorem JZ (a:Int)(t:Tok)(l:Addr)(items:Array Value)(n:Nat)(dd:Option Addr)(sl:Array (Option Value)):
  Meets (Builtin.«int.__rmul__» ⟨[.int a t,.ref l],[]⟩) (λ_ R s=>s.heap.get? l=some { cls:= .type "tuple",dict:=dd,data:= .seq items n,slots:=sl }/\R (.ok (.ret Value.notImplemented)) s):=
 .of_wp λprog w A R s h=>by obtain⟨hl,h⟩:=h;wp_walk;exact⟨_,rfl,h⟩
theorem xu {prog:Program}{w:World}{A:Around}{E:Value->Shared->Prop}{s:Shared}{l:Addr}{its:List Value}{k:Int}{t:Tok}{Q:Value->Shared->Prop}(p:IsTup s.heap l its.toArray)(hne:its ≠ [])(h1:2<=k)(h2:k < 1000000)
  (hsz:its.length*k.toNat<=sizeLine) (q:Q (.ref s.heap.objs.size) { s with heap:=s.heap.push { cls:= .type "tuple",data:= .seq (aa k.toNat its).flatten.toArray } }):
  wpAny (model prog w) A (binaryOp .Mult (.ref l) (.int k t)) Q E s:=by
 obtain⟨⟨cls,dd,data,sl⟩,ho,hc,n,hd⟩:=id p;subst hc hd;refine wpAny_binaryOp_repeat_ref (by decide) ⟨_,ho,rfl⟩ (λs' =>typeIs_int s' k t) Jh ip di Wy hZ.lookup
  (dC di (typeIs_int s k t) h_ (fS _ _) (JZ k t l _ n dd sl)
   ⟨ho,rfl,⟨_,ho,rfl⟩,dC eB ⟨_,ho,rfl⟩ F.entry_tuple_mul (F.args_tuple_mul_2 _ _) (yg l _ n dd sl k t h1 h2 (by simpa using hne) (by simpa using hsz)) ⟨ho, ?_⟩⟩)
 have:=jH its k.toNat [];rw[this];exact q
theorem xv:OpR X (binaryOp .Mult) (rG Y zY):=by
 intro pins s σ H x y v u Q I rx ry h;obtain⟨B,t,t',sB,r,r',q⟩:=h;cases r with
 | int i=>
  cases r' with
  | int j=>
   by_cases hj:Wc i j
   ·exact kS _ s σ H _ _ v u Q I rx ry ⟨i,j,rfl,rfl,hj,po0 sB q (if_pos hj) (.int _)⟩
   ·rw[show zY (.int i) (.int j)= .bad from if_neg hj]at q;exact q.elim
  | _=>exact q.elim
 | @lst l xs ts h1 r1=>
  cases r' with
  | int k=>
   by_cases hk:0<=k/\k < 1000000/\ts.length*k.toNat<=bnd
   ·have eg:zY (.lst ts) (.int k)= .ok _:=if_pos hk;exact K6 _ s σ H _ _ v u Q I rx ry ⟨l,k,xs,rfl,rfl,sB _ _ h1,by omega,by omega,by rw[r1.length];exact ZF hk.2.2,λp hp=>Kc sB q eg (r1.rep _) hp⟩
   ·rw[show zY (.lst ts) (.int k)= .bad from if_neg hk]at q;exact q.elim
  | _=>exact q.elim
 | @tup l xs ts h1 r1=>
  cases r' with
  | int k=>
   by_cases hk:2<=k/\k < 1000000/\ts ≠ []/\ts.length*k.toNat<=bnd
   ·have eg:zY (.tup ts) (.int k)= .ok _:=if_pos hk;obtain rfl:v=Value.ref l:=rx;obtain⟨tk,rfl⟩:=ry;obtain⟨its,rv,p,_⟩:=I.tuple (SqT.of (sB _ _ h1));have ln:=r1.length.symm.trans rv.length;have hne:its ≠ []:=λz=>hk.2.2.1 (by rw[z]at ln;exact eC.mp ln)
    refine xu p hne hk.1 hk.2.1 (by rw[← ln];exact ZF hk.2.2.2) ⟨.ref _,upd H _ (.tup (aa k.toNat xs).flatten),I.laid (λb u e=>ab _ e) (ai _) ?_,rfl, ?_⟩
    ·exact⟨by rw[jR,r1.length,bP];exact ZF hk.2.2.2,(aa _ its).flatten,rv.rep _,⟨_,af _ rfl,rfl,_,rfl⟩,.inr ⟨_,af _ rfl,rfl⟩⟩
    ·exact Kb sB q eg (r1.rep _) (I.hok.fresh (ai _))
   ·rw[show zY (.tup ts) (.int k)= .bad from if_neg hk]at q;exact q.elim
  | _=>exact q.elim
 | _=>cases r' <;> exact q.elim
theorem z16 (ha:Snd X Y a fa)(hb:Snd X Y b fb):Snd X Y (.BinOp a .Sub b pos) (zb jA fa fb):=uq Yg ha hb
theorem z17 (ha:Snd X Y a fa)(hb:Snd X Y b fb):Snd X Y (.BinOp a .Mod b pos) (zb j5 fa fb):=uq xt ha hb
theorem Ke (ha:Snd X Y a fa)(hb:Snd X Y b fb):Snd X Y (.BinOp a .FloorDiv b pos) (zb JD fa fb):=uq QZ ha hb
theorem z18 (ha:Snd X Y a fa)(hb:Snd X Y b fb):Snd X Y (.BinOp a .Mult b pos) (zb zY fa fb):=uq xv ha hb
noncomputable def Wf (fa:En->R T):En->R T:=λρ=>(fa ρ).bind λx=>match x with
 | .int i=> .ok (.int (-i))
 | _=> .bad
theorem z19 (ha:Snd X Y a fa):Snd X Y (.UnaryOp .USub a pos) (Wf fa):= .mk λρ=>PE.imp (z0P kU (ha ρ)) λσ H Q ⟨B,I,q⟩=>step I q λt v H1 _ s1 r1 I1 q1=>by
 cases r1 with
 | int i=>exact⟨i,rfl,po0 I1.sB q1 rfl (.int _)⟩
 | _=>exact q1.elim
noncomputable def wk (g:T->T->R Bool):R2:=λx y H Q=>∃t t' b,Rep H x t/\Rep H y t' /\g t t' = .ok b/\Q (.bl b) H
noncomputable def ZL (g:T->T->R Bool)(fa fb:En->R T):En->R T:=λρ=>(fa ρ).bind λx=>(fb ρ).bind λy=>(g x y).bind λb=> .ok (.bl b)
noncomputable def zF (g:T->T->R Bool)(fa fb:En->R T):En->R Bool:=λρ=>(fa ρ).bind λx=>(fb ρ).bind λy=>g x y
noncomputable def Nx (g:T->T->R Bool):Prop:=∀t t' c,g t t' ≠ .ex c
theorem Yh {op:CmpOp}{g:T->T->R Bool}(nx:Nx g)(ho:OpR X (compareOp op) (wk g))(ha:jz X Y a fa)(hb:jz X Y b fb)(hm:behindInMarks op b=false):Snd X Y (.Compare a [op] [b] pos) (ZL g fa fb):= .mk λρ=>
 PE.imp (yX ho (ha ρ) (hb ρ) hm) λσ H Q ⟨B,I,q⟩=>step I q λt v H1 _ s1 r1 I1 q1=>step I1 q1 λt' v' H2 _ s2 r2 I2 q2=>by
  cases e:g t t' with
  | bad=>rw[e]at q2;exact q2.elim
  | ex c=>exact absurd e (nx _ _ _)
  | ok b=>rw[e]at q2;exact⟨t,t',b,r1.mono s2,r2,e,ZS I2 q2 (.bl b)⟩
theorem ur {op:CmpOp}{g:T->T->R Bool}(nx:Nx g)(ho:OpR X (compareOp op) (wk g))(ha:jz X Y a fa)(hb:jz X Y b fb)(hm:behindInMarks op b=false):Wd X Y (.Compare a [op] [b] pos) (zF g fa fb):= .mk λρ=>
 PT.imp (yY ho (ha ρ) (hb ρ) hm) λσ H Q ⟨B,I,q⟩=>step I q λt v H1 _ s1 r1 I1 q1=>step I1 q1 λt' v' H2 _ s2 r2 I2 q2=>by
  cases e:g t t' with
  | bad=>rw[e]at q2;exact q2.elim
  | ex c=>exact absurd e (nx _ _ _)
  | ok b=>rw[e]at q2;exact⟨t,t',b,r1.mono s2,r2,e,b,rfl,ZS I2 q2 rfl⟩
noncomputable def eqC (t t' :T):R Bool:=match eqF 30 t t' with
 | some b=> .ok b
 | none=> .bad
noncomputable def neC (t t' :T):R Bool:=match eqF 30 t t' with
 | some b=> .ok (!b)
 | none=> .bad
theorem xw:Nx eqC:=λt t' c h=>by unfold eqC at h;split at h <;> cases h
theorem xx:Nx neC:=λt t' c h=>by unfold neC at h;split at h <;> cases h
theorem Yi (hu:X.A.units+64 < cLine):OpR X (compareOp .Eq) (wk eqC):=by
 intro pins s σ H x y v u Q I rx ry h;obtain⟨t,t',b,r,r',e,q⟩:=h;unfold eqC at e;split at e
 ·rename_i k ek;have e' :=by injection e
  subst e';exact(xq I 30 X.A (by omega) t t' k x y v u ek r r' rx ry).2.1 _ _ _ _ ⟨.bl k,H,I,rfl,q⟩
 ·cases e
theorem Yj (hu:X.A.units+64 < cLine):OpR X (compareOp .NotEq) (wk neC):=by
 intro pins s σ H x y v u Q I rx ry h;obtain⟨t,t',b,r,r',e,q⟩:=h;unfold neC at e;split at e
 ·rename_i k ek;cases e;exact(xq I 30 X.A (by omega) t t' k x y v u ek r r' rx ry).2.2 _ _ _ _ ⟨.bl _,H,I,rfl,q⟩
 ·cases e
noncomputable def ltC:T->T->R Bool
 | .int i,.int j=> .ok (decide (i < j))
 | _,_=> .bad
noncomputable def leC:T->T->R Bool
 | .int i,.int j=> .ok (decide (i<=j))
 | .str x,.str y=> .ok (!decide (y.cps.toList < x.cps.toList))
 | _,_=> .bad
noncomputable def gtC:T->T->R Bool
 | .int i,.int j=> .ok (decide (j < i))
 | _,_=> .bad
noncomputable def geC:T->T->R Bool
 | .int i,.int j=> .ok (decide (j<=i))
 | _,_=> .bad
theorem z1a:Nx ltC:=λt t' c h=>by unfold ltC at h;split at h <;> cases h
theorem wL:Nx leC:=λt t' c h=>by unfold leC at h;split at h <;> cases h
theorem z1b:Nx gtC:=λt t' c h=>by unfold gtC at h;split at h <;> cases h
theorem z1c:Nx geC:=λt t' c h=>by unfold geC at h;split at h <;> cases h
theorem Kf:OpR X (compareOp .Lt) (wk ltC):=by
 intro pins s σ H x y v u Q I rx ry h;obtain⟨t,t',b,r,r',e,q⟩:=h;unfold ltC at e;split at e
 ·rename_i i j;cases e;cases r;cases r';exact z0Q _ s σ H _ _ v u Q I rx ry ⟨i,j,rfl,rfl,q⟩
 ·cases e
theorem Kg:OpR X (compareOp .Gt) (wk gtC):=by
 intro pins s σ H x y v u Q I rx ry h;obtain⟨t,t',b,r,r',e,q⟩:=h;unfold gtC at e;split at e
 ·rename_i i j;cases e;cases r;cases r';exact z0S _ s σ H _ _ v u Q I rx ry ⟨i,j,rfl,rfl,q⟩
 ·cases e
theorem Kh:OpR X (compareOp .GtE) (wk geC):=by
 intro pins s σ H x y v u Q I rx ry h;obtain⟨t,t',b,r,r',e,q⟩:=h;unfold geC at e;split at e
 ·rename_i i j;cases e;cases r;cases r';exact z0T _ s σ H _ _ v u Q I rx ry ⟨i,j,rfl,rfl,q⟩
 ·cases e
theorem jJ:OpR X (compareOp .LtE) (wk leC):=by
 intro pins s σ H x y v u Q I rx ry h;obtain⟨t,t',b,r,r',e,q⟩:=h;unfold leC at e;split at e
 ·rename_i i j;cases e;cases r;cases r';exact z0R _ s σ H _ _ v u Q I rx ry ⟨i,j,rfl,rfl,q⟩
 ·cases e;cases r;cases r';obtain⟨t1,rfl⟩:=rx;obtain⟨t2,rfl⟩:=ry;exact PySem.P.le_str ⟨.bl _,H,I,rfl,q⟩
 ·cases e
end
section
variable {X:Cx}{Y:Fx}{a b c d:Expr}{fa fb fc fd:En->R T}{pos:Pos}
noncomputable def JY (f:T->Option Bool):List T->Option Bool
 | []=>some false
 | t :: r=>match f t with
  | none=>none
  | some b=>match JY f r with
   | none=>none
   | some c=>some (b || c)
noncomputable def inC (t t' :T):R Bool:=match t' with
 | .tup ys=>match JY (λy=>eqF 30 y t) ys with | some b=> .ok b | none=> .bad
 | .lst ys=>match JY (λy=>eqF 30 y t) ys with | some b=> .ok b | none=> .bad
 | _=> .bad
noncomputable def v6 (t t' :T):R Bool:=(inC t t').bind λb=> .ok (!b)
theorem v7:Nx inC:=λt t' c h=>by
 unfold inC at h;split at h
 ·split at h <;> cases h
 ·split at h <;> cases h
 ·cases h
theorem Ki:Nx v6:=λt t' c h=>by
 unfold v6 at h;cases e:inC t t' with
 | bad=>rw[e]at h;cases h
 | ex k=>exact absurd e (v7 _ _ _)
 | ok k=>rw[e]at h;cases h
open Classical in
theorem xy {H:Hp}(f:T->Option Bool):∃e:Value->Bool,∀(v:V) (t:T) (u:Value) (b:Bool),Zb v u->Rep H v t->f t=some b->e u=b:=by
 refine⟨λu=>decide (∃v t,Zb v u/\Rep H v t/\f t=some true),λv t u b rv r e=> ?_⟩;cases b with
 | true=>exact decide_eq_true ⟨v,t,rv,r,e⟩
 | false=>
  refine decide_eq_false ?_
  rintro⟨v',t',rv',r',e'⟩
  have:=rv.inj rv';subst this;have:=r.fn r';subst this;rw[e]at e';cases e'
theorem Yk {H:Hp}{f:T->Option Bool}{e:Value->Bool}(he:∀(v:V) (t:T) (u:Value) (b:Bool),Zb v u->Rep H v t->f t=some b->e u=b):∀{xs:List V} {ts:List T} {its:List Value} {b:Bool},
  zZ xs its->zI H xs ts->JY f ts=some b->its.any e=b/\∀u∈its,∃v t k,Zb v u/\Rep H v t/\f t=some k
 | _,_,_,b,.nil,.nil,h=>by
  have h' :=h;cases h';exact⟨rfl,λu hu=>by simp at hu⟩
 | _,_,_,b,.cons rv vs,.cons r rs,h=>by
  rename_i v u vals us t ts;unfold JY at h;cases q:f t with
  | none=>rw[q]at h;cases h
  | some k=>
   rw[q]at h;cases q' :JY f ts with
   | none=>rw[q']at h;cases h
   | some k' =>
    rw[q']at h;cases h;obtain⟨h1,h2⟩:=Yk he vs rs q';refine⟨by rw[dO,h1,he v t u k rv r q],λw hw=> ?_⟩
    rcases ah.mp hw with rfl | hw
    ·exact⟨v,t,k,rv,r,q⟩
    ·exact h2 w hw
theorem Yl (hu:X.A.units+64 < cLine)(neg:Bool):OpR X (compareOp (if neg then .NotIn else .In)) (wk (if neg then v6 else inC)):=by
 intro pins s σ H x y v u Q I rx ry h;obtain⟨t,t',b,r,r',e,q⟩:=h;have hs:∃k,inC t t' = .ok k/\b=(if neg then !k else k):=by
  cases neg with
  | false=>exact⟨b,e,rfl⟩
  | true=>
   have e' :v6 t t' = .ok b:=e;unfold v6 at e';cases z:inC t t' with
   | bad=>rw[z]at e';cases e'
   | ex k=>exact absurd z (v7 _ _ _)
   | ok k=>rw[z]at e';cases e';exact⟨k,rfl,rfl⟩
 obtain⟨k,ek,rfl⟩:=hs;unfold inC at ek;obtain⟨f,hf⟩:=xy λy=>eqF 30 y t;have eqa:∀w,(∃v t' k,Zb v w/\Rep H v t' /\eqF 30 t' t=some k)->cA X.A.in1 s w v (f w):=λw ⟨v',t',k,rv,rr,ee⟩=>by
  rw[hf v' t' w k rv rr ee];exact(xq I 30 _ (by rw[Wx];omega) t' t k v' x w v ee rr r rv rx).1
 split at ek
 ·split at ek
  ·rename_i k' hk;cases ek;cases r' with
   | @tup l xs _ h1 r1=>
    obtain rfl:u=Value.ref l:=ry;obtain⟨its,rv,p,_⟩:=ZO I h1 r1;obtain⟨h2,h3⟩:=Yk hf rv r1 hk;have h4:its.toArray.any f=k:=by simpa using h2
    cases neg with
    | false=>exact SeqAt.in_tupleAt f p (λw hw=>eqa w (h3 w (by simpa using hw))) (by rw[h4];exact⟨.bl k,H,I,rfl,q⟩)
    | true=>exact SeqAt.notIn_tupleAt f p (λw hw=>eqa w (h3 w (by simpa using hw))) (by rw[h4];exact⟨.bl _,H,I,rfl,q⟩)
  ·cases ek
 ·split at ek
  ·rename_i k' hk;cases ek;cases r' with
   | @lst l xs _ h1 r1=>
    obtain rfl:u=Value.ref l:=ry;obtain⟨its,rv,p,_⟩:=zV I (.inl h1) r1;obtain⟨h2,h3⟩:=Yk hf rv r1 hk;have h4:its.toArray.any f=k:=by simpa using h2
    cases neg with
    | false=>exact SeqAt.in_listAt f p (λw hw=>eqa w (h3 w (by simpa using hw))) (by rw[h4];exact⟨.bl k,H,I,rfl,q⟩)
    | true=>exact SeqAt.notIn_listAt f p (λw hw=>eqa w (h3 w (by simpa using hw))) (by rw[h4];exact⟨.bl _,H,I,rfl,q⟩)
  ·cases ek
 ·cases ek
theorem Vg (hu:X.A.units+64 < cLine):OpR X (compareOp .In) (wk inC):=Yl hu false
theorem xz (hu:X.A.units+64 < cLine):OpR X (compareOp .NotIn) (wk v6):=Yl hu true
noncomputable def isNC (t t' :T):R Bool:=match t' with
 | .non=>match t with | .non=> .ok true | _=> .ok false
 | .bl k=>match t with | .bl j=> .ok (j == k) | _=> .ok false
 | _=> .bad
noncomputable def chE (g g' :T->T->R Bool)(fa fb fc:En->R T):En->R T:=λρ=>(fa ρ).bind λx=>(fb ρ).bind λy=>(g x y).bind λk=>if k=true then (fc ρ).bind λz=>(g' y z).bind λk' => .ok (.bl k') else .ok (.bl false)
noncomputable def chT (g g' :T->T->R Bool)(fa fb fc:En->R T):En->R Bool:=λρ=>(fa ρ).bind λx=>(fb ρ).bind λy=>(g x y).bind λk=>if k=true then (fc ρ).bind λz=>g' y z else .ok false
theorem xA {op op' :CmpOp}{g g' :T->T->R Bool}(nx:Nx g)(nx' :Nx g')(ho:OpR X (compareOp op) (wk g))(ho' :OpR X (compareOp op') (wk g'))(ha:jz X Y a fa)(hb:jz X Y b fb)(hc:jz X Y c fc)
  (hm:lastMarks [op,op'] [b,c]=false:=by with_unfolding_all rfl):Snd X Y (.Compare a [op,op'] [b,c] pos) (chE g g' fa fb fc):= .mk λρ=>
 PE.imp (QJ ho ho' (ha ρ) (hb ρ) (hc ρ) hm) λσ H Q ⟨B,I,q⟩=>step I q λt v H1 _ s1 r1 I1 q1=>step I1 q1 λt' v' H2 _ s2 r2 I2 q2=>by
  cases e:g t t' with
  | bad=>rw[e]at q2;exact q2.elim
  | ex c=>exact absurd e (nx _ _ _)
  | ok k=>
   rw[e]at q2;refine⟨t,t',k,r1.mono s2,r2,e,k,rfl, ?_⟩;cases k with
   | false=>exact ZS I2 q2 (.bl _)
   | true=>
    refine step I2 q2 λt3 v3 H3 _ s3 r3 I3 q3=> ?_
    ·cases e:g' t' t3 with
     | bad=>rw[e]at q3;exact q3.elim
     | ex c=>exact absurd e (nx' _ _ _)
     | ok k=>rw[e]at q3;exact⟨t',t3,k,r2.mono s3,r3,e,ZS I3 q3 (.bl k)⟩
theorem xB {op op' :CmpOp}{g g' :T->T->R Bool}(nx:Nx g)(nx' :Nx g')(ho:OpR X (compareOp op) (wk g))(ho' :OpR X (compareOp op') (wk g'))(ha:jz X Y a fa)(hb:jz X Y b fb)(hc:jz X Y c fc)
  (hm:lastMarks [op,op'] [b,c]=false:=by with_unfolding_all rfl):Wd X Y (.Compare a [op,op'] [b,c] pos) (chT g g' fa fb fc):= .mk λρ=>
 PT.imp (QK ho ho' (ha ρ) (hb ρ) (hc ρ) hm) λσ H Q ⟨B,I,q⟩=>step I q λt v H1 _ s1 r1 I1 q1=>step I1 q1 λt' v' H2 _ s2 r2 I2 q2=>by
  cases e:g t t' with
  | bad=>rw[e]at q2;exact q2.elim
  | ex c=>exact absurd e (nx _ _ _)
  | ok k=>
   rw[e]at q2;refine⟨t,t',k,r1.mono s2,r2,e,k,rfl, ?_⟩;cases k with
   | false=>exact⟨false,rfl,ZS I2 q2 rfl⟩
   | true=>
    refine step I2 q2 λt3 v3 H3 _ s3 r3 I3 q3=> ?_
    ·cases e:g' t' t3 with
     | bad=>rw[e]at q3;exact q3.elim
     | ex c=>exact absurd e (nx' _ _ _)
     | ok k=>rw[e]at q3;exact⟨t',t3,k,r2.mono s3,r3,e,k,rfl,ZS I3 q3 rfl⟩
noncomputable def xC (r r' r'' :R2)(ta tb tc td:TE):TE:=λσ H Q=>ta σ H λx H1=>tb σ H1 λy H2=>r x y H2 λz H3=>∃k,z= .bl k/\
 (if k=true then tc σ H3 λw' H4=>r' y w' H4 λz' H5=>∃k',z' = .bl k' /\(if k' =true then td σ H5 λw2 H6=>r'' w' w2 H6 Q else Q (.bl false) H5) else Q (.bl false) H3)
theorem Ym {op op' op'' :CmpOp}{r r' r'' :R2}{ta tb tc td:TE}(ho:OpR X (compareOp op) r)(ho' :OpR X (compareOp op') r')(ho'' :OpR X (compareOp op'') r'')(ha:PE X a ta)(hb:PE X b tb)(hc:PE X c tc)(hd:PE X d td)
  (hm:lastMarks [op,op',op''] [b,c,d]=false:=by with_unfolding_all rfl):PE X (.Compare a [op,op',op''] [b,c,d] pos) (xC r r' r'' ta tb tc td):=by
 intro pins s σ H Q I h;refine Compare_chain (thn (ha _ s σ H _ I h) λv s1 ⟨x,H1,I1,r1,q1⟩=>chain_link (thn (hb _ s1 σ H1 _ I1 q1) λu s2 ⟨y,H2,I2,r2,q2⟩=>
  thn (ho _ s2 σ H2 x y v u _ I2 r1 r2 q2) λd' s3 ⟨z,H3,I3,r3,k,e,q3⟩=> ?_)) hm
 subst e;cases r3;refine aZ ?_;cases k with
 | false=>exact ite_ff ⟨.bl _,H3,I3,rfl,q3⟩
 | true=>
  refine ite_tt (chain_link (thn (hc _ s3 σ H3 _ I3 q3) λw' s4 ⟨z',H4,I4,r4,q4⟩=>thn (ho' _ s4 σ H4 y z' u w' _ I4 r2 r4 q4) λd2 s5 ⟨z5,H5,I5,r5,k5,e5,q5⟩=> ?_));subst e5;cases r5;refine aZ ?_;cases k5 with
  | false=>exact ite_ff ⟨.bl _,H5,I5,rfl,q5⟩
  | true=>exact ite_tt (chain_last (thn (hd _ s5 σ H5 _ I5 q5) λw6 s6 ⟨z6,H6,I6,r6,q6⟩=>ho'' _ s6 σ H6 z' z6 w' w6 Q I6 r4 r6 q6))
noncomputable def ch3E (g g' g'' :T->T->R Bool)(fa fb fc fd:En->R T):En->R T:=λρ=>(fa ρ).bind λx=>(fb ρ).bind λy=>(g x y).bind λk=>if k=true then (fc ρ).bind λz=>(g' y z).bind λk' =>
 if k' =true then (fd ρ).bind λw=>(g'' z w).bind λk'' => .ok (.bl k'') else .ok (.bl false) else .ok (.bl false)
theorem v8 {op op' op'' :CmpOp}{g g' g'' :T->T->R Bool}(nx:Nx g)(nx' :Nx g')(nx'' :Nx g'')(ho:OpR X (compareOp op) (wk g))(ho' :OpR X (compareOp op') (wk g'))(ho'' :OpR X (compareOp op'') (wk g''))
  (ha:jz X Y a fa) (hb:jz X Y b fb) (hc:jz X Y c fc) (hd:jz X Y d fd)
  (hm:lastMarks [op,op',op''] [b,c,d]=false:=by with_unfolding_all rfl):Snd X Y (.Compare a [op,op',op''] [b,c,d] pos) (ch3E g g' g'' fa fb fc fd):= .mk λρ=>
 PE.imp (Ym ho ho' ho'' (ha ρ) (hb ρ) (hc ρ) (hd ρ) hm) λσ H Q ⟨B,I,q⟩=>step I q λt v H1 _ s1 r1 I1 q1=>step I1 q1 λt' v' H2 _ s2 r2 I2 q2=>by
  cases e:g t t' with
  | bad=>rw[e]at q2;exact q2.elim
  | ex c=>exact absurd e (nx _ _ _)
  | ok k=>
   rw[e]at q2;refine⟨t,t',k,r1.mono s2,r2,e,k,rfl, ?_⟩;cases k with
   | false=>exact ZS I2 q2 (.bl _)
   | true=>
    refine step I2 q2 λt3 v3 H3 _ s3 r3 I3 q3=> ?_
    ·cases e:g' t' t3 with
     | bad=>rw[e]at q3;exact q3.elim
     | ex c=>exact absurd e (nx' _ _ _)
     | ok k=>
      rw[e]at q3;refine⟨t',t3,k,r2.mono s3,r3,e,k,rfl, ?_⟩;cases k with
      | false=>exact ZS I3 q3 (.bl _)
      | true=>
       refine step I3 q3 λt4 v4 H4 _ s4 r4 I4 q4=> ?_
       ·cases e:g'' t3 t4 with
        | bad=>rw[e]at q4;exact q4.elim
        | ex c=>exact absurd e (nx'' _ _ _)
        | ok k=>rw[e]at q4;exact⟨t3,t4,k,r3.mono s4,r4,e,ZS I4 q4 (.bl k)⟩
variable {rest:List Expr}{ga gb:En->R Bool}
noncomputable def j6 (fa fb:En->R T):En->R T:=λρ=>(fa ρ).bind λx=>match x with
 | .bl true=>fb ρ
 | .bl false=> .ok (.bl false)
 | _=> .bad
noncomputable def orE (fa fb:En->R T):En->R T:=λρ=>(fa ρ).bind λx=>match x with
 | .bl true=> .ok (.bl true)
 | .bl false=>fb ρ
 | _=> .bad
noncomputable def Qs (fa:En->R T):En->R T:=λρ=>(fa ρ).bind λx=>match x with
 | .bl k=> .ok (.bl (!k))
 | _=> .bad
theorem z1d {op}(h:Snd X Y a fa):Snd X Y (.BoolOp op [a] pos) fa:= .mk λρ=>kI (h ρ)
theorem z1e (ha:Snd X Y a fa)(hb:Snd X Y (.BoolOp .And (b :: rest) pos) fb):Snd X Y (.BoolOp .And (a :: b :: rest) pos) (j6 fa fb):= .mk λρ=>
 PE.imp (kJ (ha ρ) (hb ρ)) λσ H Q ⟨B,I,q⟩=>step I q λt v H1 _ s1 r1 I1 q1=>by
  cases r1 with
  | bl k=>
   refine⟨k,rfl, ?_⟩;cases k with
   | true=>exact⟨_,I1,q1⟩
   | false=>exact ZS I1 q1 (.bl _)
  | _=>exact q1.elim
theorem s_or (ha:Snd X Y a fa)(hb:Snd X Y (.BoolOp .Or (b :: rest) pos) fb):Snd X Y (.BoolOp .Or (a :: b :: rest) pos) (orE fa fb):= .mk λρ=>
 PE.imp (z0I (ha ρ) (hb ρ)) λσ H Q ⟨B,I,q⟩=>step I q λt v H1 _ s1 r1 I1 q1=>by
  cases r1 with
  | bl k=>
   refine⟨k,rfl, ?_⟩;cases k with
   | false=>exact⟨_,I1,q1⟩
   | true=>exact ZS I1 q1 (.bl _)
  | _=>exact q1.elim
theorem z1f (ha:Snd X Y a fa):Snd X Y (.UnaryOp .Not a pos) (Qs fa):= .mk λρ=>
 PE.imp (kK (ha ρ)) λσ H Q ⟨B,I,q⟩=>step I q λt v H1 _ s1 r1 I1 q1=>by
  cases r1 with
  | bl k=>exact⟨k,rfl,ZS I1 q1 (.bl _)⟩
  | _=>exact q1.elim
structure yH (X:Cx) (Y:Fx) (e:Expr) (f:En->R Bool):Prop where
 mk ::
 go:∀ρ,PW X e (tS Y rE f ρ)
noncomputable instance {X:Cx}{Y:Fx}{e:Expr}{f:En->R Bool}:CoeFun (yH X Y e f) λ_=>∀ρ,PW X e (tS Y rE f ρ):=⟨yH.go⟩
theorem yH.t {e:Expr}{f:En->R Bool}(h:yH X Y e f):Wd X Y e f:= .mk λρ=>(h ρ).pt
theorem PW.imp {e:Expr}{t t' :TT}(h:PW X e t)(i:∀σ H Q,t' σ H Q->t σ H Q):PW X e t' :=λwh pins s σ H Q I q=>h wh _ s σ H Q I (i σ H Q q)
noncomputable def Kj (fa fb:En->R Bool):En->R Bool:=λρ=>(fa ρ).bind λx=>if x=true then fb ρ else .ok false
noncomputable def orT (fa fb:En->R Bool):En->R Bool:=λρ=>(fa ρ).bind λx=>if x=true then .ok true else fb ρ
noncomputable def ue (fa:En->R Bool):En->R Bool:=λρ=>(fa ρ).bind λx=> .ok (!x)
theorem Kk (h:Wd X Y a ga):yH X Y (.BoolOp .And [a] pos) ga:= .mk λρ=>VT (h ρ)
theorem z1g (h:Wd X Y a ga):yH X Y (.BoolOp .Or [a] pos) ga:= .mk λρ=>V9 (h ρ)
theorem z1h (ha:Wd X Y a ga)(hb:yH X Y (.BoolOp .And (b :: rest) pos) gb):yH X Y (.BoolOp .And (a :: b :: rest) pos) (Kj ga gb):= .mk λρ=>
 PW.imp (kF (ha ρ) (hb ρ)) λσ H Q ⟨B,I,q⟩=>step I q λt v H1 _ s1 r1 I1 q1=>by
  have r1' :=r1;subst r1';cases v with
  | true=>exact⟨_,I1,q1⟩
  | false=>exact ZS I1 q1 rfl
theorem w_or (ha:Wd X Y a ga)(hb:yH X Y (.BoolOp .Or (b :: rest) pos) gb):yH X Y (.BoolOp .Or (a :: b :: rest) pos) (orT ga gb):= .mk λρ=>
 PW.imp (kG (ha ρ) (hb ρ)) λσ H Q ⟨B,I,q⟩=>step I q λt v H1 _ s1 r1 I1 q1=>by
  have r1' :=r1;subst r1';cases v with
  | false=>exact⟨_,I1,q1⟩
  | true=>exact ZS I1 q1 rfl
theorem z1i (ha:Wd X Y a ga):Wd X Y (.UnaryOp .Not a pos) (ue ga):= .mk λρ=>
 PT.imp (kH (ha ρ)) λσ H Q ⟨B,I,q⟩=>step I q λt v H1 _ s1 r1 I1 q1=>by
  have r1' :=r1;subst r1';exact ZS I1 q1 rfl
noncomputable def tru:T->R Bool
 | .bl k=> .ok k
 | .non=> .ok false
 | .int i=> .ok (i != 0)
 | .tup xs=> .ok (!xs.isEmpty)
 | .lst xs=> .ok (!xs.isEmpty)
 | _=> .bad
noncomputable def Jk (fa:En->R T):En->R Bool:=λρ=>(fa ρ).bind tru
theorem isE {H:Hp}{xs:List V}{ts:List T}(r:zI H xs ts):(!xs.isEmpty)= !ts.isEmpty:=by cases r <;> rfl
theorem z1j (ha:jz X Y a fa)(he:∀whole,isTrue a X.env whole=(do let v ← whole;standAt a.pos;holding [v] (truthy v)):=by intro _;rfl):Wd X Y a (Jk fa):= .mk λρ=>
 PT.imp (QL (ha ρ) he) λσ H Q ⟨B,I,q⟩=>step I q λt v H1 _ s1 r1 I1 q1=>by
  cases r1 with
  | bl k=>exact⟨k,rfl,ZS I1 q1 rfl⟩
  | non=>exact⟨false,rfl,ZS I1 q1 rfl⟩
  | int i=>exact⟨_,rfl,ZS I1 q1 rfl⟩
  | tup h r=>exact⟨_,.inr (.inl ⟨_,SqT.of h,rfl⟩),ZS I1 q1 (isE r)⟩
  | lst h r=>exact⟨_,.inl ⟨_,SqL.of h,rfl⟩,ZS I1 q1 (isE r)⟩
  | _=>exact q1.elim
noncomputable def ifE (g:En->R Bool)(fa fb:En->R T):En->R T:=λρ=>(g ρ).bind λk=>if k=true then fa ρ else fb ρ
theorem s_if (hc:Wd X Y c ga)(ha:Snd X Y a fa)(hb:Snd X Y b fb):Snd X Y (.IfExp c a b pos) (ifE ga fa fb):= .mk λρ=>
 PE.imp (uU (hc ρ) (ha ρ) (hb ρ)) λσ H Q ⟨B,I,q⟩=>step I q λt v H1 _ s1 r1 I1 q1=>by
  have r1' :=r1;subst r1';cases v with
  | true=>exact⟨_,I1,q1⟩
  | false=>exact⟨_,I1,q1⟩
end
end PV
namespace PV
open PySem PySem.Spec PyProof.Rows L2
section
variable {X:Cx}{Y:Fx}{a b c d:Expr}{fa fb fc fd:En->R T}{pos p:Pos}
noncomputable def ap1 (g:T->R T)(fa:En->R T):En->R T:=λρ=>(fa ρ).bind g
noncomputable abbrev St1 (X:Cx)(a:Expr):Prop:=starEach [a] X.env=[(false,eval a X.env)]
theorem wl {id:String}{x:Str}{r:List V->Hp->VK->Prop}{g:T->R T}(hc:Zt X (.builtin id) r)(hr:∀v t B H Q,Rep H v t->zy B H->Po Y rC B H (g t) Q->r [v] H Q)
  (gl:Gl X x) (mg:X.mg x=none) (bt:bootBuiltins x=some (.builtin id)) (ha:jz X Y a fa) (hs:St1 X a:=by exact st1 rfl) (hn:x ≠ "__name__":=by decide) (hd:(x == ("__debug__":Str))=false:=by decide):Snd X Y (.Call (.Name x p) [a] [] pos) (ap1 g fa):= .mk λρ=>
 PE.imp (jG hc gl mg bt (zH (ha ρ) Z5 hs) hn hd hs rfl) λσ H Q ⟨B,I,q⟩=>step I q λt v H1 _ s1 r1 I1 q1=>hr v t _ H1 Q r1 I1.sB q1
theorem Yn {id:String}{x:Str}{r:List V->Hp->VK->Prop}{g:T->R T}(hc:Zt X (.type id) r)(hr:∀v t B H Q,Rep B v t->zy B H->Po Y rC B H (g t) Q->r [v] H Q)
  (gl:Gl X x) (mg:X.mg x=none) (bt:bootBuiltins x=some (.type id)) (ha:Snd X Y a fa) (hs:St1 X a:=by exact st1 rfl) (hn:x ≠ "__name__":=by decide) (hd:(x == ("__debug__":Str))=false:=by decide):Snd X Y (.Call (.Name x p) [a] [] pos) (ap1 g fa):= .mk λρ=>
 PE.imp (ZU hc gl mg bt (zH (ha ρ) Z5 hs) hn hd hs rfl) λσ H Q ⟨B,I,q⟩=>step I q λt v H1 _ s1 r1 I1 q1=>hr v t _ H1 Q r1 I1.sB q1
noncomputable def Zo:T->R T
 | .tup xs=> .ok (.int xs.length)
 | .lst xs=> .ok (.int xs.length)
 | .fz xs=> .ok (.int xs.length)
 | .str x=>if x.length<=bnd then .ok (.int x.length) else .bad
 | _=> .bad
theorem z1k (v:V)(t:T)(B H:Hp)(Q:VK)(r:Rep H v t)(sB:zy B H)(q:Po Y rC B H (Zo t) Q):
  (∃p ys,[v]=[V.ref p]/\(SqL X.K H p ys\/SqT X.K H p ys)/\Q (V.int ys.length) H)\/(∃z,[v]=[V.str z]/\z.length<=sizeLine/\Q (V.int z.length) H):=by
 cases r with
 | tup h r=>exact .inl ⟨_,_,rfl,.inr (SqT.of h),po0 sB q rfl (by rw[r.length];exact .int _)⟩
 | lst h r=>exact .inl ⟨_,_,rfl,.inl (SqL.of h),po0 sB q rfl (by rw[r.length];exact .int _)⟩
 | fz h r=>exact .inl ⟨_,_,rfl,.inl (.inl (.inr ⟨_,h⟩)),po0 sB q rfl (by rw[r.length];exact .int _)⟩
 | str x=>
  by_cases hb:x.length<=bnd
  ·exact .inr ⟨x,rfl,ZF hb,po0 sB q (if_pos hb) (.int _)⟩
  ·rw[show Zo (.str x)= .bad from if_neg hb]at q;exact q.elim
 | _=>exact q.elim
theorem z1l (gl:Gl X "len")(mg:X.mg "len"=none)(ha:jz X Y a fa)(hs:St1 X a:=by exact st1 rfl):Snd X Y (.Call (.Name "len" p) [a] [] pos) (ap1 Zo fa):=
 wl (Wu.or Wv) z1k gl mg PySem.boot_len ha hs
noncomputable def GR:T->R T
 | .tup xs=> .ok (.tup xs)
 | .lst xs=> .ok (.tup xs)
 | _=> .bad
theorem z1m (v:V)(t:T)(B H:Hp)(Q:VK)(r:Rep B v t)(sB:zy B H)(q:Po Y rC B H (GR t) Q):
  ∃p ys,[v]=[V.ref p]/\((SqL X.K H p ys/\∀l,H l=none->Q (.ref l) (upd H l (.tup ys)))\/(SqT X.K H p ys/\Q (.ref p) H)):=by
 cases r with
 | tup h r=>exact⟨_,_,rfl,.inr ⟨SqT.of (sB _ _ h),po0 sB q rfl (.tup h r)⟩⟩
 | lst h r=>exact⟨_,_,rfl,.inl ⟨SqL.of (sB _ _ h),λl hl=>Kb sB q rfl r hl⟩⟩
 | _=>exact q.elim
theorem xD (gl:Gl X "tuple")(mg:X.mg "tuple"=none)(ha:Snd X Y a fa)(hs:St1 X a:=by exact st1 rfl):Snd X Y (.Call (.Name "tuple" p) [a] [] pos) (ap1 GR fa):=
 Yn wJ z1m gl mg (PyProof.Rows.Boot.«tuple») ha hs
noncomputable def tyN:T->String
 | .non=>"NoneType"
 | .bl _=>"bool"
 | .int _=>"int"
 | .str _=>"str"
 | .tup _=>"tuple"
 | .lst _=>"list"
 | .fz _=>"list"
noncomputable def isT (n:String)(t:T):Bool:=tyN t == n || (n == "int" && tyN t == "bool")
theorem z1n {H:Hp}{v:V}{t:T}(K:a8)(r:Rep H v t):yb K H v (.type (tyN t)):=by
 cases r with
 | non=>exact .non
 | bl b=>exact .bl b
 | int b=>exact .int b
 | str b=>exact .str b
 | tup h _=>exact .tup h
 | lst h _=>exact .lst h
 | fz h _=>exact .frz h
theorem v9:Zt X (.builtin "isinstance") (λxs H Q=>∃v n t,xs=[v,.ty n]/\Rep H v t/\bX X.K (.type (tyN t)) (.type n)=some (isT n t)/\Q (.bl (isT n t)) H):=by
 intro pins s σ H xs us Q I rv h;obtain⟨v,n,t,rfl,r,hk,q⟩:=h;obtain⟨u,w,rfl,ru,rw'⟩:=yZ rv;obtain rfl:w=Value.type n:=rw';exact Y4 I ru (z1n X.K r) hk λtk=>⟨.bl _,H,I.tok tk,rfl,q⟩
noncomputable def wM (n:String)(t:T):R T:= .ok (.bl (isT n t))
theorem xE (K:a8)(t:T):bX K (.type (tyN t)) (.type "int")=some (isT "int" t):=by cases t <;> rfl
theorem va (K:a8)(t:T):bX K (.type (tyN t)) (.type "bool")=some (isT "bool" t):=by cases t <;> rfl
theorem xF (K:a8)(t:T):bX K (.type (tyN t)) (.type "str")=some (isT "str" t):=by cases t <;> rfl
theorem Yo (K:a8)(t:T):bX K (.type (tyN t)) (.type "tuple")=some (isT "tuple" t):=by cases t <;> rfl
theorem vb {n:String}{p' :Pos}(hk:∀t,bX X.K (.type (tyN t)) (.type n)=some (isT n t))(gl:Gl X "isinstance")(mg:X.mg "isinstance"=none)(gl' :Gl X (bC n))(mg' :X.mg (bC n)=none)(bt:bootBuiltins (bC n)=some (.type n))(ha:jz X Y a fa)
  (hs:starEach [a,.Name (bC n) p'] X.env=[(false,eval a X.env),(false,eval (.Name (bC n) p') X.env)]:=by exact st2 rfl rfl) (hs2:starEach [.Name (bC n) p'] X.env=[(false,eval (.Name (bC n) p') X.env)]:=by exact st1 rfl)
  (hn:bC n ≠ "__name__":=by decide) (hd:(bC n == ("__debug__":Str))=false:=by decide) (hz:((backTo pos (starEach [.Name (bC n) p'] X.env)).any λx=>x.fst)=false:=by exact ZB rfl):
  Snd X Y (.Call (.Name "isinstance" p) [a,.Name (bC n) p'] [] pos) (ap1 (wM n) fa):= .mk λρ=>
 PE.imp (jG v9 gl mg PyProof.Rows.Boot.«isinstance» (zH (ha ρ) (zH (VS (v:= .ty n) gl' mg' bt rfl hn hd) Z5 hs2) (by rw[hs,hs2])) (by decide) (by decide) (by rw[hs,hs2]) hz) λσ H Q ⟨B,I,q⟩=>
  step I q λt v H1 _ s1 r1 I1 q1=>⟨v,n,t,rfl,r1,hk t,po0 I1.sB q1 rfl (.bl _)⟩
noncomputable def atT (xs:List T)(i:Int):R T:=match atI xs i with
 | some t=> .ok t
 | none=> .bad
noncomputable def ixT:T->T->R T
 | .tup xs,.int i=>atT xs i
 | .lst xs,.int i=>atT xs i
 | .fz xs,.int i=>atT xs i
 | .str z,.int i=>if z.length<=bnd then match atI z.cps.toList i with | some c=> .ok (.str ⟨#[c]⟩) | none=> .bad else .bad
 | _,_=> .bad
theorem U1 {H:Hp}{xs:List V}{ts:List T}{i:Int}{t:T}(r:zI H xs ts)(h:atI ts i=some t):∃v,atI xs i=some v/\Rep H v t:=by
 unfold atI at h ⊢;rw[r.length];cases e:ixN _ i with
 | none=>rw[e]at h;cases h
 | some j=>
  rw[e]at h;obtain⟨v,h1,h2⟩:=r.get (h);exact⟨v,h1,h2⟩
theorem s_ix (ha:Snd X Y a fa)(hb:Snd X Y b fb)(hs:um b:=by exact λ_ _=>rfl):Snd X Y (.Subscript a b pos) (zb ixT fa fb):= .mk λρ=>
 PE.imp (xi Vd (ha ρ) (hb ρ) hs) λσ H Q ⟨B,I,q⟩=>step I q λt v H1 _ s1 r1 I1 q1=>step I1 q1 λt' v' H2 _ s2 r2 I2 q2=>by
  have r1:=r1.mono (zS.ge I1.sB s2);cases r2 with
  | int i=>
   cases r1 with
   | @tup _ xs ts h r=>
    have q2:Po Y rC _ H2 (atT ts i) Q:=q2;unfold atT at q2;split at q2
    ·rename_i t' e;obtain⟨w,e1,e2⟩:=U1 r e;exact .inr (.inl ⟨_,xs,i,w,rfl,rfl,SqT.of (I2.sB _ _ h),e1,po0 I2.sB q2 rfl e2⟩)
    ·exact q2.elim
   | @lst _ xs ts h r=>
    have q2:Po Y rC _ H2 (atT ts i) Q:=q2;unfold atT at q2;split at q2
    ·rename_i t' e;obtain⟨w,e1,e2⟩:=U1 r e;exact .inl ⟨_,xs,i,w,rfl,rfl,SqL.of (I2.sB _ _ h),e1,po0 I2.sB q2 rfl e2⟩
    ·exact q2.elim
   | @fz _ _ xs ts h r=>
    have q2:Po Y rC _ H2 (atT ts i) Q:=q2;unfold atT at q2;split at q2
    ·rename_i t' e;obtain⟨w,e1,e2⟩:=U1 r e;exact .inl ⟨_,xs,i,w,rfl,rfl,.inl (.inr ⟨_,I2.sB _ _ h⟩),e1,po0 I2.sB q2 rfl e2⟩
    ·exact q2.elim
   | str z=>
    have q2:Po Y rC _ H2 (if z.length<=bnd then match atI z.cps.toList i with | some c=> .ok _ | none=> .bad else .bad) Q:=q2
    split at q2
    ·rename_i hb;split at q2
     ·rename_i c e;exact .inr (.inr ⟨z,i,c,rfl,rfl,ZF hb,e,po0 I2.sB q2 rfl (.str _)⟩)
     ·exact q2.elim
    ·exact q2.elim
   | _=>exact q2.elim
  | _=>cases r1 <;> exact q2.elim
structure xG (X:Cx) (Y:Fx) (e:Option Expr) (f:En->R (Option Int)):Prop where
 mk ::
 go:∀ρ,PO X e (tS Y rE f ρ)
noncomputable instance {X:Cx}{Y:Fx}{e:Option Expr}{f:En->R (Option Int)}:CoeFun (xG X Y e f) λ_=>∀ρ,PO X e (tS Y rE f ρ):=⟨xG.go⟩
noncomputable def noO:En->R (Option Int):=λ_=> .ok none
noncomputable def jT (fa:En->R T):En->R (Option Int):=λρ=>(fa ρ).bind λt=>match t with
 | .int i=> .ok (some i)
 | _=> .bad
theorem PO.imp {e:Option Expr}{t t' :TO}(h:PO X e t)(i:∀σ H Q,t' σ H Q->t σ H Q):PO X e t' :=λpins s σ H Q I q=>h _ s σ H Q I (i σ H Q q)
theorem Kl:xG X Y none noO:= .mk λρ=>PO.imp xb λσ H Q ⟨B,I,q⟩=>ZS I q rfl
theorem Km (ha:Snd X Y a fa):xG X Y (some a) (jT fa):= .mk λρ=>PO.imp (xf (ha ρ)) λσ H Q ⟨B,I,q⟩=>step I q λt v H1 _ s1 r1 I1 q1=>by
 cases r1 with
 | int i=>exact⟨i,rfl,ZS I1 q1 rfl⟩
 | _=>exact q1.elim
noncomputable def cut (xs:List T)(lo hi:Option Int):List T:=(xs.drop (HT.sIx xs.length 0 lo)).take (HT.sIx xs.length xs.length hi - HT.sIx xs.length 0 lo)
noncomputable def slT (t:T)(lo hi:Option Int):R T:=match t with
 | .tup xs=> .ok (.tup (cut xs lo hi))
 | .lst xs=> .ok (.lst (cut xs lo hi))
 | _=> .bad
noncomputable def slE (fa:En->R T)(fl fh:En->R (Option Int)):En->R T:=λρ=>(fa ρ).bind λt=>(fl ρ).bind λlo=>(fh ρ).bind λhi=>slT t lo hi
theorem Yp {H:Hp}{xs:List V}{ts:List T}{lo hi:Option Int}(r:zI H xs ts):zI H (kf xs lo hi) (cut ts lo hi):=by
 unfold kf cut;rw[r.length];exact(r.drop _).take _
theorem jU {prog:Program}{w:World}{A:Around}{E:Value->Shared->Prop}{s:Shared}{t sl:Addr}{items:Array Value}{vl vu:Value}{lo hi:Option Int}{Q:Value->Shared->Prop}(ht:IsTup s.heap t items)(hs:s.heap.IsSliceOf sl vl vu .none)(pl:IsPart vl lo)(pu:IsPart vu hi)
  (hw:HT.sIx items.size 0 lo=0/\HT.sIx items.size items.size hi=items.size) (h:Q (.ref t) s):wpAny (model prog w) A (getItem (.ref t) (.ref sl)) Q E s:=by
 obtain⟨os,hos,hcs,hds⟩:=id hs;have hTs:s.TypeIs (.ref sl) _:=⟨os,hos,hcs⟩;unfold getItem
 try with_reducible refine cu ?_
 refine a7 (wpAny_sequenceKey ht.typeIs (by decide) ?_)
 refine a7 (bi ht.typeIs b8
  (bB b8 ht.typeIs entry_tuple_getitem ?_ (args_tuple_getitem _ _)))
 show wpAny _ _ (dA _ >>= _) _ _ s;refine a7 (tupleItemsOf_ ht ?_);refine a7 (cC hTs ?_);refine a7 (HT.sliceApplied_gen hs pl pu ?_);have hyes:(((HT.sIx items.size 0 lo):Int) == 0 && (1:Int) == 1 && (HT.sIx items.size items.size hi - HT.sIx items.size 0 lo) == items.size)=true:=by
  rw[hw.1,hw.2];simp
 show wpAny _ _ (if (((HT.sIx _ 0 lo:Nat):Int) == 0 && (1) == 1 && (HT.sIx _ _ hi - HT.sIx _ 0 lo) == items.size)=true then _ else _) _ _ s
 rw[if_pos hyes];refine a7 (a7 (cC ht.typeIs (ak ?_)));exact a7 (cP (ak ⟨_,rfl,ak h⟩))
theorem yh:SlR X (λx lo hi H Q=>∃a xs,x= .ref a/\SqT X.K H a xs/\(HT.sIx xs.length 0 lo=0/\HT.sIx xs.length xs.length hi=xs.length)/\Q (.ref a) H):=by
 intro pins s σ H x v vl vu lo hi sl Q I rx hs pl pu h;obtain⟨a,xs,rfl,hx,hw,q⟩:=h;obtain rfl:v=Value.ref a:=rx;obtain⟨its,r,ht,hz⟩:=I.tuple hx;have hlen:its.toArray.size=xs.length:=by exact r.length.symm
 refine⟨"tuple",_,b8.lookup,ht.typeIs, ?_⟩;exact jU ht hs pl pu (by rw[hlen];exact hw) ⟨.ref a,H,I,rfl,q⟩
theorem xH {xs:List T}{lo hi:Option Int}(h1:HT.sIx xs.length 0 lo=0)(h2:HT.sIx xs.length xs.length hi=xs.length):cut xs lo hi=xs:=by
 unfold cut;rw[h1,h2];simp
theorem xI {lo hi:Option Expr}{fl fh:En->R (Option Int)}{p2:Pos}(ha:Snd X Y a fa)(hl:xG X Y lo fl)(hh:xG X Y hi fh):Snd X Y (.Subscript a (.Slice lo hi none p2) pos) (slE fa fl fh):= .mk λρ=>
 PE.imp (QU (K1.or (yh.or xk)) (ha ρ) (hl ρ) (hh ρ)) λσ H Q ⟨B,I,q⟩=>step I q λt v H1 _ s1 r1 I1 q1=>step I1 q1 λl l' H2 _ s2 el I2 q2=>step I2 q2 λh h' H3 _ s3 eh I3 q3=>by
  have el' :=el;have eh' :=eh;subst el' eh';have r1:=r1.mono ((zS.ge I1.sB s2).trans (zS.ge I2.sB s3));cases r1 with
  | @tup _ xs ts hx r=>
   by_cases hw:HT.sIx xs.length 0 l' =0/\HT.sIx xs.length xs.length h' =xs.length
   ·refine .inr (.inl ⟨_,xs,rfl,SqT.of (I3.sB _ _ hx),hw,po0 I3.sB q3 rfl ?_⟩);rw[r.length]at hw;rw[xH hw.1 hw.2];exact .tup hx r
   ·exact .inl ⟨_,xs,rfl,SqT.of (I3.sB _ _ hx),hw,λp hp=>Kb I3.sB q3 rfl (Yp r) hp⟩
  | @lst _ xs ts hx r=>
   exact .inr (.inr ⟨_,xs,rfl,SqL.of (I3.sB _ _ hx),λp hp=>Kc I3.sB q3 rfl (Yp r) hp⟩)
  | _=>exact q3.elim
noncomputable def Yq (t t' :T):R T:=match t,t' with
 | .int i,.int j=> .ok (.int (if j < i then j else i))
 | _,_=> .bad
theorem Kn (hc:X.calm=true)(gl:Gl X "min")(mg:X.mg "min"=none)(ha:Snd X Y a fa)(hb:Snd X Y b fb)
  (hs:starEach [a,b] X.env=[(false,eval a X.env),(false,eval b X.env)]:=by exact st2 rfl rfl) (hs2:starEach [b] X.env=[(false,eval b X.env)]:=by exact st1 rfl):
  Snd X Y (.Call (.Name "min" p) [a,b] [] pos) (zb Yq fa fb):= .mk λρ=>
 PE.imp (jG (Y0 hc) gl mg PyProof.Rows.Boot.«min» (zH (ha ρ) (zH (hb ρ) Z5 hs2) (by rw[hs,hs2])) (by decide) (by decide) (by rw[hs,hs2]) (by rw[hs2];rfl)) λσ H Q ⟨B,I,q⟩=>
  step I q λt v H1 _ s1 r1 I1 q1=>step I1 q1 λt' v' H2 _ s2 r2 I2 q2=>by
   cases r1 with
   | int i=>
    cases r2 with
    | int j=>exact⟨i,j,rfl,po0 I2.sB q2 rfl (.int _)⟩
    | _=>exact q2.elim
   | _=>cases r2 <;> exact q2.elim
noncomputable def Wz:List T->Option Bool
 | []=>some true
 | .bl k :: r=>match Wz r with | some j=>some (k && j) | none=>none
 | _ :: _=>none
noncomputable def Qt:T->R T
 | .lst ts=>match Wz ts with | some k=> .ok (.bl k) | none=> .bad
 | _=> .bad
theorem Yr:∀{H:Hp} {xs:List V} {ts:List T} {its:List Value} {k:Bool},zI H xs ts->zZ xs its->Wz ts=some k->∃tr:Nat->Bool,(∀i v,its[i]? =some v->v=Value.bool (tr i))/\(aT its.length).all tr=k
 | _,_,_,_,k,.nil,.nil,h=>by
  have h' :=h;cases h';exact⟨λ_=>true,λi v e=>by simp at e,rfl⟩
 | H,_,_,_,k,.cons r rs,.cons (b:=u) rv vs,h=>by
  cases r with
  | bl b=>
   unfold Wz at h;split at h
   ·rename_i j e;cases h;obtain⟨tr,h1,h2⟩:=Yr rs vs e;obtain rfl:u=Value.bool b:=rv;refine⟨λi=>match i with | 0=>b | i+1=>tr i,λi v e=> ?_, ?_⟩
    ·cases i with
     | zero=>simp at e;exact e.symm
     | succ i=>exact h1 i v (by simpa using e)
    ·rw[aj,c9,bU,fT,← h2];rfl
   ·cases h
  | _=>cases h
theorem Ys (hh:X.A.handled=none):Zt X (.builtin "all") (λvs H Q=>∃l xs ts k,vs=[.ref l]/\H l=some (.lst xs)/\zI H xs ts/\Wz ts=some k/\Q (.bl k) H):=by
 intro pins s σ H vs us Q I rv h;obtain⟨l,xs,ts,k,rfl,hl,r,hk,q⟩:=h;obtain⟨u,rfl,ru⟩:=ZN rv;obtain rfl:u=Value.ref l:=ru;obtain⟨its,rv,p,_⟩:=zV I (.inl hl) r;obtain⟨tr,h1,h2⟩:=Yr r rv hk;refine call_all_walk (wpAny_pyIter_list p ?_);have hlt:=I.hok.lt hl;have old:∀b o,s.heap.get? b=some o->(s.heap.push { cls:= .type "list_iterator",data:= .fields #[.ref l,.int 0 0] }).get? b=some o:=λb o e=>ab _ e;refine⟨s.heap.objs.size,_,_,_,_,_,tr,rfl,iD (A:=X.A.in1) hh _ l (az hlt) its.toArray, ?_, ?_,λh' tk hk' => ?_⟩
 ·refine⟨?_,p.at λo e=>old _ o e⟩;exact⟨_,af _ rfl,rfl,rfl⟩
 ·intro i v s' Q' E' hi hq;rw[h1 i v (by simpa using hi)]
  exact aZ hq
 ·rw[ay,h2];refine⟨.bl k,H,I.kept (λb o e=>hk' b o ?_ (old b o e)),rfl,q⟩;simp;exact az (am e)
theorem z1o (hh:X.A.handled=none)(gl:Gl X "all")(mg:X.mg "all"=none)(ha:jz X Y a fa)(hs:St1 X a:=by exact st1 rfl):Snd X Y (.Call (.Name "all" p) [a] [] pos) (ap1 Qt fa):=
 wl (Ys hh) (λv t B H Q r sB q=>by
  cases r with
  | @lst l xs ts h r=>
   have q:Po Y rC B H (match Wz ts with | some k=> .ok _ | none=> .bad) Q:=q
   split at q
   ·rename_i k e;exact⟨l,xs,ts,k,rfl,h,r,e,po0 sB q rfl (.bl k)⟩
   ·exact q.elim
  | _=>exact q.elim) gl mg PyProof.Rows.Boot.«all» ha hs
end
inductive RS where
 | nx (ρ:En) | rt (t:T) | bk (ρ:En) | ct (ρ:En) | ex (c:Nat) | bad | rf (ts:List T)
noncomputable def R.s {α:Type}(r:R α)(k:α->RS):RS:=match r with
 | .ok a=>k a
 | .ex c=> .ex c
 | .bad=> .bad
noncomputable def PoS (Y:Fx)(B:Hp)(r:RS)(D:Qr):Prop:=match r with
 | .nx ρ' =>∀σ' H' B',zy B B' ->SI Y B' ρ' σ' H' ->D.nx σ' H'
 | .rt t=>∀v H',zy Y.H0 H' ->Rep (zS Y.B0 Y.H0 H') v t->D.rt v H'
 | .bk ρ' =>∀σ' H' B',zy B B' ->SI Y B' ρ' σ' H' ->D.bk σ' H'
 | .ct ρ' =>∀σ' H' B',zy B B' ->SI Y B' ρ' σ' H' ->D.ct σ' H'
 | .ex c=>XP Y B c
 | .bad=>False
 | .rf ts=>∀a xs H' B',zy Y.H0 H' ->Y.H0 a=none->H' a=some (.lst xs)->zI B' xs ts->B' a=none->zy B' (zS Y.B0 Y.H0 H')->D.rt (.ref a) H'
theorem PoS.up {Y:Fx}{B B' :Hp}{r:RS}{D:Qr}(s:zy B B')(h:PoS Y B r D):PoS Y B' r D:=by
 cases r with
 | nx ρ=>exact λσ' H' B2 s2 I=>h σ' H' B2 (s.trans s2) I
 | bk ρ=>exact λσ' H' B2 s2 I=>h σ' H' B2 (s.trans s2) I
 | ct ρ=>exact λσ' H' B2 s2 I=>h σ' H' B2 (s.trans s2) I
 | rt t=>exact h
 | rf t=>exact h
 | ex c=>exact λd H' s0 sB=>h d H' s0 (s.trans sB)
 | bad=>exact h
noncomputable def tSS (Y:Fx)(f:En->RS)(ρ:En):TS:=λD σ H=>∃B,SI Y B ρ σ H/\PoS Y B (f ρ) D
structure jO (X:Cx) (Y:Fx) (e:Stmt) (f:En->RS):Prop where
 mk ::
 go:∀ρ,PS X e (tSS Y f ρ)
noncomputable instance {X:Cx}{Y:Fx}{e:Stmt}{f:En->RS}:CoeFun (jO X Y e f) λ_=>∀ρ,PS X e (tSS Y f ρ):=⟨jO.go⟩
structure Wg (X:Cx) (Y:Fx) (e:List Stmt) (f:En->RS):Prop where
 mk ::
 go:∀ρ,PSs X e (tSS Y f ρ)
noncomputable instance {X:Cx}{Y:Fx}{e:List Stmt}{f:En->RS}:CoeFun (Wg X Y e f) λ_=>∀ρ,PSs X e (tSS Y f ρ):=⟨Wg.go⟩
theorem jr {α β:Type}{Y:Fx}{rel:Hp->Hp->β->α->Prop}{f:En->R α}{k:α->RS}{ρ:En}{B:Hp}{σ:Sg}{H:Hp}{D:Qr}{K:β->Hp->Prop}
  (I:SI Y B ρ σ H) (h:PoS Y B ((f ρ).s k) D)
  (n:∀a b H1,f ρ= .ok a->zy H H1->rel (zS B H H1) H1 b a->SI Y (zS B H H1) ρ σ H1->PoS Y (zS B H H1) (k a) D->K b H1):tS Y rel f ρ σ H K:=by
 refine⟨B,I, ?_⟩;cases e:f ρ with
 | bad=>rw[e]at h;exact h
 | ex c=>rw[e]at h;exact h
 | ok a=>
  rw[e]at h;exact λb H1 s r=>n a b H1 e s r (I.grow s) (PoS.up (zS.ge I.sB s) h)
theorem zq {α:Type}{xs:List α}{i j:Nat}{x y:α}(h:(xs.set i x)[j]? =some y):(j=i/\y=x)\/(j ≠ i/\xs[j]? =some y):=by
 by_cases e:j=i
 ·subst e
  by_cases hl:j < xs.length
  ·rw[aO hl]at h;exact .inl ⟨rfl,(aH h).symm⟩
  ·rw[aP (by rw[aI];omega)]at h;cases h
 ·rw[ar (aU e)]at h;exact .inr ⟨e,h⟩
theorem WA {α:Type}{xs:List α}{i:Nat}{x y:α}(h:(xs.set i x)[i]? =some y):i < xs.length:=by
 by_cases hl:i < xs.length
 ·exact hl
 ·rw[aP (by rw[aI];omega)]at h;cases h
theorem StI.set {Y:Fx}{B:Hp}{ρ:En}{σ:Sg}{H:Hp}{as:List Addr}{O:Addr->Option (Nat×Nat)}(x:StI Y B ρ σ H as O)(i:Nat)(s:Sl)(v:Option V)(h1:s.isO=false)(h3:∀ts,s ≠ .ow ts):StI Y B (ρ.set i s) (σ.set i v) H as O:=
 x.on (λj y hy h=>by
  rcases zq h with ⟨_,e⟩ | ⟨hj,h'⟩
  ·rw[e,h1]at hy;cases hy
  ·exact⟨h',ar (aU hj)⟩) (zy.refl _) rfl rfl (zy.refl _) λb o hb b0 h0 _=>⟨hb,b0,h0,λok j us h=>by
  rcases zq h with ⟨_,e⟩ | ⟨hj,h'⟩
  ·exact absurd e.symm (h3 us)
  ·rw[ar (aU hj)];exact ok j us h'⟩
theorem SI.setV {Y:Fx}{B:Hp}{ρ:En}{σ:Sg}{H:Hp}(I:SI Y B ρ σ H)(i:Nat){v:V}{t:T}(r:Rep B v t):SI Y B (ρ.set i (.vl t)) (σ.set i (some v)) H where
 s0:=I.s0
 sH:=I.sH
 sB:=I.sB
 old:=I.old
 len:=by rw[aI,aI];exact I.len
 vl:=λj u h=>by
  rcases zq h with ⟨rfl,e⟩ | ⟨hj,h'⟩
  ·cases e;exact⟨v,aO (by rw[← I.len];exact WA h),r⟩
  ·obtain⟨w,e,rr⟩:=I.vl j u h';exact⟨w,by rw[ar (aU hj)];exact e,rr⟩
 ow:=λj us h=>by
  rcases zq h with ⟨rfl,e⟩ | ⟨hj,h'⟩
  ·cases e
  ·obtain⟨a,xs,e,b0,h0,hh,rr,d⟩:=I.ow j us h';refine⟨a,xs,by rw[ar (aU hj)];exact e,b0,h0,hh,rr,λk ws hk hw=> ?_⟩
   rcases zq hw with ⟨rfl,e'⟩ | ⟨hk',hw'⟩
   ·cases e'
   ·rw[ar (aU hk')];exact d k ws hk hw'
 xc:=λj c h=>by
  rcases zq h with ⟨rfl,e⟩ | ⟨hj,h'⟩
  ·cases e
  ·obtain⟨a,e,r⟩:=I.xc j c h';exact⟨a,by rw[ar (aU hj)];exact e,r⟩
 st:=let ⟨as,O,x⟩:=I.st;⟨as,O,x.set i _ _ rfl (λ_=>Sl.noConfusion)⟩
theorem SI.newO {Y:Fx}{B:Hp}{ρ:En}{σ:Sg}{H:Hp}(I:SI Y B ρ σ H)(i:Nat){p:Addr}{xs:List V}{ts:List T}(hp:H p=none)(r:zI B xs ts):SI Y B (ρ.set i (.ow ts)) (σ.set i (some (.ref p))) (upd H p (.lst xs)) where
 s0:=I.s0
 sH:=I.sH.trans (zy.new hp _)
 sB:=I.sB.trans (zy.new hp _)
 old:=I.old
 len:=by rw[aI,aI];exact I.len
 vl:=λj u h=>by
  rcases zq h with ⟨rfl,e⟩ | ⟨hj,h'⟩
  ·cases e
  ·obtain⟨w,e,rr⟩:=I.vl j u h';exact⟨w,by rw[ar (aU hj)];exact e,rr⟩
 ow:=λj us h=>by
  have op:∀k ws a,ρ[k]? =some (Sl.ow ws)->σ[k]? =some (some (V.ref a))->a ≠ p:=λk ws a h1 h2=>by
   obtain⟨a',xs',e,_,_,hh,_⟩:=I.ow k ws h1;rw[e]at h2;cases h2;exact zL hh hp
  rcases zq h with ⟨rfl,e⟩ | ⟨hj,h'⟩
  ·cases e;refine⟨p,xs,aO (by rw[← I.len];exact WA h),I.sB.free hp,I.sH.free hp,zC,r,λk ws hk hw=> ?_⟩
   rcases zq hw with ⟨rfl,e'⟩ | ⟨hk',hw'⟩
   ·exact absurd rfl hk
   ·rw[ar (aU hk')];exact λz=>op k ws p hw' z rfl
  ·obtain⟨a,xs',e,b0,h0,hh,rr,d⟩:=I.ow j us h';refine⟨a,xs',by rw[ar (aU hj)];exact e,b0,h0,by rw[zv (op j us a h' e)];exact hh,rr,λk ws hk hw=> ?_⟩
   rcases zq hw with ⟨rfl,e'⟩ | ⟨hk',hw'⟩
   ·rw[aO (by rw[← I.len];exact WA hw)]
    intro z;exact op j us a h' e (by injection z with z;injection z with z;injection z with z;exact z.symm)
   ·rw[ar (aU hk')];exact d k ws hk hw'
 xc:=λj c h=>by
  rcases zq h with ⟨rfl,e⟩ | ⟨hj,h'⟩
  ·cases e
  ·obtain⟨a,e,r⟩:=I.xc j c h';exact⟨a,by rw[ar (aU hj)];exact e,r⟩
 st:=by
  obtain⟨as,O,x⟩:=I.st;refine⟨as,O,x.on (λj y hy h=> ?_) (zy.refl _) rfl rfl (zy.refl _) λb o hb b0 h0 _=> ?_⟩
  ·rcases zq h with ⟨_,e⟩ | ⟨hj,h'⟩
   ·subst e;cases hy
   ·exact⟨h',ar (aU hj)⟩
  ·have hne:b ≠ p:=zL hb hp;refine⟨by rw[zv hne];exact hb,b0,h0,λok j us h=> ?_⟩
   rcases zq h with ⟨rfl,e⟩ | ⟨hj,h'⟩
   ·rw[aO (by rw[← I.len];exact WA h)]
    intro z;injection z with z;injection z with z;injection z with z;exact hne z.symm
   ·rw[ar (aU hj)];exact ok j us h'
theorem SI.chg {Y:Fx}{B:Hp}{ρ:En}{σ:Sg}{H:Hp}(I:SI Y B ρ σ H)(i:Nat){p:Addr}{ts us:List T}{ys:List V}(hi:ρ[i]? =some (.ow ts))(he:σ[i]? =some (some (.ref p)))(r:zI B ys us):SI Y B (ρ.set i (.ow us)) σ (upd H p (.lst ys)):=by
 obtain⟨p',xs,e,b0,h0,hh,rr,d⟩:=I.ow i ts hi;rw[he]at e;cases e;have nb:∀b o,B b=some o->b ≠ p:=λb o h z=>by subst z;rw[b0]at h;cases h
 have n0:∀b o,Y.H0 b=some o->b ≠ p:=λb o h z=>by subst z;rw[h0]at h;cases h
 refine⟨I.s0,λb o h=>by rw[zv (n0 b o h)];exact I.sH b o h,λb o h=>by rw[zv (nb b o h)];exact I.sB b o h,I.old,by rw[aI];exact I.len,λj u h=> ?_,λj ws h=> ?_,λj c h=> ?_, ?_⟩
 rotate_right
 ·obtain⟨as,O,x⟩:=I.st;refine⟨as,O,x.on (λj y hy h=> ?_) (zy.refl _) rfl rfl (zy.refl _) λb o hb b0' h0' cs=> ?_⟩
  ·rcases zq h with ⟨_,e⟩ | ⟨hj,h'⟩
   ·subst e;cases hy
   ·exact⟨h',rfl⟩
  ·have hne:b ≠ p:=λz=>by
    subst z;rcases cs with ⟨C,dx,vs,ez⟩ | ok
    ·rw[hh]at hb;cases hb;cases ez
    ·exact ok i ts hi he
   refine⟨by rw[zv hne];exact hb,b0',h0',λok j us h=> ?_⟩
   rcases zq h with ⟨rfl,e⟩ | ⟨hj,h'⟩
   ·rw[he];intro z;injection z with z;injection z with z;injection z with z;exact hne z.symm
   ·exact ok j us h'
 rotate_right
 ·rcases zq h with ⟨rfl,z⟩ | ⟨hj,h'⟩
  ·cases z
  ·exact I.xc j c h'
 ·rcases zq h with ⟨rfl,z⟩ | ⟨hj,h'⟩
  ·cases z
  ·exact I.vl j u h'
 ·rcases zq h with ⟨rfl,z⟩ | ⟨hj,h'⟩
  ·cases z;refine⟨p,ys,he,b0,h0,zC,r,λk vs hk hw=> ?_⟩;rcases zq hw with ⟨rfl,e'⟩ | ⟨hk',hw'⟩
   ·exact absurd rfl hk
   ·exact d k vs hk hw'
  ·obtain⟨a,xs',e,c0,g0,gg,ss,d'⟩:=I.ow j ws h';have hne:a ≠ p:=λz=>by subst z;exact d j ws hj h' e
   refine⟨a,xs',e,c0,g0,by rw[zv hne];exact gg,ss,λk vs hk hw=> ?_⟩
   rcases zq hw with ⟨rfl,e'⟩ | ⟨hk',hw'⟩
   ·rw[he];intro z;injection z with z;injection z with z;injection z with z;exact hne z.symm
   ·exact d' k vs hk hw'
noncomputable def z1p:Sl->Sl
 | .ow ts=> .vl (.lst ts)
 | .ob _ _=> .un
 | .st _=> .un
 | x=>x
noncomputable def frz (ρ:En):En:=ρ.map z1p
theorem SI.up {Y:Fx}{B:Hp}{ρ:En}{σ:Sg}{H:Hp}(I:SI Y B ρ σ H):zy B (zS B Y.H0 H):=λb o h=>by
 cases q:Y.H0 b with
 | none=>rw[Zf q];exact I.sB b o h
 | some u=>rw[Zg q];exact h
theorem SI.frz {Y:Fx}{B:Hp}{ρ:En}{σ:Sg}{H:Hp}(I:SI Y B ρ σ H):SI Y (zS B Y.H0 H) (PV.frz ρ) σ H:=by
 have up:zy B (zS B _ H):=λb o h=>by
  cases q:Y.H0 b with
  | none=>rw[Zf q];exact I.sB b o h
  | some u=>rw[Zg q];exact h
 refine⟨I.s0,I.sH,λb o h=> ?_,λb o h=>by rw[Zg h];exact I.old b o h,by unfold PV.frz;rw[ac];exact I.len,λj t h=> ?_,λj ts h=> ?_,λj c h=> ?_, ?_⟩
 rotate_right
 ·have no:∀(j:Nat) (y:Sl),y.isS=true->(PV.frz ρ)[j]? ≠ some y:=λj y hy h=>by
   unfold PV.frz at h;rw[ax]at h;cases e:ρ[j]? with
   | none=>rw[e]at h;cases h
   | some x=>rw[e]at h;cases x <;> (cases h;cases hy)
  obtain⟨as,O,x⟩:=I.st;refine⟨Y.as,λ_=>none,cD _,λi os e=>(no i _ rfl e).elim,λi j os os' e=>(no i _ rfl e).elim,λi k n e=>(no i _ rfl e).elim,λi k fs h=> ?_,λi os e=>(no i _ rfl e).elim⟩;have h' :ρ[i]? =some (Sl.oc k fs):=by
   unfold PV.frz at h;rw[ax]at h;cases e:ρ[i]? with
   | none=>rw[e]at h;cases h
   | some x=>rw[e]at h;cases x <;> (cases h;try rfl)
  obtain⟨a,C,dx,vs,e1,e2,e3,e4,e5⟩:=x.oc i k fs h';exact⟨a,C,dx,vs,e1,e2,e3,e4,e5.mono up (zy.refl _)⟩
 rotate_right
 ·unfold PV.frz at h;rw[ax]at h;cases e:ρ[j]? with
  | none=>rw[e]at h;cases h
  | some x=>
   rw[e]at h;cases x with
   | xc d=>
    cases h;obtain⟨a,e1,r⟩:=I.xc j _ e;exact⟨a,e1,up a _ r⟩
   | un=>cases h
   | vl _=>cases h
   | ow _=>cases h
   | ob _ _=>cases h
   | oc _ _=>cases h
   | st _=>cases h
 ·cases q:Y.H0 b with
  | none=>rw[Zf q]at h;exact h
  | some u=>rw[Zg q]at h;exact I.sB b o h
 ·unfold PV.frz at h;rw[ax]at h;cases e:ρ[j]? with
  | none=>rw[e]at h;cases h
  | some x=>
   rw[e]at h;cases x with
   | un=>cases h
   | vl u=>
    cases h;obtain⟨v,e1,r⟩:=I.vl j _ e;exact⟨v,e1,r.mono up⟩
   | ow us=>
    cases h;obtain⟨a,xs,e1,b0,h0,hh,rr,_⟩:=I.ow j us e;exact⟨.ref a,e1,.lst (by rw[Zf h0];exact hh) (rr.mono up)⟩
   | xc _=>cases h
   | ob _ _=>cases h
   | oc _ _=>cases h
   | st _=>cases h
 ·unfold PV.frz at h;rw[ax]at h;cases e:ρ[j]? with
  | none=>rw[e]at h;cases h
  | some x=>
   rw[e]at h;cases x with
   | un=>cases h
   | vl u=>cases h
   | ow us=>cases h
   | xc _=>cases h
   | ob _ _=>cases h
   | oc _ _=>cases h
   | st _=>cases h
theorem U2 {Y:Fx}{B H H' :Hp}(s0:zy Y.H0 H)(old:∀b o,Y.H0 b=some o->B b=Y.B0 b)(s:zy H H')(sB:zy B H):zy (zS B H H') (zS Y.B0 Y.H0 H'):=λb o h=>by
 cases q:H b with
 | none=>
  rw[Zf q]at h;rw[Zf (s0.free q)];exact h
 | some u=>
  rw[Zg q]at h;cases z:Y.H0 b with
  | none=>rw[Zf z];exact s b o (sB b o h)
  | some w=>rw[Zg z,← old b w z];exact h
section
variable {X:Cx}{Y:Fx}{a b c d:Expr}{fa fb fc fd:En->R T}{pos p:Pos}{st:Stmt}{sts sts' :List Stmt}{f g:En->RS}
noncomputable def nxS:En->RS:=λρ=> .nx ρ
noncomputable def zz (f g:En->RS):En->RS:=λρ=>match f ρ with
 | .nx ρ' =>g ρ'
 | r=>r
theorem z1q:Wg X Y [] nxS:= .mk λρ=>PSs.imp yP λD σ H ⟨B,I,q⟩=>q σ H B (zy.refl B) I
theorem z1r (h:jO X Y st f):Wg X Y [st] f:= .mk λρ=>uj (h ρ)
theorem Ko (h1:jO X Y st f)(h2:Wg X Y sts g):Wg X Y (st :: sts) (zz f g):= .mk λρ=>by
 refine PSs.imp (wF (u:=λD σ H=>∃ρ',tSS Y g ρ' D σ H) (h1 ρ) ?_) ?_
 ·intro pins s σ H D I ⟨ρ',q⟩;exact h2 ρ' _ s σ H D I q
 ·intro D σ H ⟨B,I,q⟩;refine⟨B,I, ?_⟩;unfold zz at q;cases e:f ρ with
  | nx ρ' =>
   rw[e]at q;intro σ' H' B' s' I';exact⟨ρ',B',I',PoS.up s' q⟩
  | rt t=>rw[e]at q;exact q
  | rf t=>rw[e]at q;exact q
  | bk ρ' =>rw[e]at q;exact q
  | ct ρ' =>rw[e]at q;exact q
  | ex c=>rw[e]at q;exact q
  | bad=>rw[e]at q;exact q
noncomputable def zJ (i:Nat)(fa:En->R T):En->RS:=λρ=>(fa ρ).s λt=> .nx (ρ.set i (.vl t))
theorem Kp {i:Nat}{x:Str}{p' :Pos}(hN:X.N.Nodup)(hi:X.N[i]? =some x)(hx:L2.Loc X.env.scope x)(ha:Snd X Y a fa)(hs:swapsWith a (some (.Name x p')) pos.line X.env=pure false:=by rfl)
  (hf:X.fn x=true\/X.env.scope.names.lookup x=some .local:=by first | exact .inl rfl | exact .inr rfl | assumption):jO X Y (.Assign [.Name x p'] a pos) (zJ i fa):= .mk λρ=>
 PS.imp (Wm hN hi hx (ha ρ) hs hf) λD σ H ⟨B,I,q⟩=>jr I q λt v H1 _ s1 r1 I1 q1=>q1 _ _ _ (zy.refl _) (I1.setV i r1)
noncomputable def yI (i:Nat)(ga:En->R (List T)):En->RS:=λρ=>(ga ρ).s λts=>if ts.length<=bnd then .nx (ρ.set i (.ow ts)) else .bad
theorem Kq {i:Nat}{x:Str}{p' :Pos}{es:List Expr}{ga:En->R (List T)}(hN:X.N.Nodup)(hi:X.N[i]? =some x)(hx:L2.Loc X.env.scope x)(ha:We X Y es ga)(hs:swapsWith (.List es p) (some (.Name x p')) pos.line X.env=pure false:=by rfl)
  (hf:X.fn x=true\/X.env.scope.names.lookup x=some .local:=by first | exact .inl rfl | exact .inr rfl | assumption):jO X Y (.Assign [.Name x p'] (.List es p) pos) (yI i ga):= .mk λρ=>
 PS.imp (Wm hN hi hx (Y5 (ha ρ)) hs hf) λD σ H ⟨B,I,q⟩=>jr I q λts vs H1 _ s1 r1 I1 q1=>by
  split at q1
  ·rename_i hb;exact⟨by rw[r1.length];exact ZF hb,λp hp=>q1 _ _ _ (zy.refl _) (I1.newO i hp r1)⟩
  ·exact q1.elim
noncomputable def zE (fa:En->R T):En->RS:=λρ=>(fa (frz ρ)).s λt=> .rt t
theorem z1s (ha:Snd X Y a fa):jO X Y (.Return (some a) pos) (zE fa):= .mk λρ=>
 PS.imp (Wl (ha _)) λD σ H ⟨B,I,q⟩=>by
  refine⟨_,I.frz, ?_⟩;unfold zE at q;cases e:fa _ with
  | bad=>rw[e]at q;exact q
  | ex c=>
   rw[e]at q;exact λd H' s0 sG=>q d H' s0 (I.up.trans sG)
  | ok t=>
   rw[e]at q;intro v H' s r;have J:=I.frz;exact q v H' (I.sH.trans s) (r.mono (U2 J.sH J.old s J.sB))
noncomputable def ifS (g:En->R Bool)(f1 f2:En->RS):En->RS:=λρ=>(g ρ).s λk=>if k=true then f1 ρ else f2 ρ
theorem z1t {ga:En->R Bool}(hc:Wd X Y c ga)(h1:Wg X Y sts f)(h2:Wg X Y sts' g):jO X Y (.If c sts sts' pos) (ifS ga f g):= .mk λρ=>
 PS.imp (kL (hc ρ) (h1 ρ) (h2 ρ)) λD σ H ⟨B,I,q⟩=>jr I q λt v H1 _ s1 r1 I1 q1=>by
  have r1' :=r1;subst r1';cases v with
  | true=>exact⟨_,I1,q1⟩
  | false=>exact⟨_,I1,q1⟩
noncomputable def WB (fa:En->R T):En->RS:=λρ=>(fa ρ).s λ_=> .nx ρ
theorem Kr (ha:Snd X Y a fa)(hs:swapsWith a none pos.line X.env=pure false:=by rfl):jO X Y (.Expr a pos) (WB fa):= .mk λρ=>
 PS.imp (Jx (ha ρ) hs) λD σ H ⟨B,I,q⟩=>jr I q λt v H1 _ s1 r1 I1 q1=>q1 _ _ _ (zy.refl _) I1
noncomputable def vc (i:Nat)(fa:En->R T):En->RS:=λρ=>match ρ[i]? with
 | some (.ow ts)=>(fa ρ).s λt=>if ts.length < bnd then .nx (ρ.set i (.ow (ts++[t]))) else .bad
 | _=> .bad
noncomputable def Qu (i:Nat)(fa:En->R T):En->RS:=λρ=>match ρ[i]? with
 | some (.ow ts)=>(fa ρ).s λt=>match t with
  | .lst us=>if ts.length+us.length<=bnd then .nx (ρ.set i (.ow (ts++us))) else .bad
  | _=> .bad
 | _=> .bad
theorem Vh {n:Nat}(h:n < bnd):n < sizeLine:=by exact h
theorem z1u {i:Nat}{x:Str}{px pa:Pos}(hv:PE X (.Name x px) (wE i))(ha:Snd X Y a fa)(hb:attributeBase (.Name x px) "append" X.env (eval (.Name x px) X.env)=eval (.Name x px) X.env:=by rfl)(hs:St1 X a:=by exact st1 rfl)
  (hz:(pa.endLine == p.line)=true:=by rfl) (hw:swapsWith (.Call (.Attribute (.Name x px) "append" pa) [a] [] p) none pos.line X.env=pure false:=by rfl):jO X Y (.Expr (.Call (.Attribute (.Name x px) "append" pa) [a] [] p) pos) (vc i fa):= .mk λρ=>by
 have e1:(((((backTo p (starEach [a] X.env)).all λx=> !x.fst) && (backToKw p (keywordEach [] X.env)).all λx=>x.fst.isSome) && decide (([a].length+([]:List Keyword).length+if ([]:List Keyword).isEmpty=true then 0 else 1) < 30))=true):=by rw[hs];rfl
 refine PS.imp (Jx (QV cS dP dQ JB hv (zH (ha ρ) Z5 hs) hb e1 hz hs rfl) hw) λD σ H ⟨B,I,q⟩=> ?_;unfold vc at q;split at q
 ·rename_i ts e;obtain⟨l,xs,e1,b0,h0,hh,rr,d⟩:=I.ow i ts e;refine⟨.ref l,e1,.inl ⟨rfl,_,SqL.of hh⟩, ?_⟩;refine jr I q λt v H1 _ s1 r1 I1 q1=> ?_;split at q1
  ·rename_i hb;refine⟨l,xs,v,rfl,rfl,s1 _ _ hh,by rw[rr.length];exact Vh hb, ?_⟩
   exact q1 _ _ _ (zy.refl _) (I1.chg i e e1 ((rr.mono (zS.ge I.sB s1)).append (.cons r1 .nil)))
  ·exact q1.elim
 ·exact q.elim
theorem z1v {i:Nat}{x:Str}{px pa:Pos}(hv:PE X (.Name x px) (wE i))(ha:Snd X Y a fa)(hb:attributeBase (.Name x px) "extend" X.env (eval (.Name x px) X.env)=eval (.Name x px) X.env:=by rfl)(hs:St1 X a:=by exact st1 rfl)
  (hz:(pa.endLine == p.line)=true:=by rfl) (hw:swapsWith (.Call (.Attribute (.Name x px) "extend" pa) [a] [] p) none pos.line X.env=pure false:=by rfl):jO X Y (.Expr (.Call (.Attribute (.Name x px) "extend" pa) [a] [] p) pos) (Qu i fa):= .mk λρ=>by
 have e1:(((((backTo p (starEach [a] X.env)).all λx=> !x.fst) && (backToKw p (keywordEach [] X.env)).all λx=>x.fst.isSome) && decide (([a].length+([]:List Keyword).length+if ([]:List Keyword).isEmpty=true then 0 else 1) < 30))=true):=by rw[hs];rfl
 refine PS.imp (Jx (QV cS PySem.F.slot_list_extend PySem.F.type_list_extend Y9 hv (zH (ha ρ) Z5 hs) hb e1 hz hs rfl) hw) λD σ H ⟨B,I,q⟩=> ?_;unfold Qu at q;split at q
 ·rename_i ts e;obtain⟨l,xs,e1,b0,h0,hh,rr,d⟩:=I.ow i ts e;refine⟨.ref l,e1,.inl ⟨rfl,_,SqL.of hh⟩, ?_⟩;refine jr I q λt v H1 _ s1 r1 I1 q1=> ?_;cases r1 with
  | @lst b zs us hb r=>
   have q1:PoS Y _ (if ts.length+us.length<=bnd then .nx _ else .bad) D:=q1
   split at q1
   ·rename_i hl;refine⟨l,b,xs,zs,rfl,rfl,s1 _ _ hh,I1.sB _ _ hb,by rw[rr.length,r.length];exact ZF hl, ?_⟩
    exact q1 _ _ _ (zy.refl _) (I1.chg i e e1 ((rr.mono (zS.ge I.sB s1)).append r))
   ·exact q1.elim
  | _=>exact q1.elim
 ·exact q.elim
end
noncomputable def spP (cl:Nat->Value)(n:Nat)(g:List T->R T):Sp:=λvs H Q E=>∃B ts,ts.length=n/\zy B H/\zI B vs ts/\Po ⟨B,H,E,cl,[]⟩ rC B H (g ts) Q
theorem spP.len {cl:Nat->Value}{n:Nat}{g:List T->R T}(vs:List V)(H:Hp)(Q:VK)(E:XK)(h:spP cl n g vs H Q E):vs.length=n:=by
 obtain⟨B,ts,hl,_,r,_⟩:=h;rw[r.length,hl]
noncomputable def za (n:Nat)(g:List T->R T)(ga:En->R (List T)):En->R T:=λρ=>(ga ρ).bind λts=>if ts.length=n then g ts else .bad
section
variable {X:Cx}{Y:Fx}{a b c d:Expr}{fa fb fc fd:En->R T}{pos p:Pos}
theorem Ks {CX:CXT}{k n:Nat}{f:Addr}{fd:FuncData}{ps:List Str}{g:List T->R T}{x:Str}{es:List Expr}{ga:En->R (List T)}(F:jw X.prog X.w X.K X.mg X.base CX k f fd ps (spP Y.cl n g))(hr:j3 k X.A)(gl:Gl X x)(mg:X.mg x=some (.ref f))
  (kp:bu X.K (.ref f)=true) (bd:L2.Binds X.K fd ps []) (hx:Zu CX X Y.E) (ha:We X Y (a :: es) ga) (hd:(x == ("__debug__":Str))=false:=by decide)
  (hs:starEach (a :: es) X.env=(false,eval a X.env) :: starEach es X.env:=by exact zX rfl) (hz:((backTo pos (starEach es X.env)).any λx=>x.fst)=false:=by exact ZB rfl):Snd X Y (.Call (.Name x p) (a :: es) [] pos) (za n g ga):= .mk λρ=>
 PE.imp (uk F hr gl mg kp bd .nil hx (ha ρ) hd hs hz) λσ H Q ⟨B,I,q⟩=>step I q λts vs H1 _ s1 r1 I1 q1=>by
  split at q1
  ·rename_i hn;rw[aY];refine⟨_,ts,hn,I1.sB,r1, ?_⟩;revert q1;cases g ts with
   | bad=>exact λq1=>q1
   | ex c=>exact λq1 d H' s sB=>q1 d H' (I1.sH.trans s) sB
   | ok t=>exact λq1=>q1
  ·exact q1.elim
end
noncomputable def zu:RS->R T
 | .rt t=> .ok t
 | .rf ts=> .ok (.lst ts)
 | .nx _=> .ok .non
 | .ex c=> .ex c
 | _=> .bad
noncomputable def en0 (n:Nat)(ts:List T):En:=ts.map Sl.vl++aa (n - ts.length) Sl.un
theorem zI.vl {H:Hp}:∀{vs:List V} {ts:List T} {i:Nat} {t:T} {n m:Nat},zI H vs ts->(ts.map Sl.vl++aa n Sl.un)[i]? =some (Sl.vl t)->∃v:V,(vs.map some++aa m none)[i]? =some (some v)/\Rep H v t
 | _,_,i,t,n,m,.nil,h=>by
  simp only[bz,bp]at h;rw[aN]at h;split at h
  ·cases h
  ·cases h
 | _,_,0,t,n,m,.cons r _,h=>by
  simp at h;subst h;exact⟨_,rfl,r⟩
 | _,_,i+1,t,n,m,.cons _ q,h=>by
  obtain⟨v,h1,h2⟩:=zI.vl q (by simpa using h)
  exact⟨v,by simpa using h1,h2⟩
theorem Vi {n:Nat}:∀{ts:List T} {i:Nat} {us:List T},(ts.map Sl.vl++aa n Sl.un)[i]? =some (Sl.ow us)->False
 | [],i,us,h=>by
  simp only[bz,bp]at h;rw[aN]at h;split at h
  ·cases h
  ·cases h
 | t :: ts,0,us,h=>by simp at h
 | t :: ts,i+1,us,h=>Vi (by simpa using h)
theorem Vj {n:Nat}:∀{ts:List T} {i:Nat} {c:Nat},(ts.map Sl.vl++aa n Sl.un)[i]? =some (Sl.xc c)->False
 | [],i,us,h=>by
  simp only[bz,bp]at h;rw[aN]at h;split at h
  ·cases h
  ·cases h
 | t :: ts,0,us,h=>by simp at h
 | t :: ts,i+1,us,h=>Vj (by simpa using h)
theorem ut {n:Nat}{x:Sl}(h1:∀t,x ≠ .vl t)(h2:x ≠ .un):∀{ts:List T} {i:Nat},(ts.map Sl.vl++aa n Sl.un)[i]? =some x->False
 | [],i,h=>by
  simp only[bz,bp]at h;rw[aN]at h;split at h
  ·exact h2 (aH h).symm
  ·cases h
 | t :: ts,0,h=>h1 t (aH (by simpa using h)).symm
 | t :: ts,i+1,h=>ut h1 h2 (by simpa using h)
theorem SI.start {Y:Fx}{N:List Str}{vs:List V}{ts:List T}(s:zy Y.B0 Y.H0)(r:zI Y.B0 vs ts):SI Y Y.B0 (en0 N.length ts) (L2.start N vs) Y.H0 where
 s0:=s
 sH:=zy.refl _
 sB:=s
 old:=λ_ _ _=>rfl
 len:=by unfold en0 L2.start;simp[r.length]
 vl:=λi t h=>r.vl h
 ow:=λi ts h=>(Vi h).elim
 xc:=λi c h=>(Vj h).elim
 st:=StI.no λi s hs h=>ut (λt z=>by rw[z]at hs;cases hs) (λz=>by rw[z]at hs;cases hs) h
section
variable {P:Program}{w:World}{K:a8}{mg:Str->Option Value}{base:Heap}
theorem z1w {cl:Nat->Value}{x qual:Str}{st:Stmt}{f:Addr}{fd:FuncData}{N ps:List Str}{k n:Nat}{fb:En->RS}{g:List T->R T}(F:Fun K x qual st f fd)(S:ja N ps (zx st))(hn:n=ps.length)
  (hb:∀(cdv:Value) (A:Around) (outer:List Env) (s:Shared) (H:Hp) (E:XK) (Y:Fx),Y.cl=cl->j3 k (A.deeper (envOfC qual (zx st) s.heap.objs.size f cdv))->
   Wg (ud CX0 P w K mg base N qual (zx st) f cdv A outer s H E).nox Y (zT st) fb)
  (hg:∀ts,ts.length=n->g ts=zu (fb (en0 N.length ts))):jw P w K mg base CX0 (k+1) f fd ps (spP cl n g):=by
 subst hn;refine F.ok S spP.len λcdv A outer s H vs Q E hr ⟨B,ts,hl,sB,r,q⟩=> ?_;refine⟨_,hb cdv A _ s H E ⟨B,H,E,cl,[]⟩ rfl hr _,B,SI.start sB r, ?_⟩;rw[hg ts hl]at q;revert q;cases fb _ with
 | rt t=>exact λq v H' s r=>q v H' s r
 | rf t=>exact λq a xs H' B' s0 n e r _ l=>q _ H' s0 (.lst (by rw[Zf n];exact e) (r.mono l))
 | nx ρ=>exact λq σ' H' B' _ I=>q _ H' I.sH .non
 | ex c=>exact λq=>q
 | bk ρ=>exact λq=>q.elim
 | ct ρ=>exact λq=>q.elim
 | bad=>exact λq=>q
end
noncomputable abbrev rI:Hp->Hp->It->List T->Prop:=λB1 _ J ts=>∀B2 H2,zy B1 B2->zy B2 H2->(∀i,i < ts.length->J.go i H2)/\(∀(i:Nat) t x H3,ts[i]? =some t->J.yld i H2 x H3->zy H2 H3/\Rep (zS B2 H2 H3) x t)/\(∀i,ts.length<=i->J.stop i H2)
structure uu (X:Cx) (Y:Fx) (tg iter:Expr) (f:En->R (List T)):Prop where
 mk ::
 go:∀ρ,PI X tg iter (tS Y rI f ρ)
noncomputable instance {X:Cx}{Y:Fx}{tg iter:Expr}{f:En->R (List T)}:CoeFun (uu X Y tg iter f) λ_=>∀ρ,PI X tg iter (tS Y rI f ρ):=⟨uu.go⟩
section
variable {X:Cx}{Y:Fx}{a b c d tg:Expr}{fa fb fc fd:En->R T}{pos p:Pos}
theorem PI.imp {e:Expr}{t t' :TI}(h:PI X tg e t)(i:∀σ H Q,t' σ H Q->t σ H Q):PI X tg e t' :=λpins s σ H Q I q=>h _ s σ H Q I (i σ H Q q)
theorem Kt {K:a8}{B1 H1:Hp}{a:Addr}{xs:List V}{ts:List T}(h:B1 a=some (.tup xs))(r:zI B1 xs ts):rI B1 H1 (Itt K a) ts:=λB2 H2 s1 s2=>by
 have h2:=s2 _ _ (s1 _ _ h);refine⟨λi hi=> ?_,λi t x H3 e y=> ?_,λi hi=>⟨xs,SqT.of h2,by rw[r.length];exact hi⟩⟩
 ·obtain⟨v,e,_⟩:=r.get (ag hi);exact⟨xs,v,SqT.of h2,e⟩
 ·obtain⟨rfl,y⟩:=y;obtain⟨v,e1,r1⟩:=r.get e;have:=y xs (SqT.of h2);rw[e1]at this;cases this;refine⟨zy.refl _, ?_⟩;rw[zS.self B2 _ s2];exact r1.mono s1
theorem Ku {K:a8}{B1 H1:Hp}{a:Addr}{xs:List V}{ts:List T}(h:B1 a=some (.lst xs))(r:zI B1 xs ts):rI B1 H1 (Itl K a) ts:=λB2 H2 s1 s2=>by
 have h2:=s2 _ _ (s1 _ _ h);refine⟨λi hi=> ?_,λi t x H3 e y=> ?_,λi hi=>⟨xs,SqL.of h2,by rw[r.length];exact hi⟩⟩
 ·obtain⟨v,e,_⟩:=r.get (ag hi);exact⟨xs,v,SqL.of h2,e⟩
 ·obtain⟨rfl,y⟩:=y;obtain⟨v,e1,r1⟩:=r.get e;have:=y xs (SqL.of h2);rw[e1]at this;cases this;refine⟨zy.refl _, ?_⟩;rw[zS.self B2 _ s2];exact r1.mono s1
noncomputable def rng (lo:Int)(n:Nat):List T:=(aT n).map λ(i:Nat)=>T.int (lo+(i:Int))
theorem Vk {B1 H1:Hp}{lo:Int}{n:Nat}:rI B1 H1 (Itr lo n) (rng lo n):=λB2 H2 s1 s2=>by
 have hl:(rng lo n).length=n:=by unfold rng;simp
 refine⟨λi hi=>by rw[hl]at hi;exact hi,λi t x H3 e y=> ?_,λi hi=>by rw[hl]at hi;exact hi⟩
 obtain⟨rfl,rfl⟩:=y;refine⟨zy.refl _, ?_⟩;unfold rng at e;rw[ax]at e
 by_cases hi:i < n
 ·rw[cJ hi]at e;cases e;exact .int _
 ·rw[aP (by simp;omega)]at e;cases e
noncomputable def ZC (fa:En->R T):En->R (List T):=λρ=>(fa ρ).bind λt=>match t with
 | .int j=>if -1000000 < j/\j < 1000000 then .ok (rng 0 j.toNat) else .bad
 | _=> .bad
noncomputable def Ji (fa fb:En->R T):En->R (List T):=λρ=>(fa ρ).bind λt=>(fb ρ).bind λt' =>match t,t' with
 | .int i,.int j=>if -1000000 < i/\i < 1000000/\ -1000000 < j/\j < 1000000 then .ok (rng i (j - i).toNat) else .bad
 | _,_=> .bad
theorem Kv (gl:Gl X "range")(mg:X.mg "range"=none)(ha:Snd X Y a fa)(hs:St1 X a:=by exact st1 rfl):uu X Y tg (.Call (.Name "range" p) [a] [] pos) (ZC fa):= .mk λρ=>PI.imp (yT gl mg (zH (ha ρ) Z5 hs) hs) λσ H R ⟨B,I,q⟩=>step I q λt v H1 _ s1 r1 I1 q1=>by
 cases r1 with
 | int j=>
  have q1:Po Y rI _ H1 (if -1000000 < j/\j < 1000000 then .ok _ else .bad) R:=q1
  split at q1
  ·exact⟨j,rfl,by omega,by omega,ZS I1 q1 Vk⟩
  ·exact q1.elim
 | _=>exact q1.elim
theorem Kw (gl:Gl X "range")(mg:X.mg "range"=none)(ha:Snd X Y a fa)(hb:Snd X Y b fb)(hs:starEach [a,b] X.env=[(false,eval a X.env),(false,eval b X.env)]:=by exact st2 rfl rfl)(hs2:St1 X b:=by exact st1 rfl):uu X Y tg (.Call (.Name "range" p) [a,b] [] pos) (Ji fa fb):= .mk λρ=>
 PI.imp (yU gl mg (zH (ha ρ) (zH (hb ρ) Z5 hs2) (by rw[hs,hs2])) hs hs2) λσ H R ⟨B,I,q⟩=>step I q λt v H1 _ s1 r1 I1 q1=>step I1 q1 λt' v' H2 _ s2 r2 I2 q2=>by
  cases r1 with
  | int i=>
   cases r2 with
   | int j=>
    have q2:Po Y rI _ H2 (if -1000000 < i/\i < 1000000/\ -1000000 < j/\j < 1000000 then .ok _ else .bad) R:=q2
    split at q2
    ·exact⟨i,j,rfl,⟨by omega,by omega,by omega,by omega⟩,ZS I2 q2 Vk⟩
    ·exact q2.elim
   | _=>exact q2.elim
  | _=>cases r2 <;> exact q2.elim
noncomputable def GS (X:Cx)(Y:Fx)(tg:Expr)(g:T->En->R En):Prop:=∃t:TG,PG X tg t/\∀B ρ σ H v x Q,SI Y B ρ σ H->Rep B v x->(match g x ρ with | .ok ρ' =>∀σ',SI Y B ρ' σ' H->Q σ' H | _=>False)->t v σ H Q
noncomputable def zA (i:Nat):T->En->R En:=λt ρ=> .ok (ρ.set i (.vl t))
theorem Vl {i:Nat}{x:Str}(hN:X.N.Nodup)(hi:X.N[i]? =some x)(hx:L2.Loc X.env.scope x)(hf:X.fn x=true\/X.env.scope.names.lookup x=some .local:=by first | exact .inl rfl | exact .inr rfl | assumption):GS X Y (.Name x pos) (zA i):=
 ⟨wG i,jP hN hi hx hf,λB ρ σ H v x Q I r q=>q _ (I.setV i r)⟩
noncomputable def Z3 (i j:Nat):T->En->R En:=λt ρ=>match t with
 | .tup [x,y]=> .ok ((ρ.set i (.vl x)).set j (.vl y))
 | _=> .bad
theorem Kx {i j:Nat}{x y:Str}{p' p2:Pos}{k:Nat}(hc:X.calm=true)(hN:X.N.Nodup)(hi:X.N[i]? =some x)(hj:X.N[j]? =some y)(hx:L2.Loc X.env.scope x)(hy:L2.Loc X.env.scope y)
  (hf:X.fn x=true\/X.env.scope.names.lookup x=some .local:=by first | exact .inl rfl | exact .inr rfl | assumption) (hf' :X.fn y=true\/X.env.scope.names.lookup y=some .local:=by first | exact .inl rfl | exact .inr rfl | assumption):
  GS X Y (.Tuple [.Name x pos,.Name y p'] k p2) (Z3 i j):=by
 refine⟨GN X.K 2 _,Va hc (Jj (jP hN hi hx hf) (Jj (jP hN hj hy hf') yR)),λB ρ σ H v t Q I r q=> ?_⟩;cases r with
 | @tup l xs ts h r=>
  cases r with
  | nil=>exact q.elim
  | cons r1 rr=>
   cases rr with
   | nil=>exact q.elim
   | cons r2 rr=>
    cases rr with
    | cons _ _=>exact q.elim
    | nil=>
     exact⟨l,_,rfl,SqT.of (I.sB _ _ h),rfl,_,_,rfl,_,_,rfl,rfl,q _ ((I.setV i r1).setV j r2)⟩
 | _=>exact q.elim
noncomputable def ZD (g:T->En->R En)(fb:En->RS):List T->En->RS
 | [],ρ=> .nx ρ
 | t :: ts,ρ=>match g t ρ with
  | .ok ρ1=>match fb ρ1 with
   | .nx ρ2=>ZD g fb ts ρ2
   | .ct ρ2=>ZD g fb ts ρ2
   | .bk ρ2=> .nx ρ2
   | r=>r
  | .ex c=> .bad
  | .bad=> .bad
noncomputable def ZV (fi:En->R (List T))(g:T->En->R En)(fb:En->RS):En->RS:=λρ=>(fi ρ).s λts=>ZD g fb ts ρ
theorem Ky {iter:Expr}{sts:List Stmt}{fi:En->R (List T)}{g:T->En->R En}{fb:En->RS}(hp:PassesOwn (model X.prog X.w) X.A X.env X.xe)(hc:X.calm=true)(hi:uu X Y tg iter fi)(hg:GS X Y tg g)(hb:Wg X Y sts fb)
  (hs:∀x,foldedSetIterable iter X.env x=pure x:=by intro _;rfl):jO X Y (.For tg iter sts [] pos) (ZV fi g fb):= .mk λρ=>by
 obtain⟨tG,hG,hG'⟩:=hg;refine PS.imp (kO (tb:=λD σ H=>∃ρ',tSS Y fb ρ' D σ H) hp hc (hi ρ) hG (λpins s σ H D I ⟨ρ',q⟩=>hb ρ' _ s σ H D I q) hs) λD σ H ⟨B,I,q⟩=> ?_;refine jr I q λts J H1 _ s1 r1 I1 q1=> ?_;refine⟨λi m σ' H' =>m=ts.length - i/\i<=ts.length/\∃ρ' B',SI Y B' ρ' σ' H' /\zy _ B' /\PoS Y B' (ZD g fb (ts.drop i) ρ') D,⟨ts.length,by simp,b9 _,ρ,_,I1,zy.refl _,q1⟩, ?_⟩
 rintro i m σ' H' ⟨rfl,hi,ρ',B',I',sB',q'⟩
 obtain⟨hgo,hyld,hstop⟩:=r1 B' H' sB' I'.sB
 by_cases hlt:i < ts.length
 ·refine .inr ⟨hgo i hlt,λσ2 H2=>∃ρ2 B2,SI Y B2 ρ2 σ2 H2/\zy _ B2/\PoS Y B2 _ D,λσ2 H2 ⟨ρ2,B2,I2,s2,q2⟩=>⟨ts.length - (i+1),by omega,rfl,hlt,ρ2,B2,I2,s2,q2⟩,λx H2 y=> ?_⟩
  obtain⟨s2,r2⟩:=hyld i _ x H2 (ag hlt) y;rw[dJ hlt]at q';unfold ZD at q';refine hG' _ ρ' σ' H2 x _ _ (I'.grow s2) r2 ?_;cases eg:g _ ρ' with
  | bad=>rw[eg]at q';exact q'
  | ex c=>rw[eg]at q';exact q'
  | ok ρ1=>
   rw[eg]at q';intro σ1 J1;refine⟨ρ1,_,J1, ?_⟩;have q2:=PoS.up (zS.ge I'.sB s2) q';dsimp only at q2;have s3:=sB'.trans (zS.ge I'.sB s2);revert q2;cases fb ρ1 with
   | nx ρ2=>exact λq2 σ3 H3 B3 s4 I3=>⟨ρ2,B3,I3,s3.trans s4,PoS.up s4 q2⟩
   | ct ρ2=>exact λq2 σ3 H3 B3 s4 I3=>⟨ρ2,B3,I3,s3.trans s4,PoS.up s4 q2⟩
   | bk ρ2=>exact λq2=>q2
   | rt t=>exact λq2=>q2
   | rf t=>exact λq2=>q2
   | ex c=>exact λq2=>q2
   | bad=>exact λq2=>q2
 ·have e:i=ts.length:=by omega
  subst e;rw[i5]at q';exact .inl ⟨hstop _ (ai _),q' σ' H' B' (zy.refl _) I'⟩
noncomputable def Zv (g:En->R Bool)(fb:En->RS):Nat->En->RS
 | 0,_=> .bad
 | n+1,ρ=>(g ρ).s λk=>if k=true then match fb ρ with
   | .nx ρ2=>Zv g fb n ρ2
   | .ct ρ2=>Zv g fb n ρ2
   | .bk ρ2=> .nx ρ2
   | r=>r
  else .nx ρ
theorem Yt {n:Nat}{sts:List Stmt}{ga:En->R Bool}{fb:En->RS}(hp:PassesOwn (model X.prog X.w) X.A X.env X.xe)(hc:Wd X Y c ga)(hb:Wg X Y sts fb):jO X Y (.While c sts [] pos) (Zv ga fb n):= .mk λρ=>by
 refine PS.imp (QH (tc:=λσ H Q=>∃ρ',tS Y rE ga ρ' σ H Q) (tb:=λD σ H=>∃ρ',tSS Y fb ρ' D σ H) hp (λpins s σ H D I ⟨ρ',q⟩=>hc ρ' _ s σ H D I q) (λpins s σ H D I ⟨ρ',q⟩=>hb ρ' _ s σ H D I q)) λD σ H ⟨B,I,q⟩=> ?_;refine⟨λm σ' H' =>∃ρ' B',SI Y B' ρ' σ' H' /\PoS Y B' (Zv ga fb m ρ') D,⟨n,ρ,B,I,q⟩, ?_⟩
 rintro m σ' H' ⟨ρ',B',I',q'⟩
 cases m with
 | zero=>exact q'.elim
 | succ m=>
  unfold Zv at q';refine⟨ρ',jr I' q' λt v H1 _ s1 r1 I1 q1=> ?_⟩;have r1' :=r1;subst r1';cases v with
  | false=>exact q1 _ _ _ (zy.refl _) I1
  | true=>
   refine⟨λσ2 H2=>∃ρ2 B2,SI Y B2 ρ2 σ2 H2/\PoS Y B2 _ D,λσ2 H2 h=>⟨m,bW m,h⟩,ρ',_,I1, ?_⟩;revert q1;cases fb ρ' with
   | nx ρ2=>exact λq2 σ3 H3 B3 s4 I3=>⟨ρ2,B3,I3,PoS.up s4 q2⟩
   | ct ρ2=>exact λq2 σ3 H3 B3 s4 I3=>⟨ρ2,B3,I3,PoS.up s4 q2⟩
   | bk ρ2=>exact λq2=>q2
   | rt t=>exact λq2=>q2
   | rf t=>exact λq2=>q2
   | ex c=>exact λq2=>q2
   | bad=>exact λq2=>q2
end
theorem JE {env:Env}:∀(ns:List (Str×NameKind)) (acc:List (Str×Addr)),(∀x∈ns,x.2=NameKind.free->∃c,env.cells.lookup x.1=some c)->(∀x c,acc.lookup x=some c->env.cells.lookup x=some c)->
  ∃cl,(forIn ns acc (λ(x:Str×NameKind) (r:List (Str×Addr))=>if (x.2 == NameKind.free)=true then (do let c ← cellOf env x.1;pure (ForInStep.yield ((x.1,c) :: r))) else pure (ForInStep.yield r)):Sem _)=pure cl/\
   (∀x c,cl.lookup x=some c->env.cells.lookup x=some c)/\(∀x c,acc.lookup x=some c->∃c',cl.lookup x=some c')/\(∀x∈ns,x.2=NameKind.free->∃c,cl.lookup x.1=some c)
 | [],acc,_,h=>⟨acc,rfl,h,λx c e=>⟨c,e⟩,λx hx=>by simp at hx⟩
 | (n,k) :: ns,acc,hf,h=>by
  by_cases hk:k=NameKind.free
  ·obtain⟨c,hc⟩:=hf _ ad hk;have h' :∀x d,((n,c) :: acc).lookup x=some d->env.cells.lookup x=some d:=λx d e=>by
    by_cases hx:x=n
    ·subst hx;have e' :=by simpa[aA] using e
     cases e';exact hc
    ·have e' :=by
      rw[aA,(beq_eq_false_iff_ne.mpr hx)]at e;exact e
     exact h x d e'
   obtain⟨cl,e,h1,h2,h3⟩:=JE ns _ (λx hx=>hf x (a9 _ hx)) h';refine⟨cl, ?_,h1,λx d ed=> ?_,λx hx hxf=> ?_⟩
   ·rw[ir];subst hk;have q:cellOf env n=pure c:=by unfold cellOf;rw[hc]
    simp only[beq_self_eq_true,if_true,q];exact e
   ·by_cases hx:x=n
    ·subst hx;exact h2 x c (by simp[aA])
    ·exact h2 x d (by rw[aA,(beq_eq_false_iff_ne.mpr hx)];exact ed)
   ·rcases ah.mp hx with rfl | hx
    ·exact h2 n c (by simp[aA])
    ·exact h3 x hx hxf
  ·obtain⟨cl,e,h1,h2,h3⟩:=JE ns acc (λx hx=>hf x (a9 _ hx)) h;refine⟨cl, ?_,h1,h2,λx hx hxf=> ?_⟩
   ·rw[ir];have q:(k == NameKind.free)=false:=by simpa using hk
    simp only[q,aR,if_false];exact e
   ·rcases ah.mp hx with rfl | hx
    ·exact absurd hxf hk
    ·exact h3 x hx hxf
theorem xJ {scope:Scope}{env:Env}(hf:∀x∈scope.names,x.2=NameKind.free->∃c,env.cells.lookup x.1=some c):
  ∃cl,closureFor scope env=pure cl/\(∀x c,cl.lookup x=some c->env.cells.lookup x=some c)/\(∀x∈scope.names,x.2=NameKind.free->∃c,cl.lookup x.1=some c):=by
 obtain⟨cl,e,h1,_,h3⟩:=JE _ [] hf (λx c e=>by simp at e)
 refine⟨cl, ?_,h1,h3⟩;unfold closureFor;exact(by simpa using e)
noncomputable def cxC (X:Cx)(scope:Scope)(N' :List Str)(cl:List (Str×Addr))(C:Addr)(s3:Shared)(H3:Hp)(fp:List Addr)(pins:List (Addr×Obj)):Cx:=
 { X with N:=N',s₀:=s3,H₀:=H3,env:=compEnvC scope cl C X.env,outer:=X.stack,stack:=X.stack,ex:=fp,fn:=λ_=>false,pn:=X.pn++pins,xe:=λ_ _=>False }
structure CSc (X:Cx) (scope:Scope):Prop where
 kind:scope.kind= .function
 nocell:∀x∈scope.names,x.2 ≠ .cell
 loc:∀x∈scope.names,x.2= .local->scope.names.lookup x.1=some .local
 fre:∀x∈scope.names,x.2= .free->X.env.kindOf x.1=some .cell\/X.env.kindOf x.1=some .free
theorem jK {scope:Scope}{env:Env}{x:Str}{k:NameKind}(h:(relabel scope env).names.lookup x=some k)(hk:k= .cell\/k= .free)(hn:∀x∈scope.names,x.2 ≠ NameKind.cell):∃y∈scope.names,y.1=x/\y.2= .free:=by
 have go:∀ns:List (Str×NameKind),(∀x∈ns,x.2 ≠ NameKind.cell)->(ns.map λ(n,k)=>if (k == NameKind.free && env.scope.kind == .function && env.kindOf n == some .cell) then (n,NameKind.cell) else (n,k)).lookup x=some k->∃y∈ns,y.1=x/\y.2= .free:=by
  intro ns
  induction ns with
  | nil=>intro _ h;simp at h
  | cons y ns ih=>
   intro hn h;obtain⟨n,k'⟩:=y
   by_cases hx:x=n
   ·subst hx;refine⟨(x,k'),ad,rfl, ?_⟩;rw[ao]at h
    by_cases hc:(k' == NameKind.free && env.scope.kind == .function && env.kindOf x == some .cell)=true
    ·rw[ae,ae]at hc;exact eq_of_beq hc.1.1
    ·simp only[if_neg hc,aA,beq_self_eq_true]at h;cases h;rcases hk with rfl | rfl
     ·exact absurd rfl (hn _ ad)
     ·rfl
   ·obtain⟨z,hz,h1,h2⟩:=ih (λz hz=>hn z (a9 _ hz)) (by
     rw[ao]at h
     by_cases hc:(k' == NameKind.free && env.scope.kind == .function && env.kindOf n == some .cell)=true
     ·simp only[if_pos hc,aA,(beq_eq_false_iff_ne.mpr hx)]at h;exact h
     ·simp only[if_neg hc,aA,(beq_eq_false_iff_ne.mpr hx)]at h;exact h)
    exact⟨z,a9 _ hz,h1,h2⟩
 exact go _ hn h
section
variable {X:Cx}{pins:List (Addr×Obj)}{σ:Sg}{H:Hp}{s:Shared}
theorem Yu {scope:Scope}{N' :List Str}{cl:List (Str×Addr)}{fp:List Addr}{h' :Heap}{tk:Nat}{σ' :Sg}(I:L2.Inv X pins σ H s)(S:CSc X scope)(hc:X.calm=true)
  (hcl:∀x c,cl.lookup x=some c->X.env.cells.lookup x=some c) (hcf:∀x∈scope.names,x.2=NameKind.free->∃c,cl.lookup x.1=some c)
  (hfp:∀b∈fp,Wn X pins H b) (hfo:∀b∈fp,∃o,s.heap.get? b=some o)
  (hns:h'.Ns s.heap.objs.size (λ_=>none)) (hk:∀b o,s.heap.get? b=some o->h'.get? b=some o)
  (hl:σ'.length=N'.length) (hσ:∀(i:Nat) (x:Str) (v:V),N'[i]? =some x->σ'[i]? =some (some v)->∃j:Nat,X.N[j]? =some x/\σ[j]? =some (some v)/\Vis X.env.scope x/\(scope.names.lookup x=some .free)/\(X.env.kindOf x=some .cell\/X.env.kindOf x=some .free)):
  L2.Inv (cxC X scope N' cl s.heap.objs.size s H fp pins) [] σ' H { s with heap:=h',toks:=tk }:=by
 have stk:=I.stkSub;have hlt:=λb hb=>let ⟨o,e⟩:=hfo b hb;am e;have fresh:=I.hok.fresh (ai _);refine⟨⟨I.ok.mod,S.kind,I.ok.glob,I.ok.blt,ai _,λx y c h1 h2=>I.ok.inj x y c (hcl _ _ h1) (hcl _ _ h2),λx hx=> ?_,λx c h _=>(au h).elim,λ_=>I.ok.hd hc,I.ok.frames,.inl rfl,λb hb=> ?_,I.bs,
   aq I.ok.bsz I.sz,λb o e hb=> ?_,λb hb hb' => ?_,I.stack,I.stkFree⟩,rfl,I.bare,Un.kept hk,⟨_,hns,λi x v h1 h2 h3=> ?_⟩,λx c e=> ?_,fresh,λx c e=>I.freeC x c (hcl _ _ e),λp hp=> ?_,I.hok.kept hk,hl⟩
 ·have hx' :=hx;obtain⟨y,hy,rfl,hyf⟩:∃y∈scope.names,y.1=x/\y.2= .free:=by
   rcases hx' with h | h
   ·exact jK h (.inl rfl) S.nocell
   ·exact jK h (.inr rfl) S.nocell
  exact hcf y hy hyf
 ·refine⟨az (hlt b hb),λx c e=>(hfp b hb).2.2.2.2.1 x c (hcl _ _ e)⟩
 ·rcases(hfp b hb).2.2.2.1 with h | h
  ·exact I.ok.noex b o e h
  ·exact absurd (aJ (am e) (aq I.ok.bsz h)) (bn _)
 ·have q:=hfp b hb;rcases ah.mp (stk b hb') with z | z
  ·exact q.2.1 z
  ·exact q.2.2.1 z
 ·obtain⟨j,e1,e2,e3,e4,e5⟩:=hσ i x v h1 h2;obtain⟨m,hn,hloc⟩:=I.loc;obtain⟨u,ru,lk⟩:=hloc j x v e1 e2 e3;refine⟨u,ru,.inr ⟨?_, ?_⟩⟩
  ·rcases h3 with h | h | h
   ·exfalso;have:∀ns:List _,ns.lookup x=some .free->(ns.map λ(n,k)=>if (k == NameKind.free && X.env.scope.kind == .function && X.env.kindOf n == some .cell) then (n,NameKind.cell) else (n,k)).lookup x ≠ some .local:=by
     intro ns
     induction ns with
     | nil=>intro z;simp at z
     | cons y ns ih=>
      obtain⟨n,k⟩:=y;intro z w;rw[ao]at w
      by_cases hx:x=n
      ·subst hx;have hkf:=by simpa[aA] using z
       by_cases hcn:(k == NameKind.free && X.env.scope.kind == .function && X.env.kindOf x == some .cell)=true
       ·simp only[if_pos hcn,aA,beq_self_eq_true]at w;cases w
       ·simp only[if_neg hcn,aA,beq_self_eq_true]at w;rw[hkf]at w;cases w
      ·have z' :=by rw[aA,(beq_eq_false_iff_ne.mpr hx)]at z;exact z
       refine ih z' ?_
       by_cases hcn:(k == NameKind.free && X.env.scope.kind == .function && X.env.kindOf n == some .cell)=true
       ·simp only[if_pos hcn,aA,(beq_eq_false_iff_ne.mpr hx)]at w;exact w
       ·simp only[if_neg hcn,aA,(beq_eq_false_iff_ne.mpr hx)]at w;exact w
    exact this _ e4 h
   ·exact .inl h
   ·exact .inr h
  ·rcases lk with ⟨hk',_⟩ | ⟨_,c,hc',hcell⟩
   ·rcases e5 with z | z <;> (rw[z]at hk';cases hk')
   ·obtain⟨c',hc2⟩:=hcf _ (bI e4) rfl;have:=hcl x c' hc2;rw[hc']at this;cases this;obtain⟨o,eo,ed⟩:=hcell;exact⟨c,hc2,o,hk _ _ eo,ed⟩
 ·obtain⟨v,o,eo,ed⟩:=I.cell x c (hcl _ _ e);exact⟨v,o,hk _ _ eo,ed⟩
 ·have hp' :=by
   have:=hp;rwa[aY]at this
  obtain⟨e,n,ne,nf,dc⟩:=I.pin p hp';refine⟨hk _ _ e,n,az (am e),λhb=> ?_,dc⟩;rcases ah.mp (stk _ hb) with z | z
  ·exact ne z
  ·exact nf z
end
noncomputable def PIf (X:Cx)(ifs:List Expr)(t:TT):Prop:=
 ∀(pins:List (Addr×Obj)) (s:Shared) (σ:Sg) (H:Hp) (Q:Bool->Hp->Prop),L2.Inv X pins σ H s->t σ H Q->
  wpAny (model X.prog X.w) X.A (forIn ifs true λc r=>if r=true then do let ok ← isTrue c X.env (eval c X.env);pure (ForInStep.yield ok) else pure (ForInStep.yield r)) (TP X pins σ Q) X.xe s
theorem xK {X:Cx}:PIf X [] (λ_ H Q=>Q true H):=λ_ _ σ H _ I h=>wpAny_tests_nil ⟨H,I,h⟩
theorem xL {X:Cx}{c:Expr}{t:TT}(h:PT X c t):PIf X [c] t:=λpins s σ H Q I q=>wpAny_tests_one (h _ s σ H Q I q)
noncomputable abbrev XE (X:Cx)(xe:Value->Shared->Prop):Cx:={ X with xe:=xe }
theorem U3 {X:Cx}{pins:List (Addr×Obj)}{σ:Sg}{H:Hp}{s:Shared}{xe:Value->Shared->Prop}(I:L2.Inv X pins σ H s):L2.Inv (XE X xe) pins σ H s:=
 ⟨⟨I.ok.mod,I.ok.kind,I.ok.glob,I.ok.blt,I.ok.above,I.ok.inj,I.ok.has,I.ok.cab,I.ok.hd,I.ok.frames,I.ok.stk,I.ok.exf,I.ok.bs,I.ok.bsz,I.ok.noex,I.ok.exfs,I.ok.funs,I.ok.frf⟩,I.os,I.bare,I.base,I.loc,I.cell,I.free,I.freeC,I.pin,I.hok,I.len⟩
theorem Yv {X:Cx}{pins:List (Addr×Obj)}{σ:Sg}{H:Hp}{s:Shared}{xe:Value->Shared->Prop}(I:L2.Inv (XE X xe) pins σ H s):L2.Inv X pins σ H s:=(U3 I:L2.Inv _ _ σ H s)
theorem z1x {X:Cx}{e:Expr}{t:TG}{xe:Value->Shared->Prop}(hx:X.xe=λ_ _=>False)(h:PG X e t):PG (XE X xe) e t:=λpins s σ H v u Q I r q=>d7 (h _ s σ H v u Q (Yv I) r q) (λ_ s' ⟨σ',H',I',q'⟩=>⟨σ',H',U3 I',q'⟩) λe s' z=>by rw[hx]at z;exact z.elim
theorem Kz {X:Cx}{e:List Expr}{t:TT}{xe:Value->Shared->Prop}(hx:X.xe=λ_ _=>False)(h:PIf X e t):PIf (XE X xe) e t:=λpins s σ H Q I q=>d7 (h _ s σ H Q (Yv I) q) (λ_ s' ⟨H',I',q'⟩=>⟨H',U3 I',q'⟩) λe s' z=>by rw[hx]at z;exact z.elim
theorem U4 {α:Type}{M:Model}{A:Around}{m:Sem α}{Q:α->Shared->Prop}{E E' :Value->Shared->Prop}{s:Shared}(hE:∀e s',E' e s' ->E e s')(h:wpAny M A m Q E' s):wpAny M A m Q E s:=d7 h (λ_ _ q=>q) hE
noncomputable def vd (J:It)(D:Addr)(g:TG)(tt:TT)(te:TE)(fin:Sg->Hp->Prop)(W:Nat->Nat->List V->Sg->Hp->Prop):Prop:=
 ∀i m ys σ H,W i m ys σ H->H D=some (.lst ys)/\((J.stop i H/\fin σ H)\/(J.go i H/\∀x H2,J.yld i H x H2->g x σ H2 λσ3 H3=>tt σ3 H3 λk H4=>
  if k=true then te σ3 H4 λv H5=>H5 D=some (.lst ys)/\ys.length < sizeLine/\∃m',m' < m/\W (i+1) m' (ys++[v]) σ3 (upd H5 D (.lst (ys++[v]))) else ∃m',m' < m/\W (i+1) m' ys σ3 H4))
theorem Yw {X:Cx}{R:Result->Shared->Prop}(hx:∀e s',X.xe e s' ->notedBy (model X.prog X.w) X.A X.env (λe s' =>R (.error e) s') e s')(hc:X.calm=true){tg iter elt:Expr}{ifs:List Expr}{scope:Scope}{pos:Pos}{J:It}{fp:List Addr}{it:Addr}{tn:Nat->Heap->Prop}(TJ:yG X.prog X.w X.K tg J fp it tn)
  {g:TG} {tt:TT} {te:TE} (hg:PG X tg g) (ht:PIf X ifs tt) (he:PE X elt te) {D:Addr} {fin:Sg->Hp->Prop} (W:Nat->Nat->List V->Sg->Hp->Prop) (turn:vd J D g tt te fin W)
  (hR:∀s σ H,L2.Inv X [] σ H s->fin σ H->R (.ok .next) s) {m0:Nat} {σ0:Sg} {H0:Hp} {s0:Shared} (w0:W 0 m0 [] σ0 H0) (I0:L2.Inv X [] σ0 H0 s0) (t0:tn 0 s0.heap) (f0:∀b∈fp,Wn X [] H0 b):
  codeAny (model X.prog X.w) X.A (.compLoop (.ListComp elt [⟨tg,iter,ifs,0⟩] scope pos) 0 (.ref it) (.ref D) X.env) R s0:=by
 have stat:∀{H' :Hp},(∀b∈fp,H' b=none)->∀b∈fp,Wn X [] H' b:=λhn b hb=>⟨hn b hb,(f0 b hb).2⟩;refine codeAny_loop rfl (λn s' =>∃i ys σ' H',L2.Inv X [] σ' H' s' /\tn i s'.heap/\(∀b∈fp,H' b=none)/\W i n ys σ' H') (λn s3 h3=> ?_) m0 ⟨0,[],σ0,H0,I0,t0,λb hb=>(f0 b hb).1,w0⟩;obtain⟨i,ys,σ3,H3,I3,st3,fr3,w3⟩:=h3;show wpAny _ X.A ((compTurn _ 0 _ _ _).onRaise (λx=>do noteFrame x _;theTreesLotGoes x)) _ _ s3
 refine wpAny_noted ?_;obtain⟨hD,h⟩:=turn i n ys σ3 H3 w3;rcases h with ⟨stop,qn⟩ | ⟨go,next⟩
 ·refine a7 (wpAny_standAt (a7 (thn (TJ.done X rfl rfl rfl hc i [] s3 σ3 H3 _ I3 (stat fr3) st3 stop) λr s4 ⟨hr,I4⟩=> ?_)));subst hr;exact ak (hR s4 σ3 H3 I4 qn)
 ·refine a7 (wpAny_standAt (a7 (thn (TJ.item X rfl rfl rfl hc i [] s3 σ3 H3 _ I3 (stat fr3) st3 go) λr s4 ⟨u,hr,h4⟩=> ?_)));subst hr;refine a7 (thn h4 λ_ s5 ⟨x,H5,I5,r5,y5,st5,fr5⟩=> ?_);have I5' :=I5.pinned (stat fr5) (TJ.obj _ _ st5);refine a7 (U4 hx (thn (hg _ s5 σ3 H5 x u _ I5' r5 (next x H5 y5)) λ_ s6 ⟨σ6,H6,I6,q6⟩=> ?_));have again:∀{σ7:Sg} {H7:Hp} {s7:Shared} {ys' :List V},L2.Inv X _ σ7 H7 s7->(∃m',m' < n/\W (i+1) m' ys' σ7 H7)->∃m,m < n/\∃i ys σ' H',L2.Inv X [] σ' H' s7/\tn i _/\(∀b∈fp,H' b=none)/\W i m ys σ' H' :=λ{σ7 H7 s7 ys'} I7 ⟨m',hm,w7⟩=>by
   refine⟨m',hm,i+1,ys',σ7,H7,I7.unpinned,TJ.keep _ _ _ st5 λb hb o e=>(I7.pin _ (aX _ (aX _ (jk hb e)))).1,λb hb=> ?_,w7⟩;obtain⟨o,e,d⟩:=TJ.obj _ _ st5 b hb;exact(I7.pin _ (aX _ (aX _ (jk hb e)))).2.1
  refine a7 (U4 hx (thn (ht _ s6 σ6 H6 _ I6 q6) λk s7 ⟨H7,I7,q7⟩=> ?_));cases k with
  | false=>exact ak ⟨rfl,again I7 q7⟩
  | true=>
   refine a7 (a7 (U4 hx (thn (he _ s7 σ6 H7 _ I7 q7) λv s8 ⟨y,H8,I8,r8,hD8,hlen,q8⟩=> ?_)));refine a7 (U4 hx (thn (JB _ s8 σ6 H8 (.ref D) [y] _ [v] (λ_ H9=>∃m',m' < n/\W _ m' _ σ6 H9) I8 rfl (.cons r8 .nil) ⟨D,ys,y,rfl,rfl,hD8,hlen,q8⟩) λw s9 ⟨_,H9,I9,_,q9⟩=> ?_));exact ak (ak ⟨rfl,again I9 q9⟩)
noncomputable def yJ (k:Nat)(js:List Nat)(σ:Sg):Sg:=aa k none++js.map λj=>(σ[j]?).getD none
section
variable {X:Cx}
noncomputable abbrev Vm (X:Cx)(scope:Scope)(N' :List Str)(P:Cx->Prop):Prop:=∀cl C s3 H3 fp pins,P (cxC X scope N' cl C s3 H3 fp pins)
noncomputable abbrev KA (X:Cx)(scope:Scope)(N' :List Str)(E:XK)(P:Cx->Prop):Prop:=∀cl C s3 H3 fp pins xe,Zu (CX1 X.prog X.w) (XE (cxC X scope N' cl C s3 H3 fp pins) xe) E->P (XE (cxC X scope N' cl C s3 H3 fp pins) xe)
structure z1y (X:Cx) (scope:Scope) (N' :List Str) (k:Nat) (js:List Nat):Prop where
 len:N'.length=k+js.length
 cap:∀(i j:Nat),js[i]? =some j->∃x,N'[k+i]? =some x/\X.N[j]? =some x/\Vis X.env.scope x/\scope.names.lookup x=some .free/\(X.env.kindOf x=some .cell\/X.env.kindOf x=some .free)
theorem wN {E:XK}(hp:K7 X E){tg iter elt:Expr}{ifs:List Expr}{scope:Scope}{pos pos' :Pos}{N' :List Str}{k:Nat}{js:List Nat}{wi:TI}{g:TG}{tt:TT}{te:TE}{use:Option (Value->Sem Unit)}(S:CSc X scope)(CP:z1y X scope N' k js)(hc:X.calm=true)
  (hi:PI X tg iter wi) (hg:Vm X scope N' λXC=>PG XC tg g) (ht:Vm X scope N' λXC=>PIf XC ifs tt) (he:KA X scope N' E λXC=>PE XC elt te) {pins:List (Addr×Obj)} {σ:Sg} {H:Hp} {s:Shared} {Q:Value->Shared->Prop} {F:Addr->Hp->Prop} (I:L2.Inv X pins σ H s)
  (h:wi σ H λJ H1=>∀D,H1 D=none->∃W,(∃m,W 0 m [] (yJ k js σ) (upd H1 D (.lst [])))/\vd J D g tt te (λ_ H' =>F D H') W)
  (hQ:∀D C H' s',L2.Inv X pins σ H' s' ->F D H' ->H' C=none->(X.s₀.heap.objs.size<=C)->C ≠ X.env.locals->(∀x c,X.env.cells.lookup x=some c->c ≠ C)->(∀p∈X.pn++pins,p.1 ≠ C)->(∃m,s'.heap.Ns C m)->compPost (model X.prog X.w) X.A X.xe use Q (.ref D) C (.ok .next) s')
  (hs:∀x,foldedSetIterable iter X.env x=pure x:=by intro _;rfl):
  wpAny (model X.prog X.w) X.A (comprehension (.ListComp elt [⟨tg,iter,ifs,0⟩] scope pos) scope X.env pos' (newList []) false (eval iter X.env) use) Q X.xe s:=by
 obtain⟨cl,ecl,hcl,hcf⟩:=xJ (scope:=scope) (env:=X.env) λx hx hf=>I.ok.has x.1 (S.fre x hx hf);refine wpAny_comprehension_free rfl hs ecl S.kind S.loc ?_;refine thn (hi pins s σ H _ I h) λv s1 h1=>thn h1 λitv s2 h2=> ?_;obtain⟨it,fp,tn,J,H2,e,I2,TJ,st2,f2,q2⟩:=h2;subst e;refine a_ ?_;have hD:=I2.hok.fresh (ai _);have I3:L2.Inv X pins σ (upd H2 s2.heap.objs.size (.lst [])) { s2 with heap:=s2.heap.push { cls:= .type "list",data:= .seq _ } }:=
  I2.laid (t' :=s2.toks) (λb u e=>ab _ e) (ai _) ⟨b9 _,[],_,.nil,af _ rfl⟩
 obtain⟨W,⟨m0,w0⟩,turn⟩:=q2 s2.heap.objs.size hD;have f3:∀b∈fp,Wn X pins (upd H2 s2.heap.objs.size (.lst [])) b:=λb hb=>by
  obtain⟨o,eo,_⟩:=TJ.obj _ _ st2 b hb;exact⟨by rw[zv (az (am eo))];exact(f2 b hb).1,(f2 b hb).2⟩
 have o3:∀b∈fp,∃o,(s2.heap.push { cls:= .type "list",data:= .seq ([]:List Value).toArray }).get? b=some o:=λb hb=>by
  obtain⟨o,eo,_⟩:=TJ.obj _ _ st2 b hb;exact⟨o,ab _ eo⟩
 refine wpAny_newFunctionEnv S.nocell (by intro y hy;simp at hy) (λh4 hns4 hsb4=> ?_) S.kind
 generalize hG:s2.heap.push _=G3 at I3 o3 hns4 hsb4 ⊢;have s3e:∃s3:Shared,s3={ s2 with heap:=G3 }:=⟨_,rfl⟩;obtain⟨s3,es3⟩:=s3e;have hh3:s3.heap=s2.heap.push { cls:= .type "list",data:= .seq ([]:List Value).toArray }:=by rw[es3,hG]
 have hg3:G3=s3.heap:=by rw[es3]
 rw[← es3]at I3;rw[hg3]at hns4 hsb4 o3;have k4:=λb o e=>hsb4.extBut b o (az (am e)) (ab _ e);have IC:=Yu (N' :=N') (cl:=cl) (fp:=fp) (σ' :=yJ k js σ) (tk:=s3.toks+([]:List (Str×Value)).length) I3 S hc hcl hcf f3 o3 hns4 k4 (by unfold yJ;simp[CP.len]) (λi x v h1 h2=>by
  unfold yJ at h2
  by_cases hik:i < k
  ·rw[aE (by simpa using hik),aN,if_pos hik]at h2
   cases h2
  ·have hk' :k<=i:=by omega
   rw[aB (by simpa using hk'),aK,ax]at h2
   cases ej:js[i - k]? with
   | none=>rw[ej]at h2;cases h2
   | some j=>
    rw[ej]at h2;obtain⟨y,e1,e2,e3,e4,e5⟩:=CP.cap (i - k) j ej;have:k+(i - k)=i:=by omega
    rw[this,h1]at e1;cases e1;refine⟨j,e2, ?_,e3,e4,e5⟩;have h2' :some ((σ[j]?).getD none)=some (some v):=h2;cases ez:σ[j]? with
    | none=>rw[ez]at h2';cases h2'
    | some z=>rw[ez]at h2';exact congrArg some (aH h2'))
 have TC:yG _ _ _ tg J fp it tn:=TJ;have t4:tn 0 h4:=TJ.keep _ _ _ st2 λb hb o e=>k4 b o (by rw[hh3];exact ab _ e)
 have fC:∀b∈fp,Wn (cxC X scope N' cl s3.heap.objs.size s3 (upd H2 s2.heap.objs.size (.lst [])) fp pins) [] _ b:=λb hb=>by
  obtain⟨q0,q1,q2,q3,q4,q5⟩:=f3 b hb;obtain⟨o,eo⟩:=o3 b hb;refine⟨q0,az (am eo),λhb' => ?_,.inl hb,λx c e=>q4 x c (hcl _ _ e),λp hp=> ?_⟩
  ·rcases ah.mp (I3.stkSub b hb') with z | z
   ·exact q1 z
   ·exact q2 z
  ·exact q5 p (by
    have:=hp;rwa[aY]at this)
 have fin:∀(s5:Shared) (σ5:Sg) (H5:Hp),L2.Inv (cxC X scope N' cl s3.heap.objs.size s3 (upd H2 s2.heap.objs.size (.lst [])) fp pins) [] σ5 H5 s5->F s2.heap.objs.size H5->compPost (model X.prog X.w) X.A X.xe use Q _ s3.heap.objs.size (.ok .next) s5:=λs5 σ5 H5 I5 q5=>by
  have J5:=I3.call' (ch:=fp) I5.os I5.base I5.hok I5.bare λb hb=>by
   obtain⟨q0,q1,q2,q3,q4,q5⟩:=f3 b hb;exact⟨q3,q1,q4,q5⟩
  refine hQ _ _ H5 s5 J5 q5 I5.free I3.sz (dn I3.lt) (λx c e z=> ?_) (λp hp z=> ?_) (let ⟨m,hm,_⟩:=I5.loc;⟨m,hm⟩)
  ·obtain⟨v',o,eo,_⟩:=I3.cell x c e;exact absurd (am eo) (by rw[z];exact bn _)
  ·exact absurd (am (I3.pin p hp).1) (by rw[z];exact bn _)
 have pass:Zu (CX1 X.prog X.w) (XE (cxC X scope N' cl s3.heap.objs.size s3 (upd H2 s2.heap.objs.size (.lst [])) fp pins) (notedBy (model X.prog X.w) X.A (compEnvC scope cl s3.heap.objs.size X.env) λe s' =>compPost (model X.prog X.w) X.A X.xe use Q (.ref s2.heap.objs.size) s3.heap.objs.size (.error e) s')) E:=by
  intro pins1 σ1 H1 s1 e s' I1 c1;have J1:=I3.call' I1.os I1.base I1.hok I1.bare λb hb=>by
   obtain⟨q0,q1,q2,q3,q4,q5⟩:=f3 b hb;exact⟨q3,q1,q4,q5⟩
  obtain⟨m1,hm1,_⟩:=I1.loc;refine thn (hp pins σ H1 s1 e s' _ m1 _ _ J1 hm1 I1.free I3.sz (λz=> ?_) rfl c1) λ_ s'' q=> ?_
  ·obtain⟨_,o,eo,_⟩:=I3.stack.mem z;exact absurd (am eo) (bn _)
  ·cases use <;> exact q
 have loop:=Yw (X:=XE (cxC X scope N' cl _ s3 _ fp _) (notedBy _ X.A _ λe s' =>compPost _ X.A _ use Q _ _ _ s')) (iter:=iter) (scope:=scope) (pos:=pos) (λ_ _ z=>z) hc TC (z1x rfl (hg _ _ _ _ _ _)) (Kz rfl (ht _ _ _ _ _ _)) (he _ _ _ _ _ _ _ pass) W turn (λs5 σ5 H5 I5=>fin s5 σ5 H5 (Yv I5)) w0 (U3 IC) t4 fC;rw[es3]at loop;exact codeAny_compStart_list loop (TJ.self _ _ _ _ _ t4 loop)
end
noncomputable def zO (g:T->En->R En)(ft:En->R Bool)(fe:En->R T):List T->En->R (List T)
 | [],_=> .ok []
 | t :: ts,ρ=>(g t ρ).bind λρ1=>(ft ρ1).bind λk=>if k=true then (fe ρ1).bind λv=>(zO g ft fe ts ρ1).bind λvs=> .ok (v :: vs) else zO g ft fe ts ρ1
noncomputable def uv:Option Sl->Sl
 | some (.vl t)=> .vl t
 | some (.ob k _)=> .oc k []
 | some (.oc k fs)=> .oc k fs
 | _=> .un
noncomputable def WC (k:Nat)(js:List Nat)(ρ:En):En:=aa k .un++js.map λj=>uv ρ[j]?
noncomputable def quiet {α:Type}:R α->R α
 | .ok a=> .ok a
 | _=> .bad
noncomputable def zG (g:T->En->R En)(ft:En->R Bool)(fe:En->R T)(k:Nat)(js:List Nat)(ρ:En)(ts:List T):R (List T):=if ts.length<=bnd then quiet (zO g ft fe ts (WC k js ρ)) else .bad
noncomputable def zW (fi:En->R (List T))(g:T->En->R En)(ft:En->R Bool)(fe:En->R T)(k:Nat)(js:List Nat):En->R T:=λρ=>(fi ρ).bind λts=>(zG g ft fe k js ρ ts).bind λvs=> .ok (.lst vs)
noncomputable def GOk (tG:TG)(g:T->En->R En):Prop:=∀Y B ρ σ H v x Q,SI Y B ρ σ H->Rep B v x->(match g x ρ with | .ok ρ' =>∀σ',SI Y B ρ' σ' H->Q σ' H | _=>False)->tG v σ H Q
theorem ve (i:Nat):GOk (wG i) (zA i):=λY B ρ σ H v x Q I r q=>q _ (I.setV i r)
theorem vf (K:a8)(i j:Nat):GOk (GN K 2 (yQ (wG i) (yQ (wG j) z0L))) (Z3 i j):=λY B ρ σ H v t Q I r q=>by
 cases r with
 | @tup l xs ts h r=>
  cases r with
  | nil=>exact q.elim
  | cons r1 rr=>
   cases rr with
   | nil=>exact q.elim
   | cons r2 rr=>
    cases rr with
    | cons _ _=>exact q.elim
    | nil=>exact⟨l,_,rfl,SqT.of (I.sB _ _ h),rfl,_,_,rfl,_,_,rfl,rfl,q _ ((I.setV i r1).setV j r2)⟩
 | _=>exact q.elim
theorem SI.blockS {Y:Fx}{B:Hp}{ρ:En}{σ:Sg}{H H' :Hp}(I:SI Y B ρ σ H)(k:Nat)(js:List Nat)(E:XK)(s:zy H H'):SI ⟨B,H,E,Y.cl,[]⟩ B (WC k js ρ) (yJ k js σ) H' where
 s0:=I.sB
 sH:=s
 sB:=I.sB.trans s
 old:=λ_ _ _=>rfl
 len:=by unfold WC yJ;simp
 vl:=λi t h=>by
  unfold WC at h;unfold yJ
  by_cases hik:i < k
  ·rw[aE (by simpa using hik),aN,if_pos hik]at h;cases h
  ·have hk' :k<=i:=by omega
   rw[aB (by simpa using hk'),aK,ax]at h ⊢
   cases ej:js[i - k]? with
   | none=>rw[ej]at h;cases h
   | some j=>
    rw[ej]at h;have h' :uv ρ[j]? = .vl t:=aH h;unfold uv at h';split at h'
    ·rename_i u e;cases h';obtain⟨v,e1,r⟩:=I.vl j _ e;exact⟨v,by show some ((σ[j]?).getD none)=_;rw[e1];rfl,r⟩
    all_goals cases h'
 ow:=λi ts h=>by
  exfalso;unfold WC at h
  by_cases hik:i < k
  ·rw[aE (by simpa using hik),aN,if_pos hik]at h;cases h
  ·have hk' :k<=i:=by omega
   rw[aB (by simpa using hk'),aK,ax]at h
   cases ej:js[i - k]? with
   | none=>rw[ej]at h;cases h
   | some j=>
    rw[ej]at h;have h' :uv ρ[j]? = .ow ts:=aH h;unfold uv at h';split at h' <;> cases h'
 xc:=λi c h=>by
  exfalso;unfold WC at h
  by_cases hik:i < k
  ·rw[aE (by simpa using hik),aN,if_pos hik]at h;cases h
  ·have hk' :k<=i:=by omega
   rw[aB (by simpa using hk'),aK,ax]at h
   cases ej:js[i - k]? with
   | none=>rw[ej]at h;cases h
   | some j=>
    rw[ej]at h;have h' :uv ρ[j]? = .xc c:=aH h;unfold uv at h';split at h' <;> cases h'
 st:=by
  have get:∀(i:Nat) (x:Sl),x.isO=true->(WC k js ρ)[i]? =some x->∃j,js[i - k]? =some j/\k<=i/\uv ρ[j]? =x:=λi x hx h=>by
   unfold WC at h
   by_cases hik:i < k
   ·rw[aE (by simpa using hik),aN,if_pos hik]at h
    cases h;cases hx
   ·have hk' :k<=i:=by omega
    rw[aB (by simpa using hk'),aK,ax]at h
    cases ej:js[i - k]? with
    | none=>rw[ej]at h;cases h
    | some j=>
     rw[ej]at h;exact⟨j,rfl,hk',aH h⟩
  refine⟨[],λ_=>none,cD _,λi os h=> ?_,λi _ os _ h=> ?_,λi k' n h=> ?_,λi k' fs h=> ?_,λi os h=> ?_⟩
  ·obtain⟨j,_,_,e⟩:=get i _ rfl h;unfold uv at e;split at e <;> cases e
  ·obtain⟨j,_,_,e⟩:=get i _ rfl h;unfold uv at e;split at e <;> cases e
  ·obtain⟨j,_,_,e⟩:=get i _ rfl h;unfold uv at e;split at e <;> cases e
  ·obtain⟨j,ej,hk',e⟩:=get i _ rfl h;have sg:(yJ k js σ)[i]? =some ((σ[j]?).getD none):=by
    unfold yJ;rw[aB (by simpa using hk'),aK,ax,ej];rfl
   obtain⟨as,O,x⟩:=I.st;unfold uv at e;split at e
   ·cases e
   ·rename_i k2 n2 e2;cases e;obtain⟨a,C,dx,vs,_,e3,e4,e5,_,_,e6⟩:=x.ob j _ _ e2;exact⟨a,C,dx,vs,by rw[sg,e3];rfl,e4,e5,e6,λm f d z=>by cases z⟩
   ·rename_i k2 fs2 e2;cases e;obtain⟨a,C,dx,vs,e3,e4,e5,e6,e7⟩:=x.oc j _ _ e2;exact⟨a,C,dx,vs,by rw[sg,e3];rfl,e4,I.sH _ _ e5,e6,e7.mono (zy.refl _) I.sH⟩
   ·cases e
  ·obtain⟨j,_,_,e⟩:=get i _ rfl h;unfold uv at e;split at e <;> cases e
theorem SI.block {Y:Fx}{B:Hp}{ρ:En}{σ:Sg}{H H3:Hp}{D:Addr}(I:SI Y B ρ σ H)(k:Nat)(js:List Nat)(E:XK)(hD:H D=none)(o:HO):SI ⟨B,H,E,Y.cl,[]⟩ B (WC k js ρ) (yJ k js σ) (upd H D o):=I.blockS k js E (zy.new hD _)
theorem SI.acc {Y:Fx}{B:Hp}{ρ:En}{σ:Sg}{H:Hp}{D:Addr}(I:SI Y B ρ σ H)(hb:B D=none)(h0:Y.H0 D=none)(ho:∀(i:Nat) (ts:List T),ρ[i]? =some (Sl.ow ts)->σ[i]? ≠ some (some (V.ref D)))(hso:∀(i:Nat) (x:Sl),ρ[i]? =some x->Sl.isS x=true->False)(o:HO):SI Y B ρ σ (upd H D o) where
 s0:=I.s0
 sH:=λb u h=>by
  rw[zv (λz=>by subst z;rw[h0]at h;cases h)];exact I.sH b u h
 sB:=λb u h=>by
  rw[zv (λz=>by subst z;rw[hb]at h;cases h)];exact I.sB b u h
 old:=I.old
 len:=I.len
 vl:=I.vl
 ow:=λi ts h=>by
  obtain⟨a,xs,e,b0,h0',hh,r,d⟩:=I.ow i ts h;refine⟨a,xs,e,b0,h0', ?_,r,d⟩;rw[zv (λz=>ho i ts h (by rw[e,z]))];exact hh
 xc:=I.xc
 st:=let ⟨as,O,x⟩:=I.st;⟨as,O,x.pre,λi os h=>hso i _ h rfl |>.elim,λi j os os' h=>hso i _ h rfl |>.elim,λi k n h=>hso i _ h rfl |>.elim,x.oc,λi os h=>hso i _ h rfl |>.elim⟩
noncomputable def kg (ρ:En):Prop:=∀(i:Nat) (x:Sl),ρ[i]? =some x->(∀ts,x ≠ Sl.ow ts)/\(x.isS=true->False)
theorem vg (k:Nat)(js:List Nat)(ρ:En):kg (WC k js ρ):=λi x h=>by
 unfold WC at h
 by_cases hik:i < k
 ·rw[aE (by simpa using hik),aN,if_pos hik]at h
  cases h;exact⟨λ_=>Sl.noConfusion,au⟩
 ·have hk' :=by omega
  rw[aB (by simpa using hk'),aK,ax]at h
  cases ej:js[i - k]? with
  | none=>rw[ej]at h;cases h
  | some j=>
   rw[ej]at h;have h' :uv _=x:=aH h;unfold uv at h';split at h' <;> (subst h';exact⟨λ_=>Sl.noConfusion,au⟩)
theorem wO {ρ:En}{i:Nat}{t:T}(h:kg ρ):kg (ρ.set i (.vl t)):=λj x e=>by
 rcases zq e with ⟨_,z⟩ | ⟨_,z⟩
 ·subst z;exact⟨λ_=>Sl.noConfusion,au⟩
 ·exact h j x z
noncomputable def GNo (g:T->En->R En):Prop:=(∀t ρ ρ',kg ρ->g t ρ= .ok ρ' ->kg ρ')/\∀t ρ c,g t ρ ≠ .ex c
theorem vh (i:Nat):GNo (zA i):=⟨λt ρ ρ' h e=>by
 cases e;exact wO h,λt ρ c e=>by cases e⟩
theorem vi (i j:Nat):GNo (Z3 i j):=⟨λt ρ ρ' h e=>(by
 unfold Z3 at e;split at e
 ·cases e;exact wO (wO h)
 ·cases e),λt ρ c e=>by unfold Z3 at e;split at e <;> cases e⟩
section
variable {X:Cx}{Y:Fx}{tg iter elt:Expr}{ifs:List Expr}{scope:Scope}{pos pos' :Pos}{N' :List Str}{k:Nat}{js:List Nat}{fi:En->R (List T)}{tG:TG}{g:T->En->R En}{ft:En->R Bool}{fe:En->R T}
structure wP (X:Cx) (Y:Fx) (ifs:List Expr) (f:En->R Bool):Prop where
 mk ::
 go:∀ρ,PIf X ifs (tS Y rE f ρ)
noncomputable instance {X:Cx}{Y:Fx}{ifs:List Expr}{f:En->R Bool}:CoeFun (wP X Y ifs f) λ_=>∀ρ,PIf X ifs (tS Y rE f ρ):=⟨wP.go⟩
theorem PIf.imp {X:Cx}{e:List Expr}{t t' :TT}(h:PIf X e t)(i:∀σ H Q,t' σ H Q->t σ H Q):PIf X e t' :=λpins s σ H Q I q=>h _ s σ H Q I (i σ H Q q)
noncomputable def Z1:En->R Bool:=λ_=> .ok true
theorem KC {X:Cx}:wP X Y [] Z1:= .mk λρ=>PIf.imp xK λσ H Q ⟨B,I,q⟩=>ZS I q rfl
theorem KD {X:Cx}{c:Expr}(h:Wd X Y c ft):wP X Y [c] ft:= .mk λρ=>xL (h ρ)
noncomputable def CEnd (r:R (List T))(P:List T->Prop)(Z:Nat->Prop):Prop:=match r with
 | .ok vs=>P vs
 | .ex c=>Z c
 | .bad=>False
theorem yi {B1 H1:Hp}{σ:Sg}{ρ:En}{J:It}{ts:List T}{r:R (List T)}{D:Addr}{E0:XK}(hG:GOk tG g)(hN:GNo g)(I:SI Y B1 ρ σ H1)(rI' :rI B1 H1 J ts)(hl:ts.length<=bnd)(ev:zO g ft fe ts (WC k js ρ)=r)(hD:H1 D=none){F:Hp->Prop}
  (hF:CEnd r (λvs=>∀H' xs B',zy H1 H' ->H' D=some (.lst xs)->zI B' xs vs->zy B' (zS B1 H1 H')->B' D=none->zy B1 B' ->F H') λc=>∀d H',zy H1 H' ->zy B1 H' ->E0 (Y.cl c) d H'):
  ∃W,(∃m,W 0 m [] (yJ k js σ) (upd H1 D (.lst [])))/\vd J D tG (λσ H Q=>∃Y' ρ',Y'.cl=Y.cl/\tS Y' rE ft ρ' σ H Q) (λσ H Q=>∃Y' ρ',Y'.cl=Y.cl/\Y'.E=E0/\tS Y' rC fe ρ' σ H Q) (λ_ H' =>F H') W:=by
 refine⟨λi m ys σ' H' =>m=ts.length - i/\i<=ts.length/\ys.length<=i/\H' D=some (.lst ys)/\∃ρ' B' us,SI ⟨B1,H1,E0,Y.cl,[]⟩ B' ρ' σ' H' /\kg ρ' /\zy B1 B' /\B' D=none/\zI B' ys us/\((zO g ft fe (ts.drop i) ρ').bind λws=> .ok (us++ws))=r,
  ⟨ts.length,by simp,b9 _,b9 _,zC,_,B1,[],I.block (H3:=H1) k js _ hD _,vg k js ρ,zy.refl _,I.sB.free hD,.nil,by rw[dE,ev];cases r <;> rfl⟩, ?_⟩
 rintro i m ys σ' H' ⟨rfl,hi,hyl,hDl,ρ',B',us,I',no',s1',bD,r',ew⟩
 refine⟨hDl, ?_⟩;obtain⟨hgo,hyld,hstop⟩:=rI' B' H' s1' I'.sB;have tD:∀H2,zy H' H2->zS B' H' H2 D=none:=λH2 s=>by rw[Zg hDl];exact bD
 by_cases hlt:i < ts.length
 ·refine .inr ⟨hgo i hlt,λx H2 y=> ?_⟩;obtain⟨s2,r2⟩:=hyld i _ x H2 (ag hlt) y;rw[dJ hlt]at ew;unfold zO at ew;have I2:=I'.grow s2;refine hG _ _ ρ' σ' H2 x _ _ I2 r2 ?_;cases eg:g ts[i] ρ' with
  | bad=>rw[eg]at ew;subst ew;exact hF
  | ex c=>exact(hN.2 _ _ _ eg).elim
  | ok ρ1=>
   rw[eg]at ew;have no1:=hN.1 _ _ _ no' eg;intro σ1 J1;refine⟨⟨B1,H1,E0,Y.cl,[]⟩,ρ1,rfl,_,J1, ?_⟩;have ew1:((ft ρ1).bind (λk=>if k=true then (fe ρ1).bind λv=>(zO g ft fe (ts.drop (i+1)) ρ1).bind λvs=> .ok (v :: vs) else zO g ft fe (ts.drop _) ρ1)).bind (λws=> .ok _)=r:=ew
   cases ef:ft ρ1 with
   | bad=>rw[ef]at ew1;subst ew1;exact hF
   | ex c=>
    rw[ef]at ew1;subst ew1;exact λd H' a b=>hF d H' a ((s1'.trans (zS.ge I'.sB s2)).trans b)
   | ok kk=>
    rw[ef]at ew1;intro b H3 s3 eb;have eb' :=eb;subst eb';have ew2:=ew1;have J2:=J1.grow s3;have hD3:H3 D=some _:=s3 _ _ (s2 _ _ hDl);have bD3:zS (zS B' H' H2) H2 H3 D=none:=by rw[Zg (s2 _ _ hDl)];exact tD H2 s2
    have sB3:=(zS.ge I'.sB s2).trans (zS.ge I2.sB s3);cases b with
    | false=>exact⟨ts.length - (i+1),by omega,rfl,hlt,by omega,hD3,ρ1,_,us,J2,no1,s1'.trans sB3,bD3,r'.mono sB3,ew2⟩
    | true=>
     refine⟨⟨B1,H1,E0,Y.cl,[]⟩,ρ1,rfl,rfl,_,J2, ?_⟩;have ew3:=ew2;cases ee:fe ρ1 with
     | bad=>rw[ee]at ew3;subst ew3;exact hF
     | ex c=>
      rw[ee]at ew3;subst ew3;exact λd H' a b=>hF d H' a ((s1'.trans sB3).trans b)
     | ok v=>
      rw[ee]at ew3;have ew4:=ew3;have ew5:(zO g ft fe (ts.drop (i+1)) ρ1).bind (λws=> .ok ((us++[v])++ws))=r:=by
       rw[← ew4];cases zO g ft fe _ ρ1 with
       | ok ws=>show R.ok _=R.ok _;rw[br];rfl
       | _=>rfl
      intro w H4 s4 rw4;have hD4:=s4 _ _ hD3;have J3:=J2.grow s4;have bD4:zS (zS (zS B' H' H2) H2 H3) H3 H4 D=none:=by rw[Zg hD3];exact bD3
      have sB4:=sB3.trans (zS.ge J2.sB s4);refine⟨hD4,aJ (bf hyl hlt) (ZF hl),ts.length - (i+1),by omega,rfl,hlt,by rw[av,aF];omega,zC,ρ1,_,us++[v], ?_,no1,s1'.trans sB4,bD4,(r'.mono sB4).append (.cons rw4 .nil),ew5⟩
      exact J3.acc bD4 hD (λj ts' e=>((no1 j _ e).1 ts' rfl).elim) (λj x e=>(no1 j x e).2) _
 ·have e:i=ts.length:=by omega
  subst e;refine .inl ⟨hstop _ (ai _), ?_⟩;rw[i5]at ew;have ew' :R.ok _=r:=ew;rw[aY]at ew';subst ew';refine hF H' ys B' I'.sH hDl r' (λb o h=> ?_) bD s1';cases q:H1 b with
  | none=>rw[Zf q];exact I'.sB b o h
  | some u=>
   rw[Zg q];have z:B' b=B1 b:=I'.old b u q;rw[← z];exact h
theorem JF {B1 H1:Hp}{σ:Sg}{ρ:En}{J:It}{ts vs:List T}{D:Addr}(hG:GOk tG g)(hN:GNo g)(I:SI Y B1 ρ σ H1)(rI' :rI B1 H1 J ts)(hl:ts.length<=bnd)(ev:zO g ft fe ts (WC k js ρ)= .ok vs)(hD:H1 D=none){F:Hp->Prop}
  (hF:∀H' xs B',zy H1 H' ->H' D=some (.lst xs)->zI B' xs vs->zy B' (zS B1 H1 H')->B' D=none->zy B1 B' ->F H'):
  ∃W,(∃m,W 0 m [] (yJ k js σ) (upd H1 D (.lst [])))/\vd J D tG (λσ H Q=>∃Y' ρ',Y'.cl=Y.cl/\tS Y' rE ft ρ' σ H Q) (λσ H Q=>∃Y' ρ',Y'.cl=Y.cl/\(Y'.E=λ_ _ _=>False)/\tS Y' rC fe ρ' σ H Q) (λ_ H' =>F H') W:=yi hG hN I rI' hl ev hD hF
structure wm (X:Cx) (Y:Fx) (tg iter elt:Expr) (ifs:List Expr) (scope:Scope) (N' :List Str) (k:Nat) (js:List Nat) (fi:En->R (List T)) (tG:TG) (g:T->En->R En) (ft:En->R Bool) (fe:En->R T):Prop where
 sc:CSc X scope
 cp:z1y X scope N' k js
 cm:X.calm=true
 it:uu X Y tg iter fi
 gt:Vm X scope N' λXC=>PG XC tg tG
 gk:GOk tG g
 gn:GNo g
 tt:∀Y',Y'.cl=Y.cl->Vm X scope N' λXC=>wP XC Y' ifs ft
 el:∀Y',Y'.cl=Y.cl->KA X scope N' Y'.E λXC=>Snd XC Y' elt fe
 hs:∀x,foldedSetIterable iter X.env x=pure x
theorem Vn (C:wm X Y tg iter elt ifs scope N' k js fi tG g ft fe):Snd X Y (.ListComp elt [⟨tg,iter,ifs,0⟩] scope pos) (zW fi g ft fe k js):= .mk λρ=>by
 intro pins s σ H Q I ⟨B,J,q⟩;refine wN (jS rfl) (F:=λD H' =>Q (.ref D) H') (te:=λσ H Q=>∃Y' ρ',Y'.cl=Y.cl/\(Y'.E=λ_ _ _=>False)/\tS Y' rC fe ρ' σ H Q) (tt:=λσ H Q=>∃Y' ρ',Y'.cl=Y.cl/\tS Y' rE ft ρ' σ H Q) C.sc C.cp C.cm (C.it ρ) C.gt
  (λcl Cx' s3 H3 fp pins pins' s σ H Q I ⟨Y',ρ',ey,q⟩=>C.tt Y' ey cl Cx' s3 H3 fp _ ρ' _ s σ H Q I q) (λcl Cx' s3 H3 fp pins xe hp pins' s σ H Q I ⟨Y',ρ',ey,eE,q⟩=>C.el Y' ey cl Cx' s3 H3 fp _ xe (eE ▸ hp) ρ' _ s σ H Q I q) I ?_ ?_ C.hs
 ·refine step J q λts it' H1 _ s1 r1 J1 q1=> ?_;intro D hD;unfold zG at q1;split at q1
  ·rename_i hl;cases ev:zO g ft fe ts _ with
   | bad=>rw[ev]at q1;exact q1.elim
   | ex c=>rw[ev]at q1;exact q1.elim
   | ok vs=>
    rw[ev]at q1;refine JF C.gk C.gn J1 r1 hl ev hD λH' xs B' s' e' r' l' b' sb' => ?_;refine(show Po Y rC _ H1 _ Q from q1) _ H' s' ?_;exact .lst (by rw[Zf hD];exact e') (r'.mono l')
  ·exact q1.elim
 ·intro D Cc H' s' I' q' hC h0 hL hcell hpin hns;obtain⟨m,hm⟩:=hns;refine⟨m,hm,λh' hsb=>⟨.ref D,H', ?_,rfl,q'⟩⟩;exact I'.turned (λb o hb e=>hsb.extBut b o hb e) hC (aU hL).symm (.inr h0) hcell hpin
end
section
variable {X:Cx}{Y:Fx}{tg iter elt:Expr}{ifs:List Expr}{scope:Scope}{pos pos' :Pos}{N' :List Str}{k:Nat}{js:List Nat}{fi:En->R (List T)}{tG:TG}{g:T->En->R En}{ft:En->R Bool}{fe:En->R T}
theorem KF {i:Nat}{x:Str}{pc p' :Pos}(C:wm X Y tg iter elt ifs scope N' k js fi tG g ft fe)(hN:X.N.Nodup)(hi:X.N[i]? =some x)(hx:L2.Loc X.env.scope x)
  (hsw:swapsWith (.ListComp elt [⟨tg,iter,ifs,0⟩] scope pc) (some (.Name x p')) pos.line X.env=pure true) (hf:X.fn x=true\/X.env.scope.names.lookup x=some .local:=by first | exact .inl rfl | exact .inr rfl | assumption):
  jO X Y (.Assign [.Name x p'] (.ListComp elt [⟨tg,iter,ifs,0⟩] scope pc) pos) (zJ i (zW fi g ft fe k js)):= .mk λρ=>by
 intro pins s σ H D I ⟨B,J,q⟩;rw[exec_Assign_Name_used _ _ _ _ hsw];refine a7 (wpAny_standAt (a7 ?_));refine a7 (thn (wN (jS rfl) (F:=λD' H' =>D.nx (σ.set i (some (.ref D'))) H') (te:=λσ H Q=>∃Y' ρ',Y'.cl=Y.cl/\(Y'.E=λ_ _ _=>False)/\tS Y' rC fe ρ' σ H Q) (tt:=λσ H Q=>∃Y' ρ',Y'.cl=Y.cl/\tS Y' rE ft ρ' σ H Q) C.sc C.cp C.cm (C.it ρ) C.gt
  (λcl Cx' s3 H3 fp pins pins' s σ H Q I ⟨Y',ρ',ey,q⟩=>C.tt Y' ey cl Cx' s3 H3 fp _ ρ' _ s σ H Q I q) (λcl Cx' s3 H3 fp pins xe hp pins' s σ H Q I ⟨Y',ρ',ey,eE,q⟩=>C.el Y' ey cl Cx' s3 H3 fp _ xe (eE ▸ hp) ρ' _ s σ H Q I q) I ?_ ?_ C.hs) λ_ s' hq=>ak (ak hq))
 ·have q' :PoS Y B (((fi ρ).s λts=>(zG g ft fe k js ρ ts).s λvs=> .nx (ρ.set i (.vl (.lst vs))))) D:=by
   unfold zJ zW at q;revert q;cases fi ρ with
   | bad=>exact λq=>q
   | ex c=>exact λq=>q
   | ok ts=>
    intro q;have q2:PoS Y B (((zG g ft fe k js ρ ts).bind λvs=>R.ok _).s λt=>RS.nx _) D:=q;show PoS Y B ((zG g ft fe k js ρ ts).s λvs=>RS.nx _) D;revert q2;cases zG g ft fe k js ρ ts with
    | bad=>exact λq=>q
    | ex c=>exact λq=>q
    | ok vs=>exact λq=>q
  refine jr J q' λts it' H1 _ s1 r1 J1 q1=> ?_;intro D' hD;unfold zG at q1;split at q1
  ·rename_i hl;cases ev:zO g ft fe ts _ with
   | bad=>rw[ev]at q1;exact q1.elim
   | ex c=>rw[ev]at q1;exact q1.elim
   | ok vs=>
    rw[ev]at q1;refine JF C.gk C.gn J1 r1 hl ev hD λH' xs B' s' e' r' l' b' sb' => ?_;have rr:Rep _ _ _:= .lst (by rw[Zf hD];exact e') (r'.mono l')
    exact q1 _ _ _ (zS.ge J1.sB s') ((J1.grow s').setV i rr)
  ·exact q1.elim
 ·intro D' Cc H' s' I' q' hC h0 hL hcell hpin hns;obtain⟨m,hm⟩:=hns;refine wpAny_assign_Name (Wk (v:= .ref D') I' hN hi hx rfl (λs'' I'' ⟨a,hsb,ha⟩=> ?_) hf);have hne:Cc ≠ a:=by
   rcases ha with rfl | ha
   ·exact hL
   ·exact(hcell x a ha).symm
  refine⟨m,hm.sameBut hsb hne,λh' hsb' =>⟨_,H', ?_,q'⟩⟩;exact I''.turned (λb o hb e=>hsb'.extBut b o hb e) hC hL (.inr h0) hcell hpin
end
noncomputable def Itc (x:Str):It:=⟨λi _=>i < x.cps.size,λi H v H' =>H' =H/\∃c,x.cps[i]? =some c/\v= .str ⟨#[c]⟩,λi _=>x.cps.size<=i⟩
theorem wn {P:Program}{w:World}{K:a8}{tg:Expr}{x:Str}{t:Tok}{ty:String}(it:Addr)(hty:ty="str_ascii_iterator"\/ty="str_iterator"):yG P w K tg (Itc x) [it] it (λi h=>h.IsStrIter it ty x t i):=by
 have W:∀A:Around,A.handled=none->Walks P w A it [it] [it] x.cps.size (SignAt x) (λi h=>h.IsStrIter it ty x t i):=λA hA=>by
  rcases hty with rfl | rfl
  ·exact Walks.strAscii hA it x t
  ·exact Walks.strWide hA it x t
 have hn:["enumerate","zip","dict_itemiterator","dict_reverseitemiterator","odict_iterator","itertools.zip_longest","itertools.pairwise"].contains ty=false:=by rcases hty with rfl | rfl <;> decide
 refine⟨by simp,λi h st b hb=> ?_,λi h h' st k=> ?_, ?_, ?_,λA i s Q E st h=> ?_⟩
 ·have e:b=it:=by simpa using hb
  subst e;obtain⟨o,e,c,d⟩:=st;exact⟨o,e,λv z=>by rw[d]at z;cases z⟩
 ·obtain⟨o,e,r⟩:=st;exact⟨o,k it (by simp) o e,r⟩
 ·intro X hP hw hK hc i pins s σ H E I hf st hg;obtain⟨f0,f1,f2,f3,f4,f5⟩:=hf it (by simp)
  refine(W X.A (I.ok.hd hc)).item i s _ _ hg st λv h' tk hv st' kk=> ?_;obtain⟨c,u,hc',rfl⟩:=hv;have I1:L2.Inv X _ σ H { s with heap:=h',toks:=tk }:=I.turned (λb o hb e=>kk b o (by simpa using hb) e) f0 f1 f3 f4 f5
  obtain⟨o,e,cl,d⟩:=id st';exact⟨_,rfl,UV e cl d hn ⟨.str _,H,I1,⟨u,rfl⟩,⟨rfl,c,hc',rfl⟩,st',λb hb=>(hf b hb).1⟩⟩
 ·intro X hP hw hK hc i pins s σ H E I hf st hg;obtain⟨f0,f1,f2,f3,f4,f5⟩:=hf it (by simp)
  have hx:=cb hg;rcases hty with rfl | rfl
  ·exact wpAny_pyNext_ascii_end (I.ok.hd hc) st hx λh' eb=>⟨rfl,I.turned (λb o hb e=>eb b o hb e) f0 f1 f3 f4 f5⟩
  ·exact wpAny_pyNext_wide_end (I.ok.hd hc) st hx λh' eb=>⟨rfl,I.turned (λb o hb e=>eb b o hb e) f0 f1 f3 f4 f5⟩
 ·rcases hty with rfl | rfl
  ·exact wpAny_pyIter_striter_ascii st h
  ·exact wpAny_pyIter_striter_wide st h
noncomputable def jL (x:Str):List T:=x.cps.toList.map λc=>T.str ⟨#[c]⟩
theorem vj {B1 H1:Hp}{x:Str}:rI B1 H1 (Itc x) (jL x):=λB2 H2 s1 s2=>by
 have hl:(jL x).length=x.cps.size:=by unfold jL;simp
 refine⟨λi hi=>by rw[hl]at hi;exact hi,λi t v H3 e y=> ?_,λi hi=>by rw[hl]at hi;exact hi⟩
 obtain⟨rfl,c,hc,rfl⟩:=y;refine⟨zy.refl _, ?_⟩;unfold jL at e;rw[ax]at e;have hc' :x.cps.toList[i]? =some c:=by simpa using hc
 rw[hc']at e;cases e;exact .str _
section
variable {X:Cx}{Y:Fx}{a b c d tg:Expr}{fa fb fc fd:En->R T}{pos p:Pos}
theorem KG {l:Expr}{tl:TE}(hl:PE X l tl):PI X tg l (λσ H R=>tl σ H λx H1=>(∃a,x= .ref a/\(((∃xs,SqL X.K H1 a xs)/\R (Itl X.K a) H1)\/((∃xs,SqT X.K H1 a xs)/\R (Itt X.K a) H1)))\/(∃z,x= .str z/\R (Itc z) H1)):=by
 intro pins s σ H R I h;refine thn (hl _ s σ H _ I h) λv s1 ⟨x,H1,I1,r1,q1⟩=> ?_;have ok:∀b∈[s1.heap.objs.size],Wn X _ H1 b:=λb hb=>by
  have e:=by simpa using hb
  subst e;exact I1.fpOk (ai _) (I1.hok.fresh (ai _))
 rcases q1 with ⟨a,e,q⟩ | ⟨z,e,q⟩
 ·subst e;obtain rfl:v=Value.ref a:=r1;rcases q with ⟨⟨xs,hq⟩,q⟩ | ⟨⟨xs,hq⟩,q⟩
  ·obtain⟨its,rv,p,hz⟩:=I1.list hq;exact wpAny_pyIter_list p.isList ⟨s1.heap.objs.size,[s1.heap.objs.size],_,_,H1,rfl,I1.kept λb o e=>ab _ e,yS a _,⟨_,af _ rfl,rfl,rfl⟩,ok,q⟩
  ·obtain⟨its,rv,p,hz⟩:=I1.tuple hq;exact wpAny_pyIter_tuple (show s1.heap.IsTuple a _ from p) ⟨s1.heap.objs.size,[s1.heap.objs.size],_,_,H1,rfl,I1.kept λb o e=>ab _ e,UW a _,⟨_,af _ rfl,rfl,rfl⟩,ok,q⟩
 ·subst e;obtain⟨t,rfl⟩:=r1;cases ha:z.cps.all _
  ·exact wpAny_pyIter_wide ha ⟨s1.heap.objs.size,[s1.heap.objs.size],_,_,H1,rfl,I1.kept λb o e=>ab _ e,wn _ (.inr rfl),⟨_,af _ rfl,rfl,rfl⟩,ok,q⟩
  ·exact wpAny_pyIter_ascii ha ⟨s1.heap.objs.size,[s1.heap.objs.size],_,_,H1,rfl,I1.kept λb o e=>ab _ e,wn _ (.inl rfl),⟨_,af _ rfl,rfl,rfl⟩,ok,q⟩
noncomputable def JG:T->R (List T)
 | .lst xs=> .ok xs
 | .tup xs=> .ok xs
 | .str x=> .ok (jL x)
 | _=> .bad
noncomputable def ZJ (fa:En->R T):En->R (List T):=λρ=>(fa ρ).bind JG
theorem z1z (ha:Snd X Y a fa):uu X Y tg a (ZJ fa):= .mk λρ=>PI.imp (KG (ha ρ)) λσ H R ⟨B,I,q⟩=>step I q λt v H1 _ s1 r1 I1 q1=>by
 cases r1 with
 | @tup l xs ts h r=>
  exact .inl ⟨l,rfl,.inr ⟨⟨xs,SqT.of (I1.sB _ _ h)⟩,ZS I1 (show Po Y rI _ H1 _ R from q1) (Kt h r)⟩⟩
 | @lst l xs ts h r=>
  exact .inl ⟨l,rfl,.inl ⟨⟨xs,SqL.of (I1.sB _ _ h)⟩,ZS I1 (show Po Y rI _ H1 _ R from q1) (Ku h r)⟩⟩
 | str z=>exact .inr ⟨z,rfl,ZS I1 (show Po Y rI _ H1 _ R from q1) vj⟩
 | _=>exact q1.elim
end
theorem Inv.laidT {X:Cx}{pins:List (Addr×Obj)}{σ:Sg}{H:Hp}{s:Shared}{h' :Heap}{tk:Nat}{ch:List Addr}{a:Addr}{xs:List V}(I:L2.Inv X pins σ H s)(hf:∀b∈ch,Wn X pins H b)(k:∀b o,b ∉ ch->s.heap.get? b=some o->h'.get? b=some o)
  (th:∀b o,b∈ch->s.heap.get? b=some o->∃o',h'.get? b=some o') (ha:s.heap.objs.size<=a) (new:Zc X.prog X.w (upd H a (.tup xs)) h' a (.tup xs)):L2.Inv X pins σ (upd H a (.tup xs)) { s with heap:=h',toks:=tk }:=by
 have hn:=I.hok.fresh ha;have nch:∀b u,H b=some u->b ∉ ch:=λb u e hb=>by rw[(hf b hb).1]at e;cases e
 refine I.call' rfl ⟨λb o e n _ hc=>k b o hc e,λb o e n _ hc=>⟨o.slots,k b o hc e⟩,λb o e n _=>by rw[zv (az (aJ (am e) ha))];exact n,λb o e hc=>⟨o,k b o hc e⟩,
  λb ys e=>by rw[zv (zL e hn)];exact e,λb o u e=>by rw[zv (zL e hn)];exact e,λb ps q e=>by rw[zv (zL e hn)];exact e⟩ (λb u e=> ?_) I.bare λb hb=> ?_
 ·by_cases hb:b=a
  ·subst hb;rw[zC]at e;cases e;exact new
  ·rw[zv hb]at e;refine(I.hok b u e).stay (λc v hc q=> ?_) (λc q=>by rw[zv (zL q hn)];exact q) (λc ys q=>by rw[zv (zL q hn)];exact q) λc o u q=>by rw[zv (zL q hn)];exact q
   rcases hc with rfl | hc
   ·exact k c v (nch c u e) q
   ·exact k c v (nch c _ hc) q
 ·obtain⟨f0,f1,f2,f3,f4,f5⟩:=hf b hb;exact⟨f3,f1,f4,f5⟩
noncomputable def Ite (K:a8)(l:Addr):It:=
 ⟨λi H=>∃xs x,SqL K H l xs/\xs[i]? =some x,λi H v H' =>∃p x,H p=none/\v= .ref p/\(∀xs,SqL K H l xs->xs[i]? =some x)/\H' =upd H p (.tup [.int i,x]),λi H=>∃xs,SqL K H l xs/\xs.length<=i⟩
theorem Yx {P:Program}{w:World}{K:a8}{elts:List Expr}{kk:Nat}{pt:Pos}(e it l:Addr)(hei:e ≠ it)(hle:l ≠ e)(hli:l ≠ it):
  yG P w K (.Tuple elts kk pt) (Ite K l) [e,it] e (λi h=>(∃old,IsEnum h e it i old)/\h.IsListIter it l i) where
 mem:=by simp
 obj:=λi h st b hb=>by
  obtain⟨⟨old,he⟩,o,e1,c,d⟩:=st;rcases ah.mp hb with rfl | hb
  ·exact⟨_,he,λv z=>nomatch z⟩
  ·have z:b=it:=by simpa using hb
   subst z;exact⟨o,e1,λv z=>by rw[d]at z;cases z⟩
 keep:=λi h h' st k=>by
  obtain⟨⟨old,he⟩,hit⟩:=st;exact⟨⟨old,k e (by simp) _ he⟩,hit.at λo x=>k it (by simp) o x⟩
 item:=by
  intro X hP hw hK hc i pins s σ H E I hf st hg;subst hP hw hK;obtain⟨xs,x,hq,hx⟩:=hg;obtain⟨its,rv,p,hz⟩:=I.list hq;obtain⟨u,hu,ru⟩:=rv.get hx;obtain⟨⟨old,he⟩,hit⟩:=st;have hi:i < its.toArray.size:=by
   have:=(aw.mp hu).1;simpa using this
  refine(i6 (prog:=X.prog) (w:=X.w) (I.ok.hd hc) e it l hei hle hli its.toArray).item i s _ _ hi ⟨⟨old,he⟩,hit,p.isList⟩ λT vals h' tk hP hT hTup hM hk=> ?_;obtain⟨t,y,hy,rfl⟩:=hP;have hyu:y=u:=by
   have:its[i]? =some y:=by simpa using hy
   rw[hu]at this;exact(aH this).symm
  subst hyu;refine⟨.ref T,rfl, ?_⟩;refine(i6 (prog:=X.prog) (w:=X.w) (I.ok.hd hc) e it l hei hle hli its.toArray).go elts kk pt i T _ _ _ hM λh2 hst2 hk2=> ?_;have hTn:H T=none:=I.hok.fresh hT;have hTne:∀b∈[e,it],b ≠ T:=λb hb z=>by
   obtain⟨_,_,_,h3,h4⟩:=hM;rcases ah.mp hb with rfl | hb
   ·exact h3 z.symm
   ·have:b=it:=by simpa using hb
    subst this;exact h4 z.symm
  have uh:IsTup h2 T #[.int i t,y]:=by
   obtain⟨o,eo,r⟩:=hTup;exact⟨o,hk2 T o (λhb=>hTne T hb rfl) eo,r⟩
  refine⟨.ref T,upd H T (.tup [.int i,x]),Inv.laidT (s:=s) (h' :=h2) (ch:=[e,it]) (tk:=tk) I hf (λb o hb e=>hk2 b o hb (hk b o hb e)) (λb o hb _=> ?_) hT ⟨by rw[bO];show 2<=16777216;decide,[.int i t,y],.cons ⟨t,rfl⟩ (.cons ru .nil),uh,.inl ⟨_,_,rfl⟩⟩,rfl,⟨T,x,hTn,rfl,λys hy=>by rw[I.list_inj hy hq];exact hx,rfl⟩,⟨hst2.1,hst2.2.1⟩,λb hb=> ?_⟩
  ·obtain⟨⟨old2,he2⟩,⟨o2,eo2,_⟩,_⟩:=hst2;rcases ah.mp hb with rfl | hb
   ·exact⟨_,he2⟩
   ·have:b=it:=by simpa using hb
    subst this;exact⟨o2,eo2⟩
  ·rw[zv (hTne b hb)];exact(hf b hb).1
 done:=by
  intro X hP hw hK hc i pins s σ H E I hf st hg;subst hP hw hK;obtain⟨xs,hq,hx⟩:=hg;obtain⟨its,rv,p,hz⟩:=I.list hq;obtain⟨⟨old,he⟩,hit⟩:=st;have hl:=rv.length;refine wpAny_pyNext_enum_end (I.ok.hd hc) he hit p.isList (cb (by simp;omega)) λh' hk=>⟨rfl, ?_⟩
  obtain⟨f0,f1,f2,f3,f4,f5⟩:=hf it (by simp)
  exact I.turned (t' :=s.toks) (λb o hb e=>hk b o hb e) f0 f1 f3 f4 f5
 self:=λ_ _ _ _ _ st h=>let ⟨⟨_,he⟩,_⟩:=st;wpAny_pyIter_enum he h
noncomputable def jB (xs:List T):List T:=(xs.zipIdx).map λp=>T.tup [.int (p.2:Nat),p.1]
theorem WD {xs:List T}{i:Nat}{t:T}(h:(jB xs)[i]? =some t):∃x,xs[i]? =some x/\t= .tup [.int (i:Nat),x]:=by
 unfold jB at h;rw[ax,List.getElem?_zipIdx]at h;cases e:xs[i]? with
 | none=>rw[e]at h;cases h
 | some x=>rw[e]at h;cases h;exact⟨x,rfl,by simp⟩
theorem Jb (xs:List T):(jB xs).length=xs.length:=by unfold jB;simp
theorem xM {K:a8}{B1 H1:Hp}{a:Addr}{xs:List V}{ts:List T}(h:B1 a=some (.lst xs))(r:zI B1 xs ts):rI B1 H1 (Ite K a) (jB ts):=λB2 H2 s1 s2=>by
 have h2:=s2 _ _ (s1 _ _ h);rw[Jb];refine⟨λi hi=> ?_,λi t x H3 e y=> ?_,λi hi=>⟨xs,SqL.of h2,by rw[r.length];exact hi⟩⟩
 ·obtain⟨v,e,_⟩:=r.get (ag hi);exact⟨xs,v,SqL.of h2,e⟩
 ·obtain⟨p,v,hp,rfl,y,rfl⟩:=y;obtain⟨t',et,rfl⟩:=WD e;obtain⟨v',e1,r1⟩:=r.get et;have:=y xs (SqL.of h2);rw[e1]at this;cases this;refine⟨zy.new hp _,.tup (jc hp _) (.cons (.int _) (.cons ?_ .nil))⟩;exact(r1.mono s1).mono (zS.ge s2 (zy.new hp _))
section
variable {X:Cx}{Y:Fx}{a:Expr}{fa:En->R T}{pos p pt:Pos}{elts:List Expr}{kk:Nat}
theorem xN {ta:TA}(hg:Gl X "enumerate")(hm:X.mg "enumerate"=none)(ha:PA X [a] ta)(hs:St1 X a:=by exact st1 rfl):
  PI X (.Tuple elts kk pt) (.Call (.Name "enumerate" p) [a] [] pos) (λσ H R=>ta σ H λvs H1=>∃l xs,vs=[.ref l]/\H1 l=some (.lst xs)/\R (Ite X.K l) H1):=by
 intro pins s σ H R I h;refine Call_ (j8 I hg hm PyProof.Rows.Boot.«enumerate» (aQ (thn (ha pos _ s σ H _ I h) λus s1 ⟨vs,H1,I1,r1,q1⟩=> ?_) hs rfl));obtain⟨l,xs,e,hl,q⟩:=q1;subst e;obtain⟨u,rfl,ru⟩:=ZN r1;obtain rfl:u=Value.ref l:=ru;obtain⟨_,its,n,rv,eo⟩:=(show Zc _ X.w H1 _ l _ from I1.hok l _ hl);have hlt:=am eo;refine call_enumerate_1 eo λh' he hit hsz hk=>wpAny_pyIter_enum he ?_;have f:∀b∈[s1.heap.objs.size+1,s1.heap.objs.size],Wn X _ H1 b:=λb hb=>by
  rcases ah.mp hb with rfl | hb
  ·exact I1.fpOk (de _) (I1.hok.fresh (de _))
  ·have z:=by simpa using hb
   subst z;exact I1.fpOk (ai _) (I1.hok.fresh (ai _))
 exact⟨s1.heap.objs.size+1,[s1.heap.objs.size+1,s1.heap.objs.size],_,_,H1,rfl,I1.kept hk,Yx _ _ l (i7 _) (az (bQ hlt)) (az hlt),⟨⟨_,he⟩,hit⟩,f,q⟩
noncomputable def xO (fa:En->R T):En->R (List T):=λρ=>(fa ρ).bind λt=>match t with
 | .lst xs=> .ok (jB xs)
 | _=> .bad
theorem KH (hg:Gl X "enumerate")(hm:X.mg "enumerate"=none)(ha:Snd X Y a fa)(hs:St1 X a:=by exact st1 rfl):uu X Y (.Tuple elts kk pt) (.Call (.Name "enumerate" p) [a] [] pos) (xO fa):= .mk λρ=>
 PI.imp (xN hg hm (zH (ha ρ) Z5 hs) hs) λσ H R ⟨B,I,q⟩=>step I q λt v H1 _ s1 r1 I1 q1=>by
  cases r1 with
  | @lst l xs ts h r=>exact⟨l,xs,rfl,I1.sB _ _ h,ZS I1 (show Po Y rI _ H1 _ R from q1) (xM h r)⟩
  | _=>exact q1.elim
noncomputable def yK:List T->Option (List Str)
 | []=>some []
 | .str x :: r=>match yK r with | some ys=>some (x :: ys) | none=>none
 | _ :: _=>none
noncomputable def KI (sep:Str):T->R T
 | .lst ts=>match yK ts with
  | some ys=>if (ys.map (·.length)).sum+ys.length*sep.length<=16777216 then .ok (.str (Txt.join sep ys)) else .bad
  | none=> .bad
 | _=> .bad
theorem wQ {H:Hp}:∀{xs:List V} {ts:List T} {its:List Value} {ys:List Str},zI H xs ts->zZ xs its->yK ts=some ys->StrsAre its ys
 | _,_,_,ys,.nil,.nil,h=>by
  have h' :=h;cases h';exact .nil
 | _,_,_,ys,.cons r rs,.cons rv vs,h=>by
  cases r with
  | str x=>
   unfold yK at h;split at h
   ·rename_i zs e;cases h;obtain⟨tk,rfl⟩:=rv;exact .cons x tk (wQ rs vs e)
   ·cases h
  | _=>cases h
theorem xP:MtR X "str.join" (λx xs H Q=>∃z l zs ts ys,x= .str z/\xs=[.ref l]/\H l=some (.lst zs)/\zI H zs ts/\yK ts=some ys/\(ys.map (·.length)).sum+ys.length*z.length<=16777216/\Q (.str (Txt.join z ys)) H):=by
 intro pins s σ H x xs v us Q I rx rv h;obtain⟨z,l,zs,ts,ys,rfl,rfl,hl,r,e,hb,q⟩:=h;obtain⟨t,rfl⟩:=rx;obtain⟨u,rfl,ru⟩:=ZN rv;obtain rfl:u=Value.ref l:=ru;obtain⟨its,rv,p,_⟩:=zV I (.inl hl) r;exact join_list p (by simpa using wQ r rv e) hb λt' k=>⟨.str _,H,I.tok k,⟨t',rfl⟩,q⟩
theorem KJ {z:Str}{kc:Nat}{pz pa:Pos}(ha:jz X Y a fa)(hb:attributeBase (.Constant (.str z) kc pz) "join" X.env (eval (.Constant (.str z) kc pz) X.env)=eval (.Constant (.str z) kc pz) X.env:=by rfl)(hs:St1 X a:=by exact st1 rfl)
  (hz:(pa.endLine == p.line)=true:=by rfl):Snd X Y (.Call (.Attribute (.Constant (.str z) kc pz) "join" pa) [a] [] p) (ap1 (KI z) fa):= .mk λρ=>by
 have e1:(((((backTo p (starEach [a] X.env)).all λx=> !x.fst) && (backToKw p (keywordEach [] X.env)).all λx=>x.fst.isSome) && decide (([a].length+([]:List Keyword).length+if ([]:List Keyword).isEmpty=true then 0 else 1) < 30))=true):=by rw[hs];rfl
 refine PE.imp (QV PySem.F.plainAttrs_str PySem.F.slot_str_join PySem.F.type_str_join xP V8 (zH (ha ρ) Z5 hs) hb e1 hz hs rfl) λσ H Q ⟨B,I,q⟩=> ?_;refine⟨rfl,step I q λt v H1 _ s1 r1 I1 q1=> ?_⟩;cases r1 with
 | @lst l xs ts h r=>
  have q1:Po Y rC _ H1 (match yK ts with | some ys=>if (ys.map _).sum+ys.length*z.length<=16777216 then .ok _ else .bad | none=> .bad) Q:=q1
  split at q1
  ·rename_i ys e;split at q1
   ·rename_i hl;exact⟨z,l,xs,ts,ys,rfl,rfl,h,r,e,hl,po0 I1.sB q1 rfl (.str _)⟩
   ·exact q1.elim
  ·exact q1.elim
 | _=>exact q1.elim
end
noncomputable def dd:List Str->List Str->List Str
 | acc,[]=>acc
 | acc,x :: r=>dd (if x∈acc then acc else acc++[x]) r
section
variable {prog:Program}{w:World}{A:Around}{R:Result->Shared->Prop}{I:Addr}{fp wr:List Addr}{n:Nat}{P:Nat->Value->Prop}{St:Nat->Heap->Prop}
theorem jl {h h' :Heap}{S:Addr}{f g:Str->Bool}{m k:Nat}(x:h.SetOf (strKind prog w) S f m)(e:∀o,h.get? S=some o->h'.get? S=some o)(ef:f=g)(em:m=k):h'.SetOf (strKind prog w) S g k:=by
 subst ef em;obtain⟨o,es,ep,t,ho,r⟩:=x;exact⟨o,es,ep,t,e o ho,r⟩
theorem vk (W:Walks prog w A.in1 I fp wr n P St)(S:Addr)(hSf:S ∉ fp)(val:Nat->Str)(hval:∀i v,P i v->∃t,v=Value.str (val i) t)(hb:n+1 < scanBound):
  ∀(k i:Nat) (acc:List Str) (s:Shared),n - i=k->i<=n->acc.length<=i->St i s.heap->s.heap.SetOf (strKind prog w) S (λx=>decide (x∈acc)) acc.length->
   (∀h' tk,(∀b o,b ∉ S :: wr->s.heap.get? b=some o->h'.get? b=some o)->h'.SetOf (strKind prog w) S (λx=>decide (x∈dd acc ((ik i k).map val))) (dd acc ((ik i k).map val)).length->
    R (.ok (.ret .none)) { s with heap:=h',toks:=tk })->codeAny (model prog w) A (.builtin "set.update.loop" ⟨[.ref S,.ref I],[]⟩) R s:=by
 intro k
 induction k with
 | zero=>
  intro i acc s hk hi hal hst hS hR;obtain rfl:i=n:=by omega
  refine bH eD ?_;refine a7 (W.done s _ _ hst λh' tk hk' =>ak ?_);exact hR h' tk (λb o hb e=>hk' b o (λz=>hb (a9 _ z)) e) (jl hS (λo e=>hk' S o (λz=>hSf (W.sub _ z)) e) rfl rfl)
 | succ k ih=>
  intro i acc s hk hi hal hst hS hR;refine bH eD ?_;refine a7 (W.item i s _ _ (by omega) hst λv h1 tk1 hP hst1 hk1=> ?_)
  obtain⟨t,rfl⟩:=hval i v hP;have hS1:=jl hS (λo e=>hk1 S o (λz=>hSf (W.sub _ z)) e) rfl rfl;refine a7 (m:=holding _ _) (cu ?_);unfold setAdd;have isk:(strKind prog w).is (val i) (.str (val i) t)=true:=strKind_is _ _ _ _;refine cu (a7 ((strKind _ w).pyHash isk ?_));refine wpAny_setAddHashed_of isk rfl hS1 (by omega) λh2 hsb hS2=> ?_
  have e2:(if decide (val i∈acc)=true then acc.length else acc.length+1)=(if val i∈acc then acc else acc++[val i]).length:=by
   by_cases hm:val i∈acc
   ·simp[hm]
   ·simp[hm]
  have e1:(λx=>decide (x∈acc) || decide (x=val i))=(λx=>decide (x∈(if val i∈acc then acc else acc++[val i]))):=by
   funext x
   by_cases hm:val i∈acc
   ·simp only[if_pos hm]
    by_cases hx:x=val i
    ·subst hx;simp[hm]
    ·simp[hx]
   ·simp[hm,Bool.decide_or]
  have hS3:=jl hS2 (λo e=>e) e1 e2;refine ak ⟨cN F.plain_set_update_loop _,ih _ _ _ (by omega) (by omega) ?_ (W.frame _ h1 _ hst1 λb hb o e=> ?_) hS3 λh3 tk3 hk3 hS4=> ?_⟩
  ·split
   ·omega
   ·rw[av,aF];omega
  ·exact(hsb.2 b (λz=>hSf (z ▸ hb))).trans e
  ·refine hR h3 tk3 (λb o hb e=>hk3 b o hb ?_) hS4;exact(hsb.2 b (λz=>hb (z ▸ ad))).trans (hk1 b o (λz=>hb (a9 _ z)) e)
end
section
variable {prog:Program}{w:World}{A:Around}{E:Value->Shared->Prop}{s:Shared}
set_option maxRecDepth 100000 in
set_option maxHeartbeats 3200000 in
theorem Yy {l:Addr}{its:List Value}{ys:List Str}{Q:Value->Shared->Prop}(hh:A.handled=none)(hl:s.heap.IsList l its.toArray)(hi:StrsAre its ys)(hb:its.length+1 < scanBound)
  (h:∀(h' :Heap) (tk:Nat),h'.SetOf (strKind prog w) s.heap.objs.size (λx=>decide (x∈dd [] ys)) (dd [] ys).length->(∀b o,b < s.heap.objs.size->s.heap.get? b=some o->h'.get? b=some o)->
   Q (.ref s.heap.objs.size) { s with heap:=h',toks:=tk }):wpAny (model prog w) A (call (.type "set") [.ref l]) Q E s:=by
 have getv:∀{its:List Value} {ys:List Str},StrsAre its ys->its.length=ys.length/\∀(i:Nat) (v:Value),its[i]? =some v->∃t,v=Value.str (ys.getD i ⟨#[]⟩) t:=λ{its ys} hi=>by
  induction hi with
  | nil=>exact⟨rfl,λi v e=>by simp at e⟩
  | cons y t _ ih=>
   refine⟨by simp[ih.1],λi v e=> ?_⟩
   cases i with
   | zero=>exact⟨t,by simpa using e.symm⟩
   | succ i=>exact ih.2 i v (by simpa using e)
 obtain⟨hlen,hget⟩:=getv hi;have hys:(ik 0 its.length).map (λi=>ys.getD i ⟨#[]⟩)=ys:=by
  rw[hlen];refine cY λi=> ?_;rw[ax]
  by_cases hi' :i < ys.length
  ·rw[List.getElem?_range' hi',ag hi'];simp[ag hi']
  ·rw[aP (by simp;omega),aP (by omega)]
   rfl
 obtain⟨c,tl,hmro⟩:=ce.mro;have hmade:=ce.made;have hsub:=ce.sub;have h1:=ce.notType;have h2:=ce.canCreate;have hct:=F.typeCall_set_1 (.ref l);refine wpAny_call (codeAny_of_tree (show wpAny _ _ (callAny (.type "set") _) _ _ _ from ?_));refine ak ⟨Code.quiet_builtin _ (by decide+kernel),bH F.entry_type_call ?_⟩
 rw[Around.under_plain (weight_type_call_type "set" [.ref l] []) rfl]
 repeat any_goals (first | assumption | wp_step)
 refine cU (code_set_new_1 (.ref l) (E:=E) (Q₁:=λobj s₁=>∃led:Bool,obj= .ref s.heap.objs.size/\s₁={ s with heap:=s.heap.push { cls:= .type "set",dict:=none,data:= .set #[] 0 (.fresh 0 0 led) } }) λled=>⟨led,rfl,rfl⟩) λr s₁ hr=> ?_;cases r with
 | error e=>exact hr
 | ok fl=>
  cases fl with
  | ret obj=>
   obtain⟨led,rfl,rfl⟩:=hr;generalize hG:s.heap.push { cls:= .type "set",dict:=none,data:= .set #[] 0 (.fresh 0 0 led) }=G;have hS:G.get? s.heap.objs.size=some { cls:= .type "set",dict:=none,data:= .set #[] 0 (.fresh 0 0 led) }:=by rw[← hG];exact af _ rfl
   have hGs:G.objs.size=s.heap.objs.size+1:=by rw[← hG,bx]
   have hGk:∀b o,s.heap.get? b=some o->G.get? b=some o:=λb o e=>by rw[← hG];exact ab _ e
   have hT:fA { s with heap:=G } (.ref s.heap.objs.size) "set":=⟨_,hS,rfl⟩;have hli:=ce.init.lookup;have hbi:=ce.init.bind (.ref s.heap.objs.size)
   repeat any_goals (first | assumption | wp_step)
   refine cU (codeAny_call_builtin (R:=wants (λr s₂=>r= .none/\∃h' tk,s₂={ s with heap:=h',toks:=tk }/\h'.SetOf (strKind prog w) s.heap.objs.size (λx=>decide (x∈dd [] ys)) (dd [] ys).length/\
     (∀b o,b < s.heap.objs.size->s.heap.get? b=some o->h'.get? b=some o)) E) ce.init.plain F.entry_set_init (check_set_init_1 hT ?_)) λr₂ s₂ hr₂=> ?_
   ·obtain⟨⟨ocls,odict,odata,oslots⟩,hol,hcl,nl,hdl⟩:=hl;simp only at hcl hdl;subst hcl;subst hdl;have hol' :=hGk _ _ hol;have hsls:=F.sub_list_set;have hslf:=F.sub_list_frozenset;have hne:(Value.type "list" == Value.type "dict")=false:=by decide
    have hl1:G.IsList l its.toArray:=⟨_,hol',rfl,nl,rfl⟩;have hlS:l < s.heap.objs.size:=am hol;unfold Builtin.«set.__init__» noKeywords Builtin.Frozenset.updateFrom;generalize hPI:pyIter=PI
    wp_walk
    subst hPI;refine wpAny_pyIter_list hl1 (a7 (wpAny_runValue ?_));have hSf:s.heap.objs.size ∉ [G.objs.size,l]:=by
     rw[hGs];intro z;rcases ah.mp z with z | z
     ·exact absurd z (az (bW _))
     ·exact absurd (aG.mp z) (dn hlS)
    refine vk (iD (A:=A.in1.in1.in1) (by simp[hh]) G.objs.size l (by rw[hGs];exact az (bQ hlS)) its.toArray) s.heap.objs.size hSf (λi=>ys.getD i ⟨#[]⟩) (λi v e=>hget i v (by simpa using e)) (by simpa using hb) its.length 0 [] _ (by simp) (b9 _) (ai _)
     ⟨⟨_,af _ rfl,rfl,rfl⟩,hl1.push _⟩ ?_ ?_
    ·have hget' :(G.push { cls:= .type "list_iterator",data:= .fields #[.ref l,.int 0 0] }).get? s.heap.objs.size=some { cls:= .type "set",dict:=none,data:= .set #[] 0 (.fresh 0 0 led) }:=ab _ hS;exact jl ((PyProof.Rows.setObjOf_fresh (knd:=strKind prog w) led).setOf hget' (by unfold scanBound;omega)) (λo e=>e) (by funext x;simp) rfl
    ·intro h' tk' hm hS';rw[hys]at hS';refine ak (show wpAny _ _ (ret Value.none) _ _ _ from ak ⟨rfl,h',tk',rfl,hS',λb o hb e=> ?_⟩);refine hm b o (λz=> ?_) (ab _ (hGk b o e));rcases ah.mp z with z | z
     ·exact absurd z (az hb)
     ·have z' :b=G.objs.size:=aG.mp z;rw[hGs]at z';exact absurd z' (az (bQ hb))
   ·cases r₂ with
    | error e=>exact hr₂
    | ok fl₂=>
     cases fl₂ with
     | ret r=>
      obtain⟨rfl,h',tk,rfl,hS',hk'⟩:=hr₂
      repeat any_goals (first | assumption | wp_step)
      exact h _ _ hS' hk'
     | _=>exact hr₂.elim
  | _=>exact hr.elim
end
section
variable {X:Cx}{Y:Fx}{a b:Expr}{fa fb:En->R T}{pos pos' p p' :Pos}
theorem Yz (hh:X.A.handled=none):Zt X (.type "set") (λvs H Q=>∃l xs ts ys,vs=[.ref l]/\H l=some (.lst xs)/\zI H xs ts/\yK ts=some ys/\ts.length+1 < 4096/\
  ∀q,H q=none->Q (.ref q) (upd H q (.ext λh=>h.SetOf (strKind X.prog X.w) q (λx=>decide (x∈dd [] ys)) (dd [] ys).length))):=by
 intro pins s σ H vs us Q I rv h;obtain⟨l,xs,ts,ys,rfl,hl,r,ey,hb,q⟩:=h;obtain⟨u,rfl,ru⟩:=ZN rv;obtain rfl:u=Value.ref l:=ru;obtain⟨its,rv,pl,hln,_⟩:=zV I (.inl hl) r;refine Yy hh pl (wQ r rv ey) (by unfold scanBound;omega) λh' tk hS hk=> ?_
 refine⟨.ref _,_,I.laid (λb u e=>hk b u (am e) e) (ai _) ?_,rfl,q _ (I.hok.fresh (ai _))⟩;obtain⟨o,es,ep,t,ho,rr⟩:=id hS;exact⟨hS,⟨o,ho⟩,λh1 h2 ⟨o1,es1,ep1,t1,ho1,rr1⟩ e=>⟨o1,es1,ep1,t1,e _ ho1,rr1⟩⟩
theorem YA:Zt X (.builtin "len") (λvs H Q=>∃q φ f n,vs=[.ref q]/\H q=some (.ext φ)/\(∀h:Heap,φ h->h.SetOf (strKind X.prog X.w) q f n)/\Q (.int n) H):=by
 intro pins s σ H vs us Q I rv h;obtain⟨l,φ,f,n,rfl,hl,hφ,q⟩:=h;obtain⟨u,rfl,ru⟩:=ZN rv;obtain rfl:u=Value.ref l:=ru;obtain⟨h1,_,_⟩:=(show Zc _ X.w H _ l _ from I.hok l _ hl);obtain⟨o,es,ep,t,ho,hex,hd,_,_,hb,hf,hn⟩:=hφ _ h1;refine call_len_set ho hex hd hf ?_ ⟨.int _,H,I.tok _,⟨_,rfl⟩,by rw[hn];exact q⟩
 have:es.size < 4096:=hb;omega
noncomputable def vm:T->R T
 | .lst ts=>match yK ts with
  | some ys=>if ts.length+1 < 4096 then .ok (.int (dd [] ys).length) else .bad
  | none=> .bad
 | _=> .bad
theorem KK (hh:X.A.handled=none)(gl:Gl X "len")(mg:X.mg "len"=none)(gl' :Gl X "set")(mg' :X.mg "set"=none)(ha:jz X Y a fa)(hs:St1 X a:=by exact st1 rfl)(hs' :St1 X (.Call (.Name "set" p') [a] [] pos'):=by exact st1 rfl):
  Snd X Y (.Call (.Name "len" p) [.Call (.Name "set" p') [a] [] pos'] [] pos) (ap1 vm fa):= .mk λρ=>
 PE.imp (jG YA gl mg PySem.boot_len (zH (ZU (Yz hh) gl' mg' PyProof.Rows.Boot.«set» (zH (ha ρ) Z5 hs) (by decide) (by decide) hs rfl) Z5 hs') (by decide) (by decide) hs' rfl) λσ H Q ⟨B,I,q⟩=>
  step I q λt v H1 _ s1 r1 I1 q1=>by
   cases r1 with
   | @lst l xs ts h r=>
    have q1:Po Y rC _ H1 (match yK ts with | some ys=>if ts.length+1 < 4096 then .ok _ else .bad | none=> .bad) Q:=q1
    split at q1
    ·rename_i ys e;split at q1
     ·rename_i hl;refine⟨l,xs,ts,ys,rfl,h,r,e,hl,λz hz=>⟨z,_,_,_,rfl,zC,λh hh=>hh, ?_⟩⟩;exact q1 _ _ (zy.new hz _) (.int _)
     ·exact q1.elim
    ·exact q1.elim
   | _=>exact q1.elim
noncomputable def uw (i j:Nat)(ga:En->R (List T)):En->RS:=λρ=>(ga ρ).s λts=>match ts with
 | [x,y]=> .nx ((ρ.set i (.vl x)).set j (.vl y))
 | _=> .bad
theorem z1A {i j:Nat}{x y:Str}{ga:En->R (List T)}{px py pt pt2:Pos}{kt k2:Nat}(hc:X.calm=true)(hN:X.N.Nodup)(hi:X.N[i]? =some x)(hj:X.N[j]? =some y)(hij:i ≠ j)(hx:X.env.scope.names.lookup x=some .local)(hy:X.env.scope.names.lookup y=some .local)
  (ha:We X Y [a,b] ga) (hs:swappedStores [.Tuple [.Name x px,.Name y py] kt pt] (.Tuple [a,b] k2 pt2) X.env=pure (some [x,y])) (hw:swapsWithSole [.Tuple [.Name x px,.Name y py] kt pt] (.Tuple [a,b] k2 pt2) pos.line X.env=pure false:=by rfl):
  jO X Y (.Assign [.Tuple [.Name x px,.Name y py] kt pt] (.Tuple [a,b] k2 pt2) pos) (uw i j ga):= .mk λρ=>
 PS.imp (kM hc hN hi hj hij hx hy (ha ρ) hs hw) λD σ H ⟨B,I,q⟩=>jr I q λts vs H1 _ s1 r1 I1 q1=>by
  cases r1 with
  | nil=>exact q1.elim
  | cons r rr=>
   cases rr with
   | nil=>exact q1.elim
   | cons r' rr=>
    cases rr with
    | cons _ _=>exact q1.elim
    | nil=>exact⟨_,_,rfl,q1 _ _ _ (zy.refl _) ((I1.setV i r).setV j r')⟩
end
theorem KL {X:Cx}{E:XK}:Zu CX0 X E:=λ_ _ _ _ _ _ _ h=>h.elim
section
variable {X:Cx}{Y:Fx}{a b:Expr}{fa fb:En->R T}{pos pos' p p' :Pos}
theorem xQ {cl:Nat->Value}{k j n:Nat}{f:Addr}{fd:FuncData}{ps:List Str}{g:List T->R T}{x:Str}{es:List Expr}{ga:En->R (List T)}(hy:Y.cl=cl)(F:jw X.prog X.w X.K X.mg X.base CX0 j f fd ps (spP cl n g))(hr:j3 k X.A)(hj:j<=k)(gl:Gl X x)
  (mg:X.mg x=some (.ref f)) (kp:bu X.K (.ref f)=true) (bd:L2.Binds X.K fd ps []) (ha:We X Y (a :: es) ga) (hd:(x == ("__debug__":Str))=false:=by decide)
  (hs:starEach (a :: es) X.env=(false,eval a X.env) :: starEach es X.env:=by exact zX rfl) (hz:((backTo pos (starEach es X.env)).any λx=>x.fst)=false:=by exact ZB rfl):Snd X Y (.Call (.Name x p) (a :: es) [] pos) (za n g ga):=by
 subst hy;exact Ks F (hr.mono hj) gl mg kp bd KL ha hd hs hz
theorem wR {x:Str}{i:Int}{u:Value}(gl:Gl X x)(mg:X.mg x=some u)(hu:∃t,u=Value.int i t)(hd:(x == ("__debug__":Str))=false:=by decide):Snd X Y (.Name x pos) (cE (.int i)):= .mk λρ=>
 PE.imp (VR (v:= .int i) gl mg hu hd) λσ H Q ⟨B,I,q⟩=>ZS I q (.int i)
end
noncomputable def GT (scope sc0:Scope):Bool:=(scope.kind == .function) && scope.names.all (λx=>x.2 != .cell) && scope.names.all (λx=>x.2 != .local || scope.names.lookup x.1 == some .local) &&
 scope.names.all (λx=>x.2 != .free || sc0.names.lookup x.1 == some .cell || sc0.names.lookup x.1 == some .free)
theorem KM {X:Cx}{scope:Scope}(sc0:Scope)(h0:X.env.scope=sc0)(h:GT scope sc0=true):CSc X scope:=by
 unfold GT at h;simp only[ae,aL]at h;obtain⟨⟨⟨h1,h2⟩,h3⟩,h4⟩:=h;refine⟨eq_of_beq h1,λx hx=>by simpa using h2 x hx,λx hx hl=> ?_,λx hx hf=> ?_⟩
 ·have:=h3 x hx;rw[hl]at this;simpa using this
 ·have:=h4 x hx;rw[hf]at this;show X.env.scope.names.lookup x.1=_\/X.env.scope.names.lookup x.1=_;rw[h0];simpa using this
noncomputable def GU (N N' :List Str)(scope sc0:Scope)(k:Nat)(js:List Nat):Bool:=(N'.length == k+js.length) && (aT js.length).all λi=>match js[i]? with
 | none=>true
 | some j=>match N'[k+i]?,N[j]? with
  | some x,some y=>(x == y) && (sc0.names.lookup x == some .cell || sc0.names.lookup x == some .free) && (scope.names.lookup x == some .free)
  | _,_=>false
theorem xR {X:Cx}{scope:Scope}{N' :List Str}{k:Nat}{js:List Nat}(N:List Str)(sc0:Scope)(hN:X.N=N)(h0:X.env.scope=sc0)(h:GU N N' scope sc0 k js=true):z1y X scope N' k js:=by
 unfold GU at h;simp only[ae,aL]at h;obtain⟨h1,h2⟩:=h;refine⟨eq_of_beq h1,λi j e=> ?_⟩;have hi:=(aw.mp e).1;have q:=h2 i (bg.mpr hi);rw[e]at q;dsimp only at q;split at q
 ·rename_i x y e1 e2;simp only[ae,iu,beq_iff_eq]at q;obtain⟨⟨rfl,q2⟩,q3⟩:=q;refine⟨x,e1,by rw[hN];exact e2, ?_,q3, ?_⟩
  ·rw[h0];exact .inr q2
  ·show X.env.scope.names.lookup x=_\/X.env.scope.names.lookup x=_;rw[h0];exact q2
 ·cases q
theorem Vo {X:Cx}{Y:Fx}{tg iter elt:Expr}{ifs:List Expr}{scope:Scope}{k:Nat}{js:List Nat}{fi:En->R (List T)}{tG:TG}{g:T->En->R En}{ft:En->R Bool}{fe:En->R T}(N' :List Str)(N:List Str)(sc0:Scope)(hN:X.N=N)(h0:X.env.scope=sc0)
  (h:(GT scope sc0 && GU N N' scope sc0 k js)=true) (cm:X.calm=true) (it:uu X Y tg iter fi) (gt:Vm X scope N' λXC=>PG XC tg tG) (gk:GOk tG g) (gn:GNo g) (tt:∀Y',Y'.cl=Y.cl->Vm X scope N' λXC=>wP XC Y' ifs ft)
  (el:∀Y',Y'.cl=Y.cl->KA X scope N' Y'.E λXC=>Snd XC Y' elt fe) (hs:∀x,foldedSetIterable iter X.env x=pure x:=by intro _;rfl):wm X Y tg iter elt ifs scope N' k js fi tG g ft fe:=by
 rw[ae]at h;exact⟨KM sc0 h0 h.1,xR N sc0 hN h0 h.2,cm,it,gt,gk,gn,tt,el,hs⟩
end PV
namespace PV
open PySem PySem.Spec PyProof.Rows L2 PySem.W
section
variable {P:Program}{w:World}{K:a8}{mg:Str->Option Value}{base:Heap}{N:List Str}{qual:Str}{scope:Scope}{f:Addr}{cd:Value}{A:Around}{outer:List Env}{s:Shared}{H:Hp}{E:XK}{Y:Fx}
theorem Fun.okX {x qual:Str}{st:Stmt}{f:Addr}{fd:FuncData}{N ps:List Str}{k:Nat}{sp:Sp}(F:Fun K x qual st f fd)(S:ja N ps (zx st))(len:∀vs H Q E,sp vs H Q E->vs.length=ps.length)
  (hbody:∀(cdv:Value) (A:Around) (outer:List Env) (s:Shared) (H:Hp) (vs:List V) (Q:VK) (E:XK),j3 k (A.deeper (envOfC qual (zx st) s.heap.objs.size f cdv))->sp vs H Q E->
   ∃t,PSs (ud (CX1 P w) P w K mg base N qual (zx st) f cdv A outer s H E) (zT st) t/\t { nx:=λ_ H' =>Q .non H',rt:=Q } (start N vs) H):jw P w K mg base (CX1 P w) (k+1) f fd ps sp:=by
 obtain⟨oc,od,kV,doc,pm,an,cdv,ct,osl,rfl,lk,hcd⟩:=F.ex;exact K0 lk hcd S len λA outer s H vs Q E hr hsp=>hbody cdv A _ s H vs Q E hr hsp
end
end PV
namespace PySem.W
open PySem PySem.Calls PyProof.Rows PySem.Spec Builtin Builtin.ObjectAttr Builtin.Getset_descriptor
end PySem.W
namespace PySem.W
open PySem PySem.Calls PyProof.Rows PySem.Spec Builtin Builtin.ObjectAttr Builtin.Getset_descriptor
end PySem.W
namespace PySem.W
open PySem PySem.Calls PyProof.Rows PySem.Spec Builtin Builtin.ObjectAttr Builtin.Getset_descriptor
end PySem.W
namespace PV
open PySem PySem.Spec PyProof.Rows L2 PySem.W
end PV
namespace PySem.ZG
open PySem PySem.Spec PySem.Builtin.SmallTypes
structure ux (i:Addr) (fp:List Addr) (v:Nat->Option Value) (St:Nat->Heap->Prop):Prop where
 mem:i∈fp
 item:∀{prog:Program} {w:World} {A:Around} {E:Value->Shared->Prop} {s:Shared} {Q:Value->Shared->Prop} {k:Nat} {x:Value},St k s.heap->v k=some x->(∀h',St (k+1) h' ->bN i s.heap h' ->Q x { s with heap:=h' })->wpAny (model prog w) A (nextOf (.ref i)) Q E s
 stop:∀{prog:Program} {w:World} {A:Around} {E:Value->Shared->Prop} {s:Shared} {Q:Value->Shared->Prop} {k:Nat},A.handled=none->St k s.heap->v k=none->(∀h' e,f9 i s.heap h' ->(∃o,h'.get? e=some o/\o.cls= .type "StopIteration")->E (.ref e) { s with heap:=h' })->wpAny (model prog w) A (nextOf (.ref i)) Q E s
 keep:∀{k:Nat} {h h' :Heap},St k h->(∀b∈fp,∀o,h.get? b=some o->h'.get? b=some o)->St k h'
 there:∀{k:Nat} {h:Heap},St k h->∀b∈fp,∃o,h.get? b=some o
theorem ux.but {i:Addr}{fp:List Addr}{v:Nat->Option Value}{St:Nat->Heap->Prop}(N:ux i fp v St){k:Nat}{h h' :Heap}{b:Addr}(x:St k h)(e:f9 b h h')(n:b ∉ fp):St k h' :=
 N.keep x λc hc o q=>e c o (λz=>n (z ▸ hc)) q
theorem xS {i l:Addr}(hil:l ≠ i)(xs:Array Value):ux i [i,l] (λk=>xs[k]?) (λk h=>h.IsListIter i l k/\h.IsList l xs) where
 mem:= .head _
 item:=λst hx h=>wpAny_nextOf_list_item st.1 st.2 hx λh' a b=>h h' ⟨a,st.2.extBut b.extBut hil⟩ b
 stop:=λhh st hx h=>wpAny_nextOf_list_end hh st.1 st.2 hx h
 keep:=λst k=>⟨st.1.at λo e=>k i (.head _) o e,st.2.at λo e=>k l (.tail _ (.head _)) o e⟩
 there:=λst b hb=>by
  obtain⟨⟨o,e,_⟩,o2,e2,_⟩:=st;rcases ah.mp hb with z | hb
  ·exact⟨o,z ▸ e⟩
  ·exact⟨o2,(aG.mp hb) ▸ e2⟩
end PySem.ZG
namespace PySem.ZG
open PySem PySem.Spec PySem.Builtin.SmallTypes
section
variable {prog:Program}{w:World}{A:Around}{E:Value->Shared->Prop}{s:Shared}{it l:Addr}{k:Nat}{xs:Array Value}{Q:Value->Shared->Prop}
theorem U5 (hit:s.heap.IsTupleIter it l k)(h:wpAny (model prog w) A.in1 (Builtin.«tuple_iterator.__next__» ⟨[.ref it],[]⟩) (λfin s' =>∃v,fin= .done (.ret v)/\Q v s') E s):wpAny (model prog w) A (nextOf (.ref it)) Q E s:=by
 exact a7 (bi hit.typeIs c_ (bB c_ hit.typeIs PySem.F.entry_tuple_iterator_next
  (d7 h (λfin s' ⟨v,e,q⟩=>⟨v,e,ak q⟩) λ_ _ z=>z) (PySem.F.args_tuple_iterator_next_1 _)))
theorem tup_item (hit:s.heap.IsTupleIter it l k)(ht:s.heap.IsTuple l xs){x:Value}(hx:xs[k]? =some x)(h:∀h',h'.IsTupleIter it l (k+1)->bN it s.heap h' ->Q x { s with heap:=h' }):wpAny (model prog w) A (nextOf (.ref it)) Q E s:=by
 refine U5 hit ?_;obtain⟨o,ho,hc,hd⟩:=id hit;obtain⟨ol,hol,_,nl,hdl⟩:=ht;refine a7 (m:=field _ 0) (b6 ho hd rfl ?_);refine a7 (b6 ho hd rfl (a7 (bE hol hdl ?_)));simp only[bc,hx];have g:=Heap.get?_update_self (Obj.mapFields (·.setIfInBounds 1 (rawInt (k+1)))) ho (Obj.isFreed_of_fields (fH hd _));refine a7 (wpAny_setField ho hd (by simp) (ak ⟨x,rfl,h _ ⟨_,g,(Obj.cls_mapFields ..).trans hc, ?_⟩ (fu ..)⟩))
 rw[fH hd];simp[rawInt]
theorem tup_stop (hh:A.handled=none)(hit:s.heap.IsTupleIter it l k)(ht:s.heap.IsTuple l xs)(hx:xs[k]? =none)
  (h:∀h' e,f9 it s.heap h' ->(∃o,h'.get? e=some o/\o.cls= .type "StopIteration")->E (.ref e) { s with heap:=h' }):wpAny (model prog w) A (nextOf (.ref it)) Q E s:=by
 refine U5 hit ?_;obtain⟨o,ho,hc,hd⟩:=id hit;obtain⟨ol,hol,_,nl,hdl⟩:=ht;refine a7 (m:=field _ 0) (b6 ho hd rfl ?_);refine a7 (b6 ho hd rfl (a7 (bE hol hdl ?_)));simp only[bc,hx];refine a7 (cP (a7 (wpAny_setField ho hd (by simp) (a7 ?_))))
 refine a7 (a_ (a7 (bR (by first | rfl | (simp only[firstArgMember])) (a_ ?_ (by size_fits)))) (by size_fits))
 refine a7 (wpAny_handled ?_);rw[hh];exact a7 (ak (wpAny_throw (h _ _ (((fu ..).extBut.push _).push _) ⟨_,af _ rfl,rfl⟩)))
end
theorem nx_tup {i l:Addr}(hil:l ≠ i)(xs:Array Value):ux i [i,l] (λk=>xs[k]?) (λk h=>h.IsTupleIter i l k/\h.IsTuple l xs) where
 mem:= .head _
 item:=λst hx h=>tup_item st.1 st.2 hx λh' a b=>h h' ⟨a,st.2.extBut b.extBut hil⟩ b
 stop:=λhh st hx h=>tup_stop hh st.1 st.2 hx h
 keep:=λst k=>by
  obtain⟨⟨o,e,r⟩,o2,e2,r2⟩:=st;exact⟨⟨o,k i (.head _) o e,r⟩,o2,k l (.tail _ (.head _)) o2 e2,r2⟩
 there:=λst b hb=>by
  obtain⟨⟨o,e,_⟩,o2,e2,_⟩:=st;rcases ah.mp hb with z | hb
  ·exact⟨o,z ▸ e⟩
  ·exact⟨o2,(aG.mp hb) ▸ e2⟩
end PySem.ZG
namespace PySem.ZG
open PySem PySem.Spec PySem.Builtin.SmallTypes
structure Ap (z TI TO i1 i2:Addr) (fp1 fp2:List Addr):Prop where
 Iz:TI ≠ z
 Oz:TO ≠ z
 IO:TI ≠ TO
 I1:TI ≠ i1
 I2:TI ≠ i2
 z1:z ∉ fp1
 z2:z ∉ fp2
 O1:TO ∉ fp1
 O2:TO ∉ fp2
 a:i1 ∉ fp2
 b:i2 ∉ fp1
section
variable {prog:Program}{w:World}{A:Around}{E:Value->Shared->Prop}{s:Shared}{z TI TO i1 i2:Addr}{fp1 fp2:List Addr}{v1 v2:Nat->Option Value}{S1 S2:Nat->Heap->Prop}{k:Nat}{x y a b:Value}
theorem Ap.ne1 (D:Ap z TI TO i1 i2 fp1 fp2)(N1:ux i1 fp1 v1 S1):i1 ≠ z/\i1 ≠ TO:=⟨λe=>D.z1 (e ▸ N1.mem),λe=>D.O1 (e ▸ N1.mem)⟩
theorem Ap.ne2 (D:Ap z TI TO i1 i2 fp1 fp2)(N2:ux i2 fp2 v2 S2):i2 ≠ z/\i2 ≠ TO:=⟨λe=>D.z2 (e ▸ N2.mem),λe=>D.O2 (e ▸ N2.mem)⟩
theorem xT {Q:Value->Shared->Prop}(N1:ux i1 fp1 v1 S1)(N2:ux i2 fp2 v2 S2)(D:Ap z TI TO i1 i2 fp1 fp2)(hz:IsZip s.heap z TI TO .none)(hTI:IsPair s.heap TI (.ref i1) (.ref i2))(hTO:IsPair s.heap TO a b)(p1:S1 k s.heap)(p2:S2 k s.heap)(hx:v1 k=some x)(hy:v2 k=some y)
  (hQ:∀h',IsZip h' z TI TO (rawInt s.heap.objs.size)->IsPair h' TO x y->S1 (k+1) h' ->S2 (k+1) h' ->IsPair h' s.heap.objs.size x y->
   (∀c o,c ≠ z->c ≠ TO->c ≠ i1->c ≠ i2->s.heap.get? c=some o->h'.get? c=some o)->Q (.ref s.heap.objs.size) { s with heap:=h' }):
  wpAny (model prog w) A (Builtin.«zip.__next__» ⟨[.ref z],[]⟩) (λfin s' =>∃v,fin= .done (.ret v)/\Q v s') E s:=by
 refine a7 (m:=field (.ref z) 2) (b6 hz rfl (x:= .bool false) rfl (a7 (b6 hz rfl (x:= .ref TI) rfl (a7 (bE hTI rfl ?_)))));refine a7 ?_;refine a7 (b6 hz rfl (x:= .none) rfl (ak ?_));refine a7 (cP (a7 (b6 hz rfl (x:= .ref TO) rfl (a7 (bm hz (by simp) λg1 z1 e1=> ?_)))))
 replace z1:=z1
 refine a7 ?_;refine a7 (a7 (wpAny_onRaise (a7 (N1.item (N1.but p1 e1.extBut D.z1) hx λg2 q1 e2=>ak ?_))));have t2:IsPair g2 TO a b:=e2.extBut _ _ (D.ne1 N1).2.symm (e1.extBut _ _ D.Oz hTO);refine a7 (bE t2 rfl (a7 (wpAny_updateSeq_pair t2 λg3 t3 e3=> ?_)));refine a7 (wpAny_letGo (ak ?_));refine a7 (a7 (wpAny_onRaise (a7 (N2.item (N2.but (N2.but (N2.but p2 e1.extBut D.z2) e2.extBut D.a) e3.extBut D.O2) hy λg4 q2 e4=>ak ?_))));have t4:IsPair g4 TO x b:=e4.extBut _ _ (D.ne2 N2).2.symm t3;refine a7 (bE t4 rfl (a7 (wpAny_updateSeq_pair t4 λg5 t5 e5=> ?_)))
 replace t5:IsPair g5 TO x y:=t5
 refine a7 (wpAny_letGo (ak (ak ?_)));refine a7 (bE t5 rfl (a7 (wpAny_newTuple ?_)));have sz:g5.objs.size=s.heap.objs.size:=by rw[e5.1,e4.1,e3.1,e2.1,e1.1]
 have z5:=e5.extBut _ _ D.Oz.symm (e4.extBut _ _ (D.ne2 N2).1.symm (e3.extBut _ _ D.Oz.symm (e2.extBut _ _ (D.ne1 N1).1.symm z1)));have k5:∀c o,c ≠ z->c ≠ TO->c ≠ i1->c ≠ i2->s.heap.get? c=some o->g5.get? c=some o:=λc o c1 c2 c3 c4 e=>
  e5.extBut _ _ c2 (e4.extBut _ _ c4 (e3.extBut _ _ c2 (e2.extBut _ _ c3 (e1.extBut _ _ c1 e))))
 have r1:S1 (k+1) g5:=N1.but (N1.but (N1.but q1 e3.extBut D.O1) e4.extBut D.b) e5.extBut D.O1;have r2:S2 (k+1) g5:=N2.but q2 e5.extBut D.O2;refine a7 ?_;have z6:IsZip (g5.push { cls:= .type "tuple",data:= .seq #[x,y] }) z TI TO _:=ab _ z5;refine a7 (bm z6 (by simp) λg7 z7 e7=> ?_)
 refine bm z7 (by simp) λg8 z8 e8=> ?_
 have up:∀c o,c ≠ z->g5.get? c=some o->g8.get? c=some o:=λc o c1 e=>e8.extBut _ _ c1 (e7.extBut _ _ c1 (ab _ e));have hn:g5.objs.size ≠ z:=dn (am z5);have t8:=e8.extBut _ _ hn (e7.extBut _ _ hn (af _ rfl));rw[sz]at z8 t8;refine ak ⟨_,rfl, ?_⟩;rw[sz];exact hQ g8 z8 (up _ _ D.Oz t5) (N1.keep r1 λc hc o e=>up c o (λq=>D.z1 (q ▸ hc)) e) (N2.keep r2 λc hc o e=>up c o (λq=>D.z2 (q ▸ hc)) e) t8 λc o c1 c2 c3 c4 e=>up c o c1 (k5 c o c1 c2 c3 c4 e)
theorem xU {Q:Fin->Shared->Prop}(hh:A.handled=none)(N1:ux i1 fp1 v1 S1)(N2:ux i2 fp2 v2 S2)(D:Ap z TI TO i1 i2 fp1 fp2)(hz:IsZip s.heap z TI TO .none)(hTI:IsPair s.heap TI (.ref i1) (.ref i2))(hTO:IsPair s.heap TO a b)(p1:S1 k s.heap)(p2:S2 k s.heap)(hend:v1 k=none\/v2 k=none)
  (hE:∀h' e,(∀c o,c ≠ z->c ≠ TO->c ≠ i1->c ≠ i2->s.heap.get? c=some o->h'.get? c=some o)->(∃o,h'.get? e=some o/\o.cls= .type "StopIteration")->E (.ref e) { s with heap:=h' }):
  wpAny (model prog w) A (Builtin.«zip.__next__» ⟨[.ref z],[]⟩) Q E s:=by
 refine a7 (m:=field (.ref z) 2) (b6 hz rfl (x:= .bool false) rfl (a7 (b6 hz rfl (x:= .ref TI) rfl (a7 (bE hTI rfl ?_)))));refine a7 ?_;refine a7 (b6 hz rfl (x:= .none) rfl (ak ?_));simp only[if_true];refine a7 (cP (a7 (b6 hz rfl (x:= .ref TO) rfl (a7 (bm hz (by simp) λg1 z1 e1=> ?_)))))
 replace z1:=z1
 refine a7 ?_;have off:∀{g:Heap} {e:Addr} {oe:Obj},IsZip g z TI TO .ellipsis->g.get? e=some oe->oe.cls= .type "StopIteration"->e ≠ z:=λhg he hc q=>by
  subst q;rw[hg]at he;cases he;simp at hc
 cases hx:v1 k with
 | none=>
  refine a7 (a7 (wpAny_onRaise (a7 (N1.stop hh (N1.but p1 e1.extBut D.z1) hx λg2 e e2 he=> ?_))));obtain⟨oe,ho,hc⟩:=he;have z2:=e2 _ _ (D.ne1 N1).1.symm z1;exact bm z2 (by simp) λg3 _ e3=>hE g3 e (λc o c1 _ c3 _ q=>e3.extBut _ _ c1 (e2 _ _ c3 (e1.extBut _ _ c1 q))) ⟨oe,e3.extBut _ _ (off z2 ho hc) ho,hc⟩
 | some x=>
  have hy:v2 k=none:=by
   rcases hend with q | q
   ·rw[hx]at q;cases q
   ·exact q
  refine a7 (a7 (wpAny_onRaise (a7 (N1.item (N1.but p1 e1.extBut D.z1) hx λg2 q1 e2=>ak ?_))));have t2:=e2.extBut _ _ (D.ne1 N1).2.symm (e1.extBut _ _ D.Oz hTO);refine a7 (bE t2 rfl (a7 (wpAny_updateSeq_pair t2 λg3 t3 e3=>a7 (wpAny_letGo (ak ?_)))));refine a7 (a7 (wpAny_onRaise (a7 (N2.stop hh (N2.but (N2.but (N2.but p2 e1.extBut D.z2) e2.extBut D.a) e3.extBut D.O2) hy λg4 e e4 he=> ?_))));obtain⟨oe,ho,hc⟩:=he;have z4:=e4 _ _ (D.ne2 N2).1.symm (e3.extBut _ _ D.Oz.symm (e2.extBut _ _ (D.ne1 N1).1.symm z1));exact bm z4 (by simp) λg5 _ e5=>hE g5 e (λc o c1 c2 c3 c4 q=>e5.extBut _ _ c1 (e4 _ _ c4 (e3.extBut _ _ c2 (e2.extBut _ _ c3 (e1.extBut _ _ c1 q))))) ⟨oe,e5.extBut _ _ (off z4 ho hc) ho,hc⟩
theorem xV {Q:Option Value->Shared->Prop}(N1:ux i1 fp1 v1 S1)(N2:ux i2 fp2 v2 S2)(D:Ap z TI TO i1 i2 fp1 fp2)(hz:IsZip s.heap z TI TO .none)(hTI:IsPair s.heap TI (.ref i1) (.ref i2))(hTO:IsPair s.heap TO a b)(p1:S1 k s.heap)(p2:S2 k s.heap)(hx:v1 k=some x)(hy:v2 k=some y)
  (hQ:∀h',IsZip h' z TI TO (rawInt s.heap.objs.size)->IsPair h' TO x y->S1 (k+1) h' ->S2 (k+1) h' ->IsPair h' s.heap.objs.size x y->
   (∀c o,c ≠ z->c ≠ TO->c ≠ i1->c ≠ i2->s.heap.get? c=some o->h'.get? c=some o)->Q (some (.ref s.heap.objs.size)) { s with heap:=h' }):wpAny (model prog w) A (pyNext (.ref z)) Q E s:=by
 have ty:s.TypeIs (.ref z) _:=⟨_,hz,rfl⟩;exact a7 (wpAny_attempt (bi ty cy (bB cy ty eR
  (xT N1 N2 D hz hTI hTO p1 p2 hx hy λh' a1 a2 a3 a4 a5 a6=>ak (hQ h' a1 a2 a3 a4 a5 a6)) (eF _))))
theorem xW {Q:Option Value->Shared->Prop}(hh:A.handled=none)(N1:ux i1 fp1 v1 S1)(N2:ux i2 fp2 v2 S2)(D:Ap z TI TO i1 i2 fp1 fp2)(hz:IsZip s.heap z TI TO .none)(hTI:IsPair s.heap TI (.ref i1) (.ref i2))(hTO:IsPair s.heap TO a b)(p1:S1 k s.heap)(p2:S2 k s.heap)(hend:v1 k=none\/v2 k=none)
  (hQ:∀h',(∀c o,c ≠ z->c ≠ TO->c ≠ i1->c ≠ i2->s.heap.get? c=some o->h'.get? c=some o)->Q none { s with heap:=h' }):wpAny (model prog w) A (pyNext (.ref z)) Q E s:=by
 have ty:s.TypeIs (.ref z) _:=⟨_,hz,rfl⟩;refine a7 (wpAny_attempt (bi ty cy (bB cy ty eR
  (xU hh N1 N2 D hz hTI hTO p1 p2 hend λh' e kp he=> ?_) (eF _))))
 obtain⟨o,ho,hc⟩:=he;exact a7 (wpAny_isInstance ⟨o,ho,hc⟩ isSubtype_stop (ak (hQ _ kp)))
end
end PySem.ZG
namespace PySem.ZG
open PySem PySem.Spec PySem.Builtin.SmallTypes
structure xX (l:Addr) (o:Obj) (P:Heap->Prop):Prop where
 go:∀{prog:Program} {w:World} {A:Around} {E:Value->Shared->Prop} {s:Shared} {Q:Value->Shared->Prop},P s.heap->Q (.ref s.heap.objs.size) { s with heap:=s.heap.push o }->wpAny (model prog w) A (pyIter (.ref l)) Q E s
 push:∀{h:Heap} (o' :Obj),P h->P (h.push o')
 fresh:o.isFreed=false
noncomputable abbrev oL (l:Addr):Obj:={ cls:= .type "list_iterator",data:= .fields #[.ref l,.int 0 0] }
noncomputable abbrev oT (l:Addr):Obj:={ cls:= .type "tuple_iterator",data:= .fields #[.ref l,.int 0 0] }
theorem xY (l:Addr)(xs:Array Value):xX l (oL l) (λh=>h.IsList l xs):=⟨λp q=>wpAny_pyIter_list p q,λo p=>Heap.IsList.push p o,rfl⟩
theorem KN (l:Addr)(xs:Array Value):xX l (oT l) (λh=>h.IsTuple l xs):=⟨λp q=>wpAny_pyIter_tuple p q,λo p=>fV.push p o,rfl⟩
noncomputable abbrev zh2 (h:Heap)(o1 o2:Obj):Heap:=(h.push o1).push o2
noncomputable abbrev zh3 (h:Heap)(o1 o2:Obj):Heap:=(zh2 h o1 o2).push { cls:= .type "tuple",data:= .seq #[.ref h.objs.size,.ref (h.push o1).objs.size] }
noncomputable abbrev zh4 (h:Heap)(o1 o2:Obj):Heap:=(zh3 h o1 o2).push { cls:= .type "tuple",data:= .seq #[.none,.none] }
noncomputable abbrev zh5 (h:Heap)(o1 o2:Obj):Heap:=(zh4 h o1 o2).push { cls:= .type "zip",data:= .fields #[.none,.bool false,.bool false,.ref (zh2 h o1 o2).objs.size,.ref (zh3 h o1 o2).objs.size] }
theorem KO {l1 l2:Addr}{o1 o2:Obj}{P1 P2:Heap->Prop}(J1:xX l1 o1 P1)(J2:xX l2 o2 P2):
  Meets (Builtin.«zip.__new__» ⟨[.type "zip",.ref l1,.ref l2],[]⟩) (λ_ R s=>P1 s.heap/\P2 s.heap/\R (.ok (.ret (.ref (zh4 s.heap o1 o2).objs.size))) { s with heap:=zh5 s.heap o1 o2 }):=
 .of_wp λprog w A R s h=>by
  obtain⟨hp,g,d,tk,os⟩:=s;obtain⟨q1,q2,h⟩:=h;have hsub:=sub_zip;have c1:P1 (il ⟨hp,g,d,tk,os⟩):=q1;have c2:P2 (il ⟨hp.push o1,g,d,tk,os⟩):=J2.push o1 q2
  wp_walk using J1.go c1,J2.go c2
  exact⟨_,rfl,h⟩
end PySem.ZG
namespace PySem.ZG
open PySem PySem.Spec PySem.Builtin.SmallTypes
theorem xZ {prog:Program}{w:World}{A:Around}{E:Value->Shared->Prop}{s:Shared}{l1 l2:Addr}{o1 o2:Obj}{P1 P2:Heap->Prop}{Q:Value->Shared->Prop}(J1:xX l1 o1 P1)(J2:xX l2 o2 P2)(q1:P1 s.heap)(q2:P2 s.heap)
  (h:∀h' n,n=s.heap.objs.size->IsZip h' (n+4) (n+2) (n+3) .none->IsPair h' (n+2) (.ref n) (.ref (n+1))->IsPair h' (n+3) .none .none->h'.get? n=some o1->h'.get? (n+1)=some o2->
   (∀c o,s.heap.get? c=some o->h'.get? c=some o)->Q (.ref (n+4)) { s with heap:=h' }):wpAny (model prog w) A (call (.type "zip") [.ref l1,.ref l2]) Q E s:=by
 refine callType_new PySem.F.called_zip (by decide) (PySem.F.typeCall_zip_2 _ _) (PySem.F.newCall_zip_2 _ _) (λobj=>PySem.F.args_object_init_3 obj _ _) PySem.F.entry_zip_new (KO J1 J2) ⟨q1,q2, ?_⟩
 have n1:(s.heap.push o1).objs.size=s.heap.objs.size+1:=bx ..;have n2:(zh2 s.heap o1 o2).objs.size=s.heap.objs.size+2:=by rw[bx,n1]
 have n3:(zh3 s.heap o1 o2).objs.size=s.heap.objs.size+3:=by rw[bx,n2]
 have n4:(zh4 s.heap o1 o2).objs.size=s.heap.objs.size+4:=by rw[bx,n3]
 have up:∀{h:Heap} {c:Addr} {o:Obj} (o' :Obj),h.get? c=some o->(h.push o').get? c=some o:=λo' e=>ab o' e;have e5:(zh5 s.heap o1 o2).get? _=some _:=af _ rfl;have e4:(zh5 s.heap o1 o2).get? _=some _:=up _ (af _ rfl);have e3:(zh5 s.heap o1 o2).get? _=some _:=up _ (up _ (af _ rfl));have e2:(zh5 s.heap o1 o2).get? _=some _:=up _ (up _ (up _ (af _ J2.fresh)));have e1:(zh5 s.heap o1 o2).get? _=some _:=up _ (up _ (up _ (up _ (af _ J1.fresh))));rw[n2,n3,n4]at e5;rw[n1,n2]at e3;rw[n3]at e4;rw[n1]at e2;rw[n4];exact⟨⟨_,e5,rfl⟩,h _ _ rfl e5 e3 e4 e1 e2 λc o q=>up _ (up _ (up _ (up _ (up _ q))))⟩
end PySem.ZG
namespace PV
open PySem PySem.Spec PyProof.Rows L2 PySem.ZG
inductive SK where
 | l | t
noncomputable def SK.it:SK->Heap->Addr->Addr->Nat->Prop
 | .l=>λh i l k=>h.IsListIter i l k
 | .t=>λh i l k=>h.IsTupleIter i l k
noncomputable def SK.has:SK->Heap->Addr->Array Value->Prop
 | .l=>λh l xs=>h.IsList l xs
 | .t=>λh l xs=>h.IsTuple l xs
noncomputable def SK.sq (K:a8):SK->Hp->Addr->List V->Prop
 | .l=>λH a xs=>SqL K H a xs
 | .t=>λH a xs=>SqT K H a xs
noncomputable def SK.tr:SK->List V->HO
 | .l=> .lst
 | .t=> .tup
noncomputable def SK.ob:SK->Addr->Obj
 | .l=>oL
 | .t=>oT
theorem SK.nx (k:SK){i l:Addr}(h:l ≠ i)(xs:Array Value):ux i [i,l] (λn=>xs[n]?) (λn hp=>k.it hp i l n/\k.has hp l xs):=by
 cases k with
 | l=>exact xS h xs
 | t=>exact nx_tup h xs
theorem SK.of (k:SK)(l:Addr)(xs:Array Value):xX l (k.ob l) (λh=>k.has h l xs):=by
 cases k with
 | l=>exact xY l xs
 | t=>exact KN l xs
theorem SK.start (k:SK){h:Heap}{i l:Addr}(e:h.get? i=some (k.ob l)):k.it h i l 0:=by
 cases k with
 | l=>exact⟨_,e,rfl,rfl⟩
 | t=>exact⟨_,e,rfl,rfl⟩
theorem SK.obj {k:SK}{h:Heap}{i l:Addr}{n:Nat}(x:k.it h i l n):∃o,h.get? i=some o/\∀v,o.data ≠ .cell v:=by
 cases k with
 | l=>obtain⟨o,e,_,d⟩:=x;exact⟨o,e,λv z=>by rw[d]at z;cases z⟩
 | t=>obtain⟨o,e,_,d⟩:=x;exact⟨o,e,λv z=>by rw[d]at z;cases z⟩
theorem SK.at_ {k:SK}{h h' :Heap}{i l:Addr}{n:Nat}(x:k.it h i l n)(q:∀o,h.get? i=some o->h'.get? i=some o):k.it h' i l n:=by
 cases k with
 | l=>obtain⟨o,e,r⟩:=x;exact⟨o,q o e,r⟩
 | t=>obtain⟨o,e,r⟩:=x;exact⟨o,q o e,r⟩
theorem SK.sqOf {K:a8}(k:SK){H:Hp}{a:Addr}{xs:List V}(e:H a=some (k.tr xs)):k.sq K H a xs:=by
 cases k with
 | l=>exact SqL.of e
 | t=>exact SqT.of e
theorem Inv.seq {X:Cx}{pins:List (Addr×Obj)}{σ:Sg}{H:Hp}{s:Shared}(I:L2.Inv X pins σ H s)(k:SK){a:Addr}{xs:List V}(h:k.sq X.K H a xs):∃its:List Value,zZ xs its/\k.has s.heap a its.toArray/\∃o,s.heap.get? a=some o:=by
 cases k with
 | l=>
  obtain⟨its,r,p,_⟩:=I.list h;obtain⟨o,_,e,_⟩:=id p;exact⟨its,r,p.isList,o,e⟩
 | t=>
  obtain⟨its,r,p,_⟩:=I.tuple h;obtain⟨o,e,_⟩:=id p;exact⟨its,r,p,o,e⟩
noncomputable def Itz (K:a8)(k1 k2:SK)(l1 l2:Addr):It:=
 ⟨λi H=>∃xs ys x y,k1.sq K H l1 xs/\k2.sq K H l2 ys/\xs[i]? =some x/\ys[i]? =some y,λi H v H' =>∃p x y,H p=none/\v= .ref p/\(∀xs,k1.sq K H l1 xs->xs[i]? =some x)/\(∀ys,k2.sq K H l2 ys->ys[i]? =some y)/\H' =upd H p (.tup [x,y]),
  λi H=>∃xs ys,k1.sq K H l1 xs/\k2.sq K H l2 ys/\(xs.length<=i\/ys.length<=i)⟩
theorem Inv.seq_inj {X:Cx}{pins:List (Addr×Obj)}{σ:Sg}{H:Hp}{s:Shared}(I:L2.Inv X pins σ H s)(k:SK){a:Addr}{xs ys:List V}(h:k.sq X.K H a xs)(h' :k.sq X.K H a ys):xs=ys:=by
 cases k with
 | l=>exact I.list_inj h h'
 | t=>exact I.tuple_inj h h'
theorem nN {a b:Nat}(h:a ≠ b): @Ne Addr a b:=h
theorem nM {a b c:Nat}(h:a ≠ b)(h' :a ≠ c):¬ @Membership.mem Addr (List Addr) _ [b,c] a:=λq=>by
 rcases ah.mp q with z | z
 ·exact h z
 ·exact h' (aG.mp z)
theorem vn {P:Program}{w:World}{K:a8}{elts:List Expr}{kk:Nat}{pt:Pos}(k1 k2:SK){n l1 l2:Nat}(h1:l1 < n)(h2:l2 < n):
  yG P w K (.Tuple elts kk pt) (Itz K k1 k2 l1 l2) [n+4,n+2,n+3,n,n+1] (n+4)
   (λi h=>IsZip h (n+4) (n+2) (n+3) .none/\IsPair h (n+2) (.ref n) (.ref (n+1))/\(∃a b,IsPair h (n+3) a b)/\k1.it h n l1 i/\k2.it h (n+1) l2 i):=by
 have D:Ap (n+4) (n+2) (n+3) n (n+1) [n,l1] [n+1,l2]:=by
  refine⟨nN (by omega),nN (by omega),nN (by omega),nN (by omega),nN (by omega),nM (by omega) (by omega),nM (by omega) (by omega),nM (by omega) (by omega),nM (by omega) (by omega),nM (by omega) (by omega),nM (by omega) (by omega)⟩
 refine⟨by simp,λi h st b hb=> ?_,λi h h' st k=> ?_, ?_, ?_, ?_⟩
 ·obtain⟨hz,hI,⟨a,c,hO⟩,p1,p2⟩:=st;simp only[ah,aM,or_false]at hb;rcases hb with rfl | rfl | rfl | rfl | rfl
  ·exact⟨_,hz,λv z=>nomatch z⟩
  ·exact⟨_,hI,λv z=>nomatch z⟩
  ·exact⟨_,hO,λv z=>nomatch z⟩
  ·exact SK.obj p1
  ·exact SK.obj p2
 ·obtain⟨hz,hI,⟨a,c,hO⟩,p1,p2⟩:=st;exact⟨k _ (by simp) _ hz,k _ (by simp) _ hI,⟨a,c,k _ (by simp) _ hO⟩,SK.at_ p1 λo e=>k n (by simp) o e,SK.at_ p2 λo e=>k (n+1) (by simp) o e⟩
 ·intro X hP hw hK hc i pins s σ H E I hf st hg;subst hP hw hK;obtain⟨xs,ys,x,y,s1,s2,hx,hy⟩:=hg;obtain⟨hz,hI,⟨a,c,hO⟩,p1,p2⟩:=st;obtain⟨its1,r1,b1,_⟩:=Inv.seq I k1 s1;obtain⟨its2,r2,b2,_⟩:=Inv.seq I k2 s2;obtain⟨u,hu,ru⟩:=r1.get hx;obtain⟨v,hv,rv⟩:=r2.get hy;refine xV (k1.nx (az h1) its1.toArray) (k2.nx (i:=n+1) (nN (by omega)) its2.toArray) D hz hI hO ⟨p1,b1⟩ ⟨p2,b2⟩ (x:=u) (y:=v) (by simpa using hu) (by simpa using hv) λg a1 a2 a3 a4 a5 kp=>⟨_,rfl, ?_⟩
  refine wpAny_letOwnedTupleGo_zip a1 λg2 z2 e2=> ?_;have hlt:n+4 < s.heap.objs.size:=am hz;have ne:∀b:Nat,b<=n+4->s.heap.objs.size ≠ b:=λb hb=>by
   omega
  have kp2:∀b o,b ∉ [n+4,n+2,n+3,n,n+1]->s.heap.get? b=some o->g2.get? b=some o:=λb o hb e=>by
   simp only[ah,aM,or_false,not_or]at hb;exact e2.extBut _ _ hb.1 (kp b o hb.1 hb.2.2.1 hb.2.2.2.1 hb.2.2.2.2 e)
  have g2P:=e2.extBut _ _ (ne _ (ai _)) a5;have g2I:=e2.extBut _ _ D.Iz (kp _ _ D.Iz D.IO D.I1 D.I2 hI);have g2O:=e2.extBut _ _ D.Oz a2;have q1:=SK.at_ a3.1 λo e=>e2.extBut _ _ (nN (by omega)) e
  have q2:=SK.at_ a4.1 λo e=>e2.extBut _ _ (nN (by omega)) e
  have hfr:=I.hok.fresh (ai _);refine⟨.ref s.heap.objs.size,upd H s.heap.objs.size (.tup [x,y]),Inv.laidT (s:=s) (h' :=g2) (tk:=s.toks) I hf kp2 (λb o hb _=> ?_) (ai _)
   ⟨by rw[bO];show 2<=16777216;decide,[u,v],.cons ru (.cons rv .nil),⟨_,g2P,rfl,_,rfl⟩,.inr ⟨_,g2P,rfl⟩⟩,rfl,⟨_,x,y,hfr,rfl,λzs hq=>by rw[← Inv.seq_inj I k1 s1 hq];exact hx,λzs hq=>by rw[← Inv.seq_inj I k2 s2 hq];exact hy,rfl⟩,⟨z2,g2I,⟨u,v,g2O⟩,q1,q2⟩,λb hb=> ?_⟩
  ·simp only[ah,aM,or_false]at hb;rcases hb with rfl | rfl | rfl | rfl | rfl
   ·exact⟨_,z2⟩
   ·exact⟨_,g2I⟩
   ·exact⟨_,g2O⟩
   ·obtain⟨o',e',_⟩:=SK.obj q1;exact⟨o',e'⟩
   ·obtain⟨o',e',_⟩:=SK.obj q2;exact⟨o',e'⟩
  ·have hb2:(b:Nat)<=n+4:=by
    have hb:=by simpa using hb
    rcases hb with rfl | rfl | rfl | rfl | rfl
    ·exact ai _
    ·exact dm (by decide) n
    ·exact dm (by decide) n
    ·exact aD _ _
    ·exact dm (by decide) n
   rw[zv λz=>ne b hb2 z.symm];exact(hf b hb).1
 ·intro X hP hw hK hc i pins s σ H E I hf st hg;subst hP hw hK;obtain⟨xs,ys,s1,s2,hend⟩:=hg;obtain⟨hz,hI,⟨a,c,hO⟩,p1,p2⟩:=st;obtain⟨its1,r1,b1,_⟩:=Inv.seq I k1 s1;obtain⟨its2,r2,b2,_⟩:=Inv.seq I k2 s2;have l1' :=r1.length;have l2' :=r2.length;refine xW (I.ok.hd hc) (k1.nx (az h1) its1.toArray) (k2.nx (nN (by omega)) _) D hz hI hO ⟨p1,b1⟩ ⟨p2,b2⟩ ?_ λg kp=>⟨rfl, ?_⟩
  ·rcases hend with q | q
   ·exact .inl (cb (by rw[ay,← l1'];exact q))
   ·exact .inr (cb (by rw[ay,← l2'];exact q))
  ·have kp2:∀b o,b ∉ [n+4,n+3,n,n+1]->s.heap.get? b=some o->g.get? b=some o:=λb o hb e=>by
    simp only[ah,aM,or_false,not_or]at hb;exact kp b o hb.1 hb.2.1 hb.2.2.1 hb.2.2.2 e
   have nch:∀b u,H b=some u->b ∉ [n+4,n+3,n,n+1]:=λb u e hb=>by
    have hb' :b∈[n+4,n+2,n+3,n,n+1]:=by
     simp only[ah,aM,or_false]at hb ⊢;rcases hb with q | q | q | q
     ·exact .inl q
     ·exact .inr (.inr (.inl q))
     ·exact .inr (.inr (.inr (.inl q)))
     ·exact .inr (.inr (.inr (.inr q)))
    rw[(hf b hb').1]at e;cases e
   refine I.call' rfl ⟨λb o e _ _ hc=>kp2 b o hc e,λb o e _ _ hc=>⟨o.slots,kp2 b o hc e⟩,λb o e q _=>q,λb o e hc=>⟨o,kp2 b o hc e⟩,λb ys e=>e,λb o u e=>e,λ_ _ _ e=>e⟩ (λb u e=> ?_) I.bare λb hb=> ?_
   ·refine(I.hok b u e).stay (λc v hc q=>kp2 c v ?_ q) (λ_ q=>q) λ_ _ q=>q;rcases hc with rfl | hc
    ·exact nch c u e
    ·exact nch c _ hc
   ·have hb' :b∈[n+4,n+2,n+3,n,n+1]:=by
     simp only[ah,aM,or_false]at hb ⊢;rcases hb with q | q | q | q
     ·exact .inl q
     ·exact .inr (.inr (.inl q))
     ·exact .inr (.inr (.inr (.inl q)))
     ·exact .inr (.inr (.inr (.inr q)))
    obtain⟨f0,f1,f2,f3,f4,f5⟩:=hf b hb';exact⟨f3,f1,f4,f5⟩
 ·intro A i s Q E st h;exact wpAny_pyIter_zip st.1 h
noncomputable def Qv (xs ys:List T):List T:=(xs.zip ys).map λp=>T.tup [p.1,p.2]
theorem vo {xs ys:List T}{i:Nat}{t:T}(h:(Qv xs ys)[i]? =some t):∃x y,xs[i]? =some x/\ys[i]? =some y/\t= .tup [x,y]:=by
 unfold Qv at h;rw[ax]at h;cases e:(xs.zip ys)[i]? with
 | none=>rw[e]at h;cases h
 | some p=>
  rw[e]at h;cases h;have:=List.getElem?_zip_eq_some.mp e;exact⟨p.1,p.2,this.1,this.2,rfl⟩
theorem uy (xs ys:List T):(Qv xs ys).length=min xs.length ys.length:=by unfold Qv;simp
theorem KP {K:a8}{B1 H1:Hp}{k1 k2:SK}{a b:Addr}{xs ys:List V}{ts us:List T}(ha:B1 a=some (k1.tr xs))(hb:B1 b=some (k2.tr ys))(ra:zI B1 xs ts)(rb:zI B1 ys us):rI B1 H1 (Itz K k1 k2 a b) (Qv ts us):=λB2 H2 s1 s2=>by
 have a2:=k1.sqOf (K:=K) (s2 _ _ (s1 _ _ ha));have b2:=k2.sqOf (K:=K) (s2 _ _ (s1 _ _ hb));rw[uy];refine⟨λi hi=> ?_,λi t x H3 e y=> ?_,λi hi=>⟨xs,ys,a2,b2, ?_⟩⟩
 ·obtain⟨v,e1,_⟩:=ra.get (ag (show i < ts.length by omega))
  obtain⟨u,e2,_⟩:=rb.get (ag (show i < us.length by omega))
  exact⟨xs,ys,v,u,a2,b2,e1,e2⟩
 ·obtain⟨p,v,u,hp,rfl,y1,y2,rfl⟩:=y;obtain⟨t1,t2,et,eu,rfl⟩:=vo e;obtain⟨v',e1,r1⟩:=ra.get et;obtain⟨u',e2,r2⟩:=rb.get eu;have q1:=y1 xs a2;have q2:=y2 ys b2;rw[e1]at q1;cases q1;rw[e2]at q2;cases q2;have up:=zS.ge s2 (zy.new hp (.tup [v,u]));exact⟨zy.new hp _,.tup (jc hp _) (.cons ((r1.mono s1).mono up) (.cons ((r2.mono s1).mono up) .nil))⟩
 ·rw[ra.length,rb.length];omega
section
variable {X:Cx}{Y:Fx}{a b:Expr}{fa fb:En->R T}{pos p pt:Pos}{elts:List Expr}{kk:Nat}
theorem KQ {ta:TA}(hg:Gl X "zip")(hm:X.mg "zip"=none)(ha:PA X [a,b] ta)(hs:starEach [a,b] X.env=[(false,eval a X.env),(false,eval b X.env)])(hs2:starEach [b] X.env=[(false,eval b X.env)]):
  PI X (.Tuple elts kk pt) (.Call (.Name "zip" p) [a,b] [] pos) (λσ H R=>ta σ H λvs H1=>∃k1 k2 l1 l2 xs ys,vs=[.ref l1,.ref l2]/\H1 l1=some (SK.tr k1 xs)/\H1 l2=some (SK.tr k2 ys)/\R (Itz X.K k1 k2 l1 l2) H1):=by
 intro pins s σ H R I h;refine Call_ (j8 I hg hm PyProof.Rows.Boot.«zip» (aQ (thn (ha pos _ s σ H _ I h) λus s1 ⟨vs,H1,I1,r1,q1⟩=> ?_) (by rw[hs,hs2]) (by rw[hs2];rfl)))
 obtain⟨k1,k2,l1,l2,xs,ys,e,h1,h2,q⟩:=q1;subst e;obtain⟨u,v,rfl,ru,rv⟩:=yZ r1;obtain rfl:u=Value.ref l1:=ru;obtain rfl:v=Value.ref l2:=rv;obtain⟨its1,_,b1,o1,e1⟩:=Inv.seq I1 k1 (k1.sqOf h1);obtain⟨its2,_,b2,o2,e2⟩:=Inv.seq I1 k2 (k2.sqOf h2);refine xZ (k1.of l1 _) (k2.of l2 _) b1 b2 λg n hn z1 z2 z3 z4 z5 kp=>wpAny_pyIter_zip z1 ?_;subst hn;have f:∀b∈[s1.heap.objs.size+4,s1.heap.objs.size+2,s1.heap.objs.size+3,s1.heap.objs.size,s1.heap.objs.size+1],Wn X _ H1 b:=λb hb=>by
  have hb' :s1.heap.objs.size<=b:=by
   simp only[ah,aM,or_false]at hb;rcases hb with rfl | rfl | rfl | rfl | rfl
   ·exact aD _ _
   ·exact aD _ _
   ·exact aD _ _
   ·exact ai _
   ·exact aD _ _
  exact I1.fpOk hb' (I1.hok.fresh hb')
 exact⟨s1.heap.objs.size+4,_,_,_,H1,rfl,I1.kept kp,vn k1 k2 (am e1) (am e2),⟨z1,z2,⟨_,_,z3⟩,SK.start k1 z4,SK.start k2 z5⟩,f,q⟩
noncomputable def jV:T->R (List T)
 | .lst xs=> .ok xs
 | .tup xs=> .ok xs
 | _=> .bad
noncomputable def Vp (fa fb:En->R T):En->R (List T):=λρ=>(fa ρ).bind λt=>(fb ρ).bind λu=>(jV t).bind λxs=>(jV u).bind λys=> .ok (Qv xs ys)
theorem YB {B:Hp}{v:V}{t:T}{xs:List T}(r:Rep B v t)(e:jV t= .ok xs):∃(k:SK) (a:Addr) (vs:List V),v= .ref a/\B a=some (k.tr vs)/\zI B vs xs:=by
 cases r with
 | lst h r=>cases e;exact⟨.l,_,_,rfl,h,r⟩
 | tup h r=>cases e;exact⟨.t,_,_,rfl,h,r⟩
 | _=>cases e
theorem U6 (t:T)(c:Nat):jV t ≠ .ex c:=by cases t <;> exact λz=>nomatch z
theorem z1B (hg:Gl X "zip")(hm:X.mg "zip"=none)(ha:Snd X Y a fa)(hb:Snd X Y b fb)(hs:starEach [a,b] X.env=[(false,eval a X.env),(false,eval b X.env)]:=by exact st2 rfl rfl)(hs2:starEach [b] X.env=[(false,eval b X.env)]:=by exact st1 rfl):
  uu X Y (.Tuple elts kk pt) (.Call (.Name "zip" p) [a,b] [] pos) (Vp fa fb):= .mk λρ=>
 PI.imp (KQ hg hm (zH (ha ρ) (zH (hb ρ) Z5 hs2) (by rw[hs,hs2])) hs hs2) λσ H R ⟨B,I,q⟩=>step I q λt v H1 _ s1 r1 I1 q1=>step I1 q1 λu v' H2 _ s2 r2 I2 q2=>by
  cases e1:jV t with
  | bad=>rw[e1]at q2;exact q2.elim
  | ex c=>exact absurd e1 (U6 _ _)
  | ok xs=>
   rw[e1]at q2;cases e2:jV u with
   | bad=>rw[e2]at q2;exact q2.elim
   | ex c=>exact absurd e2 (U6 _ _)
   | ok ys=>
    rw[e2]at q2;obtain⟨k1,a1,vs1,rfl,h1,w1⟩:=YB (r1.mono (zS.ge I1.sB s2)) e1;obtain⟨k2,a2,vs2,rfl,h2,w2⟩:=YB r2 e2;exact⟨k1,k2,a1,a2,vs1,vs2,rfl,I2.sB _ _ h1,I2.sB _ _ h2,ZS I2 (show Po Y rI _ H2 _ R from q2) (KP h1 h2 w1 w2)⟩
end
end PV
namespace PV
open PySem PySem.Spec PyProof.Rows L2
section
variable {X:Cx}{Y:Fx}{a b:Expr}{fa fb:En->R T}{pos p p' pos' :Pos}
noncomputable def Wh:T->R T
 | .bl b=> .ok (.int (b2 b))
 | .int i=> .ok (.int i)
 | _=> .bad
theorem z1C (v:V)(t:T)(B H:Hp)(Q:VK)(r:Rep B v t)(sB:zy B H)(q:Po Y rC B H (Wh t) Q):
  (∃i,[v]=[V.int i]/\Q (.int i) H)\/∃k,[v]=[V.bl k]/\Q (.int (if k then 1 else 0)) H:=by
 cases r with
 | int i=>exact .inl ⟨i,rfl,po0 sB q rfl (.int i)⟩
 | bl k=>exact .inr ⟨k,rfl,po0 sB q rfl (by cases k <;> exact .int _)⟩
 | _=>exact q.elim
theorem KR (gl:Gl X "int")(mg:X.mg "int"=none)(ha:Snd X Y a fa)(hs:St1 X a:=by exact st1 rfl):Snd X Y (.Call (.Name "int" p) [a] [] pos) (ap1 Wh fa):=
 Yn Y1 z1C gl mg (PyProof.Rows.Boot.«int») ha hs
theorem YC:Zt X (.type "range") (λxs H Q=>∃i j,xs=[.int i,.int j]/\∀r,H r=none->Q (.ref r) (upd H r (.rng i j))):=by
 intro pins s σ H xs us Q I r h;obtain⟨i,j,rfl,q⟩:=h;obtain⟨u,v,rfl,ru,rv⟩:=yZ r;obtain⟨t,rfl⟩:=ru;obtain⟨t',rfl⟩:=rv;exact call_range_2 ⟨.ref _,_,I.laid (λb o e=>ab _ e) (ai _) (show Zc _ X.w _ _ _ (.rng i j) from ⟨_,_,_,af _ rfl⟩),rfl,q _ (I.hok.fresh (ai _))⟩
noncomputable def Qw (lo:Int)(n:Nat):List V:=(aT n).map λ(i:Nat)=>V.int (lo+(i:Int))
theorem wS (hh:X.A.handled=none):Zt X (.type "list") (λxs H Q=>∃r lo hi,xs=[.ref r]/\H r=some (.rng lo hi)/\(-1000000 < lo/\lo < 1000000/\ -1000000 < hi/\hi < 1000000)/\∀l,H l=none->Q (.ref l) (upd H l (.lst (Qw lo (hi - lo).toNat)))):=by
 intro pins s σ H xs us Q I rv h;obtain⟨r,lo,hi,rfl,e,⟨c1,c2,c3,c4⟩,q⟩:=h;obtain⟨u,rfl,ru⟩:=ZN rv;obtain rfl:u=Value.ref r:=ru;obtain⟨t,v,v',eo⟩:=(show Zc _ X.w H _ r _ from I.hok r _ e);have hn:d_ lo hi 1=((hi - lo).toNat):=by rw[rangeSize_one];split <;> omega
 refine call_list_range hh eo (small_one (by omega) (by omega) (by omega) (by omega)) hn (by omega) λh' tk acc c kp eo' hacc=> ?_
 have hv:zZ (Qw lo (hi - lo).toNat) acc.toList:=by
  have key:∀(n:Nat) (lo:Int) (vs:List _),vs.length=n->(∀(j:Nat) (v:Value),vs[j]? =some v->∃t,v=Value.int (lo+(j)) t)->zZ (Qw lo n) vs:=by
   intro n
   induction n with
   | zero=>
    intro lo vs hl _;rw[List.eq_nil_of_length_eq_zero hl];exact .nil
   | succ n ih=>
    intro lo vs hl hv;cases vs with
    | nil=>cases hl
    | cons v vs=>
     have e:Qw lo (n+1)=V.int (lo+0) :: Qw (lo+1) n:=by
      unfold Qw;rw[c9,ao,aV];refine congrArg _ (cK λj _=> ?_);show V.int _=V.int _;congr 1;omega
     rw[e];refine .cons (hv 0 v rfl) (ih _ vs (by simpa using hl) λj x hx=> ?_)
     obtain⟨t,z⟩:=hv (j+1) x (by simpa using hx)
     exact⟨t,by rw[z];congr 1;omega⟩
  refine key _ lo _ (by simpa using hacc.1) λj v hj=> ?_
  obtain⟨t,z⟩:=hacc.2 j v (by simpa using hj)
  exact⟨t,by rw[z];congr 1;omega⟩
 have hz:(Qw lo (hi - lo).toNat).length<=sizeLine:=by
  rw[bO];unfold Qw;rw[ac,be];omega
 exact⟨.ref _,_,I.laid kp (ai _) (show Zc _ X.w _ h' _ (.lst _) from ⟨hz,acc.toList,c,hv,by simpa using eo'⟩),rfl,q _ (I.hok.fresh (ai _))⟩
noncomputable def GV (fi:En->R (List T)):En->R T:=λρ=>(fi ρ).bind λts=> .ok (.lst ts)
theorem YD {B:Hp}(lo:Int)(n:Nat):zI B (Qw lo n) (rng lo n):=by
 unfold Qw rng
 induction aT n with
 | nil=>exact .nil
 | cons i is ih=>exact .cons (.int _) ih
theorem X0 (hh:X.A.handled=none)(gl:Gl X "list")(mg:X.mg "list"=none)(gl' :Gl X "range")(mg' :X.mg "range"=none)(ha:Snd X Y a fa)(hb:Snd X Y b fb)
  (hs:starEach [a,b] X.env=[(false,eval a X.env),(false,eval b X.env)]:=by exact st2 rfl rfl) (hs2:St1 X b:=by exact st1 rfl):Snd X Y (.Call (.Name "list" p) [.Call (.Name "range" p') [a,b] [] pos'] [] pos) (GV (Ji fa fb)):= .mk λρ=>
 PE.imp (ZU (wS hh) gl mg PyProof.Rows.Boot.«list» (zH (ZU YC gl' mg' boot_range (zH (ha ρ) (zH (hb ρ) Z5 hs2) (by rw[hs,hs2])) (by decide) (by decide) (by rw[hs,hs2]) (by rw[hs2];rfl)) Z5 (st1 rfl)) (by decide) (by decide) (st1 rfl) rfl) λσ H Q ⟨B,I,q⟩=>by
  have q:Po Y rC B H ((fa ρ).bind λt=>(fb ρ).bind λt' =>(match t,t' with | .int i,.int j=>if -1000000 < i/\i < 1000000/\ -1000000 < j/\j < 1000000 then R.ok (rng i (j - i).toNat) else .bad | _,_=> .bad).bind λts=> .ok (.lst ts)) Q:=by
   revert q;unfold GV Ji;cases fa ρ with
   | ok t=>cases fb ρ <;> exact λq=>q
   | ex c=>exact λq=>q
   | bad=>exact λq=>q
  refine step I q λt v H1 _ s1 r1 I1 q1=>step I1 q1 λt' v' H2 _ s2 r2 I2 q2=> ?_;cases r1 with
  | int i=>
   cases r2 with
   | int j=>
    by_cases c: -1000000 < i/\i < 1000000/\ -1000000 < j/\j < 1000000
    ·dsimp only at q2;rw[if_pos c]at q2;refine⟨i,j,rfl,λr hr=>⟨r,i,j,rfl,zC,c,λl hl=> ?_⟩⟩;have hlr:l ≠ r:=λz=>by rw[z,zC]at hl;cases hl
     have hl2:=by rw[zv hlr]at hl;exact hl
     refine q2 _ _ (zy.new hr _ |>.trans (zy.new hl _)) (.lst ?_ (YD _ _))
     rw[Zf hl2,zC]
    ·dsimp only at q2;rw[if_neg c]at q2;exact q2.elim
   | _=>exact q2.elim
  | _=>cases r2 <;> exact q2.elim
noncomputable def mvS (i j:Nat):En->RS:=λρ=>match ρ[j]? with
 | some (.ow ts)=> .nx ((ρ.set j (.vl (.lst ts))).set i (.vl (.lst ts)))
 | _=> .bad
theorem SI.give {Y:Fx}{B:Hp}{ρ:En}{σ:Sg}{H:Hp}(I:SI Y B ρ σ H){j:Nat}{ts:List T}(hj:ρ[j]? =some (.ow ts)):∃(a:Addr) (B' :Hp),σ[j]? =some (some (V.ref a))/\zy B B' /\Rep B' (.ref a) (.lst ts)/\SI Y B' (ρ.set j (.vl (.lst ts))) σ H:=by
 obtain⟨a,xs,e,b0,h0,hh,rr,d⟩:=I.ow j ts hj;have s1:zy B (upd B a (.lst xs)):=zy.new b0 _;have rp:Rep _ _ _:= .lst zC (rr.mono s1);refine⟨a,_,e,s1,rp,⟨I.s0,I.sH,λb o q=> ?_,λb o q=> ?_,by rw[aI];exact I.len,λk t q=> ?_,λk us q=> ?_,λk c q=> ?_, ?_⟩⟩
 ·by_cases hb:b=a
  ·subst hb;rw[zC]at q;cases q;exact hh
  ·rw[zv hb]at q;exact I.sB b o q
 ·rw[zv λz=>by rw[z,h0]at q;cases q];exact I.old b o q
 ·rcases zq q with ⟨rfl,z⟩ | ⟨_,z⟩
  ·cases z;exact⟨_,e,rp⟩
  ·obtain⟨v,e1,r⟩:=I.vl k t z;exact⟨v,e1,r.mono s1⟩
 ·rcases zq q with ⟨rfl,z⟩ | ⟨hk,z⟩
  ·cases z
  ·obtain⟨a',xs',e',b0',h0',hh',rr',d'⟩:=I.ow k us z;have hne:a' ≠ a:=λw=>by subst w;exact d k us hk z e'
   refine⟨a',xs',e',by rw[zv hne];exact b0',h0',hh',rr'.mono s1,λm ws hm hw=> ?_⟩
   rcases zq hw with ⟨rfl,w⟩ | ⟨_,w⟩
   ·cases w
   ·exact d' m ws hm w
 ·rcases zq q with ⟨rfl,z⟩ | ⟨_,z⟩
  ·cases z
  ·obtain⟨a',e',r⟩:=I.xc k c z;exact⟨a',e',s1 _ _ r⟩
 ·obtain⟨as,O,x⟩:=I.st;refine⟨as,O,x.on (λk y hy h=> ?_) s1 rfl rfl (zy.refl _) λb o hb b0' h0' cs=> ?_⟩
  ·rcases zq h with ⟨_,z⟩ | ⟨_,z⟩
   ·subst z;cases hy
   ·exact⟨z,rfl⟩
  ·have hne:b ≠ a:=λz=>by
    subst z;rcases cs with ⟨C,dx,vs,ez⟩ | ok
    ·rw[hh]at hb;cases hb;cases ez
    ·exact ok j ts hj e
   refine⟨hb,by rw[zv hne];exact b0',h0',λok k us h=> ?_⟩
   rcases zq h with ⟨_,z⟩ | ⟨_,z⟩
   ·cases z
   ·exact ok k us z
theorem s_mv {i j:Nat}{x y:Str}{yp:Pos}(hv:PE X (.Name y yp) (wE j))(hN:X.N.Nodup)(hi:X.N[i]? =some x)(hx:L2.Loc X.env.scope x)(hs:swapsWith (.Name y yp) (some (.Name x p')) pos.line X.env=pure false:=by rfl)
  (hf:X.fn x=true\/X.env.scope.names.lookup x=some .local:=by first | exact .inl rfl | exact .inr rfl | assumption):jO X Y (.Assign [.Name x p'] (.Name y yp) pos) (mvS i j):= .mk λρ=>
 PS.imp (Wm hN hi hx hv hs hf) λD σ H ⟨B,I,q⟩=>by
  unfold mvS at q;split at q
  ·rename_i ts e;obtain⟨a,B',e1,s1,r,J⟩:=I.give e;exact⟨_,e1,q _ _ B' s1 (J.setV i r)⟩
  ·exact q.elim
end
noncomputable def ZM:List T->Option (List Int)
 | []=>some []
 | .int i :: r=>match ZM r with | some l=>some (i :: l) | none=>none
 | _ :: _=>none
noncomputable def X1:T->R T
 | .lst ts=>match ZM ts with | some l=> .ok (.int l.sum) | none=> .bad
 | _=> .bad
noncomputable def GW (fi:En->R (List T))(g:T->En->R En)(ft:En->R Bool)(fe:En->R T)(k:Nat)(js:List Nat):En->RS:=λρ=>(fi (frz ρ)).s λts=>(zG g ft fe k js (frz ρ) ts).s λvs=> .rf vs
noncomputable def KS:En->RS:=λ_=> .bad
theorem z1D {X:Cx}{Y:Fx}{st:Stmt}:jO X Y st KS:= .mk λρ=>λpins s σ H D I ⟨B,J,q⟩=>q.elim
theorem uz:∀{H:Hp} {xs:List V} {ts:List T} {its:List Value} {is:List Int},zI H xs ts->zZ xs its->ZM ts=some is->∃ps:List (Int×Tok),its=ps.map (λp=>Value.int p.1 p.2)/\ps.map (·.1)=is
 | _,_,_,_,is,.nil,.nil,h=>by
  have h' :=h;cases h';exact⟨[],rfl,rfl⟩
 | H,_,_,_,is,.cons r rs,.cons rv vs,h=>by
  cases r with
  | int i=>
   unfold ZM at h;split at h
   ·rename_i l e;cases h;obtain⟨ps,h1,h2⟩:=uz rs vs e;obtain⟨tk,rfl⟩:=rv;exact⟨(i,tk) :: ps,by rw[h1];rfl,by rw[ao,h2]⟩
   ·cases h
  | _=>cases h
section
variable {X:Cx}{Y:Fx}{a b:Expr}{fa fb:En->R T}{pos p p' pos' :Pos}
theorem YE (hh:X.A.handled=none):Zt X (.builtin "sum") (λvs H Q=>∃l xs ts is,vs=[.ref l]/\H l=some (.lst xs)/\zI H xs ts/\ZM ts=some is/\Q (.int is.sum) H):=by
 intro pins s σ H vs us Q I rv h;obtain⟨l,xs,ts,is,rfl,hl,r,hk,q⟩:=h;obtain⟨u,rfl,ru⟩:=ZN rv;obtain rfl:u=Value.ref l:=ru;obtain⟨its,rv,p,_⟩:=zV I (.inl hl) r;obtain⟨ps,h1,h2⟩:=uz r rv hk;have e:its.toArray=intItems ps.toArray:=by rw[h1];simp[intItems]
 rw[e]at p;refine sum_intListG hh p λh' tk t' kp=> ?_;have e2:preSum (numAt ps.toArray) ps.toArray.size=is.sum:=by
  rw[preSum_eq,eS (by simp),← h2]
 rw[e2];exact⟨.int _,H,I.kept kp,⟨t',rfl⟩,q⟩
theorem z1E (hh:X.A.handled=none)(gl:Gl X "sum")(mg:X.mg "sum"=none)(ha:jz X Y a fa)(hs:St1 X a:=by exact st1 rfl):Snd X Y (.Call (.Name "sum" p) [a] [] pos) (ap1 X1 fa):=
 wl (YE hh) (λv t B H Q r sB q=>by
  cases r with
  | @lst l xs ts h r=>
   have q:Po Y rC B H (match ZM ts with | some k=> .ok _ | none=> .bad) Q:=q
   split at q
   ·rename_i k e;exact⟨l,xs,ts,k,rfl,h,r,e,po0 sB q rfl (.int _)⟩
   ·exact q.elim
  | _=>exact q.elim) gl mg boot_sum ha hs
end
section
variable {X:Cx}{Y:Fx}{tg iter elt:Expr}{ifs:List Expr}{scope:Scope}{pos pos' :Pos}{N' :List Str}{k:Nat}{js:List Nat}{fi:En->R (List T)}{tG:TG}{g:T->En->R En}{ft:En->R Bool}{fe:En->R T}
theorem KT (C:wm X Y tg iter elt ifs scope N' k js fi tG g ft fe):jO X Y (.Return (some (.ListComp elt [⟨tg,iter,ifs,0⟩] scope pos)) pos') (GW fi g ft fe k js):= .mk λρ=>by
 have pe:PE X (.ListComp elt [⟨tg,iter,ifs,0⟩] scope pos) (λσ H Q=>∃B,SI Y B (frz ρ) σ H/\PoS Y B ((fi (frz ρ)).s λts=>(zG g ft fe k js (frz ρ) ts).s λvs=> .rf vs) { nx:=λ_ _=>False,rt:=Q }):=by
  intro pins s σ H Q I ⟨B,J,q⟩;refine wN (jS rfl) (F:=λD H' =>Q (.ref D) H') (te:=λσ H Q=>∃Y' ρ',Y'.cl=Y.cl/\(Y'.E=λ_ _ _=>False)/\tS Y' rC fe ρ' σ H Q) (tt:=λσ H Q=>∃Y' ρ',Y'.cl=Y.cl/\tS Y' rE ft ρ' σ H Q) C.sc C.cp C.cm (C.it (frz ρ)) C.gt
   (λcl Cx' s3 H3 fp pins pins' s σ H Q I ⟨Y',ρ',ey,q⟩=>C.tt Y' ey cl Cx' s3 H3 fp _ ρ' _ s σ H Q I q) (λcl Cx' s3 H3 fp pins xe hp pins' s σ H Q I ⟨Y',ρ',ey,eE,q⟩=>C.el Y' ey cl Cx' s3 H3 fp _ xe (eE ▸ hp) ρ' _ s σ H Q I q) I ?_ ?_ C.hs
  ·refine jr J q λts it' H1 _ s1 r1 J1 q1=> ?_;intro D hD;unfold zG at q1;split at q1
   ·rename_i hl;cases ev:zO g ft fe ts _ with
    | bad=>rw[ev]at q1;exact q1.elim
    | ex c=>rw[ev]at q1;exact q1.elim
    | ok vs=>
     rw[ev]at q1;refine JF C.gk C.gn J1 r1 hl ev hD λH' xs B' s' e' r' l' b' sb' => ?_;exact(show PoS Y _ _ _ from q1) D xs H' B' (J1.sH.trans s') (J1.sH.free hD) e' r' b' (l'.trans (U2 J1.sH J1.old s' J1.sB))
   ·exact q1.elim
  ·intro D Cc H' s' I' q' hC h0 hL hcell hpin hns;obtain⟨m,hm⟩:=hns;refine⟨m,hm,λh' hsb=>⟨.ref D,H', ?_,rfl,q'⟩⟩;exact I'.turned (λb o hb e=>hsb.extBut b o hb e) hC (aU hL).symm (.inr h0) hcell hpin
 refine PS.imp (Wl pe) λD σ H ⟨B,I,q⟩=>⟨_,I.frz, ?_⟩;have q:=PoS.up I.up q;unfold GW at q;revert q;cases fi _ with
 | bad=>exact λq=>q
 | ex c=>exact λq=>q
 | ok ts=>
  show PoS Y _ ((zG g ft fe k js _ ts).s λvs=> .rf vs) D->PoS Y _ ((zG g ft fe k js _ ts).s λvs=> .rf vs) _;cases zG g ft fe k js _ ts with
  | bad=>exact λq=>q
  | ex c=>exact λq=>q
  | ok vs=>exact λq=>q
end
end PV
namespace PySem.RV
open PySem PySem.Spec PyProof.Rows PySem.Builtin.SmallTypes
theorem U7:Manifest.owners.lookup (String.ofList "desrever".toList.reverse)=some Manifest.sig_reversed:=by kernel_rfl
theorem jd:Slot "reversed" "__next__" "reversed.__next__":=
 .of (owner:="reversed") (n:="__next__") (by kernel_rfl) (by decide+kernel) (by decide+kernel) (by decide+kernel)
  (by first | exact .inl (by decide+kernel) | exact .inr (by decide+kernel)) (by kernel_rfl)
theorem wo:entryFor table "reversed.__next__"=some Builtin.«reversed.__next__»:=entryFor_of_tree (by kernel_rfl)
theorem WF (a:Value):argsOk "reversed.__next__" ⟨[a],[]⟩:=by
 unfold argsOk;rw[signature?_of (n:="__txen__".toList) (by kernel_rfl) U7];kernel_rfl
theorem WG:Slot "reversed" "__iter__" "reversed.__iter__":=
 .of (owner:="reversed") (n:="__iter__") (by kernel_rfl) (by decide+kernel) (by decide+kernel) (by decide+kernel)
  (by first | exact .inl (by decide+kernel) | exact .inr (by decide+kernel)) (by kernel_rfl)
theorem YF (a:Value):argsOk "reversed.__iter__" ⟨[a],[]⟩:=by
 unfold argsOk;rw[signature?_of (n:="__reti__".toList) (by kernel_rfl) U7];kernel_rfl
theorem yj:entryFor table "reversed.__iter__"=some Builtin.«dict_keyiterator.__iter__»:=
 entryFor_alias (id' :="dict_keyiterator.__iter__") (by kernel_rfl) (by first | rfl | decide+kernel | (unfold String.splitOn;simp+decide [String.splitOnAux])) (by decide+kernel) (by kernel_rfl)
theorem KU:typeLookup (.type "tuple") "__reversed__"=pure none:=by rw[typeLookup_type,builtinLookup_eq_fast];kernel_rfl
theorem KW:isSubtype (.type "tuple") (.type "dict")=pure false:=by rw[isSubtype_type];kernel_rfl
noncomputable abbrev IsRv (h:Heap)(it:Addr)(v:Value)(i:Int):Prop:=h.get? it=some { cls:= .type "reversed",data:= .fields #[v,rawInt i] }
section
variable {prog:Program}{w:World}{A:Around}{E:Value->Shared->Prop}{s:Shared}{it l:Addr}{xs:Array Value}
theorem uA {v:Value}{i:Int}(x:IsRv s.heap it v i):s.TypeIs (.ref it) "reversed":=⟨_,x,rfl⟩
theorem next_item {i:Nat}{x:Value}{Q:Option Value->Shared->Prop}(hit:IsRv s.heap it (.ref l) (i:Int))(ht:IsTup s.heap l xs)(hf:(xs.size:Int) < 2 ^ 63)(hx:xs[i]? =some x)
  (hQ:∀h' tk,IsRv h' it (.ref l) ((i:Int) - 1)->bN it s.heap h' ->Q (some x) { s with heap:=h',toks:=tk }):wpAny (model prog w) A (pyNext (.ref it)) Q E s:=by
 refine a7 (wpAny_attempt (bi (uA hit) jd (bB jd (uA hit) wo ?_ (WF _))));refine a7 (bR rfl ?_);refine a7 (b6 hit rfl rfl ?_);refine a7 (b6 hit rfl rfl ?_);have hi:=(Array.getElem?_eq_some_iff.mp hx).1;have hT:=ht.typeIs;refine a7 (wpAny_specialOf hT slot_tuple_getitem.lookup ?_);refine a7 (wpAny_mkInt ?_);refine a7 (wpAny_attempt (getItem_tuple ht (by omega) (by omega) (seqIndex_of (by omega) (by omega)) (by simpa using hx) ?_))
 refine a7 (b6 hit rfl rfl ?_);refine a7 (bm hit (by simp) λg1 z1 e1=> ?_)
 exact ak ⟨x,rfl,ak (hQ g1 _ z1 e1)⟩
theorem next_end {Q:Option Value->Shared->Prop}(hh:A.handled=none)(hit:IsRv s.heap it (.ref l) (-1))
  (hQ:∀h',f9 it s.heap h' ->Q none { s with heap:=h' }):wpAny (model prog w) A (pyNext (.ref it)) Q E s:=by
 refine a7 (wpAny_attempt (bi (uA hit) jd (bB jd (uA hit) wo ?_ (WF _))));refine a7 (bR rfl ?_);refine a7 (b6 hit rfl rfl ?_);refine a7 (b6 hit rfl rfl ?_);refine a7 (cP ?_);refine a7 (show wpAny _ _ _ _ _ _ from ?_);refine a7 (bm hit (by simp) λg1 z1 e1=> ?_)
 refine bm z1 (by simp) λg2 z2 e2=> ?_
 refine a7 (show wpAny _ _ (newExc _ [] >>= λe=>raiseNew e) _ _ _ from ?_);refine a7 ?_;refine a7 (a_ (a7 (bR (by first | rfl | (simp only[firstArgMember])) (a_ ?_ (by size_fits)))) (by size_fits))
 refine a7 (wpAny_handled ?_);rw[hh];refine a7 (ak (wpAny_throw ?_));refine a7 (wpAny_isInstance ⟨_,af _ rfl,rfl⟩ isSubtype_stop ?_);exact ak (hQ _ (((e1.extBut.trans e2.extBut).push _).push _))
theorem iter_rv {v:Value}{i:Int}{Q:Value->Shared->Prop}(hit:IsRv s.heap it v i)(h:Q (.ref it) s):wpAny (model prog w) A (pyIter (.ref it)) Q E s:=by
 refine wpAny_pyIter_slot (uA hit) WG (bB WG (uA hit) yj ?_ (YF _));exact ak ⟨_,rfl,"reversed",_,uA hit,jd.lookup,h⟩
theorem Vq:mroOf (.type "reversed")=pure [.type "reversed",.type "object"]:=by rw[mroOf_type];kernel_rfl
theorem KY:typeLookup (.type "reversed") "__new__"=pure (some (.builtin "reversed.__new__")):=by kernel_rfl
theorem X2:Bind.madeBy (.type "reversed")=pure (some "reversed.__new__"):=madeBy_type Vq KY (by decide+kernel)
theorem KZ:isSubtype (.type "reversed") (.type "reversed")=pure true:=by rw[isSubtype_type];kernel_rfl
theorem gc (a:Value):newClass "reversed" ⟨[.type "reversed",a],[]⟩=pure (.type "reversed",[a]):=by
 unfold newClass;simp only[isType,KZ,pure_bind,dR,aR,if_false]
theorem YG:entryFor table "reversed.__new__"=some Builtin.«reversed.__new__»:=entryFor_of_tree (by kernel_rfl)
theorem vp {Q:Fin->Shared->Prop}(ht:IsTup s.heap l xs)(hf:(xs.size:Int) < 2 ^ 63)
  (h:∀tk,Q (.done (.ret (.ref s.heap.objs.size))) { s with heap:=s.heap.push { cls:= .type "reversed",data:= .fields #[.ref l,rawInt ((xs.size:Int) - 1)] },toks:=tk }):
  wpAny (model prog w) A (Builtin.«reversed.__new__» ⟨[.type "reversed",.ref l],[]⟩) Q E s:=by
 have hT:=ht.typeIs;refine a7 (bR (gc _) ?_);refine a7 (bR (by first | rfl | kernel_rfl) ?_)
 refine a7 (bR (by first | rfl | kernel_rfl) ?_)
 refine a7 (wpAny_specialOf hT KU ?_);refine a7 ?_;refine a7 (wpAny_isInstance hT KW ?_);refine a7 (wpAny_specialOf hT slot_tuple_getitem.lookup ?_);refine ak ?_;refine a7 (len_tuple ht hf ?_);refine a7 (bR rfl ?_);refine a7 (show wpAny _ _ (newObj _ (.fields #[.ref l,rawInt _])) _ _ _ from ?_);exact a_ (ak (h _)) (by size_fits)
theorem YH:Slot "reversed" "__init__" "object.__init__":=
 .of (owner:="object") (n:="__init__") (by kernel_rfl) (by decide+kernel) (by decide+kernel) (by decide+kernel)
  (by first | exact .inl (by decide+kernel) | exact .inr (by decide+kernel)) (by kernel_rfl)
theorem YI:TypeCalled "reversed" "reversed.__new__" "object.__init__":=
 ⟨by decide+kernel,by decide+kernel,⟨_,_,Vq⟩,X2,by decide+kernel,by kernel_rfl,YH⟩
theorem vq (a:Value):checkTypeCall "reversed" ⟨[a],[]⟩=pure ():=by kernel_rfl
theorem vt (a:Value):checkBuiltinCall "reversed.__new__" ⟨[.type "reversed",a],[]⟩=pure ():=by kernel_rfl
theorem call_rvT {Q:Value->Shared->Prop}(ht:IsTup s.heap l xs)(hf:(xs.size:Int) < 2 ^ 63)
  (h:∀tk,Q (.ref s.heap.objs.size) { s with heap:=s.heap.push { cls:= .type "reversed",data:= .fields #[.ref l,rawInt ((xs.size:Int) - 1)] },toks:=tk }):wpAny (model prog w) A (call (.type "reversed") [.ref l]) Q E s:=by
 refine callType_new (S:=λ_ R s=>(∃xs,IsTup s.heap l xs/\(xs.size:Int) < 2 ^ 63/\∀tk,R (.ok (.ret (.ref s.heap.objs.size))) { s with heap:=s.heap.push { cls:= .type "reversed",data:= .fields #[.ref l,rawInt ((xs.size) - 1)] },toks:=tk })) YI (by decide) (vq _) (vt _) (λobj=>PySem.F.args_object_init_2 obj _) YG (.of_wp λprog w A R s h=> ?_) ⟨xs,ht,hf,λtk=> ?_⟩
 ·obtain⟨xs,h1,h2,h3⟩:=h;exact vp h1 h2 λtk=>⟨_,rfl,h3 tk⟩
 ·exact⟨⟨_,af _ rfl,rfl⟩,h tk⟩
end
end PySem.RV
namespace PySem.RV
open PySem PySem.Spec PyProof.Rows
theorem vv:typeLookup (.type "list_reverseiterator") "__len__"=pure none:=by rw[typeLookup_type,builtinLookup_eq_fast];kernel_rfl
theorem X3:typeLookup (.type "list_reverseiterator") "__length_hint__"=pure (some (.builtin "list_reverseiterator.__length_hint__")):=by rw[typeLookup_type];kernel_rfl
section
variable {prog:Program}{w:World}{A:Around}{E:Value->Shared->Prop}{s:Shared}{I:Addr}{fp wr:List Addr}{G:Array GenState->Array GenState->Prop}{n:Nat}{P:Nat->Value->Prop}{St:Nat->Shared->Prop}
theorem yk {Q:List Value->Shared->Prop}(W:WalksS prog w A.in1 I fp wr G n P St)(hT:∀i s,St i s->s.TypeIs (.ref I) "list_reverseiterator")(hst:St 0 s)(hfp:∀b∈fp,b < s.heap.objs.size)(hI:I∈fp)
  (hQ:∀s' acc,Moved wr G s s' ->ItemsOf P acc n->Q acc.toList s') (hn:n<=sizeLine):wpAny (model prog w) A (collect (.ref I)) Q E s:=by
 have nf:=λz=>bn _ (hfp _ z);have nI:s.heap.objs.size ≠ I:=λz=>nf (z ▸ hI);unfold collect;refine a7 (wpAny_runValue (bH F.entry_proto_collect ?_));refine a7 (a_ (ak ⟨cN F.plain_list_iadd _,bH F.entry_list_iadd ?_⟩));have g0:=W.frame 0 s (s.heap.push { cls:= .type "list",data:= .seq ([]:List _).toArray }) _ hst (ai _) λb _ o e=>ab _ e;have g1:(s.heap.push { cls:= .type "list",data:= .seq ([]:List _).toArray }).get? _=some _:=af _ rfl;have g2:dS (.ref s.heap.objs.size) (.ref I)=false:=by simp[dS,nI]
 refine(show wpAny _ _ (Builtin.List.listExtendWith _ _ _) _ _ _ from ?_);refine a7 (cC (hT 0 _ g0) ?_);rw[if_neg (by rw[g2];decide)]
 refine a7 (W.self 0 _ _ _ g0 (a7 (cu ?_)));refine a7 (wpAny_specialOf (hT 0 _ g0) vv ?_);refine a7 (wpAny_specialOf (hT 0 _ g0) X3 ?_);generalize hid:("list_reverseiterator.__length_hint__")=id0;subst hid;refine a7 (wpAny_isInstance (b:=true) (hT 0 _ g0) (by kernel_rfl) ?_)
 refine ak ?_;refine ak ⟨cN F.plain_extend_loop _,codeAny_extend_loopS W hn _ nf _ n 0 _ _ _ rfl (b9 _) g0 g1 (ItemsOf.nil P) λs' acc' c' hm hS' hacc=> ?_⟩;exact a7 (wpAny_load hS' (ak (hQ s' _ (Moved.drop_new hm (ai _)) hacc)))
theorem gh {Q₁:Value->Shared->Prop}(W:WalksS prog w A.in1.in1 I fp wr G n P St)(hT:∀i s,St i s->s.TypeIs (.ref I) "list_reverseiterator")(hst:St 0 s)(hfp:∀b∈fp,b < s.heap.objs.size)(hI:I∈fp)
  (h:∀s' acc,Moved wr G s s' ->ItemsOf P acc n->Q₁ (.ref s'.heap.objs.size) { s' with heap:=s'.heap.push { cls:= .type "tuple",data:= .seq acc } }) (hsz:n<=sizeLine):
  codeAny (model prog w) A (.call (.builtin "tuple.__new__") ⟨[.type "tuple",.ref I],[]⟩) (wants Q₁ E) s:=by
 refine codeAny_of_tree ?_;refine(show wpAny _ A.in1 (do checkBuiltinCall "tuple.__new__" ⟨[.type "tuple",.ref I],[]⟩;again (.builtin "tuple.__new__" ⟨[.type "tuple",.ref I],[]⟩)) _ _ s from ?_)
 refine a7 (bR (F.newCall_tuple_1 _) (ak ⟨cN fW _,bH F.entry_tuple_new ?_⟩));rw[Around.under_plainId fW _];have hsub:=sub_tuple_self;have hinit:=init_tuple_lookup;have hmh:=madeHere_tuple;have ty:=hT 0 s hst
 wp_walk using cC ty,yk (hn:=hsz) W hT hst hfp hI
 intro s' acc hm hacc;have e:acc.toList.toArray=acc:=by simp
 refine(show wpAny _ _ (dU acc.toList.toArray >>= λv=>ret v) _ _ _ from ?_);unfold dU;refine a7 (a_ (ak ?_) (by rw[e];show acc.size<=sizeLine;rw[hacc.1];exact hsz))
 rw[e];exact h s' acc hm hacc
theorem tuple_lr {Q:Value->Shared->Prop}(W:WalksS prog w A.in1.in1.in1 I fp wr G n P St)(hT:∀i s,St i s->s.TypeIs (.ref I) "list_reverseiterator")(hst:St 0 s)(hfp:∀b∈fp,b < s.heap.objs.size)(hI:I∈fp)
  (hQ:∀s' acc,Moved wr G s s' ->ItemsOf P acc n->Q (.ref s'.heap.objs.size) { s' with heap:=s'.heap.push { cls:= .type "tuple",data:= .seq acc } }) (hsz:n<=sizeLine):
  wpAny (model prog w) A (call (.type "tuple") [.ref I]) Q E s:=
 callType_codes (Q₁:=λobj s₁=>s₁.TypeIs obj _/\Q obj _) ff (F.typeCall_tuple_1 _) F.entry_object_init
  (gh (hsz:=hsz) W hT hst hfp hI λs' acc hm hacc=>⟨⟨_,af _ rfl,rfl⟩,hQ s' acc hm hacc⟩) λobj s₁ h₁=>
   ⟨h₁.1,fg obj _,object_init_meets ff.init.lookup ff.made (by decide) _ w _ _ _ ⟨h₁.1,rfl,h₁.2⟩⟩
end
end PySem.RV
namespace PV
open PySem PySem.Spec PyProof.Rows L2
noncomputable def z1F (K:a8)(a:Addr)(n:Nat):It:=
 ⟨λi H=>∃xs x,SqT K H a xs/\xs.length=n/\xs.reverse[i]? =some x,λi H x H' =>H' =H/\∀xs,SqT K H a xs->xs.reverse[i]? =some x,λi H=>∃xs,SqT K H a xs/\xs.length=n/\n<=i⟩
noncomputable def z1G (K:a8)(a:Addr)(n:Nat):It:=
 ⟨λi H=>∃xs x,SqL K H a xs/\xs.length=n/\xs.reverse[i]? =some x,λi H x H' =>H' =H/\∀xs,SqL K H a xs->xs.reverse[i]? =some x,λi H=>∃xs,SqL K H a xs/\xs.length=n/\n<=i⟩
theorem Vr {α:Type}{xs:List α}{i:Nat}{x:α}(h:xs.reverse[i]? =some x):i < xs.length/\xs[xs.length - 1 - i]? =some x:=by
 have hi:=(aw.mp h).1;rw[bJ]at hi;rw[f7 hi]at h;exact⟨hi,h⟩
theorem vw {P:Program}{w:World}{K:a8}{tg:Expr}(a it:Addr)(n:Nat):yG P w K tg (z1F K a n) [it] it (λi h=>i<=n/\RV.IsRv h it (.ref a) ((n:Int) - 1 - (i:Int))) where
 mem:=by simp
 obj:=λi h st b hb=>by
  have e:b=it:=by simpa using hb
  subst e;exact⟨_,st.2,λv z=>nomatch z⟩
 keep:=λi h h' st k=>⟨st.1,k it (by simp) _ st.2⟩
 item:=by
  intro X hP hw hK hc i pins s σ H E I hf st hg;subst hP hw hK;obtain⟨xs,x,hq,hn,hx⟩:=hg;obtain⟨its,rv,p,hz⟩:=I.tuple hq;obtain⟨hi,hx'⟩:=Vr hx;obtain⟨u,hu,ru⟩:=rv.get hx';obtain⟨f0,f1,f2,f3,f4,f5⟩:=hf it (by simp)
  have hl:=rv.length;have e:(n:Int) - 1 - (i:Int)=((xs.length - 1 - i:Nat):Int):=by omega
  have hit:=st.2;rw[e]at hit;have hb:(its.toArray.size:Int) < 2 ^ 63:=by
   rw[bO]at hz;simp;omega
  refine RV.next_item hit p hb (x:=u) (by simpa using hu) λh' tk st' sb=> ?_
  have I1:Inv X pins σ H { s with heap:=h',toks:=tk }:=I.turned (t' :=tk) (λb o hb e=>(sb.2 b hb).trans e) f0 f1 f3 f4 f5;have e2:((xs.length - 1 - i:Nat):Int) - 1=(n:Int) - 1 - ((i+1:Nat):Int):=by omega
  rw[e2]at st';exact⟨u,rfl,UV (s:={ s with heap:=h',toks:=tk }) st' rfl rfl (by decide) ⟨x,H,I1,ru,⟨rfl,λys hy=>by rw[I.tuple_inj hy hq];exact hx⟩,⟨by omega,st'⟩,λb hb=>(hf b hb).1⟩⟩
 done:=by
  intro X hP hw hK hc i pins s σ H E I hf st hg;subst hP hw hK;obtain⟨xs,hq,hn,hx⟩:=hg;obtain⟨f0,f1,f2,f3,f4,f5⟩:=hf it (by simp)
  have hit:=st.2;have h1:=st.1;rw[show (n:Int) - 1 - (i:Int)= -1 by omega]at hit
  exact RV.next_end (I.ok.hd hc) hit λh' eb=>⟨rfl,I.turned (t' :=s.toks) (λb o hb e=>eb b o hb e) f0 f1 f3 f4 f5⟩
 self:=λ_ _ _ _ _ st h=>RV.iter_rv st.2 h
theorem vx {P:Program}{w:World}{K:a8}{tg:Expr}(a it:Addr)(n:Nat):yG P w K tg (z1G K a n) [it] it (λi h=>i<=n/\h.IsRevIter it a ((n:Int) - 1 - (i:Int))) where
 mem:=by simp
 obj:=λi h st b hb=>by
  have e:b=it:=by simpa using hb
  subst e;obtain⟨o,e,c,d⟩:=st.2;exact⟨o,e,λv z=>by rw[d]at z;cases z⟩
 keep:=λi h h' st k=>⟨st.1,st.2.at λo e=>k it (by simp) o e⟩
 item:=by
  intro X hP hw hK hc i pins s σ H E I hf st hg;subst hP hw hK;obtain⟨xs,x,hq,hn,hx⟩:=hg;obtain⟨its,rv,p,hz⟩:=I.list hq;obtain⟨hi,hx'⟩:=Vr hx;obtain⟨u,hu,ru⟩:=rv.get hx';obtain⟨f0,f1,f2,f3,f4,f5⟩:=hf it (by simp)
  have e:(n:Int) - 1 - (i:Int)=((xs.length - 1 - i:Nat):Int):=by omega
  have hit:=st.2;rw[e]at hit;refine wpAny_pyNext_rev_item hit p.isList (x:=u) (by simpa using hu) λh' st' sb=> ?_
  have I1:Inv X pins σ H { s with heap:=h' }:=I.turned (t' :=s.toks) (λb o hb e=>(sb.2 b hb).trans e) f0 f1 f3 f4 f5;have e2:((xs.length - 1 - i:Nat):Int) - 1=(n:Int) - 1 - ((i+1:Nat):Int):=by omega
  rw[e2]at st';obtain⟨o,e,c,d⟩:=id st';exact⟨u,rfl,UV (s:={ s with heap:=h' }) e c d (by decide) ⟨x,H,I1,ru,⟨rfl,λys hy=>by rw[I.list_inj hy hq];exact hx⟩,⟨by omega,st'⟩,λb hb=>(hf b hb).1⟩⟩
 done:=by
  intro X hP hw hK hc i pins s σ H E I hf st hg;subst hP hw hK;obtain⟨xs,hq,hn,hx⟩:=hg;obtain⟨f0,f1,f2,f3,f4,f5⟩:=hf it (by simp)
  have hit:=st.2;have h1:=st.1;rw[show (n:Int) - 1 - (i:Int)= -1 by omega]at hit
  exact wpAny_pyNext_rev_end (I.ok.hd hc) hit λh' eb=>⟨rfl,I.turned (t' :=s.toks) (λb o hb e=>eb b o hb e) f0 f1 f3 f4 f5⟩
 self:=λ_ _ _ _ _ st h=>wpAny_pyIter_revIter st.2 h
theorem zI.rev {H:Hp}:∀{vs:List V} {ts:List T},zI H vs ts->zI H vs.reverse ts.reverse
 | _,_,.nil=> .nil
 | _,_,.cons r t=>by rw[bS,bS];exact(zI.rev t).append (.cons r .nil)
theorem gm {K:a8}{B1 H1:Hp}{a:Addr}{xs:List V}{ts:List T}(h:B1 a=some (.tup xs))(r:zI B1 xs ts):rI B1 H1 (z1F K a xs.length) ts.reverse:=λB2 H2 s1 s2=>by
 have h2:=s2 _ _ (s1 _ _ h);have hr:=r.rev;refine⟨λi hi=> ?_,λi t x H3 e y=> ?_,λi hi=>⟨xs,SqT.of h2,rfl,by rw[bJ]at hi;rw[r.length];exact hi⟩⟩
 ·obtain⟨v,e,_⟩:=hr.get (ag hi);exact⟨xs,v,SqT.of h2,rfl,e⟩
 ·obtain⟨rfl,y⟩:=y;obtain⟨v,e1,r1⟩:=hr.get e;have:=y xs (SqT.of h2);rw[e1]at this;cases this;refine⟨zy.refl _, ?_⟩;rw[zS.self B2 _ s2];exact r1.mono s1
theorem gp {K:a8}{B1 H1:Hp}{a:Addr}{xs:List V}{ts:List T}(h:B1 a=some (.lst xs))(r:zI B1 xs ts):rI B1 H1 (z1G K a xs.length) ts.reverse:=λB2 H2 s1 s2=>by
 have h2:=s2 _ _ (s1 _ _ h);have hr:=r.rev;refine⟨λi hi=> ?_,λi t x H3 e y=> ?_,λi hi=>⟨xs,SqL.of h2,rfl,by rw[bJ]at hi;rw[r.length];exact hi⟩⟩
 ·obtain⟨v,e,_⟩:=hr.get (ag hi);exact⟨xs,v,SqL.of h2,rfl,e⟩
 ·obtain⟨rfl,y⟩:=y;obtain⟨v,e1,r1⟩:=hr.get e;have:=y xs (SqL.of h2);rw[e1]at this;cases this;refine⟨zy.refl _, ?_⟩;rw[zS.self B2 _ s2];exact r1.mono s1
noncomputable def z1H (fa:En->R T):En->R (List T):=λρ=>(fa ρ).bind λt=>(jV t).bind λxs=> .ok xs.reverse
noncomputable def vy:T->R T
 | .lst xs=>if xs.length<=bnd then .ok (.tup xs.reverse) else .bad
 | _=> .bad
section
variable {X:Cx}{Y:Fx}{a b tg:Expr}{fa fb:En->R T}{pos p p' pos' :Pos}
theorem gq {ta:TA}(hg:Gl X "reversed")(hm:X.mg "reversed"=none)(ha:PA X [a] ta)(hs:St1 X a:=by exact st1 rfl):
  PI X tg (.Call (.Name "reversed" p) [a] [] pos) (λσ H R=>ta σ H λvs H1=>∃l xs,vs=[.ref l]/\((H1 l=some (.lst xs)/\R (z1G X.K l xs.length) H1)\/(H1 l=some (.tup xs)/\R (z1F X.K l xs.length) H1))):=by
 intro pins s σ H R I h;refine Call_ (j8 I hg hm boot_reversed (aQ (thn (ha pos _ s σ H _ I h) λus s1 ⟨vs,H1,I1,r1,q1⟩=> ?_) hs rfl));obtain⟨l,xs,e,q⟩:=q1;subst e;obtain⟨u,rfl,ru⟩:=ZN r1;obtain rfl:u=Value.ref l:=ru;have ok:∀b∈[s1.heap.objs.size],Wn X _ H1 b:=λb hb=>by
  have e:=by simpa using hb
  subst e;exact I1.fpOk (ai _) (I1.hok.fresh (ai _))
 rcases q with ⟨hl,q⟩ | ⟨hl,q⟩
 ·obtain⟨its,rv,p,hz⟩:=I1.list (SqL.of hl);have e:((its.toArray.size):Int) - 1=(xs.length) - 1 - ((0):Int):=by have:=rv.length;simp;omega
  refine call_reversed_list p.isList ?_;rw[e];have st:(s1.heap.push (revObj l ((xs.length) - 1 - ((0):Int)))).IsRevIter _ l _:=⟨_,af _ rfl,rfl,rfl⟩;refine wpAny_pyIter_revIter st ?_;exact⟨s1.heap.objs.size,[s1.heap.objs.size],_,_,H1,rfl,I1.kept (λb o e=>ab _ e),vx l _ _,⟨b9 _,st⟩,ok,q⟩
 ·obtain⟨its,rv,p,hz⟩:=I1.tuple (SqT.of hl);have hlen:=rv.length;have e:((its.toArray.size):Int) - 1=(xs.length) - 1 - ((0):Int):=by simp;omega
  refine RV.call_rvT p (by rw[bO]at hz;omega) λtk=> ?_
  rw[e];refine RV.iter_rv (af _ rfl) ?_;exact⟨s1.heap.objs.size,[s1.heap.objs.size],_,_,H1,rfl,I1.kept (λb o e=>ab _ e),vw l _ _,⟨b9 _,af _ rfl⟩,ok,q⟩
theorem z1I (hg:Gl X "reversed")(hm:X.mg "reversed"=none)(ha:Snd X Y a fa)(hs:St1 X a:=by exact st1 rfl):uu X Y tg (.Call (.Name "reversed" p) [a] [] pos) (z1H fa):= .mk λρ=>
 PI.imp (gq hg hm (zH (ha ρ) Z5 hs) hs) λσ H R ⟨B,I,q⟩=>step I q λt v H1 _ s1 r1 I1 q1=>by
  cases r1 with
  | @tup l xs ts h r=>exact⟨l,xs,rfl,.inr ⟨I1.sB _ _ h,ZS I1 (show Po Y rI _ H1 _ R from q1) (gm h r)⟩⟩
  | @lst l xs ts h r=>exact⟨l,xs,rfl,.inl ⟨I1.sB _ _ h,ZS I1 (show Po Y rI _ H1 _ R from q1) (gp h r)⟩⟩
  | _=>exact q1.elim
theorem U8:∀{xs ys:List V} {us ws:List Value},zZ xs us->zZ ys ws->zZ (xs++ys) (us++ws)
 | _,_,_,_,.nil,q=>q
 | _,_,_,_,.cons r t,q=> .cons r (U8 t q)
theorem U9:∀{xs:List V} {us:List Value},zZ xs us->zZ xs.reverse us.reverse
 | _,_,.nil=> .nil
 | _,_,.cons r t=>by rw[bS,bS];exact U8 (U9 t) (.cons r .nil)
theorem X4 {its:List Value}{acc:Array Value}(h:ItemsOf (λi v=>its.toArray[its.toArray.size - 1 - i]? =some v) acc its.toArray.size):acc.toList=its.reverse:=by
 have h1:=by
  have:=h.1;simpa using this
 have h2:=h.2;refine cY λi=> ?_
 by_cases hi:i < its.length
 ·have hlt:i < acc.toList.length:=by simp;omega
  have e:=ag hlt;have:=h2 i _ (by rw[← Array.getElem?_toList];exact e)
  rw[f7 hi,e,← this];simp
 ·rw[aP (by simp;omega),aP (by simp;omega)]
theorem gr (hh:X.A.handled=none)(gl:Gl X "tuple")(mg:X.mg "tuple"=none)(gl' :Gl X "reversed")(mg' :X.mg "reversed"=none)(ha:Snd X Y a fa)(hs:St1 X a:=by exact st1 rfl)(hs' :St1 X (.Call (.Name "reversed" p') [a] [] pos'):=by exact st1 rfl):
  Snd X Y (.Call (.Name "tuple" p) [.Call (.Name "reversed" p') [a] [] pos'] [] pos) (ap1 vy fa):= .mk λρ=>by
 intro pins s σ H Q I ⟨B,J,q⟩;have hq:tS Y rC fa ρ σ H (λv H1=>∃l xs,v= .ref l/\H1 l=some (.lst xs)/\xs.length<=sizeLine/\∀t,H1 t=none->Q (.ref t) (upd H1 t (.tup xs.reverse))):=by
  refine step J q λt v H1 _ s1 r1 I1 q1=> ?_;cases r1 with
  | @lst l xs ts h r=>
   have q1:Po Y rC _ H1 (if ts.length<=bnd then .ok (.tup ts.reverse) else .bad) Q:=q1
   split at q1
   ·rename_i hb;exact⟨l,xs,rfl,I1.sB _ _ h,by rw[r.length];exact ZF hb,λt ht=>Kb I1.sB q1 rfl r.rev ht⟩
   ·exact q1.elim
  | _=>exact q1.elim
 refine bK (j8 I gl mg PyProof.Rows.Boot.«tuple» (aQ (rest:=[]) ?_ hs' rfl));rw[hs'];refine dy (bK (j8 I gl' mg' boot_reversed (aQ (e:=a) (rest:=[]) ?_ hs rfl)));refine thn ((zH (ha ρ) Z5 hs) pos' pins s σ H (λvs H1=>∃l xs,vs=[.ref l]/\H1 l=some (.lst xs)/\xs.length<=sizeLine/\∀t,H1 t=none->Q (.ref t) (upd H1 t (.tup xs.reverse))) I ?_) λus s1 ⟨vs,H1,I1,r1,l,xs,e,hl,hz,q1⟩=> ?_
 ·obtain⟨B',J',q'⟩:=hq;refine⟨B',J', ?_⟩;revert q';cases fa ρ with
  | bad=>exact λq' =>q'
  | ex c=>exact λq' =>q'
  | ok t=>
   intro q' v H1 s1 r1;obtain⟨l,xs,rfl,h⟩:=q' v H1 s1 r1;exact⟨l,xs,rfl,h⟩
 subst e;obtain⟨u,rfl,ru⟩:=ZN r1;obtain rfl:u=Value.ref l:=ru;obtain⟨its,rv,pl,_⟩:=I1.list (SqL.of hl);have hlt:=I1.hok.lt hl;refine call_reversed_list pl.isList (fQ ?_);have e0:((its.toArray.size):Int) - 1 - ((0:Nat))=((its.toArray.size):Int) - 1:=by omega
 refine RV.tuple_lr (Walks.listRev (A:=X.A.in1.in1.in1) hh _ l (az hlt) _).toS (λi s st=>st.2.1.typeIs) ⟨b9 _,⟨_,af _ rfl,rfl,by rw[e0];rfl⟩,pl.isList.push _⟩ (λb hb=> ?_) (by simp) (λs' acc hm hacc=> ?_) (by rw[ay,← rv.length];exact hz)
 ·have hb:=by simpa using hb
  rcases hb with rfl | rfl
  ·rw[bx];exact bW _
  ·rw[bx];exact bQ hlt
 obtain⟨h',g',d',tk',os'⟩:=s';have e1:g' =s1.gens:=hm.gens;have e2:d' =s1.drawn:=hm.drawn;have e3:=hm.os;subst e1 e2 e3;have kp:∀b o,s1.heap.get? b=some o->h'.get? b=some o:=λb o e=>hm.heap b o (λz=>by
  have z:b=s1.heap.objs.size:=by simpa using z
  have:=am e;rw[z]at this;exact bn _ this) (ab _ e)
 have I2:=I1.kept (t' :=tk') kp;have ea:acc=its.reverse.toArray:=by rw[← X4 hacc]
 rw[ea];refine⟨.ref h'.objs.size,upd H1 _ (.tup xs.reverse),I2.laid (λb u e=>ab _ e) (ai _) ⟨by rw[bJ];exact hz,its.reverse,U9 rv,⟨_,af _ rfl,rfl,_,rfl⟩,.inr ⟨_,af _ rfl,rfl⟩⟩,rfl,q1 _ (I2.hok.fresh (ai _))⟩
end
noncomputable def w8:List T->Option Bool
 | []=>some false
 | .bl k :: r=>match w8 r with | some j=>some (k || j) | none=>none
 | _ :: _=>none
noncomputable def z1J:T->R T
 | .lst ts=>match w8 ts with | some k=> .ok (.bl k) | none=> .bad
 | _=> .bad
theorem YJ:∀{H:Hp} {xs:List V} {ts:List T} {its:List Value} {k:Bool},zI H xs ts->zZ xs its->w8 ts=some k->∃tr:Nat->Bool,(∀i v,its[i]? =some v->v=Value.bool (tr i))/\(aT its.length).any tr=k
 | _,_,_,_,k,.nil,.nil,h=>by
  have h' :=h;cases h';exact⟨λ_=>true,λi v e=>by simp at e,rfl⟩
 | H,_,_,_,k,.cons r rs,.cons (b:=u) rv vs,h=>by
  cases r with
  | bl b=>
   unfold w8 at h;split at h
   ·rename_i j e;cases h;obtain⟨tr,h1,h2⟩:=YJ rs vs e;obtain rfl:u=Value.bool b:=rv;refine⟨λi=>match i with | 0=>b | i+1=>tr i,λi v e=> ?_, ?_⟩
    ·cases i with
     | zero=>simp at e;exact e.symm
     | succ i=>exact h1 i v (by simpa using e)
    ·rw[aj,c9,dO,List.any_map,← h2];rfl
   ·cases h
  | _=>cases h
section
variable {X:Cx}{Y:Fx}{a b:Expr}{fa fb:En->R T}{pos p p' pos' pt:Pos}{elts:List Expr}{kk:Nat}
theorem YK (hh:X.A.handled=none):Zt X (.builtin "any") (λvs H Q=>∃l xs ts k,vs=[.ref l]/\H l=some (.lst xs)/\zI H xs ts/\w8 ts=some k/\Q (.bl k) H):=by
 intro pins s σ H vs us Q I rv h;obtain⟨l,xs,ts,k,rfl,hl,r,hk,q⟩:=h;obtain⟨u,rfl,ru⟩:=ZN rv;obtain rfl:u=Value.ref l:=ru;obtain⟨its,rv,p,_⟩:=zV I (.inl hl) r;obtain⟨tr,h1,h2⟩:=YJ r rv hk;refine call_any_walk (wpAny_pyIter_list p ?_);have hlt:=I.hok.lt hl;have old:∀b o,s.heap.get? b=some o->(s.heap.push { cls:= .type "list_iterator",data:= .fields #[.ref l,.int 0 0] }).get? b=some o:=λb o e=>ab _ e;refine⟨s.heap.objs.size,_,_,_,_,_,tr,rfl,iD (A:=X.A.in1) hh _ l (az hlt) its.toArray, ?_, ?_,λh' tk hk' => ?_⟩
 ·refine⟨?_,p.at λo e=>old _ o e⟩;exact⟨_,af _ rfl,rfl,rfl⟩
 ·intro i v s' Q' E' hi hq;rw[h1 i v (by simpa using hi)]
  exact aZ hq
 ·rw[ay,h2];refine⟨.bl k,H,I.kept (λb o e=>hk' b o ?_ (old b o e)),rfl,q⟩;simp;exact az (am e)
theorem z1K (hh:X.A.handled=none)(gl:Gl X "any")(mg:X.mg "any"=none)(ha:jz X Y a fa)(hs:St1 X a:=by exact st1 rfl):Snd X Y (.Call (.Name "any" p) [a] [] pos) (ap1 z1J fa):=
 wl (YK hh) (λv t B H Q r sB q=>by
  cases r with
  | @lst l xs ts h r=>
   have q:Po Y rC B H (match w8 ts with | some k=> .ok _ | none=> .bad) Q:=q
   split at q
   ·rename_i k e;exact⟨l,xs,ts,k,rfl,h,r,e,po0 sB q rfl (.bl k)⟩
   ·exact q.elim
  | _=>exact q.elim) gl mg PyProof.Rows.Boot.«any» ha hs
end
noncomputable def uB (x:Int):List Int->List Int
 | []=>[x]
 | y :: ys=>if x<=y then x :: y :: ys else y :: uB x ys
noncomputable def yl:List Int->List Int
 | []=>[]
 | x :: xs=>uB x (yl xs)
noncomputable def vz:T->R T
 | .lst ts=>match ZM ts with | some l=>if ts.length < 64 then .ok (.lst ((yl l).map T.int)) else .bad | none=> .bad
 | _=> .bad
theorem JH (x:Int):∀ys:List Int,(uB x ys).Perm (x :: ys)
 | []=> .refl _
 | y :: ys=>by
  unfold uB;split
  ·exact .refl _
  ·exact((JH x ys).cons y).trans (.swap x y ys)
theorem WH:∀xs:List Int,(yl xs).Perm xs
 | []=> .refl _
 | x :: xs=>(JH x _).trans ((WH xs).cons x)
theorem JI (x:Int):∀ys:List Int,ys.Pairwise (·<=·)->(uB x ys).Pairwise (·<=·)
 | [],_=>by unfold uB;simp
 | y :: ys,h=>by
  unfold uB;rw[cf]at h;split
  ·rename_i hx;refine cf.mpr ⟨λz hz=> ?_,cf.mpr h⟩;rcases ah.mp hz with rfl | hz
   ·exact hx
   ·exact fX hx (h.1 z hz)
  ·refine cf.mpr ⟨λz hz=> ?_,JI x ys h.2⟩;rcases ah.mp ((JH x ys).mem_iff.mp hz) with rfl | hz
   ·omega
   ·exact h.1 z hz
theorem JJ:∀xs:List Int,(yl xs).Pairwise (·<=·)
 | []=> .nil
 | x :: xs=>JI x _ (JJ xs)
theorem WI:∀(xs ys:List Int),xs.Perm ys->xs.Pairwise (·<=·)->ys.Pairwise (·<=·)->xs=ys
 | [],ys,p,_,_=>(List.nil_perm.mp p).symm
 | x :: xs,[],p,_,_=>by cases List.perm_nil.mp p
 | x :: xs,y :: ys,p,h1,h2=>by
  rw[cf]at h1 h2;have e:x=y:=by
   have a1:x<=y:=by
    rcases ah.mp (p.mem_iff.mpr (ad)) with z | z
    ·omega
    ·exact h1.1 y z
   have a2:y<=x:=by
    rcases ah.mp (p.mem_iff.mp (ad)) with z | z
    ·omega
    ·exact h2.1 x z
   omega
  subst e;rw[WI xs ys (List.Perm.cons_inv p) h1.2 h2.2]
theorem jI:∀{its:List Value} {ns:List Int},IntsAre its ns->zZ (ns.map V.int) its:=by
 intro its ns h
 induction h with
 | nil=>exact .nil
 | cons n t _ ih=>exact .cons ⟨_,rfl⟩ ih
theorem Ua:∀(ps:List (Int×Tok)),IntsAre (ps.map λp=>Value.int p.1 p.2) (ps.map (·.1))
 | []=> .nil
 | p :: ps=> .cons _ _ (Ua ps)
theorem WJ {H:Hp}:∀ns:List Int,zI H (ns.map V.int) (ns.map T.int)
 | []=> .nil
 | n :: ns=> .cons (.int n) (WJ ns)
section
variable {X:Cx}{Y:Fx}{a b:Expr}{fa fb:En->R T}{pos p p' pos' pt:Pos}{elts:List Expr}{kk:Nat}
theorem ym:Zt X (.builtin "sorted") (λvs H Q=>∃l xs ts is,vs=[.ref l]/\H l=some (.lst xs)/\zI H xs ts/\ZM ts=some is/\ts.length < 64/\∀r,H r=none->Q (.ref r) (upd H r (.lst ((yl is).map V.int)))):=by
 intro pins s σ H vs us Q I rv h;obtain⟨l,xs,ts,is,rfl,hl,r,hk,h64,q⟩:=h;obtain⟨u,rfl,ru⟩:=ZN rv;obtain rfl:u=Value.ref l:=ru;obtain⟨its,rv,p,hlen,_⟩:=zV I (.inl hl) r;obtain⟨ps,h1,h2⟩:=uz r rv hk;refine sorted_ints p (h1 ▸ Ua ps) (by omega) λout ns' a1 a2 a3=> ?_
 have e:=WI _ _ (a2.trans (by rw[h2];exact(WH is).symm)) a3 (JJ is)
 obtain⟨n,he⟩:=sortedAll_at _ its out;have hle:s.heap.objs.size<=s.heap.objs.size+1:=de _;refine⟨.ref _,upd H _ _,I.laid (λb u e=>sortedAll_old e) hle ?_,rfl,by have:=q _ (I.hok.fresh hle);rw[← e]at this;exact this⟩
 have hl2:ns'.length=ts.length:=by
  have h3:=a2.length_eq;rw[ac]at h3;have h4:its.length=ps.length:=by rw[h1,ac]
  omega
 exact⟨by rw[ac,bO];omega,out.toList,n,jI a1,he⟩
theorem gu (gl:Gl X "sorted")(mg:X.mg "sorted"=none)(ha:jz X Y a fa)(hs:St1 X a:=by exact st1 rfl):Snd X Y (.Call (.Name "sorted" p) [a] [] pos) (ap1 vz fa):=
 wl ym (λv t B H Q r sB q=>by
  cases r with
  | @lst l xs ts h r=>
   have q:Po Y rC B H (match ZM ts with | some l=>if ts.length < 64 then .ok _ else .bad | none=> .bad) Q:=q
   split at q
   ·rename_i is e;split at q
    ·rename_i h64;refine⟨l,xs,ts,is,rfl,h,r,e,h64,λz hz=> ?_⟩;exact q _ _ (zy.new hz _) (.lst (jc hz _) (WJ _))
    ·exact q.elim
   ·exact q.elim
  | _=>exact q.elim) gl mg PyProof.Rows.Boot.«sorted» ha hs
end
end PV
namespace PySem.RV
open PySem PySem.Spec PyProof.Rows PySem.Builtin.SmallTypes
theorem draws_tup {prog:Program}{w:World}{A:Around}(hh:A.handled=none)(it l:Addr)(hne:l ≠ it)(items:Array Value):Draws prog w A it [it,l] items.size (λi v=>items[i]? =some v) (λi h=>h.IsTupleIter it l i/\h.IsTuple l items) where
 live:=λi h st=>(ZG.nx_tup hne items).there st it (.head _)
 frame:=λi h h' st hk=>(ZG.nx_tup hne items).keep st hk
 item:=λi s Q E hi st hQ=>ZG.tup_item st.1 st.2 (x:=items[i]) (by simp[hi]) λh' a b=>hQ _ h' s.toks (by simp[hi]) ⟨a,st.2.extBut b.extBut hne⟩ b
 done:=λs Q E st hE=>ZG.tup_stop hh st.1 st.2 (by simp) hE
noncomputable abbrev eOb (i:Addr):Obj:={ cls:= .type "enumerate",data:= .fields #[.none,.bool false,.ref i,rawInt 0,.none,.none] }
theorem YL (l:Addr)(items:Array Value)(n:Nat)(dct:Option Addr)(sl:Array (Option Value)):
  Meets (Builtin.«enumerate.__new__» ⟨[.type "enumerate",.ref l],[]⟩) (λ_ R s=>s.heap.get? l=some { cls:= .type "tuple",dict:=dct,data:= .seq items n,slots:=sl }/\
   R (.ok (.ret (.ref (s.heap.push (ZG.oT l)).objs.size))) { s with heap:=(s.heap.push (ZG.oT l)).push (eOb s.heap.objs.size) }):=
 .of_wp λprog w A R s h=>by
  obtain⟨hp,g,d,tk,os⟩:=s;obtain⟨hl,h⟩:=h;have hsub:=sub_enumerate;have hL:fV (il ⟨hp,g,d,tk,os⟩) l items:=⟨_,hl,rfl,n,rfl⟩
  wp_walk using bY hl
  refine wpAny_stack_any λst=>ak ?_;split
  ·rename_i c _ _ _ _ _;cases (c == Value.type "enumerate") <;> (wp_walk using bY hl,wpAny_pyIter_tuple hL;exact⟨_,rfl,h⟩)
  ·wp_walk using bY hl,wpAny_pyIter_tuple hL
   exact⟨_,rfl,h⟩
theorem enum_callT {prog:Program}{w:World}{A:Around}{E:Value->Shared->Prop}{s:Shared}{l:Addr}{items:Array Value}{Q:Value->Shared->Prop}(hL:s.heap.IsTuple l items)
  (h:∀h',IsEnum h' (s.heap.objs.size+1) s.heap.objs.size 0 .none->h'.IsTupleIter s.heap.objs.size l 0->(∀b o,s.heap.get? b=some o->h'.get? b=some o)->Q (.ref (s.heap.objs.size+1)) { s with heap:=h' }):
  wpAny (model prog w) A (call (.type "enumerate") [.ref l]) Q E s:=by
 obtain⟨⟨c,dct,dt,sl⟩,hl,hc,n,hd⟩:=hL;obtain rfl:c= .type _:=hc;obtain rfl:dt= .seq _ n:=hd;refine callType_new F.called_enumerate (by decide) (F.typeCall_enumerate_1 _) (F.newCall_enumerate_1 _) (λobj=>fg obj _) F.entry_enumerate_new (YL l _ n dct sl) ⟨hl, ?_⟩
 have hz:(s.heap.push (ZG.oT l)).objs.size=s.heap.objs.size+1:=bx ..;have e1:((s.heap.push (ZG.oT l)).push (eOb s.heap.objs.size)).get? _=some _:=af _ rfl;rw[hz]at e1;rw[hz];exact⟨⟨_,e1,rfl⟩,h _ e1 ⟨_,ab _ (af _ rfl),rfl,rfl⟩ λb o x=>ab _ (ab _ x)⟩
end PySem.RV
namespace PV
open PySem PySem.Spec PyProof.Rows L2
noncomputable def z1L (K:a8)(l:Addr)(n:Nat):It:=
 ⟨λi H=>∃xs x,SqT K H l xs/\xs.length=n/\xs[i]? =some x,λi H v H' =>∃p x,H p=none/\v= .ref p/\(∀xs,SqT K H l xs->xs[i]? =some x)/\H' =upd H p (.tup [.int i,x]),λi H=>∃xs,SqT K H l xs/\xs.length=n/\n<=i⟩
theorem yn {P:Program}{w:World}{K:a8}{elts:List Expr}{kk:Nat}{pt:Pos}(e it l:Addr)(n:Nat)(hei:e ≠ it)(hle:l ≠ e)(hli:l ≠ it):
  yG P w K (.Tuple elts kk pt) (z1L K l n) [e,it] e (λi h=>i<=n/\(∃old,IsEnum h e it i old)/\h.IsTupleIter it l i) where
 mem:=by simp
 obj:=λi h st b hb=>by
  obtain⟨_,⟨old,he⟩,o,e1,c,d⟩:=st;rcases ah.mp hb with rfl | hb
  ·exact⟨_,he,λv z=>nomatch z⟩
  ·have z:b=it:=by simpa using hb
   subst z;exact⟨o,e1,λv z=>by rw[d]at z;cases z⟩
 keep:=λi h h' st k=>by
  obtain⟨hn,⟨old,he⟩,o,e1,r⟩:=st;exact⟨hn,⟨old,k e (by simp) _ he⟩,o,k it (by simp) o e1,r⟩
 item:=by
  intro X hP hw hK hc i pins s σ H E I hf st hg;subst hP hw hK;obtain⟨xs,x,hq,hxn,hx⟩:=hg;obtain⟨its,rv,p,hz⟩:=I.tuple hq;obtain⟨u,hu,ru⟩:=rv.get hx;obtain⟨hin,⟨old,he⟩,hit⟩:=st;have hi:i < its.toArray.size:=by
   have:=(aw.mp hu).1;simpa using this
  have D:=RV.draws_tup (prog:=X.prog) (w:=X.w) (A:=X.A.in1) (I.ok.hd hc) it l hli its.toArray;have hef:e ∉ [it,l]:=λz=>by
   rcases ah.mp z with z | z
   ·exact hei z
   ·exact hle (aG.mp z).symm
  have WE:=WalksT.enumerateD D e hei hef (.head _);refine WE.item i s _ _ hi ⟨⟨old,he⟩,hit,p⟩ λT vals h' tk hP hT hTup hM hk=> ?_;obtain⟨t,y,hy,rfl⟩:=hP;have hyu:y=u:=by
   have:its[i]? =some y:=by simpa using hy
   rw[hu]at this;exact(aH this).symm
  subst hyu;refine⟨.ref T,rfl, ?_⟩;refine WE.go elts kk pt i T _ _ _ hM λh2 hst2 hk2=> ?_;have hTn:H T=none:=I.hok.fresh hT;have hTne:∀b∈[e,it],b ≠ T:=λb hb z=>by
   obtain⟨_,_,h3,h4⟩:=hM;rcases ah.mp hb with rfl | hb
   ·exact h3 z.symm
   ·have:b=it:=by simpa using hb
    subst this;exact h4 z.symm
  have uh:IsTup h2 T #[.int i t,y]:=by
   obtain⟨o,eo,r⟩:=hTup;exact⟨o,hk2 T o (λhb=>hTne T hb rfl) eo,r⟩
  refine⟨.ref T,upd H T (.tup [.int i,x]),Inv.laidT (s:=s) (h' :=h2) (ch:=[e,it]) (tk:=tk) I hf (λb o hb e=>hk2 b o hb (hk b o hb e)) (λb o hb _=> ?_) hT ⟨by rw[bO];show 2<=16777216;decide,[.int i t,y],.cons ⟨t,rfl⟩ (.cons ru .nil),uh,.inl ⟨_,_,rfl⟩⟩,rfl,⟨T,x,hTn,rfl,λys hy=>by rw[I.tuple_inj hy hq];exact hx,rfl⟩,⟨by have:=(aw.mp hx).1;omega,hst2.1,hst2.2.1⟩,λb hb=> ?_⟩
  ·obtain⟨⟨old2,he2⟩,⟨o2,eo2,_⟩,_⟩:=hst2;rcases ah.mp hb with rfl | hb
   ·exact⟨_,he2⟩
   ·have:b=it:=by simpa using hb
    subst this;exact⟨o2,eo2⟩
  ·rw[zv (hTne b hb)];exact(hf b hb).1
 done:=by
  intro X hP hw hK hc i pins s σ H E I hf st hg;subst hP hw hK;obtain⟨xs,hq,hxn,hx⟩:=hg;obtain⟨its,rv,p,hz⟩:=I.tuple hq;obtain⟨hin,⟨old,he⟩,hit⟩:=st;have hl:=rv.length;have D:=RV.draws_tup (prog:=X.prog) (w:=X.w) (A:=X.A.in1) (I.ok.hd hc) it l hli its.toArray;have hn:its.toArray.size=i:=by simp;omega
  refine wpAny_pyNext_enum_endD D he (by rw[hn];exact⟨hit,p⟩) λh' hk=>⟨rfl, ?_⟩
  obtain⟨f0,f1,f2,f3,f4,f5⟩:=hf it (by simp)
  exact I.turned (t' :=s.toks) (λb o hb e=>hk b o hb e) f0 f1 f3 f4 f5
 self:=λ_ _ _ _ _ st h=>let ⟨_,⟨_,he⟩,_⟩:=st;wpAny_pyIter_enum he h
theorem vA {K:a8}{B1 H1:Hp}{a:Addr}{xs:List V}{ts:List T}(h:B1 a=some (.tup xs))(r:zI B1 xs ts):rI B1 H1 (z1L K a xs.length) (jB ts):=λB2 H2 s1 s2=>by
 have h2:=s2 _ _ (s1 _ _ h);rw[Jb];refine⟨λi hi=> ?_,λi t x H3 e y=> ?_,λi hi=>⟨xs,SqT.of h2,rfl,by rw[r.length];exact hi⟩⟩
 ·obtain⟨v,e,_⟩:=r.get (ag hi);exact⟨xs,v,SqT.of h2,rfl,e⟩
 ·obtain⟨p,v,hp,rfl,y,rfl⟩:=y;obtain⟨t',et,rfl⟩:=WD e;obtain⟨v',e1,r1⟩:=r.get et;have:=y xs (SqT.of h2);rw[e1]at this;cases this;refine⟨zy.new hp _,.tup (jc hp _) (.cons (.int _) (.cons ?_ .nil))⟩;exact(r1.mono s1).mono (zS.ge s2 (zy.new hp _))
noncomputable def Ub (fa:En->R T):En->R (List T):=λρ=>(fa ρ).bind λt=>match t with
 | .tup xs=> .ok (jB xs)
 | _=> .bad
section
variable {X:Cx}{Y:Fx}{a:Expr}{fa:En->R T}{pos p pt:Pos}{elts:List Expr}{kk:Nat}
theorem vC {ta:TA}(hg:Gl X "enumerate")(hm:X.mg "enumerate"=none)(ha:PA X [a] ta)(hs:St1 X a:=by exact st1 rfl):
  PI X (.Tuple elts kk pt) (.Call (.Name "enumerate" p) [a] [] pos) (λσ H R=>ta σ H λvs H1=>∃l xs,vs=[.ref l]/\H1 l=some (.tup xs)/\R (z1L X.K l xs.length) H1):=by
 intro pins s σ H R I h;refine Call_ (j8 I hg hm PyProof.Rows.Boot.«enumerate» (aQ (thn (ha pos _ s σ H _ I h) λus s1 ⟨vs,H1,I1,r1,q1⟩=> ?_) hs rfl));obtain⟨l,xs,e,hl,q⟩:=q1;subst e;obtain⟨u,rfl,ru⟩:=ZN r1;obtain rfl:u=Value.ref l:=ru;obtain⟨its,rv,pl,hz⟩:=I1.tuple (SqT.of hl);have hlt:=I1.hok.lt hl;refine RV.enum_callT (show s1.heap.IsTuple l _ from pl) λh' he hit hk=>wpAny_pyIter_enum he ?_;have f:∀b∈[s1.heap.objs.size+1,s1.heap.objs.size],Wn X _ H1 b:=λb hb=>by
  rcases ah.mp hb with rfl | hb
  ·exact I1.fpOk (de _) (I1.hok.fresh (de _))
  ·have z:=by simpa using hb
   subst z;exact I1.fpOk (ai _) (I1.hok.fresh (ai _))
 exact⟨s1.heap.objs.size+1,[s1.heap.objs.size+1,s1.heap.objs.size],_,_,H1,rfl,I1.kept hk,yn _ _ l _ (i7 _) (az (bQ hlt)) (az hlt),⟨b9 _,⟨_,he⟩,hit⟩,f,q⟩
theorem X5 (hg:Gl X "enumerate")(hm:X.mg "enumerate"=none)(ha:Snd X Y a fa)(hs:St1 X a:=by exact st1 rfl):uu X Y (.Tuple elts kk pt) (.Call (.Name "enumerate" p) [a] [] pos) (Ub fa):= .mk λρ=>
 PI.imp (vC hg hm (zH (ha ρ) Z5 hs) hs) λσ H R ⟨B,I,q⟩=>step I q λt v H1 _ s1 r1 I1 q1=>by
  cases r1 with
  | @tup l xs ts h r=>exact⟨l,xs,rfl,I1.sB _ _ h,ZS I1 (show Po Y rI _ H1 _ R from q1) (vA h r)⟩
  | _=>exact q1.elim
end
end PV
namespace PySem.RW37
open PySem PySem.Spec PyProof.Rows L2
section
variable {X:Cx}{pos:Pos}
noncomputable def z1M (i j k:Nat)(ta:TA):TS:=λD σ H=>ta σ H λvs H1=>∃v w z,vs=[v,w,z]/\D.nx (((σ.set i (some v)).set j (some w)).set k (some z)) H1
theorem ps_par3 {i j k:Nat}{x y z:Str}{a b c:Expr}{ta:TA}{px py pz pt:Pos}{kt k2 pt2}(hc:X.calm=true)(hN:X.N.Nodup)(hi:X.N[i]? =some x)(hj:X.N[j]? =some y)(hk:X.N[k]? =some z)(hij:i ≠ j)(hik:i ≠ k)(hjk:j ≠ k)
  (hx:X.env.scope.names.lookup x=some .local) (hy:X.env.scope.names.lookup y=some .local) (hz:X.env.scope.names.lookup z=some .local) (ha:PA X [a,b,c] ta)
  (hw:swappedStores [.Tuple [.Name x px,.Name y py,.Name z pz] kt pt] (.Tuple [a,b,c] k2 pt2) X.env=pure (some [x,y,z]))
  (hs:swapsWithSole [.Tuple [.Name x px,.Name y py,.Name z pz] kt pt] (.Tuple [a,b,c] k2 pt2) pos.line X.env=pure false:=by rfl):
  PS X (.Assign [.Tuple [.Name x px,.Name y py,.Name z pz] kt pt] (.Tuple [a,b,c] k2 pt2) pos) (z1M i j k ta):=by
 intro pins s σ H D I h;refine a7 (wpAny_standAt ?_);rw[hs];refine a7 (ak ?_);refine a7 (Tuple_ (thn (ha _ pins s σ H _ I h) λus s1 ⟨vs,H1,I1,r1,q1⟩=> ?_));obtain⟨v,w,q,e1,q1⟩:=q1;subst e1;obtain⟨u1,u2,u3,rfl,rv,rw',rz⟩:∃u1 u2 u3,us=[u1,u2,u3]/\Zb v u1/\Zb w u2/\Zb q u3:=by
  cases r1 with
  | cons p q=>
   cases q with
   | cons p' q' =>
    cases q' with
    | cons p'' q'' =>
     cases q'';exact⟨_,_,_,rfl,p,p',p''⟩
 refine a_ ?_ (by show 3<=sizeLine;decide)
 have I2:Inv X pins σ H1 { s1 with heap:=s1.heap.push { cls:= .type "tuple",data:= .seq [u1,u2,u3].toArray } }:=I1.kept (t' :=s1.toks) λb o e=>ab _ e;rw[hw];refine a7 (ak ?_);refine a7 (cP (a7 (unpackItems_tuple (items:= #[u1,u2,u3]) (I.ok.hd hc) (iG _ _) λh' hx' => ?_)));have I3:=I2.kept (t' :=s1.toks) λb o e=>hx' b o (az (am e)) e;refine a7 (assignInOrder_cons (wpAny_bindName (j0 I3 hN hk (.inl hz) rz (λs2 I4=> ?_) (.inr hz))));refine assignInOrder_cons (wpAny_bindName (j0 I4 hN hj (.inl hy) rw' (λs3 I5=> ?_) (.inr hy)));refine assignInOrder_cons (wpAny_bindName (j0 I5 hN hi (.inl hx) rv (λs4 I6=>assignInOrder_nil (ak ?_)) (.inr hx)));rw[cq _ _ (aU hij),cq _ _ (aU hik),cq _ _ (aU hjk)]at I6;exact⟨_,H1,I6,q1⟩
end
end PySem.RW37
namespace PV
open PySem PySem.Spec PyProof.Rows L2 PySem.RW37
end PV
namespace PV
open PySem PySem.Spec PyProof.Rows L2
noncomputable def max2T (t t' :T):R T:=match t,t' with
 | .int i,.int j=> .ok (.int (if j > i then j else i))
 | _,_=> .bad
noncomputable def GX:T->R T
 | .int i=> .ok (.int (if i < 0 then -i else i))
 | _=> .bad
section
variable {X:Cx}{Y:Fx}{a b:Expr}{fa fb:En->R T}{pos p p' pos' pt:Pos}{elts:List Expr}{kk:Nat}
theorem z1N (gl:Gl X "abs")(mg:X.mg "abs"=none)(ha:jz X Y a fa)(hs:St1 X a:=by exact st1 rfl):Snd X Y (.Call (.Name "abs" p) [a] [] pos) (ap1 GX fa):=
 wl QN (λv t B H Q r sB q=>by
  cases r with
  | int i=>exact⟨i,rfl,po0 sB q rfl (.int _)⟩
  | _=>exact q.elim) gl mg PyProof.Rows.Boot.«abs» ha hs
end
noncomputable def jW:List T->Option (List (Str×Int))
 | []=>some []
 | .tup [.str x,.int i] :: r=>match jW r with | some l=>some ((x,i) :: l) | none=>none
 | _ :: _=>none
noncomputable def YM (t k:T):R T:=match t,k with
 | .tup ts,.str x=>match jW ts with
  | some l=>if (l.map (·.1)).Nodup then (match l.lookup x with | some i=> .ok (.int i) | none=> .bad) else .bad
  | none=> .bad
 | _,_=> .bad
noncomputable def WK:T->R T
 | .tup ts=>match jW ts with
  | some l=>if (l.map (·.1)).Nodup then .ok (.int (l.map (·.2)).sum) else .bad
  | none=> .bad
 | _=> .bad
noncomputable def vD (j:Nat)(fa:En->R T)(g:List T->R T):En->RS:=λρ=>((fa ρ).bind λt=>(vE j ρ).bind λk=>(YM t k).bind λx=>(WK t).bind λy=>g [x,y]).s λt=> .rt t
noncomputable def Vs:T->T->R T
 | .int i,.int j=>if 0 < j/\j.natAbs.log2 < 9000 then .ok (.int (i / j)) else .bad
 | _,_=> .bad
section
variable {X:Cx}{Y:Fx}{a b:Expr}{fa fb:En->R T}{pos:Pos}
theorem gv:OpR X (binaryOp .FloorDiv) (L2.rI (λ_ j=>0 < j/\j.natAbs.log2 < 9000) λi j=> .int (i / j)):=opI λi j _ _ _ _ _ hc q=>by
 exact floordiv_int (by omega) (by rw[du i (by omega)];exact q) (.inl (PyProof.noPylong_of_log2 hc.2))
theorem X6:OpR X (binaryOp .FloorDiv) (rG Y Vs):=by
 intro pins s σ H x y v u Q I rx ry h;obtain⟨B,t,t',sB,r,r',q⟩:=h;cases r with
 | int i=>
  cases r' with
  | int j=>
   by_cases hj:0 < j/\j.natAbs.log2 < 9000
   ·exact gv _ s σ H _ _ v u Q I rx ry ⟨i,j,rfl,rfl,hj,po0 sB q (if_pos hj) (.int _)⟩
   ·rw[show Vs (.int i) (.int j)= .bad from if_neg hj]at q;exact q.elim
  | _=>exact q.elim
 | _=>cases r' <;> exact q.elim
theorem z1O (ha:Snd X Y a fa)(hb:Snd X Y b fb):Snd X Y (.BinOp a .FloorDiv b pos) (zb Vs fa fb):=uq X6 ha hb
end
noncomputable def big:Nat:=2 ^ 8000
noncomputable def mlT:T->T->R T
 | .int i,.int j=>if i.natAbs < big/\j.natAbs < big then .ok (.int (i*j)) else .bad
 | _,_=> .bad
theorem Uc {i:Int}(h:i.natAbs < big):fv i<=2 ^ 20:=by
 unfold fv;split
 ·exact b9 _
 ·rename_i h0;have h0:i.natAbs ≠ 0:=λz=>h0 (by rw[Int.natAbs_eq_zero.mp z];rfl)
  have h1:=(Nat.log2_lt h0).mpr h;omega
section
variable {X:Cx}{Y:Fx}{a b:Expr}{fa fb:En->R T}{pos:Pos}
theorem z1P:OpR X (binaryOp .Mult) (L2.rI (λi j=>i.natAbs < big/\j.natAbs < big) λi j=> .int (i*j)):=opI λi j _ _ _ _ _ hc q=>mul_int q (IntMulOk.of_bits (Uc hc.1) (Uc hc.2))
theorem gw:OpR X (binaryOp .Mult) (rG Y mlT):=by
 intro pins s σ H x y v u Q I rx ry h;obtain⟨B,t,t',sB,r,r',q⟩:=h;cases r with
 | int i=>
  cases r' with
  | int j=>
   by_cases hj:i.natAbs < big/\j.natAbs < big
   ·exact z1P _ s σ H _ _ v u Q I rx ry ⟨i,j,rfl,rfl,hj,po0 sB q (if_pos hj) (.int _)⟩
   ·rw[show mlT (.int i) (.int j)= .bad from if_neg hj]at q;exact q.elim
  | _=>exact q.elim
 | _=>cases r' <;> exact q.elim
theorem s_ml (ha:Snd X Y a fa)(hb:Snd X Y b fb):Snd X Y (.BinOp a .Mult b pos) (zb mlT fa fb):=uq gw ha hb
end
theorem X7:typeLookup (.type "tuple") "keys"=pure none:=by rw[typeLookup_type,builtinLookup_eq_fast];kernel_rfl
theorem X8:typeLookup (.type "tuple") "__getattr__"=pure none:=by rw[typeLookup_type,builtinLookup_eq_fast];kernel_rfl
section
variable {prog:Program}{w:World}{A:Around}{E:Value->Shared->Prop}{s:Shared}
theorem vF {l:Addr}{its:Array Value}{n:Nat}{sl:Array (Option Value)}{u:Tok}{Q:PySem.Fin->Shared->Prop}(hh:A.handled=none)(hl:s.heap.get? l=some { cls:= .type "tuple",dict:=none,data:= .seq its n,slots:=sl })
  (h:∀h' tk e,Heap.NewAttrErr s.heap h' e (.ref l) "keys"->E (.ref e) { s with heap:=h',toks:=tk }):
  wpAny (model prog w) A (Builtin.«object.__getattribute__» ⟨[.ref l,.str "keys" u],[]⟩) Q E s:=by
 obtain⟨hp,g,d,tk,os⟩:=s;have hT:(⟨hp,g,d,tk,os⟩:Shared).TypeIs (.ref l) "tuple":=⟨_,hl,rfl⟩;have f1:=X7;unfold Builtin.«object.__getattribute__»
 repeat (any_goals (first | assumption | wp_step))
 exact wpAny_raiseAttrError hh h (attrMsg_fits (by decide+kernel) (by decide+kernel))
end
section
variable {prog:Program}{w:World}{A:Around}{E:Value->Shared->Prop}{s:Shared}
theorem X9 {l:Addr}{its:Array Value}{n:Nat}{sl:Array (Option Value)}{u:Tok}{R:Result->Shared->Prop}(hh:A.handled=none)(hl:s.heap.get? l=some { cls:= .type "tuple",dict:=none,data:= .seq its n,slots:=sl })
  (h:∀h' tk e,Heap.NewAttrErr s.heap h' e (.ref l) "keys"->R (.error (.ref e)) { s with heap:=h',toks:=tk }):
  codeAny (model prog w) A (.call (.builtin "tuple.__getattribute__") ⟨[.ref l,.str "keys" u],[]⟩) R s:=
 codeAny_call_builtin bL.plain F.entry_tuple_ga (bL.check _ _ _ _ _ _ _ _ (show s.TypeIs _ _ from ⟨_,hl,rfl⟩) (F.args_tuple_getattribute_2 _ _) (vF hh hl h))
theorem Xa {l:Addr}{its:Array Value}{n:Nat}{sl:Array (Option Value)}{Q:Option Value->Shared->Prop}(hh:A.handled=none)(hl:s.heap.get? l=some { cls:= .type "tuple",dict:=none,data:= .seq its n,slots:=sl })
  (h:∀h' tk,(∀b o,s.heap.get? b=some o->h'.get? b=some o)->Q none { s with heap:=h',toks:=tk }):
  wpAny (model prog w) A (getAttr? (.ref l) "keys") Q E s:=by
 obtain⟨hp,g,d,tk,os⟩:=s;have hT:∀t,(⟨hp,g,d,t,os⟩:Shared).TypeIs (.ref l) "tuple":=λ_=>⟨_,hl,rfl⟩;have f1:=sub_AttributeError;have f2:=bL.lookup;have f3:=bL.bind (.ref l);have f5:=X8;unfold getAttr? getAttrBy? getAttrBy
 repeat (any_goals (first | assumption | exact hT _ | wp_step))
 refine X9 (s:=⟨hp,g,d,tk+1,os⟩) hh hl λh' tk' e hx=> ?_;obtain⟨t',u',he⟩:=hx.there;have hE:(⟨h',g,d,tk',os⟩:Shared).TypeIs (.ref e) "AttributeError":=⟨_,he,rfl⟩;show wpAny _ _ (getattributeRaised _ _ _ _ _ _ _) _ _ _;unfold getattributeRaised
 repeat (any_goals (first | assumption | wp_step))
 exact h _ _ hx.keeps
end
noncomputable def Zp (h:Heap)(its:List Value)(ps:List (Str×Int)):Prop:=Paired (λv (p:Str×Int)=>∃a t u n ob,v=Value.ref a/\h.get? a=some ob/\ob.cls= .type "tuple"/\ob.data= .seq #[.str p.1 t,.int p.2 u] n) its ps
theorem Zp.keep {h h' :Heap}{its:List Value}{ps:List (Str×Int)}(x:Zp h its ps)(k:∀b o,h.get? b=some o->h'.get? b=some o):Zp h' its ps:=
 Paired.mapP x λv p ⟨a,t,u,n,ob,e1,e2,e3⟩=>⟨a,t,u,n,ob,e1,k _ _ e2,e3⟩
theorem Zp.off {h h' :Heap}{D I:Addr}(k:∀b o,b ≠ D->b ≠ I->h.get? b=some o->h'.get? b=some o):∀{its:List Value} {ps:List (Str×Int)},Zp h its ps->(∀v a,v∈its->v=Value.ref a->a ≠ D/\a ≠ I)->Zp h' its ps
 | _,_,.nil,_=> .nil
 | _,_,.cons r q,ha=>by
  obtain⟨a,t,u,n,ob,e1,e2,e3⟩:=r;obtain⟨n1,n2⟩:=ha _ a ad e1;exact .cons ⟨a,t,u,n,ob,e1,k _ _ n1 n2 e2,e3⟩ (Zp.off k q λv b hv=>ha v b (a9 _ hv))
noncomputable def KVs (kvs:List (Key×Value))(ps:List (Str×Int)):Prop:=Paired (λ(q:Key×Value) (p:Str×Int)=>q.1=Sum.inr p.1/\∃t,q.2=Value.int p.2 t) kvs ps
theorem KVs.snoc:∀{kvs:List (Key×Value)} {ps:List (Str×Int)} {x:Str} {i:Int} {t:Tok},KVs kvs ps->KVs (kvs++[(Sum.inr x,.int i t)]) (ps++[(x,i)])
 | _,_,x,i,t,.nil=> .cons ⟨rfl,t,rfl⟩ .nil
 | _,_,x,i,t,.cons r q=> .cons r (KVs.snoc q)
theorem KVs.keys:∀{kvs:List (Key×Value)} {ps:List (Str×Int)},KVs kvs ps->kvs.map (·.1)=ps.map λp=>(Sum.inr p.1:Key)
 | _,_,.nil=>rfl
 | _,_,.cons r q=>by rw[ao,ao,r.1,KVs.keys q]
theorem KVs.len {kvs:List (Key×Value)}{ps:List (Str×Int)}(h:KVs kvs ps):kvs.length=ps.length:=by
 have:=congrArg List.length h.keys;simpa using this
theorem yo {kvs:List (Key×Value)}{k:Key}{v:Value}(h:k ∉ kvs.map (·.1)):stored kvs k v=kvs++[(k,v)]:=by
 unfold stored;rw[if_neg];intro z;rw[eG]at z;obtain⟨q,hq,e⟩:=z;exact h (aC.mpr ⟨q,hq,of_decide_eq_true e⟩)
section
variable {prog:Program}{w:World}{A:Around}{R:Result->Shared->Prop}{I:Addr}{fp wr:List Addr}{n:Nat}{P:Nat->Value->Prop}{St:Nat->Heap->Prop}
theorem Ud:entryFor table "dict.update.loop"=some Builtin.«dict.update.loop»:=entryFor_of_tree (by kernel_rfl)
theorem Ue:plainId "dict.update.loop"=true:=by decide+kernel
theorem jX {α β:Type}{F:α->β->Prop}:∀{xs:List α} {ys:List β} {i:Nat} {y:β},Paired F xs ys->ys[i]? =some y->∃x,xs[i]? =some x/\F x y
 | _,_,_,_,.nil,h=>by simp at h
 | _,_,0,y,.cons r _,h=>by simp at h;subst h;exact⟨_,rfl,r⟩
 | _,_,i+1,y,.cons _ q,h=>by
  obtain⟨x,e,r⟩:=jX q (by simpa using h)
  exact⟨x,by simpa using e,r⟩
theorem wp {α β:Type}{F:α->β->Prop}:∀{xs:List α} {ys:List β},Paired F xs ys->xs.length=ys.length
 | _,_,.nil=>rfl
 | _,_,.cons _ q=>by simp[wp q]
theorem YN {l:Addr}{its:List Value}{ps:List (Str×Int)}(hh:A.handled=none)(I D:Addr)(hlI:l ≠ I)(hD:D ≠ I)(hDl:D ≠ l)(nd:(ps.map (·.1)).Nodup)(hps:ps.length<=sizeLine)(kw:Value):
  ∀(m i:Nat) (s:Shared) (kvs:List (Key×Value)) (tk0:Tok),ps.length - i=m->i<=ps.length->s.heap.IsTupleIter I l i->s.heap.IsTuple l its.toArray->Zp s.heap its ps->(∀v a,v∈its->v=Value.ref a->a ≠ D/\a ≠ I)->
   s.heap.DictOf (ZZ prog w) D kvs->KVs kvs (ps.take i)->
   (∀h' tk kvs',(∀b o,b ≠ D->b ≠ I->s.heap.get? b=some o->h'.get? b=some o)->h'.DictOf (ZZ prog w) D kvs' ->KVs kvs' ps->R (.ok (.ret kw)) { s with heap:=h',toks:=tk })->
   codeAny (model prog w) A (.builtin "dict.update.loop" ⟨[.ref D,.ref I,.int (i:Int) tk0,kw],[]⟩) R s:=by
 intro m
 induction m with
 | zero=>
  intro i s kvs tk0 hm hi hit ht hp ha hd hk hR;obtain rfl:i=ps.length:=by omega
  refine bH Ud ?_;unfold Builtin.«dict.update.loop»;dsimp only;have hl:=wp hp;refine a7 (wpAny_pyNext_tuple_end hh hit ht (by simp[hl]) λh' he=> ?_)
  rw[List.take_length]at hk;refine a7 (bR (a:=()) rfl (ak ?_));exact hR h' s.toks kvs (λb o _ hb e=>he b o hb e) (hd.extBut he hD) hk
 | succ m ih=>
  intro i s kvs tk0 hm hi hit ht hp ha hd hk hR;refine bH Ud ?_;unfold Builtin.«dict.update.loop»;dsimp only;have hi' :i < ps.length:=by omega
  have ei:=ag hi';obtain⟨v,ev,a,t,u,n,ob,rfl,ga,ca,da⟩:=jX hp ei;refine a7 (wpAny_pyNext_tuple_item hit ht (x:= .ref a) (by simpa using ev) λh1 hit1 sb=> ?_)
  obtain⟨naD,naI⟩:=ha _ a (df ev) rfl;have ga1:=(sb.2 a naI).trans ga;have hd1:=hd.sameBut sb hD;have hTa:fA { s with heap:=h1 } (.ref a) "tuple":=⟨_,ga1,ca⟩;refine a7 (cu (a7 (wpAny_tryCatch ?_)));refine a7 (cC hTa ?_);refine a7 (bE ga1 da (ak ?_));have hnew:(Sum.inr ps[i].1) ∉ kvs.map (·.1):=by
   rw[hk.keys];intro z;obtain⟨p,hp',e⟩:=aC.mp z;have e:p.1=ps[i].1:=by injection e
   obtain⟨j,hj,ej⟩:=List.mem_iff_getElem.mp hp';rw[cB]at hj;rw[List.getElem_take]at ej;have hji:j < i:=by omega
   have:=(dL.mp nd) j i (by rw[ac];omega) (by rw[ac];exact hi') hji
   rw[i8,i8]at this;exact this (by rw[ej,e])
  have hz:kvs.length<=sizeLine:=by rw[hk.len,cB];exact aq (Nat.min_le_right _ _) hps
  refine cu (wpAny_dictSet_pairs (Jw _ _ _ _) hd1 λh2 hd2 sb2=> ?_);rw[yo hnew]at hd2;refine ak ⟨cN Ue _, ?_⟩;have hk2:KVs (kvs++[(Sum.inr ps[i].1,.int ps[i].2 u)]) (ps.take (i+1)):=by
   rw[List.take_succ,ei];exact hk.snoc
  have k12:∀b o,b ≠ D->b ≠ I->s.heap.get? b=some o->h2.get? b=some o:=λb o n1 n2 e=>(sb2.2 b n1).trans ((sb.2 b n2).trans e);have:=ih _ { s with heap:=h2,toks:=s.toks+1 } _ 0 (by omega) (by omega) (hit1.extBut sb2.extBut (aU hD)) (fV.at ht λo e=>k12 l o (aU hDl) hlI e) ?_ ha hd2 hk2 (λh' tk kvs' k' d' q' =>hR h' tk _ (λb o n1 n2 e=>k' b o n1 n2 (k12 b o n1 n2 e)) d' q')
  ·exact this
  ·exact hp.off k12 ha
end
theorem Zp.mem {h:Heap}:∀{its:List Value} {ps:List (Str×Int)},Zp h its ps->∀{v:Value} {a:Addr},v∈its->v=Value.ref a->∃o,h.get? a=some o
 | _,_,.nil,_,_,hv,_=>by simp at hv
 | _,_,.cons r q,v,a,hv,e=>by
  rcases ah.mp hv with z | hv
  ·obtain⟨b,t,u,n,ob,e1,e2,_⟩:=r;subst z;rw[e]at e1;cases e1;exact⟨_,e2⟩
  ·exact Zp.mem q hv e
section
variable {prog:Program}{w:World}{A:Around}{E:Value->Shared->Prop}{s:Shared}
theorem YO {l:Addr}{its:List Value}{ps:List (Str×Int)}{n:Nat}{sl:Array (Option Value)}{Q:Value->Shared->Prop}(hh:A.handled=none)(hl:s.heap.get? l=some { cls:= .type "tuple",dict:=none,data:= .seq its.toArray n,slots:=sl })
  (hp:Zp s.heap its ps) (nd:(ps.map (·.1)).Nodup) (hps:ps.length<=sizeLine)
  (h:∀h' tk kvs,(∀b o,s.heap.get? b=some o->h'.get? b=some o)->h'.DictOf (ZZ prog w) s.heap.objs.size kvs->KVs kvs ps->Q (.ref s.heap.objs.size) { s with heap:=h',toks:=tk }):
  wpAny (model prog w) A (call (.type "dict") [.ref l]) Q E s:=by
 refine callType_codes (Q₁:=λobj s₁=>obj= .ref _/\s₁={ s with heap:=s.heap.push _ }) F.kt_called_dict (F.kt_typeCall_dict_1 _) F.entry_dict_init (kt_code_dict_new _ ⟨rfl,rfl⟩) ?_
 rintro obj s₁ ⟨rfl,rfl⟩
 generalize hG:s.heap.push _=G;have hnew:G.DictOf (ZZ prog w) s.heap.objs.size []:=by rw[← hG];exact Heap.DictOf.new _
 have gk:∀b o,s.heap.get? b=some o->G.get? b=some o:=λb o e=>by rw[← hG];exact ab _ e
 have gl:=gk _ _ hl;have hlt:=am hl;have hT:fA { s with heap:=G } (.ref l) _:=⟨_,gl,rfl⟩;refine⟨hnew.typeIs,F.args_dict_init_2 _ _, ?_⟩;refine a7 ?_;refine a7 (wpAny_notOrdered_dict hnew.typeIs ?_);refine ak ?_;refine a7 (cC hT ?_);refine a7 (Xa hh gl λh1 tk1 k1=> ?_);refine a7 (cP ?_);have gl1:=k1 _ _ gl;have hL1:h1.IsTuple l _:=⟨_,gl1,rfl,n,rfl⟩;refine a7 (wpAny_pyIter_tuple hL1 ?_);generalize hG2:h1.push _=G2;have D0:s.heap.objs.size < h1.objs.size:=by
  obtain⟨o,_,_,e,_⟩:=id hnew;exact am (k1 _ _ e)
 have k2:∀b o,h1.get? b=some o->G2.get? b=some o:=λb o e=>by rw[← hG2];exact ab _ e
 have gi:G2.get? h1.objs.size=some { cls:= .type "tuple_iterator",data:= .fields #[.ref l,.int 0 0] }:=by rw[← hG2];exact af _ rfl
 have hd2:G2.DictOf (ZZ prog w) s.heap.objs.size []:=by
  obtain⟨o,es,ep,e,r⟩:=hnew;exact⟨o,es,ep,k2 _ _ (k1 _ _ e),r⟩
 refine ak ⟨cN Ue _, ?_⟩;refine YN (A:=A.in1) hh _ _ (az (eT hlt D0)) (az D0) (dn hlt) nd hps _ _ 0 _ [] 0 rfl (b9 _) ⟨_,gi,rfl,rfl⟩ ⟨_,k2 _ _ gl1,rfl,n,rfl⟩ (hp.keep λb o e=>k2 b o (k1 b o (gk b o e))) (λv a hv e=> ?_) hd2 .nil λh' tk kvs kk dd qq=> ?_
 ·obtain⟨o,eo⟩:=hp.mem hv e;have:=am eo;exact⟨az this,az (eT this D0)⟩
 ·refine⟨rfl,h h' tk kvs (λb o e=>kk b o (az (am e)) (az (eT (am e) D0)) (k2 b o (k1 b o (gk b o e)))) dd qq⟩
end
noncomputable abbrev kvV (ps:List (Str×Int)):List (Key×V):=ps.map λp=>(Sum.inr p.1,V.int p.2)
theorem gx:∀{kvs:List (Key×Value)} {ps:List (Str×Int)},KVs kvs ps->KV (kvV ps) kvs
 | _,_,.nil=> .nil
 | _,_,.cons r q=>by
  obtain⟨e,t,e2⟩:=r;exact .cons ⟨e.symm,⟨t,e2⟩⟩ (gx q)
theorem YQ:∀{ps:List (Str×Int)} {kvs:List (Key×Value)},KV (kvV ps) kvs->KVs kvs ps
 | [],_,.nil=> .nil
 | p :: ps,_,.cons r q=>by
  obtain⟨e,t,e2⟩:=r;exact .cons ⟨e.symm,t,e2⟩ (YQ q)
theorem Vt:∀{kvs:List (Key×Value)} {ps:List (Str×Int)} {x:Str} {i:Int},KVs kvs ps->ps.lookup x=some i->∃t,valueAt kvs (Sum.inr x)=some (.int i t)
 | _,_,x,i,.nil,h=>by simp at h
 | _,_,x,i,.cons (b:=p) r rs,h=>by
  obtain⟨e,t,e2⟩:=r;rw[aA]at h
  by_cases hx:x=p.1
  ·have:(x == p.1)=true:=by simp[hx]
   rw[this]at h;cases h;unfold valueAt;rw[iw,show decide _=true from decide_eq_true (by rw[e,hx])]
   simp[e2]
  ·have:=beq_eq_false_iff_ne.mpr hx;rw[this]at h;obtain⟨t',h'⟩:=Vt rs h;refine⟨t', ?_⟩;unfold valueAt at h' ⊢;rw[iw,show decide _=false from decide_eq_false (by rw[e];intro z;injection z with z;exact hx z.symm)]
   exact h'
theorem YR {t:T}{ts:List T}{ps:List (Str×Int)}(h:jW (t :: ts)=some ps):∃x i l,t= .tup [.str x,.int i]/\jW ts=some l/\ps=(x,i) :: l:=by
 unfold jW at h;split at h
 ·rename_i e;cases e
 ·rename_i x i r e;injection e with e1 e2;subst e1 e2;split at h
  ·rename_i l el;cases h;exact⟨x,i,l,rfl,el,rfl⟩
  ·cases h
 ·cases h
theorem YS:∀{ts:List T} {ps:List (Str×Int)},jW ts=some ps->ps.length=ts.length
 | [],_,h=>by cases h;rfl
 | t :: ts,ps,h=>by
  obtain⟨x,i,l,rfl,el,rfl⟩:=YR h;simp[YS el]
theorem z1Q {H:Hp}{ys:List V}{x:Str}{i:Int}(h:zI H ys [.str x,.int i]):ys=[.str x,.int i]:=by
 cases h with
 | cons r1 h=>
  cases r1;cases h with
  | cons r2 h=>
   cases r2;cases h;rfl
theorem Xb {x:Str}{i:Int}{its:List Value}(h:zZ [V.str x,V.int i] its):∃t u,its=[.str x t,.int i u]:=by
 obtain⟨u1,u2,rfl,⟨t1,rfl⟩,⟨t2,rfl⟩⟩:=yZ h;exact⟨t1,t2,rfl⟩
theorem vG {X:Cx}{pins:List (Addr×Obj)}{σ:L2.St}{H:Hp}{s:Shared}(I:Inv X pins σ H s){v:V}{u:Value}{x:Str}{i:Int}(r:Rep H v (.tup [.str x,.int i]))(rv:Zb v u):
  ∃a t u' n ob,u=Value.ref a/\s.heap.get? a=some ob/\ob.cls= .type "tuple"/\ob.data= .seq #[.str x t,.int i u'] n:=by
 cases r with
 | @tup a ys _ ha ry=>
  obtain rfl:u=Value.ref a:=rv;have hy:=z1Q ry;subst hy;obtain⟨_,its',rv',⟨ob,e1,e2,n,e3⟩,_⟩:=(show Zc _ X.w H _ a _ from I.hok a _ ha);obtain⟨t1,t2,rfl⟩:=Xb rv';exact⟨a,t1,t2,n,ob,rfl,e1,e2,e3⟩
theorem Uf {X:Cx}{pins:List (Addr×Obj)}{σ:L2.St}{H:Hp}{s:Shared}(I:Inv X pins σ H s):∀{xs:List V} {ts:List T} {its:List Value} {ps:List (Str×Int)},zI H xs ts->zZ xs its->jW ts=some ps->Zp s.heap its ps/\∀(i:Int) t,its[0]? ≠ some (Value.int i t)
 | _,_,_,ps,.nil,.nil,h=>by cases h;exact⟨.nil,λ_ _ z=>by simp at z⟩
 | _,_,_,ps,.cons r rs,.cons rv vs,h=>by
  obtain⟨x,i,l,rfl,el,rfl⟩:=YR h;obtain⟨p1,_⟩:=Uf I rs vs el;obtain⟨a,t1,t2,n,ob,rfl,e⟩:=vG I r rv;exact⟨.cons ⟨a,t1,t2,n,ob,rfl,e⟩ p1,λ_ _ z=>by simp at z⟩
section
variable {X:Cx}{Y:Fx}{a b:Expr}{fa fb:En->R T}{pos pos' p p' :Pos}
theorem gy {pins:List (Addr×Obj)}{σ:L2.St}{H:Hp}{s:Shared}(I:Inv X pins σ H s):sysModules < s.heap.objs.size:=eT (by decide) (I.mod.glob.keeps I.bk).lt
theorem yq (hh:X.A.handled=none):Zt X (.type "dict") (λvs H Q=>∃l xs ts ps,vs=[.ref l]/\H l=some (.tup xs)/\zI H xs ts/\jW ts=some ps/\(ps.map (·.1)).Nodup/\
  ∀q,H q=none->Q (.ref q) (upd H q (.dK (kvV ps)))):=by
 intro pins s σ H vs us Q I rv h;obtain⟨l,xs,ts,ps,rfl,hl,r,ey,nd,q⟩:=h;obtain⟨u,rfl,ru⟩:=ZN rv;obtain rfl:u=Value.ref l:=ru;obtain⟨hz,its,rv,⟨⟨c,dd,da,sl⟩,ho,hc,n,hd⟩,hno⟩:=(show Zc _ X.w H _ l _ from I.hok l _ hl);subst hc hd;obtain⟨pa,ni⟩:=Uf I r rv ey;have hb:ps.length<=sizeLine:=by rw[YS ey,← r.length];exact hz
 have hdn:dd=none:=by
  rcases hno with ⟨i,t,e⟩ | ⟨o,e1,e2⟩
  ·exact absurd (by simpa using e) (ni i t)
  ·rw[ho]at e1;cases e1;exact e2
 subst hdn;refine YO hh ho pa nd hb λh' tk kvs k dd qq=> ?_;refine⟨.ref _,_,I.laid k (ai _) ?_,rfl,q _ (I.hok.fresh (ai _))⟩;exact⟨by rw[ac];exact hb,beq_eq_false_iff_ne.mpr (aU (az (gy I))),kvs,gx qq,dd⟩
theorem gz:IxR X (λx y H Q=>∃a ps k i,x= .ref a/\y= .str k/\H a=some (.dK (kvV ps))/\ps.lookup k=some i/\Q (.int i) H):=by
 intro value slice pins s σ H x y v u Q I rx ry h hs;obtain⟨p,ps,k,i,rfl,rfl,hp,he,q⟩:=h;cases rx;obtain⟨t,rfl⟩:=ry;obtain⟨hz,hS,vs,r,m⟩:=(show Zc _ X.w H _ p _ from I.hok p _ hp);obtain⟨t',e⟩:=Vt (YQ r) he;exact tail_any m.typeIs slot_dict_getitem.lookup (wpAny_getItem_of (Jw _ _ _ _) m.mapOf e ⟨.int i,H,I.tok _,⟨_,rfl⟩,q⟩) hs
theorem YT:MtR X "dict.values" (λx xs H Q=>∃a ps,x= .ref a/\xs=[]/\H a=some (.dK (kvV ps))/\∀r,H r=none->Q (.ref r) (upd H r (.ext λh=>h.IsValuesView r a))):=by
 intro pins s σ H x xs v0 us Q I rx rv h;obtain⟨a,ps,rfl,rfl,ha,q⟩:=h;obtain rfl:v0=Value.ref a:=rx;cases rv;obtain⟨hz,hS,vs,r,m⟩:=(show Zc _ X.w H _ a _ from I.hok a _ ha);refine call_meetsIn dW m.typeIs PySem.F.entry_dict_values (PySem.F.args_dict_values_1 _) (meets_dict_values _ a hS) ⟨⟨vs,m⟩, ?_⟩;have hle:s.heap.objs.size<=s.heap.objs.size:=ai _;refine⟨.ref _,_,I.laid (λb o e=>ab _ e) hle ?_,rfl,q _ (I.hok.fresh hle)⟩;exact⟨⟨_,af _ rfl,rfl,rfl⟩,⟨_,af _ rfl⟩,λh1 h2 ⟨o,e1,e2⟩ e=>⟨o,e _ e1,e2⟩⟩
theorem YU (val:Nat->Int):∀n:Nat,preSum val n=((aT n).map val).sum
 | 0=>rfl
 | n+1=>by
  rw[eY,cn,ix,← YU val n];simp[preSum]
theorem YV (hh:X.A.handled=none):Zt X (.builtin "sum") (λvs H Q=>∃r φ a ps,vs=[.ref r]/\H r=some (.ext φ)/\(∀h:Heap,φ h->h.IsValuesView r a)/\H a=some (.dK (kvV ps))/\Q (.int (ps.map (·.2)).sum) H):=by
 intro pins s σ H vs us Q I rv h;obtain⟨r,φ,a,ps,rfl,hr,hφ,ha,q⟩:=h;obtain⟨u,rfl,ru⟩:=ZN rv;obtain rfl:u=Value.ref r:=ru;obtain⟨h1,_,_⟩:=(show Zc _ X.w H _ r _ from I.hok r _ hr);obtain⟨hz,hS,vs,rr,m⟩:=(show Zc _ X.w H _ a _ from I.hok a _ ha);obtain⟨ep,hat⟩:=m.dictAt;have hk:=YQ rr;have K:=PySem.W.kdl_values (prog:=X.prog) (knd:=ZZ _ X.w) (r:=r) (d:=a) (kvs:=vs) (ep:=ep);refine call_sum_walkAnyS ?_;obtain⟨oI,St,hit,W,st⟩:=K.iter X.A.in1 s hh ⟨hφ _ h1,hat⟩;refine hit _ _ ⟨s.heap.objs.size,_,_,_,_,_,_,λi=>((ps[i]?).map (·.2)).getD 0,rfl,W.toS,st,λb hb=> ?_,λi v hv=> ?_,λs' t' hm=> ?_⟩
 ·rw[size_push'];rcases ah.mp hb with e | hb
  ·rw[e];exact bW _
  ·rw[aG.mp hb];exact bQ (I.hok.lt ha)
 ·obtain⟨k,hv⟩:=hv;have hi:i < ps.length:=by rw[← hk.len];exact(aw.mp hv).1
  obtain⟨q',e1,e2,t,e3⟩:=jX hk (ag hi);rw[hv]at e1;cases e1;exact⟨t,by dsimp only;rw[ag hi];exact e3⟩
 ·have kp:=λb o e=>
   hm.heap b o (λz=>absurd (am e) (by rw[aG.mp z];exact bn _)) (ab _ e)
  rw[Moved.eq_with hm];have es:preSum (λi=>((ps[i]?).map (·.2)).getD 0) vs.length=(ps.map (·.2)).sum:=by
   rw[YU,hk.len];congr 1
   refine cY λi=> ?_;rw[ax,ax]
   by_cases hi:i < ps.length
   ·simp[hi]
   ·rw[aP (by simp;omega),aP (by omega)];rfl
  rw[es];exact⟨.int _,H,I.kept kp,⟨_,rfl⟩,q⟩
end
theorem Xc {t k v:T}(h:YM t k= .ok v):∃ts ps x i,t= .tup ts/\k= .str x/\jW ts=some ps/\(ps.map (·.1)).Nodup/\ps.lookup x=some i/\v= .int i:=by
 unfold YM at h;split at h
 ·rename_i ts x;split at h
  ·rename_i l e;split at h
   ·rename_i nd;split at h
    ·rename_i i ei;cases h;exact⟨ts,l,x,i,rfl,rfl,e,nd,ei,rfl⟩
    ·cases h
   ·cases h
  ·cases h
 ·cases h
theorem YW (t k:T):(∃v,YM t k= .ok v)\/YM t k= .bad:=by
 unfold YM;split
 ·split
  ·split
   ·split
    ·exact .inl ⟨_,rfl⟩
    ·exact .inr rfl
   ·exact .inr rfl
  ·exact .inr rfl
 ·exact .inr rfl
section
variable {X:Cx}{Y:Fx}{a:Expr}{fa:En->R T}{pos pos' p p' :Pos}
theorem vH {t:T}{ts:List T}{ps:List (Str×Int)}(ht:t= .tup ts)(e:jW ts=some ps)(nd:(ps.map (·.1)).Nodup):WK t= .ok (.int (ps.map (·.2)).sum):=by
 subst ht;unfold WK;dsimp only;rw[e];dsimp only;rw[if_pos nd]
theorem Xd {i j k jf:Nat}{x y f:Str}{fo:Addr}{fd:FuncData}{ps:List Str}{g:List T->R T}{cl:Nat->Value}{p1 p2 p3 p4 p5 p6 p7 p8 p9 pa pb pc pd:Pos}(hij:i ≠ j)(hy:Y.cl=cl)(F:jw X.prog X.w X.K X.mg X.base CX0 jf fo fd ps (spP cl 2 g))(hr:j3 k X.A)(hjf:jf<=k)(gf:Gl X f)
  (mf:X.mg f=some (.ref fo)) (kp:bu X.K (.ref fo)=true) (bd:L2.Binds X.K fd ps []) (hN:X.N.Nodup) (hi:X.N[i]? =some x) (hx:L2.Loc X.env.scope x) (gl:Gl X "dict") (mg:X.mg "dict"=none) (gs:Gl X "sum") (ms:X.mg "sum"=none)
  (pi:PE X (.Name x p3) (wE i)) (pj:PE X (.Name y p4) (wE j)) (ha:Snd X Y a fa) (pi' :PE X (.Name x p5) (wE i):=by exact V7 (by rfl) (by rfl)) (hs:St1 X a:=by exact st1 rfl)
  (hsw:swapsWith (.Call (.Name "dict" p2) [a] [] pa) (some (.Name x p1)) pb.line X.env=pure false:=by rfl) (hf:X.fn x=true\/X.env.scope.names.lookup x=some .local:=by first | exact .inl rfl | exact .inr rfl | assumption) (hd:(f == ("__debug__":Str))=false:=by decide)
  (hb:attributeBase (.Name x p5) "values" X.env (eval (.Name x p5) X.env)=eval (.Name x p5) X.env:=by rfl) (hli:(p6.endLine == p7.line)=true:=by rfl):
  Wg X Y [.Assign [.Name x p1] (.Call (.Name "dict" p2) [a] [] pa) pb,.Return (some (.Call (.Name f p8) [.Subscript (.Name x p3) (.Name y p4) p9,.Call (.Name "sum" pc) [.Call (.Attribute (.Name x p5) "values" p6) [] [] p7] [] pd] [] pos)) pos'] (vD j fa g):= .mk λρ=>by
 subst hy;have hh:=hr.hd;have st2' :starEach [.Subscript (.Name x p3) (.Name y p4) p9,.Call (.Name "sum" pc) [.Call (.Attribute (.Name x p5) "values" p6) [] [] p7] [] pd] X.env=(false,eval _ X.env) :: starEach _ X.env:=zX rfl;have W:=(wF (Wm hN hi hx (ZU (yq hh) gl mg PyProof.Rows.Boot.«dict» (zH (ha ρ) Z5 hs) (by decide) (by decide) hs rfl) hsw hf)
  (uj (Wl (pos:=pos') (uk (E:=Y.E) (p:=p8) (pos:=pos) F (hr.mono hjf) gf mf kp bd .nil KL
   (zH (xi gz pi pj (λ_ _=>rfl)) (zH (jG (YV hh) gs ms PyProof.Rows.Boot.«sum» (zH (K4 PySem.F.plainAttrs_dict dW PySem.F.type_dict_values YT pi' hb hli) Z5 (st1 rfl)) (by decide) (by decide) (st1 rfl) rfl) Z5 (st1 rfl)) st2') hd st2' (ZB rfl)))))
 intro pins s σ H D Iv ⟨B,I,q⟩;have hlen:i < σ.length:=by rw[Iv.len];exact(aw.mp hi).1
 refine W pins s σ H D Iv ?_;have q' :PoS Y B ((fa ρ).s λt=>(((vE j ρ).bind λk=>(YM t k).bind λx=>(WK t).bind λy=>g [x,y]).s λt=> .rt t)) D:=by
  have e:vD j fa g ρ=((fa ρ).s λt=>(((vE j ρ).bind λk=>(YM t k).bind λx=>(WK t).bind λy=>g [x,y]).s λt=> .rt t)):=by
   unfold vD;cases fa ρ <;> rfl
  rw[← e];exact q
 refine jr I q' λt v H1 _ s1 r1 I1 q1=> ?_;unfold vE at q1;split at q1
 ·rename_i kk e;obtain⟨u,eu,ru⟩:=I1.vl j kk e;have q1:PoS Y _ (((YM t kk).bind λx=>(WK t).bind λy=>g [x,y]).s λt=> .rt t) D:=q1;rcases YW t kk with ⟨v',e'⟩ | e'
  ·obtain⟨ts,qs,z,m,rfl,rfl,e1,nd,ei,rfl⟩:=Xc e';rw[e']at q1;rw[vH rfl e1 nd]at q1;have q1:PoS Y _ ((g _).s λt=> .rt t) D:=q1;cases r1 with
   | @tup l xs _ h r=>
    cases ru;refine⟨l,xs,ts,qs,rfl,I1.sB _ _ h,r.mono I1.sB,e1,nd,λw hw=> ?_⟩;have gi:(σ.set i (some (V.ref w)))[i]? =some (some (V.ref w)):=by rw[aO hlen]
    have gj:(σ.set i (some (V.ref w)))[j]? =some (some (V.str z)):=by rw[ar hij];exact eu
    refine⟨_,gi,_,gj,w,qs,z,m,rfl,rfl,zC,ei, ?_⟩;refine⟨_,gi,.inr (.inr (.inl ⟨rfl,.inl ⟨_,zC⟩⟩)),w,qs,rfl,rfl,zC,λy hy=> ?_⟩;have hyw:y ≠ w:=λe=>by rw[e,zC]at hy;cases hy
    have hy1:=by rw[zv hyw]at hy;exact hy
    refine⟨y,_,w,qs,rfl,zC,λh z=>z,by rw[zv (aU hyw)];exact zC, ?_⟩
    have s13:zy H1 (upd (upd H1 w (.dK (kvV qs))) y (.ext λh=>h.IsValuesView y w)):=λb o hb=>by
     have n1:b ≠ w:=λe=>by rw[e,hw]at hb;cases hb
     have n2:b ≠ y:=λe=>by rw[e,hy1]at hb;cases hb
     rw[zv n2,zv n1];exact hb
    have I3:=I1.grow s13;refine⟨_,[.int m,.int _],rfl,I3.sB,.cons (.int _) (.cons (.int _) .nil), ?_⟩;revert q1;cases g _ with
    | bad=>exact λq1=>q1
    | ex c=>exact λq1 d H' s sB=>q1 d H' (I3.sH.trans s) ((zS.ge I1.sB s13).trans sB)
    | ok t=>exact λq1 b H' s r=>q1 b H' (I3.sH.trans s) (r.mono (U2 I3.sH I3.old s I3.sB))
  ·rw[e']at q1;exact q1.elim
 ·exact q1.elim
end
end PV
namespace PySem.RV
open PySem PySem.Spec PyProof.Rows PySem.Builtin.SmallTypes
end PySem.RV
namespace PV
open PySem PySem.Spec PyProof.Rows L2
end PV
namespace PV
open PySem PySem.W PyProof.Rows
section
variable {α β:Type}
noncomputable def Gd (lt:Nat->Nat->Bool)(n:Nat):KasT α->(α->Prop)->Prop
 | .ret a,P=>P a
 | .ask i j k,P=>(i < n/\j < n/\i ≠ j)/\Gd lt n (k (lt i j)) P
theorem Gd.mono {lt:Nat->Nat->Bool}{n:Nat}{P P' :α->Prop}(h:∀a,P a->P' a):∀(t:KasT α),Gd lt n t P->Gd lt n t P'
 | .ret a,g=>h a g
 | .ask i j k,⟨h1,g⟩=>⟨h1,Gd.mono h _ g⟩
theorem Gd.bind {lt:Nat->Nat->Bool}{n:Nat}{P:β->Prop}{f:α->KasT β}:∀(t:KasT α),Gd lt n t (λa=>Gd lt n (f a) P)->Gd lt n (t.bind f) P
 | .ret a,g=>g
 | .ask i j k,⟨h1,g⟩=>⟨h1,Gd.bind _ g⟩
end
section
variable {O:KeyOrd}{n:Nat}{key:Nat->O.α}
noncomputable abbrev kp (key:Nat->O.α)(p:Array Nat)(i:Nat):O.α:=key (p.getD i 0)
structure Pm (n:Nat) (p:Array Nat):Prop where
 sz:p.size=n
 pm:p.toList.Perm (aT n)
theorem Pm.lt {p:Array Nat}(h:Pm n p){i:Nat}(hi:i < n):p.getD i 0 < n:=by
 have hs:i < p.size:=by rw[h.sz];exact hi
 have e:p.getD i 0=p[i]:=by simp[iE,hs]
 rw[e];exact bg.mp (h.pm.mem_iff.mp (Array.getElem_mem_toList hs))
theorem Pm.inj {p:Array Nat}(h:Pm n p){i j:Nat}(hi:i < n)(hj:j < n)(e:p.getD i 0=p.getD j 0):i=j:=by
 have hs:i < p.size:=by rw[h.sz];exact hi
 have hs' :j < p.size:=by rw[h.sz];exact hj
 have e1:p.getD i 0=p[i]:=by simp[iE,hs]
 have e2:p.getD j 0=p[j]:=by simp[iE,hs']
 rw[e1,e2]at e;have nd:=h.pm.nodup_iff.mpr List.nodup_range;have:=(hU (h₀:=by simpa using hs) (h₁:=by simpa using hs') nd).mp (by simpa using e)
 exact this
noncomputable def So (key:Nat->O.α)(p:Array Nat)(m:Nat):Prop:=∀i j,i < j->j < m->O.klt (kp key p i) (kp key p j)
theorem wT {p q:Array Nat}{i j:Nat}(h:p[i]? =q[j]?):p.getD i 0=q.getD j 0:=by
 have e:∀(a:Array Nat) (k:Nat),a.getD k 0=(a[k]?).getD 0:=λa k=>by simp
 rw[e,e,h]
variable (hk:∀i j,i < n->j < n->key i=key j->i=j)
include hk
theorem Xe {p:Array Nat}(h:Pm n p){i j:Nat}(hi:i < n)(hj:j < n)(hij:i ≠ j)(hf:O.blt (kp key p i) (kp key p j)=false):O.klt (kp key p j) (kp key p i):=by
 cases q:O.blt _ _ with
 | true=>exact q
 | false=>exact absurd (h.inj hi hj (hk _ _ (h.lt hi) (h.lt hj) (O.total _ _ hf q))) hij
omit hk in
theorem So.snoc {p:Array Nat}{m:Nat}(h:So key p m)(h1:1<=m)(hl:O.klt (kp key p (m - 1)) (kp key p m)):So key p (m+1):=λi j hij hj=>by
 by_cases hjm:j=m
 ·subst hjm
  by_cases him:i=j - 1
  ·rw[him];exact hl
  ·exact bV (h i _ (by omega) (by omega)) (d4 hl)
 ·exact h i j hij (by omega)
theorem YX {p:Array Nat}(hp:Pm n p):∀(f m:Nat),1<=m->m+f=n->So key p m->Gd (λi j=>O.blt (key i) (key j)) n (kas_asc p f m) λr=>m<=r/\r<=n/\So key p r/\(r < n->O.klt (kp key p r) (kp key p (r - 1)))
 | 0,m,_,hm,h=>⟨ai _,by omega,h,λz=>by omega⟩
 | f+1,m,h1,hm,h=>by
  refine⟨⟨hp.lt (by omega),hp.lt (by omega),λz=>absurd (hp.inj (by omega) (by omega) z) (by omega)⟩, ?_⟩
  show Gd _ n (if O.blt _ _=true then .ret m else kas_asc p f _) _
  cases q:O.blt _ _ with
  | true=>exact⟨ai _,by omega,h,λ_=>q⟩
  | false=>
   exact Gd.mono (λr ⟨a,b,c⟩=>⟨by omega,b,c⟩) _ (YX hp f _ (by omega) (by omega) (h.snoc h1 (Xe hk hp (by omega) (by omega) (by omega) q)))
noncomputable def De (key:Nat->O.α)(p:Array Nat)(m:Nat):Prop:=∀i j,i < j->j < m->O.klt (kp key p j) (kp key p i)
theorem YY {p:Array Nat}(hp:Pm n p):∀(f m:Nat),2<=m->m+f=n->De key p m->Gd (λi j=>O.blt (key i) (key j)) n (kas_desc f p m 0) λr=>r.1=p/\r.2.2=0/\m<=r.2.1/\r.2.1<=n/\De key p r.2.1
 | 0,m,_,hm,h=>⟨rfl,rfl,ai _,by show m<=n;omega,h⟩
 | f+1,m,h1,hm,h=>by
  refine⟨⟨hp.lt (by omega),hp.lt (by omega),λz=>absurd (hp.inj (by omega) (by omega) z) (by omega)⟩, ?_⟩
  show Gd _ n (if O.blt _ _=true then (if 0 > 0 then kas_desc f _ _ 0 else kas_desc f p _ 0) else .ask _ _ λd=>if d=true then .ret _ else kas_desc f p _ _) _
  cases q:O.blt _ _ with
  | true=>
   refine Gd.mono (λr ⟨a,b,c,d⟩=>⟨a,b,by omega,d⟩) _ (YY hp f _ (by omega) (by omega) λi j hij hj=> ?_)
   by_cases hjm:j=m
   ·subst hjm
    by_cases him:i=j - 1
    ·rw[him];exact q
    ·exact bV (show O.klt _ _ from q) (d4 (h i _ (by omega) (by omega)))
   ·exact h i j hij (by omega)
  | false=>
   refine⟨⟨hp.lt (by omega),hp.lt (by omega),λz=>absurd (hp.inj (by omega) (by omega) z) (by omega)⟩, ?_⟩
   have q2:O.blt _ _=true:=Xe hk hp (by omega) (by omega) (by omega) q
   show Gd _ n (if O.blt _ _=true then .ret _ else _) _
   rw[if_pos q2];exact⟨rfl,rfl,ai _,by show m<=n;omega,h⟩
omit hk in
theorem Vu {p:Array Nat}(hp:Pm n p)(i j:Nat):Pm n (kas_rev p i j):=⟨(mirror_size _ _ _ _).trans hp.sz,(dF.mp (mirror_perm p i j _)).trans hp.pm⟩
omit hk in
theorem YZ {p:Array Nat}(hp:Pm n p){m k:Nat}(hm:m<=n)(hk' :k < m):(kas_rev p 0 m).getD k 0=p.getD (m - 1 - k) 0:=by
 refine wT ?_;unfold kas_rev;rw[getElem?_mirror_all (by rw[hp.sz];exact hm),if_pos ⟨b9 _,hk'⟩]
 congr 1
 omega
theorem jm {p:Array Nat}(hp:Pm n p)(h2:2<=n):Gd (λi j=>O.blt (key i) (key j)) n (kas_count n p) λr=>1<=r.1/\r.1<=n/\Pm n r.2/\So key r.2 r.1:=by
 refine Gd.bind _ (Gd.mono (λm ⟨a,b,c,d⟩=> ?_) _ (YX hk hp _ 1 (ai _) (by omega) λi j hij hj=>by omega))
 by_cases hmn:m=n
 ·rw[if_pos (by simpa using hmn)]
  exact⟨a,b,hp,c⟩
 ·rw[if_neg (by simpa using hmn)]
  by_cases hm1:m > 1
  ·rw[if_pos hm1];refine⟨⟨hp.lt (by omega),hp.lt (by omega),λz=>absurd (hp.inj (by omega) (by omega) z) (by omega)⟩, ?_⟩
   have q:O.blt _ (kp key p (m - 1))=true:=c 0 _ (by omega) (by omega)
   show Gd _ n (if O.blt _ _=true then .ret _ else _) _
   rw[if_pos q];exact⟨a,b,hp,c⟩
  ·have e:m=1:=by omega
   subst e;have d1:=d (by omega)
   refine Gd.bind _ (Gd.mono (λr ⟨r1,r2,r3,r4,r5⟩=> ?_) _ (YY hk hp _ _ (by omega) (by omega) λi j hij hj=>by
    have:i=0/\j=1:=by omega
    rw[this.1,this.2];exact d1))
   rw[r2,r1];refine Gd.bind _ (Gd.mono (λm' ⟨x1,x2,x3,_⟩=>⟨by omega,x2,Vu hp 0 _,x3⟩) _ (YX hk (Vu hp 0 _) _ _ (by omega) (by omega) λi j hij hj=> ?_))
   unfold kp;rw[YZ hp r4 (by omega),YZ hp r4 hj]
   exact r5 _ _ (by omega) (by omega)
theorem wU {p:Array Nat}(hp:Pm n p){k:Nat}(hkn:k < n)(hs:So key p k):∀(f l r:Nat),r<=k->l<=r->r - l<=f->(∀i,i < l->O.klt (kp key p i) (kp key p k))->(∀i,r<=i->i < k->O.klt (kp key p k) (kp key p i))->
  Gd (λi j=>O.blt (key i) (key j)) n (kas_place p k f l r) λm=>m<=k/\(∀i,i < m->O.klt (kp key p i) (kp key p k))/\∀i,m<=i->i < k->O.klt (kp key p k) (kp key p i)
 | 0,l,r,h1,h2,h3,h4,h5=>⟨by omega,h4,λi hi hik=>h5 i (by omega) hik⟩
 | f+1,l,r,h1,h2,h3,h4,h5=>by
  unfold kas_place
  by_cases hlr:l ≥ r
  ·rw[if_pos hlr];exact⟨by omega,h4,λi hi hik=>h5 i (by omega) hik⟩
  ·rw[if_neg hlr];refine⟨⟨hp.lt hkn,hp.lt (by omega),λz=>absurd (hp.inj hkn (by omega) z) (by omega)⟩, ?_⟩
   show Gd _ n (if O.blt _ _=true then kas_place p k f l _ else kas_place p k f _ r) _
   cases q:O.blt _ _ with
   | true=>
    refine wU hp hkn hs f l _ (by omega) (by omega) (by omega) h4 λi hi hik=> ?_
    by_cases e:i=(l+r) / 2
    ·rw[e];exact q
    ·exact bV (q) (d4 (hs _ _ (by omega) hik))
   | false=>
    refine wU hp hkn hs f _ r h1 (by omega) (by omega) (λi hi=> ?_) h5
    have ql:=Xe hk hp hkn (by omega) (by omega) q
    by_cases e:i=(l+r) / 2
    ·rw[e];exact ql
    ·exact bV (hs _ _ (by omega) (by omega)) (d4 ql)
omit hk in
theorem qa {p:Array Nat}(hp:Pm n p){k l i:Nat}(hkn:k < n)(hl:l<=k):(bubble p k (k - l)).getD i 0=if i=l then p.getD k 0 else if l < i/\i<=k then p.getD (i - 1) 0 else p.getD i 0:=by
 have h:=getElem?_bubble (by rw[hp.sz];exact hkn) (k - l) (by omega) i
 rw[show k - (k - l)=l by omega]at h
 repeat' split at h
 all_goals first | (rw[if_pos (by assumption)];exact wT h) | (rw[if_neg (by assumption),if_pos (by assumption)];exact wT h) | (rw[if_neg (by assumption),if_neg (by assumption)];exact wT h)
theorem Vv:∀(f:Nat) (p:Array Nat) (k:Nat),Pm n p->k+f=n->So key p k->Gd (λi j=>O.blt (key i) (key j)) n (kas_bin f p k) λq=>Pm n q/\So key q n
 | 0,p,k,hp,hkf,h=>⟨hp,by rw[← hkf];exact h⟩
 | f+1,p,k,hp,hkf,h=>by
  unfold kas_bin;refine Gd.bind _ (Gd.mono (λl ⟨a,b,c⟩=> ?_) _ (wU hk hp (by omega) h k 0 k (ai _) (b9 _) (by omega) (λi hi=>by omega) λi hi hik=>by omega))
  refine Vv f _ _ ⟨(bubble_size _ _ _).trans hp.sz,(dF.mp (bubble_perm p k _)).trans hp.pm⟩ (by omega) λi j hij hj=> ?_
  unfold kp;rw[qa hp (by omega) a,qa hp (by omega) a]
  by_cases hi:i=l
  ·rw[if_pos hi,if_neg (by omega),if_pos ⟨by omega,by omega⟩]
   exact c _ (by omega) (by omega)
  ·rw[if_neg hi]
   by_cases hj' :j=l
   ·rw[if_pos hj',if_neg (by omega)]
    exact b i (by omega)
   ·rw[if_neg hj']
    by_cases x:l < i/\i<=k
    ·rw[if_pos x,if_pos ⟨by omega,by omega⟩]
     exact h _ _ (by omega) (by omega)
    ·rw[if_neg x]
     by_cases y:l < j/\j<=k
     ·rw[if_pos y];exact h _ _ (by omega) (by omega)
     ·rw[if_neg y];exact h _ _ hij (by omega)
theorem qb (h2:2<=n):Gd (λi j=>O.blt (key i) (key j)) n (kas_sort n) λq=>Pm n q/\So key q n:=by
 refine Gd.bind _ (Gd.mono (λr ⟨a,b,c,d⟩=> ?_) _ (jm hk ⟨by simp,by simp⟩ h2))
 by_cases h:r.1 < n
 ·rw[if_pos h,show max r.1 1=r.1 by omega]
  exact Vv hk _ _ _ c (by omega) d
 ·rw[if_neg h];exact⟨c,by rw[show n=r.1 by omega];exact d⟩
end
end PV
namespace PV
open PySem PySem.Spec PyProof.Rows L2
section
open PySem.W PySem.Calls
variable {O:KeyOrd}{n:Nat}{key:Nat->O.α}
end
section
variable {prog:Program}{w:World}{A:Around}{E:Value->Shared->Prop}{s:Shared}
open PySem.W PySem.Calls
end
end PV
namespace PV
open PySem PySem.Spec PyProof.Rows L2
section
variable {prog:Program}{w:World}{A:Around}{E:Value->Shared->Prop}{s:Shared}
open HT in
open HT in
end
end PV
namespace PV
open PySem PySem.Spec PyProof.Rows L2
end PV
namespace L2
open PySem PySem.Spec PyProof.Rows PySem.W
end L2
namespace L2
open PySem PySem.Spec PyProof.Rows PySem.W
end L2
namespace L2
open PySem PySem.Spec PyProof.Rows PySem.W
end L2
namespace PV
open PySem PySem.Spec PyProof.Rows L2 PySem.W
end PV
namespace L2
open PySem PySem.Spec PyProof.Rows PySem.W
end L2
namespace PV
open PySem PySem.Spec PyProof.Rows L2
end PV
namespace PV
open PySem PySem.Spec PyProof.Rows L2 PySem.W
section
variable {X:Cx}{Y:Fx}{a b:Expr}{fa fb:En->R T}{pos p p' :Pos}
theorem SI.forget {B:Hp}{ρ:En}{σ:Sg}{H:Hp}(I:SI Y B ρ σ H)(i:Nat)(v:Option V):SI Y B (ρ.set i .un) (σ.set i v) H where
 s0:=I.s0
 sH:=I.sH
 sB:=I.sB
 old:=I.old
 len:=by rw[aI,aI];exact I.len
 vl:=λj t h=>by
  rcases zq h with ⟨_,z⟩ | ⟨n,z⟩
  ·cases z
  ·obtain⟨v',e,r⟩:=I.vl j t z;exact⟨v',by rw[ar (aU n)];exact e,r⟩
 ow:=λj ts h=>by
  rcases zq h with ⟨_,z⟩ | ⟨n,z⟩
  ·cases z
  ·obtain⟨a,xs,e,b0,h0,hh,r,d⟩:=I.ow j ts z;refine⟨a,xs,by rw[ar (aU n)];exact e,b0,h0,hh,r,λj' us n' h' => ?_⟩
   rcases zq h' with ⟨_,z'⟩ | ⟨n2,z'⟩
   ·cases z'
   ·rw[ar (aU n2)];exact d j' us n' z'
 xc:=λj c h=>by
  rcases zq h with ⟨_,z⟩ | ⟨n,z⟩
  ·cases z
  ·obtain⟨a,e,r⟩:=I.xc j c z;exact⟨a,by rw[ar (aU n)];exact e,r⟩
 st:=let ⟨as,O,x⟩:=I.st;⟨as,O,x.set i _ _ rfl (λ_=>Sl.noConfusion)⟩
end
end PV
namespace PV
open PySem PySem.Spec PyProof.Rows L2
end PV
namespace PV
open PySem PySem.Spec PyProof.Rows L2 PySem.W
noncomputable def FsIn (B H0 H:Hp)(O:Addr->Option Nat)(us:List (Str×V))(fs:List (Str×Fd)):Prop:=(us.length=fs.length/\InC us)/\∀(m:Nat) (f:Str) (d:Fd),fs[m]? =some (f,d)->∃v,us[m]? =some (f,v)/\
 match d with
 | .tv t=>Rep B v t
 | .tl ts=>∃l xs,v= .ref l/\B l=none/\H0 l=none/\H l=some (.lst xs)/\zI B xs ts/\O l=some (m+1)
noncomputable def Xf (cl:Nat->Value)(k:Nat)(B H0 H:Hp)(x:Addr)(fs:List (Str×Fd)):Prop:=∃C dx us O,cl k= .ref C/\H x=some (.ins C dx us)/\B x=none/\H0 x=none/\O x=some 0/\FsIn B H0 H O us fs
theorem SI.obAt {Y:Fx}{B:Hp}{ρ:En}{σ:Sg}{H:Hp}(I:SI Y B ρ σ H){j k:Nat}{x:Addr}{fs:List (Str×Fd)}{os:List Ob}(hx:Y.as=[x])(h:ρ[j]? =some (.st ((k,fs) :: os))):Xf Y.cl k B Y.H0 H x fs:=by
 obtain⟨as,O,s⟩:=I.st;obtain⟨a,C,dx,vs,e1,e2,e3,e4,e5,e6,e7,e8⟩:=s.st j _ h 0 k fs rfl;have ha:a=x:=by
  obtain⟨t,et⟩:=s.pre;rw[hx]at et;rw[← et]at e1;exact(aH e1).symm
 subst ha;refine⟨C,dx,vs,λb=>(O b).bind λp=>if p.1=0 then some p.2 else none,e2,e3,e4,e5,by dsimp only;rw[e6];rfl,e7,λm f d z=> ?_⟩
 obtain⟨v,z1,z2⟩:=e8 m f d z;refine⟨v,z1, ?_⟩;cases d with
 | tv t=>exact z2
 | tl ts=>
  obtain⟨l,xs,p1,p2,p3,p4,p5,_,p7⟩:=z2;exact⟨l,xs,p1,p2,p3,p4,p5,by dsimp only;rw[p7];rfl⟩
noncomputable def enM (k j:Nat)(fs:List (Str×Fd))(ts:List T):En:= .ob k 0 :: (ts.map Sl.vl++(aa (j - 1 - ts.length) .un++[.st [(k,fs)]]))
theorem ZP {k j:Nat}{fs:List (Str×Fd)}{ts:List T}{i:Nat}{s:Sl}(h:(enM k j fs ts)[i]? =some s):(i=0/\s= .ob k 0)\/(∃i' t,i=i' +1/\ts[i']? =some t/\s= .vl t)\/s= .un\/(s= .st [(k,fs)]/\i=1+ts.length+(j - 1 - ts.length)):=by
 unfold enM at h;cases i with
 | zero=>exact .inl ⟨rfl,(aH h).symm⟩
 | succ i=>
  rw[eH]at h
  by_cases hi:i < ts.length
  ·rw[aE (by simpa using hi),ax,ag hi]at h
   exact .inr (.inl ⟨i,_,rfl,ag hi,(aH h).symm⟩)
  ·rw[aB (by simpa using hi)]at h
   by_cases h2:i - (ts.map Sl.vl).length < j - 1 - ts.length
   ·rw[aE (by simpa using h2),aN,if_pos h2]at h
    exact .inr (.inr (.inl (aH h).symm))
   ·rw[aB (by simpa using h2)]at h
    generalize hq:i - (ts.map _).length - (aa _ _).length=q at h;cases q with
    | zero=>
     refine .inr (.inr (.inr ⟨(aH h).symm, ?_⟩));rw[ac,aK]at hq;rw[ac]at h2;omega
    | succ q=>cases h
theorem zI.at {B:Hp}:∀{vs:List V} {ts:List T},zI B vs ts->∀{i:Nat} {t:T},ts[i]? =some t->∃v,vs[i]? =some v/\Rep B v t
 | _,_,.nil,i,t,h=>by simp at h
 | _,_, @zI.cons _ v _ _ _ r rr,0,t,h=>by cases h;exact⟨v,rfl,r⟩
 | _,_,.cons r rr,i+1,t,h=>zI.at rr h
theorem SI.startM {cl:Nat->Value}{k j:Nat}{B H0 H:Hp}{x:Addr}{fs:List (Str×Fd)}{E:XK}{vs:List V}{ts:List T}{N:List Str}(hN:N.length=j+1)(hj:ts.length+1<=j)(sB:zy B H0)(sH:zy H0 H)(ob:Xf cl k B H0 H x fs)(r:zI B vs ts):
  SI ⟨B,H0,E,cl,[x]⟩ B (enM k j fs ts) (L2.start N (.ref x :: vs)) H where
 s0:=sB
 sH:=sH
 sB:=sB.trans sH
 old:=λ_ _ _=>rfl
 len:=by
  unfold enM L2.start;have:=r.length;simp only[aj,av,ac,aK,bA];omega
 vl:=λi t h=>by
  rcases ZP h with ⟨_,e⟩ | ⟨i',t',e1,e2,e3⟩ | e | ⟨e,_⟩
  ·cases e
  ·cases e3;subst e1;obtain⟨v,ev,rv⟩:=r.at e2;refine⟨v, ?_,rv⟩;unfold L2.start;have hi:i' < vs.length:=(aw.mp ev).1;rw[aE (by simpa using hi),ao,eH,ax,ev];rfl
  ·cases e
  ·cases e
 ow:=λi t h=>by
  rcases ZP h with ⟨_,e⟩ | ⟨i',t',e1,e2,e3⟩ | e | ⟨e,_⟩
  ·cases e
  ·cases e3
  ·cases e
  ·cases e
 xc:=λi t h=>by
  rcases ZP h with ⟨_,e⟩ | ⟨i',t',e1,e2,e3⟩ | e | ⟨e,_⟩
  ·cases e
  ·cases e3
  ·cases e
  ·cases e
 st:=by
  obtain⟨C,dx,us,O,c1,c2,c3,c4,c5,c6,c7⟩:=ob;refine⟨[x],λb=>(O b).map λm=>(0,m),cD _,λi os h=> ?_,λi i' os os' h h' => ?_,λi k' n h=> ?_,λi k' fs0 h=> ?_,λi os h n k' fs' e=> ?_⟩
  ·rcases ZP h with ⟨_,e⟩ | ⟨_,_,_,_,e⟩ | e | ⟨e,_⟩ <;> cases e
   rfl
  ·rcases ZP h with ⟨_,e⟩ | ⟨_,_,_,_,e⟩ | e | ⟨_,e⟩
   ·cases e
   ·cases e
   ·cases e
   ·rcases ZP h' with ⟨_,e'⟩ | ⟨_,_,_,_,e'⟩ | e' | ⟨_,e'⟩
    ·cases e'
    ·cases e'
    ·cases e'
    ·rw[e,e']
  ·rcases ZP h with ⟨e0,e⟩ | ⟨i',t',e1,e2,e3⟩ | e | ⟨e,_⟩
   ·cases e;subst e0;exact⟨x,C,dx,us,rfl,rfl,c1,c2,c3,c4,c6.2⟩
   ·cases e3
   ·cases e
   ·cases e
  ·rcases ZP h with ⟨e0,e⟩ | ⟨i',t',e1,e2,e3⟩ | e | ⟨e,_⟩
   ·cases e
   ·cases e3
   ·cases e
   ·cases e
  ·rcases ZP h with ⟨e0,e'⟩ | ⟨i',t',e1,e2,e3⟩ | e' | ⟨e',_⟩
   ·cases e'
   ·cases e3
   ·cases e'
   ·cases e';cases n with
    | succ n=>cases e
    | zero=>
     cases e;refine⟨x,C,dx,us,rfl,c1,c2,c3,c4,by rw[c5];rfl,c6,λm f d z=> ?_⟩
     obtain⟨v,z1,z2⟩:=c7 m f d z;refine⟨v,z1, ?_⟩;cases d with
     | tv t=>exact z2
     | tl us' =>
      obtain⟨l,xs,p1,p2,p3,p4,p5,p6⟩:=z2;refine⟨l,xs,p1,p2,p3,p4,p5,λj' us2 hj' => ?_,by show iF _ (O l)=_;rw[p6];rfl⟩
      rcases ZP hj' with ⟨_,e⟩ | ⟨_,_,_,_,e⟩ | e | ⟨e,_⟩ <;> cases e
noncomputable def PoO (cl:Nat->Value)(k:Nat)(B H0:Hp)(x:Addr)(r:R (T×List (Str×Fd)))(Q:VK)(E:XK):Prop:=match r with
 | .ok (t,fs')=>∀v H' B',zy H0 H' ->zy B B' ->zy B' H' ->(∀b o,H0 b=some o->B' b=B b)->Xf cl k B' H0 H' x fs' ->Rep B' v t->Q v H'
 | .ex c=>∀d H',zy H0 H' ->zy B H' ->E (cl c) d H'
 | .bad=>False
noncomputable def spM (cl:Nat->Value)(k n:Nat)(g:List (Str×Fd)->List T->R (T×List (Str×Fd))):Sp:=λvs H Q E=>∃(x:Addr) (vs' :List V) (ts:List T) (B H0:Hp) (fs:List (Str×Fd)),vs= .ref x :: vs' /\ts.length=n/\zy B H0/\zy H0 H/\Xf cl k B H0 H x fs/\zI B vs' ts/\PoO cl k B H0 x (g fs ts) Q E
noncomputable def PoR (Y:Fx)(B:Hp)(r:R (T×En))(D:Qr):Prop:=match r with
 | .ok (t,ρ')=>(∀v σ' H' B',zy B B' ->SI Y B' ρ' σ' H' ->Rep B' v t->D.rt v H')/\(t= .non->∀σ' H' B',zy B B' ->SI Y B' ρ' σ' H' ->D.nx σ' H')
 | .ex c=>XP Y B c
 | .bad=>False
theorem XP.up {Y:Fx}{B B' :Hp}{c:Nat}(s:zy B B')(h:XP Y B c):XP Y B' c:=λd H' a b=>h d H' a (s.trans b)
theorem PoR.up {Y:Fx}{B B' :Hp}{r:R (T×En)}{D:Qr}(s:zy B B')(h:PoR Y B r D):PoR Y B' r D:=by
 unfold PoR at h ⊢;split
 ·exact⟨λv σ' H' B2 a=>h.1 v σ' H' B2 (s.trans a),λe σ' H' B2 a=>h.2 e σ' H' B2 (s.trans a)⟩
 ·exact XP.up s h
 ·exact h
structure vI (X:Cx) (Y:Fx) (body:List Stmt) (f:En->R (T×En)):Prop where
 mk ::
 go:∀ρ,PSs X body λD σ H=>∃B,SI Y B ρ σ H/\PoR Y B (f ρ) D
noncomputable def PoM (Y:Fx)(B:Hp)(r:R (T×En))(σ:Sg)(Q:VK):Prop:=match r with
 | .ok (t,ρ')=>∀v H' B',zy B B' ->SI Y B' ρ' σ H' ->Rep B' v t->Q v H'
 | .ex c=>XP Y B c
 | .bad=>False
structure JK (X:Cx) (Y:Fx) (e:Expr) (f:En->R (T×En)):Prop where
 mk ::
 go:∀ρ,PE X e λσ H Q=>∃B,SI Y B ρ σ H/\PoM Y B (f ρ) σ Q
section
variable {X:Cx}{Y:Fx}{e:Expr}{st:Stmt}{rest:List Stmt}{pos:Pos}
noncomputable def uf (f:En->R T):En->R (T×En):=λρ=>(f ρ).bind λt=> .ok (t,ρ)
theorem gA {f:En->R T}(h:Snd X Y e f):JK X Y e (uf f):= .mk λρ=>PE.imp (h ρ) λσ H Q ⟨B,I,q⟩=>⟨B,I,by
 unfold uf at q;revert q;cases f ρ with
 | ok t=>exact λq v H' s r=>q v H' _ (zS.ge I.sB s) (I.grow s) r
 | ex c=>exact λq=>q
 | bad=>exact λq=>q⟩
theorem z1R {f:En->R (T×En)}(h:JK X Y e f):vI X Y [.Return (some e) pos] f:= .mk λρ=>PSs.imp (uj (Wl (h.go ρ))) λD σ H ⟨B,I,q⟩=>⟨B,I,by
 unfold PoR at q;unfold PoM;split at q
 ·exact λv H' B' a b c=>q.1 v σ H' B' a b c
 ·exact q
 ·exact q⟩
noncomputable def z1S:En->R (T×En):=λρ=> .ok (.non,ρ)
theorem z1T:vI X Y [] z1S:= .mk λρ=>PSs.imp yP λD σ H ⟨B,I,q⟩=>q.2 rfl σ H B (zy.refl _) I
noncomputable def jC (f:En->RS)(g:En->R (T×En)):En->R (T×En):=λρ=>match f ρ with
 | .nx ρ' =>g ρ'
 | .ex c=> .ex c
 | _=> .bad
theorem gB {f:En->RS}{g:En->R (T×En)}(h1:jO X Y st f)(h2:vI X Y rest g):vI X Y (st :: rest) (jC f g):= .mk λρ=>by
 refine PSs.imp (wF (u:=λD σ H=>∃ρ' B,SI Y B ρ' σ H/\PoR Y B (g ρ') D) (h1 ρ) ?_) ?_
 ·intro pins s σ H D I ⟨ρ',q⟩;exact h2.go ρ' _ s σ H D I q
 ·intro D σ H ⟨B,I,q⟩;refine⟨B,I, ?_⟩;unfold jC at q;revert q;cases f ρ with
  | nx ρ' =>exact λq σ' H' B' s I' =>⟨ρ',B',I',q.up s⟩
  | ex c=>exact λq=>q
  | rt t=>exact λq=>q.elim
  | rf t=>exact λq=>q.elim
  | bk ρ=>exact λq=>q.elim
  | ct ρ=>exact λq=>q.elim
  | bad=>exact λq=>q.elim
end
noncomputable def jY (k j:Nat)(r:R (T×En)):R (T×List (Str×Fd)):=r.bind λp=>match p.2[j]? with
 | some (.st ((k',fs) :: _))=>if k' =k then .ok (p.1,fs) else .bad
 | _=> .bad
section
variable {P:Program}{w:World}{K:a8}{mg:Str->Option Value}{base:Heap}
theorem qc {cl:Nat->Value}{x qual:Str}{st:Stmt}{f:Addr}{fd:FuncData}{N ps:List Str}{k n j kr:Nat}{fb:En->R (T×En)}(F:Fun K x qual st f fd)(S:ja N ps (zx st))(hn:ps.length=n+1)(hN:N.length=j+1)(hj:n+1<=j)
  (hb:∀(cdv:Value) (A:Around) (outer:List Env) (s:Shared) (H:Hp) (E:XK) (Y:Fx),Y.cl=cl->Y.E=E->j3 kr (A.deeper (envOfC qual (zx st) s.heap.objs.size f cdv))->
   vI (ud (CX1 P w) P w K mg base N qual (zx st) f cdv A outer s H E) Y (zT st) fb):jw P w K mg base (CX1 P w) (kr+1) f fd ps (spM cl k n λfs ts=>jY k j (fb (enM k j fs ts))):=by
 refine Fun.okX F S (λvs H Q E z=> ?_) λcdv A outer s H vs Q E hr z=> ?_
 ·obtain⟨x,vs',ts,B,H0,fs,e,hl,_,_,_,r,_⟩:=z;rw[e,aj,r.length,hl,hn]
 obtain⟨x,vs',ts,B,H0,fs,e,hl,sB,sH,ob,r,q⟩:=z;subst e;refine⟨_,(hb cdv A _ s H E _ rfl rfl hr).go _,B,SI.startM hN (by omega) sB sH ob r, ?_⟩
 have q:PoO cl k B H0 x (jY k j _) Q E:=q;revert q;cases fb _ with
 | bad=>exact λq=>q
 | ex c=>exact λq=>q
 | ok p=>
  obtain⟨t,ρ'⟩:=p;show PoO cl k B H0 x (match ρ'[j]? with | some (.st ((k',fs) :: _))=>(if k' =k then R.ok _ else R.bad) | _=>R.bad) Q E->_
  split
  ·rename_i k' fs' os ej;split
   ·rename_i hk;subst hk;intro q;have key:∀v σ' H' B',zy B B' ->SI ⟨B,H0,E,cl,[x]⟩ B' ρ' σ' H' ->Rep B' v t->Q v H' :=λv σ' H' B' s1 I' rv=>q v H' B' I'.sH s1 I'.sB (λb o h=>I'.old b o h) (I'.obAt rfl ej) rv;exact⟨key,λet σ' H' B' s1 I' =>key _ σ' H' B' s1 I' (by rw[et];exact .non)⟩
   ·exact λq=>q.elim
  ·exact λq=>q.elim
end
noncomputable def obD (k i j:Nat)(ρ:En):Option (Nat×List (Str×Fd)×List Ob):=match ρ[i]?,ρ[j]? with
 | some (.ob k' n),some (.st os)=>match os[n]? with
  | some (k2,fs)=>if k' =k/\k2=k then some (n,fs,os) else none
  | none=>none
 | _,_=>none
theorem wq {k i j:Nat}{ρ:En}{n:Nat}{fs:List (Str×Fd)}{os:List Ob}(h:obD k i j ρ=some (n,fs,os)):ρ[i]? =some (.ob k n)/\ρ[j]? =some (.st os)/\os[n]? =some (k,fs):=by
 unfold obD at h;split at h
 ·rename_i k' n' os' e1 e2;split at h
  ·rename_i k2 fs' e3;split at h
   ·rename_i hk;obtain⟨rfl,rfl⟩:=hk;cases h;exact⟨e1,e2,e3⟩
   ·cases h
  ·cases h
 ·cases h
theorem uC {f:Str}{d:Fd}:∀{fs:List (Str×Fd)} {vs:List (Str×V)},(∀(m:Nat) (g:Str) (e:Fd),fs[m]? =some (g,e)->∃v,vs[m]? =some (g,v))->fs.lookup f=some d->∃(m:Nat) (v:V),fs[m]? =some (f,d)/\vs[m]? =some (f,v)/\vs.lookup f=some v
 | [],_,_,h=>by simp at h
 | (g,e) :: fs,vs,al,h=>by
  obtain⟨v,hv⟩:=al 0 g e rfl;cases vs with
  | nil=>cases hv
  | cons w vs=>
   cases hv;rw[aA]at h
   by_cases hx:f=g
   ·subst hx;rw[beq_self_eq_true]at h;cases h;exact⟨0,v,rfl,rfl,by rw[aA,beq_self_eq_true]⟩
   ·rw[beq_eq_false_iff_ne.mpr hx]at h;obtain⟨m,v',a,b,c⟩:=uC (λm=>al (m+1)) h;exact⟨m+1,v',a,b,by rw[aA,beq_eq_false_iff_ne.mpr hx];exact c⟩
theorem uD {f:Str}:∀{fs:List (Str×Fd)} {vs:List (Str×V)},vs.length=fs.length->(∀(m:Nat) (g:Str) (e:Fd),fs[m]? =some (g,e)->∃v,vs[m]? =some (g,v))->fs.lookup f=none->vs.lookup f=none
 | [],vs,l,_,h=>by
  cases vs with
  | nil=>rfl
  | cons _ _=>cases l
 | (g,e) :: fs,vs,l,al,h=>by
  obtain⟨v,hv⟩:=al 0 g e rfl;cases vs with
  | nil=>cases hv
  | cons w vs=>
   cases hv;rw[aA]at h ⊢
   by_cases hx:f=g
   ·subst hx;rw[beq_self_eq_true]at h;cases h
   ·rw[beq_eq_false_iff_ne.mpr hx]at h ⊢;exact uD (by simpa using l) (λm=>al (m+1)) h
section
variable {X:Cx}{Y:Fx}{B:Hp}{ρ:En}{σ:Sg}{H:Hp}
theorem SI.look (I:SI Y B ρ σ H){k i j n:Nat}{fs:List (Str×Fd)}{os:List Ob}{f:Str}{d:Fd}(h:obD k i j ρ=some (n,fs,os))(hl:fs.lookup f=some d):∃a C dx vs v,∃m:Nat,∃as O,StI Y B ρ σ H as O/\σ[i]? =some (some (V.ref a))/\Y.cl k= .ref C/\H a=some (.ins C dx vs)/\vs.lookup f=some v/\fs[m]? =some (f,d)/\vs[m]? =some (f,v)/\FdR Y B ρ σ H (λl=>O l=some (n,m+1)) v d:=by
 obtain⟨h1,h2,h3⟩:=wq h;obtain⟨as,O,s⟩:=I.st;obtain⟨a,C,dx,vs,e1,e2,e3,e4,e5,e6,e7,e8⟩:=s.st j os h2 n k fs h3;obtain⟨a',C',dx',vs',g1,g2,_⟩:=s.ob i k n h1;rw[e1]at g1;cases g1;obtain⟨m,v,z1,z2,z3⟩:=uC (λm g e he=>let ⟨v,z,_⟩:=e8 m g e he;⟨v,z⟩) hl;obtain⟨v',y1,y2⟩:=e8 m f d z1;rw[z2]at y1;cases y1;exact⟨a,C,dx,vs,v,m,as,O,s,g2,e2,e3,z3,z1,z2,y2⟩
theorem SI.chgF (I:SI Y B ρ σ H){k i j n m:Nat}{fs:List (Str×Fd)}{os:List Ob}{f:Str}{ts us:List T}{ys:List V}{a C dx l:Addr}{vs:List (Str×V)}(h:obD k i j ρ=some (n,fs,os))(hm:fs[m]? =some (f,.tl ts))(ha:σ[i]? =some (some (V.ref a)))(hH:H a=some (.ins C dx vs))(hl:vs[m]? =some (f,.ref l))(r:zI B ys us):
  SI Y B (ρ.set j (.st (os.set n (k,fs.set m (f,.tl us))))) σ (upd H l (.lst ys)):=by
 obtain⟨h1,h2,h3⟩:=wq h;obtain⟨as,O,s⟩:=I.st;obtain⟨a1,C1,dx1,vs1,e1,e2,e3,e4,e5,e6,e7,e8⟩:=s.st j os h2 n k fs h3;obtain⟨a',C',dx',vs',g1,g2,_⟩:=s.ob i k n h1;rw[e1]at g1;cases g1;rw[ha]at g2;cases g2;rw[hH]at e3;cases e3;obtain⟨v,z1,z2⟩:=e8 m f _ hm;rw[hl]at z1;cases z1;obtain⟨l',xs,p1,b0,h0,hh,p5,ok,ol⟩:=z2;cases p1;have nb:∀b o,B b=some o->b ≠ l:=λb o h z=>by subst z;rw[b0]at h;cases h
 have n0:∀b o,Y.H0 b=some o->b ≠ l:=λb o h z=>by subst z;rw[h0]at h;cases h
 have own:∀(j' :Nat) (ws:List T),(ρ.set j (.st (os.set n (k,fs.set m (f,.tl us)))))[j']? =some (Sl.ow ws)->ρ[j']? =some _:=λj' ws hw=>by
  rcases zq hw with ⟨_,z⟩ | ⟨_,z⟩
  ·cases z
  ·exact z
 have ok' :∀b,uo ρ σ b->uo _ σ b:=λb hb j' ws hw=>hb j' ws (own j' ws hw);refine⟨I.s0,λb o h=>by rw[zv (n0 b o h)];exact I.sH b o h,λb o h=>by rw[zv (nb b o h)];exact I.sB b o h,I.old,by rw[aI];exact I.len,λj' u h=> ?_,λj' ws h=> ?_,λj' c h=> ?_,as,O,s.pre,λi' os' h=> ?_,λi1 i2 os1 os2 q1 q2=> ?_,λi' k' n' h=> ?_,λi' k' fs0 h=> ?_,λi' os' h n' k' fs' e=> ?_⟩
 ·rcases zq h with ⟨_,z⟩ | ⟨_,z⟩
  ·cases z
  ·exact I.vl j' u z
 ·have z:=own j' ws h;obtain⟨b,xs',y1,y2,y3,y4,y5,y6⟩:=I.ow j' ws z;have hne:b ≠ l:=λw=>by subst w;exact ok j' ws z y1
  exact⟨b,xs',y1,y2,y3,by rw[zv hne];exact y4,y5,λj2 vs2 hj hw=>y6 j2 vs2 hj (own j2 vs2 hw)⟩
 ·rcases zq h with ⟨_,z⟩ | ⟨_,z⟩
  ·cases z
  ·exact I.xc j' c z
 ·rcases zq h with ⟨_,z⟩ | ⟨_,z⟩
  ·cases z;rw[aI];exact s.len j os h2
  ·exact s.len _ _ z
 ·have one:∀i1 os1,(ρ.set j (.st (os.set n (k,fs.set m (f,.tl us)))))[i1]? =some _->i1=j:=λi1 os1 q1=>by
   rcases zq q1 with ⟨e,_⟩ | ⟨_,z⟩
   ·exact e
   ·exact s.one i1 j os1 os z h2
  rw[one i1 os1 q1,one i2 os2 q2]
 ·rcases zq h with ⟨_,z⟩ | ⟨_,z⟩
  ·cases z
  ·obtain⟨b,C2,dx2,vs2,y1,y2,y3,y4,y5,y6⟩:=s.ob i' k' n' z;have hne:b ≠ l:=λw=>by subst w;rw[hh]at y4;cases y4
   exact⟨b,C2,dx2,vs2,y1,y2,y3,by rw[zv hne];exact y4,y5,y6⟩
 ·rcases zq h with ⟨_,z⟩ | ⟨_,z⟩
  ·cases z
  ·exact s.oc i' k' _ z
 ·rcases zq h with ⟨rfl,z⟩ | ⟨hne,z⟩
  ·cases z;rcases zq e with ⟨rfl,z⟩ | ⟨hn,z⟩
   ·cases z;have hne:a ≠ l:=λw=>by subst w;rw[hh]at hH;cases hH
    refine⟨a,C,dx,vs,e1,e2,by rw[zv hne];exact hH,e4,e5,e6,⟨by rw[aI];exact e7.1,e7.2⟩,λm' f' d' z=> ?_⟩
    rcases zq z with ⟨rfl,z'⟩ | ⟨hm',z'⟩
    ·cases z';exact⟨.ref l,hl,l,ys,rfl,b0,h0,zC,r,ok' l ok,ol⟩
    ·obtain⟨v',y1,y2⟩:=e8 m' f' d' z';refine⟨v',y1, ?_⟩;cases d' with
     | tv t=>exact y2
     | tl ws=>
      obtain⟨l2,xs2,w1,w2,w3,w4,w5,w6,w7⟩:=y2;have hne:l2 ≠ l:=λw=>by
       subst w;rw[ol]at w7;injection w7 with w7;injection w7 with _ w7;exact hm' (by omega)
      exact⟨l2,xs2,w1,w2,w3,by rw[zv hne];exact w4,w5,ok' l2 w6,w7⟩
   ·obtain⟨b,C2,dx2,vs2,y1,y2,y3,y4,y5,y6,y7,y8⟩:=s.st i' os h2 n' k' fs' z;have hne:b ≠ l:=λw=>by subst w;rw[hh]at y3;cases y3
    refine⟨b,C2,dx2,vs2,y1,y2,by rw[zv hne];exact y3,y4,y5,y6,y7,λm' f' d' z=> ?_⟩
    obtain⟨v',x1,x2⟩:=y8 m' f' d' z;refine⟨v',x1, ?_⟩;cases d' with
    | tv t=>exact x2
    | tl ws=>
     obtain⟨l2,xs2,w1,w2,w3,w4,w5,w6,w7⟩:=x2;have hne:l2 ≠ l:=λw=>by
      subst w;rw[ol]at w7;injection w7 with w7;injection w7 with w7 _;exact hn w7.symm
     exact⟨l2,xs2,w1,w2,w3,by rw[zv hne];exact w4,w5,ok' l2 w6,w7⟩
  ·exact absurd (s.one i' j os' os z h2) hne
end
noncomputable def Ug (f:Str)(d:Fd):List (Str×Fd)->List (Str×Fd)
 | []=>[(f,d)]
 | (g,x) :: r=>if g=f then (g,d) :: r else (g,x) :: Ug f d r
noncomputable def Qx (f:Str):List (Str×Fd)->Nat
 | []=>0
 | (g,_) :: r=>if g=f then 0 else Qx f r+1
theorem Uh {f:Str}{d:Fd}{v:V}:∀{fs:List (Str×Fd)} {vs:List (Str×V)},vs.length=fs.length->(∀(m:Nat) (g:Str) (e:Fd),fs[m]? =some (g,e)->∃v,vs[m]? =some (g,v))->(L2.putF f v vs).length=(Ug f d fs).length
 | [],vs,l,_=>by
  cases vs with
  | nil=>rfl
  | cons _ _=>cases l
 | (g,e) :: fs,vs,l,al=>by
  obtain⟨w,hw⟩:=al 0 g e rfl;cases vs with
  | nil=>cases hw
  | cons w vs=>
   cases hw;unfold L2.putF Ug;split
   ·simpa using l
   ·rw[aj,aj,Uh (by simpa using l) (λm=>al (m+1))]
theorem Ui {f:Str}{d:Fd}{v:V}:∀{fs:List (Str×Fd)} {vs:List (Str×V)},vs.length=fs.length->(∀(m:Nat) (g:Str) (e:Fd),fs[m]? =some (g,e)->∃v,vs[m]? =some (g,v))->∀{m:Nat} {g:Str} {e:Fd},(Ug f d fs)[m]? =some (g,e)->
  (m=Qx f fs/\g=f/\e=d/\(L2.putF f v vs)[m]? =some (f,v))\/(m ≠ Qx f fs/\fs[m]? =some (g,e)/\∀v',vs[m]? =some (g,v')->(L2.putF f v vs)[m]? =some (g,v'))
 | [],vs,l,_,m,g,e,h=>by
  cases vs with
  | cons _ _=>cases l
  | nil=>
   cases m with
   | zero=>cases h;exact .inl ⟨rfl,rfl,rfl,rfl⟩
   | succ m=>cases h
 | (g0,e0) :: fs,vs,l,al,m,g,e,h=>by
  obtain⟨w,hw⟩:=al 0 g0 e0 rfl;cases vs with
  | nil=>cases hw
  | cons w vs=>
   cases hw;unfold Ug at h;unfold Qx L2.putF
   by_cases hg:g0=f
   ·rw[if_pos hg]at h ⊢;rw[if_pos hg];cases m with
    | zero=>cases h;exact .inl ⟨rfl,hg,rfl,by rw[hg];rfl⟩
    | succ m=>exact .inr ⟨i9 _,h,λv' hv=>hv⟩
   ·rw[if_neg hg]at h ⊢;rw[if_neg hg];cases m with
    | zero=>cases h;exact .inr ⟨(i9 _).symm,rfl,λv' hv=>hv⟩
    | succ m=>
     rcases Ui (by simpa using l) (λm=>al (m+1)) h with ⟨a,b,c,d⟩ | ⟨a,b,c⟩
     ·exact .inl ⟨by rw[a],b,c,d⟩
     ·exact .inr ⟨λz=>a (Nat.succ.inj z),b,c⟩
theorem qd {f:Str}{v:V}{vs:List (Str×V)}(hf:f∈K8)(h:InC vs):InC (L2.putF f v vs):=λg hg=>by
 rw[L2.lookup_putF,if_neg λz=>hg (by rw[z];exact hf)];exact h g hg
section
variable {X:Cx}{Y:Fx}{B:Hp}{ρ:En}{σ:Sg}{H:Hp}
noncomputable def FdN (B H H1:Hp)(v:V):Fd->Prop
 | .tv t=>H1=H/\Rep B v t
 | .tl ts=>∃p xs,v= .ref p/\H p=none/\H1=upd H p (.lst xs)/\zI B xs ts
theorem SI.putF (I:SI Y B ρ σ H){k i j n:Nat}{fs:List (Str×Fd)}{os:List Ob}{f:Str}{d:Fd}{v:V}{a C dx:Addr}{vs:List (Str×V)}{H1:Hp}(hf:f∈K8)(h:obD k i j ρ=some (n,fs,os))(ha:σ[i]? =some (some (V.ref a)))(hH:H a=some (.ins C dx vs))(hd:FdN B H H1 v d):
  SI Y B (ρ.set j (.st (os.set n (k,Ug f d fs)))) σ (upd H1 a (.ins C dx (L2.putF f v vs))):=by
 obtain⟨h1,h2,h3⟩:=wq h;obtain⟨as,O,s⟩:=I.st;obtain⟨a1,C1,dx1,vs1,e1,e2,e3,e4,e5,e6,e7,e8⟩:=s.st j os h2 n k fs h3;obtain⟨a',C',dx',vs',g1,g2,_⟩:=s.ob i k n h1;rw[e1]at g1;cases g1;rw[ha]at g2;cases g2;rw[hH]at e3;cases e3;have al:∀(m:Nat) (g:Str) (e:Fd),fs[m]? =some _->∃v,vs[m]? =some _:=λm g e he=>let ⟨v,z,_⟩:=e8 m g e he;⟨v,z⟩;have sH1:zy H H1:=by
  cases d with
  | tv t=>rw[hd.1];exact zy.refl _
  | tl ts=>obtain⟨p,xs,_,hp,e,_⟩:=hd;rw[e];exact zy.new hp _
 have keep:∀b o,H b=some o->b ≠ a->(upd H1 a (.ins C dx (L2.putF f v vs))) b=some o:=λb o hb hne=>by rw[zv hne];exact sH1 b o hb
 have nb:∀b o,B b=some o->b ≠ a:=λb o h z=>by subst z;rw[e4]at h;cases h
 have n0:∀b o,Y.H0 b=some o->b ≠ a:=λb o h z=>by subst z;rw[e5]at h;cases h
 have own:∀(j' :Nat) (ws:List T),(ρ.set j (.st (os.set n (k,Ug f d fs))))[j']? =some (Sl.ow ws)->ρ[j']? =some _:=λj' ws hw=>by
  rcases zq hw with ⟨_,z⟩ | ⟨_,z⟩
  ·cases z
  ·exact z
 have ok' :∀b,uo ρ σ b->uo _ σ b:=λb hb j' ws hw=>hb j' ws (own j' ws hw);have lst_ne:∀{b:Addr} {xs:List V},H b=some (.lst xs)->b ≠ a:=λhb z=>by subst z;rw[hH]at hb;cases hb
 obtain⟨O',hO1,hO2⟩:∃O' :Addr->Option _,(∀b o,H b=some o->O' b=O b)/\∀b,v= .ref b->H b=none->O' b=some _:=by
  classical
  refine⟨λb=>if v= .ref b/\H b=none then some (n,Qx f fs+1) else O b, ?_, ?_⟩
  ·intro b o hb;exact if_neg λz=>by rw[hb]at z;cases z.2
  ·intro b z1 z2;exact if_pos ⟨z1,z2⟩
 refine⟨I.s0,λb o h=>keep b o (I.sH b o h) (n0 b o h),λb o h=>keep b o (I.sB b o h) (nb b o h),I.old,by rw[aI];exact I.len,λj' u h=> ?_,λj' ws h=> ?_,λj' c h=> ?_,as,O',s.pre,λi' os' h=> ?_,λi1 i2 os1 os2 q1 q2=> ?_,λi' k' n' h=> ?_,λi' k' fs0 h=> ?_,λi' os' h n' k' fs' e=> ?_⟩
 ·rcases zq h with ⟨_,z⟩ | ⟨_,z⟩
  ·cases z
  ·exact I.vl j' u z
 ·have z:=own j' ws h;obtain⟨b,xs',y1,y2,y3,y4,y5,y6⟩:=I.ow j' ws z;exact⟨b,xs',y1,y2,y3,keep b _ y4 (lst_ne y4),y5,λj2 vs2 hj hw=>y6 j2 vs2 hj (own j2 vs2 hw)⟩
 ·rcases zq h with ⟨_,z⟩ | ⟨_,z⟩
  ·cases z
  ·exact I.xc j' c z
 ·rcases zq h with ⟨_,z⟩ | ⟨_,z⟩
  ·cases z;rw[aI];exact s.len j os h2
  ·exact s.len _ _ z
 ·have one:∀i1 os1,(ρ.set j (.st (os.set n (k,Ug f d fs))))[i1]? =some _->i1=j:=λi1 os1 q1=>by
   rcases zq q1 with ⟨e,_⟩ | ⟨_,z⟩
   ·exact e
   ·exact s.one i1 j os1 os z h2
  rw[one i1 os1 q1,one i2 os2 q2]
 ·rcases zq h with ⟨_,z⟩ | ⟨_,z⟩
  ·cases z
  ·obtain⟨b,C2,dx2,vs2,y1,y2,y3,y4,y5,y6⟩:=s.ob i' k' n' z
   by_cases hb:b=a
   ·subst hb;rw[hH]at y4;cases y4;exact⟨b,C,dx,_,y1,y2,y3,zC,y5,y6.1,qd hf y6.2⟩
   ·exact⟨b,C2,dx2,vs2,y1,y2,y3,keep b _ y4 hb,y5,y6⟩
 ·rcases zq h with ⟨_,z⟩ | ⟨_,z⟩
  ·cases z
  ·exact s.oc i' k' _ z
 ·rcases zq h with ⟨rfl,z⟩ | ⟨hne,z⟩
  ·cases z;have old:∀{n' m' :Nat} {v' :V} {d' :Fd},FdR Y B ρ σ H (λl=>O l=some (n',m' +1)) v' d' ->FdR Y B _ σ _ (λl=>O' l=some _) v' d' :=λ{n' m' v' d'} y2=>by
    cases d' with
    | tv t=>exact y2
    | tl ws=>
     obtain⟨l2,xs2,w1,w2,w3,w4,w5,w6,w7⟩:=y2;exact⟨l2,xs2,w1,w2,w3,keep l2 _ w4 (lst_ne w4),w5,ok' l2 w6,by show O' l2=_;rw[hO1 l2 _ w4];exact w7⟩
   rcases zq e with ⟨rfl,z⟩ | ⟨hn,z⟩
   ·cases z;refine⟨a,C,dx,_,e1,e2,zC,e4,e5,by rw[hO1 a _ hH];exact e6,⟨Uh e7.1 al,qd hf e7.2⟩,λm' f' d' z=> ?_⟩
    rcases Ui e7.1 al z with ⟨q1,q2,q3,q4⟩ | ⟨q1,q2,q3⟩
    ·subst q2 q3;refine⟨v,q4, ?_⟩;cases d' with
     | tv t=>exact hd.2
     | tl ts=>
      obtain⟨p,xs,w1,w2,w3,w4⟩:=hd;have hpa:p ≠ a:=λz=>by rw[z,hH]at w2;cases w2
      refine⟨p,xs,w1,I.sB.free w2,I.sH.free w2,by rw[zv hpa,w3];exact zC,w4,λj' ws hw=> ?_,by show O' p=_;rw[hO2 p w1 w2,q1]⟩
      obtain⟨b,xs',y1,y2,y3,y4,_⟩:=I.ow j' ws (own j' ws hw);rw[y1];intro z;injection z with z;injection z with z;injection z with z;rw[z,w2]at y4;cases y4
    ·obtain⟨v',y1,y2⟩:=e8 m' f' d' q2;exact⟨v',q3 v' y1,old y2⟩
   ·obtain⟨b,C2,dx2,vs2,y1,y2,y3,y4,y5,y6,y7,y8⟩:=s.st i' os h2 n' k' fs' z;have hne:b ≠ a:=λw=>by
     subst w;rw[e6]at y6;injection y6 with y6;injection y6 with y6 _;exact hn y6.symm
    refine⟨b,C2,dx2,vs2,y1,y2,keep b _ y3 hne,y4,y5,by rw[hO1 b _ y3];exact y6,y7,λm' f' d' z=> ?_⟩
    obtain⟨v',x1,x2⟩:=y8 m' f' d' z;exact⟨v',x1,old x2⟩
  ·exact absurd (s.one i' j os' os z h2) hne
end
theorem Uj {f:Str}{d:Fd}:∀{fs:List (Str×Fd)},fs.lookup f=some d->fs[Qx f fs]? =some (f,d)/\∀d',Ug f d' fs=fs.set (Qx f fs) (f,d')
 | [],h=>by simp at h
 | (g,e) :: fs,h=>by
  rw[aA]at h;unfold Qx Ug
  by_cases hx:g=f
  ·subst hx;rw[beq_self_eq_true]at h;cases h;rw[if_pos rfl];exact⟨rfl,λd' =>by rw[if_pos rfl];rfl⟩
  ·rw[beq_eq_false_iff_ne.mpr (aU hx)]at h;obtain⟨a,b⟩:=Uj h;rw[if_neg hx];exact⟨a,λd' =>by rw[if_neg hx,b];rfl⟩
theorem Vw {f:Str}{v:V}:∀{fs:List (Str×Fd)} {vs:List (Str×V)},(∀(m:Nat) (g:Str) (e:Fd),fs[m]? =some (g,e)->∃v,vs[m]? =some (g,v))->(∃d,fs.lookup f=some d)->vs.lookup f=some v->vs[Qx f fs]? =some (f,v)
 | [],_,_,h,_=>by simp at h
 | (g,e) :: fs,vs,al,h,hv=>by
  obtain⟨w,hw⟩:=al 0 g e rfl;cases vs with
  | nil=>cases hw
  | cons w vs=>
   cases hw;rw[aA]at hv;obtain⟨d,h⟩:=h;rw[aA]at h;unfold Qx
   by_cases hx:g=f
   ·subst hx;rw[beq_self_eq_true]at hv;cases hv;rw[if_pos rfl];rfl
   ·rw[beq_eq_false_iff_ne.mpr (aU hx)]at hv h;rw[if_neg hx];exact Vw (λm=>al (m+1)) ⟨d,h⟩ hv
section
variable {X:Cx}{Y:Fx}{B:Hp}{ρ:En}{σ:Sg}{H:Hp}{a:Expr}{fa:En->R T}{p p' pos:Pos}
theorem SI.obA (I:SI Y B ρ σ H){k i j n:Nat}{fs:List (Str×Fd)}{os:List Ob}(h:obD k i j ρ=some (n,fs,os)):∃a C dx vs,σ[i]? =some (some (V.ref a))/\Y.cl k= .ref C/\H a=some (.ins C dx vs)/\vs.length=fs.length/\∀(m:Nat) (g:Str) (e:Fd),fs[m]? =some (g,e)->∃v,vs[m]? =some (g,v):=by
 obtain⟨h1,h2,h3⟩:=wq h;obtain⟨as,O,s⟩:=I.st;obtain⟨a,C,dx,vs,e1,e2,e3,e4,e5,e6,e7,e8⟩:=s.st j os h2 n k fs h3;obtain⟨a',C',dx',vs',g1,g2,_⟩:=s.ob i k n h1;rw[e1]at g1;cases g1;exact⟨a,C,dx,vs,g2,e2,e3,e7.1,λm g e he=>let ⟨v,z,_⟩:=e8 m g e he;⟨v,z⟩⟩
noncomputable def stF (k i j:Nat)(f:Str)(fa:En->R T):En->RS:=λρ=>(fa ρ).s λt=>match obD k i j ρ with
 | some (n,fs,os)=>if fs.length < 1000 then .nx (ρ.set j (.st (os.set n (k,Ug f (.tv t) fs)))) else .bad
 | none=> .bad
theorem z1U {k i j:Nat}{x f:Str}{px:Pos}{C:Addr}(hv:PE X (.Name x px) (wE i))(hc:Y.cl k= .ref C)(c:L2.Cls X.K C)(n:L2.NoAttr X.K C f)(ha:Snd X Y a fa)(hs:swapsWith a (some (.Attribute (.Name x px) f p')) pos.line X.env=pure false:=by rfl)(hf:f∈K8:=by decide):jO X Y (.Assign [.Attribute (.Name x px) f p'] a pos) (stF k i j f fa):= .mk λρ=>
 PS.imp (Vc hv (ha ρ) hs) λD σ H ⟨B,I,q⟩=>jr I q λt v H1 _ s1 r1 I1 q1=>by
  split at q1
  ·rename_i n' fs os e;split at q1
   ·rename_i hl;obtain⟨a,C',dx,vs,e1,e2,e3,e4,e5⟩:=I1.obA e;rw[hc]at e2;cases e2;exact⟨.ref a,e1,a,C,dx,vs,rfl,e3,c,n,by rw[e4];exact hl,q1 _ _ _ (zy.refl _) (I1.putF hf e e1 e3 ⟨rfl,r1⟩)⟩
   ·exact q1.elim
  ·exact q1.elim
noncomputable def Qy (k i j:Nat)(f:Str)(ga:En->R (List T)):En->RS:=λρ=>(ga ρ).s λts=>match obD k i j ρ with
 | some (n,fs,os)=>if fs.length < 1000/\ts.length<=bnd then .nx (ρ.set j (.st (os.set n (k,Ug f (.tl ts) fs)))) else .bad
 | none=> .bad
theorem gC {k i j:Nat}{x f:Str}{px:Pos}{C:Addr}{es:List Expr}{ga:En->R (List T)}(hv:PE X (.Name x px) (wE i))(hc:Y.cl k= .ref C)(c:L2.Cls X.K C)(n:L2.NoAttr X.K C f)(ha:We X Y es ga)(hs:swapsWith (.List es p) (some (.Attribute (.Name x px) f p')) pos.line X.env=pure false:=by rfl)(hf:f∈K8:=by decide):jO X Y (.Assign [.Attribute (.Name x px) f p'] (.List es p) pos) (Qy k i j f ga):= .mk λρ=>
 PS.imp (Vc hv (Y5 (ha ρ)) hs) λD σ H ⟨B,I,q⟩=>jr I q λts vs H1 _ s1 r1 I1 q1=>by
  split at q1
  ·rename_i n' fs os e;split at q1
   ·rename_i hl;obtain⟨a,C',dx,vs',e1,e2,e3,e4,e5⟩:=I1.obA e;rw[hc]at e2;cases e2;refine⟨by rw[r1.length];exact ZF hl.2,λq hq=> ?_⟩
    have hne:a ≠ q:=λz=>by rw[z,hq]at e3;cases e3
    exact⟨.ref a,e1,a,C,dx,vs',rfl,by rw[zv hne];exact e3,c,n,by rw[e4];exact hl.1,q1 _ _ _ (zy.refl _) (I1.putF hf e e1 e3 ⟨q,vs,rfl,hq,rfl,r1⟩)⟩
   ·exact q1.elim
  ·exact q1.elim
noncomputable def kh (k i j:Nat)(f:Str)(fa:En->R T):En->RS:=λρ=>match obD k i j ρ with
 | some (n,fs,os)=>match fs.lookup f with
  | some (.tl ts)=>(fa ρ).s λt=>if ts.length < bnd then .nx (ρ.set j (.st (os.set n (k,Ug f (.tl (ts++[t])) fs)))) else .bad
  | _=> .bad
 | none=> .bad
theorem gD {k i j:Nat}{x f:Str}{px pf pa:Pos}{C:Addr}(hv:PE X (.Name x px) (wE i))(hc:Y.cl k= .ref C)(c:L2.Cls X.K C)(n:L2.NoAttr X.K C f)(ha:Snd X Y a fa)(hbf:attributeBase (.Name x px) f X.env (eval (.Name x px) X.env)=eval (.Name x px) X.env:=by rfl)
  (hb:attributeBase (.Attribute (.Name x px) f pf) "append" X.env (eval (.Attribute (.Name x px) f pf) X.env)=eval (.Attribute (.Name x px) f pf) X.env:=by rfl) (hs:St1 X a:=by exact st1 rfl)
  (hz:(pa.endLine == p.line)=true:=by rfl) (hw:swapsWith (.Call (.Attribute (.Attribute (.Name x px) f pf) "append" pa) [a] [] p) none pos.line X.env=pure false:=by rfl):jO X Y (.Expr (.Call (.Attribute (.Attribute (.Name x px) f pf) "append" pa) [a] [] p) pos) (kh k i j f fa):= .mk λρ=>by
 have e1:(((((backTo p (starEach [a] X.env)).all λx=> !x.fst) && (backToKw p (keywordEach [] X.env)).all λx=>x.fst.isSome) && decide (([a].length+([]:List Keyword).length+if ([]:List Keyword).isEmpty=true then 0 else 1) < 30))=true):=by rw[hs];rfl
 refine PS.imp (Jx (QV cS dP dQ JB (uX hv hbf) (zH (ha ρ) Z5 hs) hb e1 hz hs rfl) hw) λD σ H ⟨B,I,q⟩=> ?_;unfold kh at q;split at q
 ·rename_i n' fs os e;split at q
  ·rename_i ts el;obtain⟨a',C',dx,vs,v,m,as,O,s,g1,g2,g3,g4,g5,g6,l,xs,p1,b0,h0,hh,rr,_⟩:=I.look e el;rw[hc]at g2;cases g2;subst p1;obtain⟨_,_,_,vs2,y1,_,y3,_,al⟩:=I.obA e;rw[g1]at y1;cases y1;rw[g3]at y3;cases y3;have hi:=Vw al ⟨_,el⟩ g4;obtain⟨j1,j2⟩:=Uj el;refine⟨.ref a',g1,a',C,dx,vs,_,rfl,g3,c,n,g4,.inl ⟨rfl,_,SqL.of hh⟩, ?_⟩;refine jr I q λt w H1 _ s1 r1 I1 q1=> ?_;split at q1
   ·rename_i hb;refine⟨l,xs,w,rfl,rfl,s1 _ _ hh,by rw[rr.length];exact Vh hb, ?_⟩
    have:=I1.chgF e j1 g1 (s1 _ _ g3) hi ((rr.mono (zS.ge I.sB s1)).append (.cons r1 .nil));rw[← j2]at this;exact q1 _ _ _ (zy.refl _) this
   ·exact q1.elim
  ·exact q.elim
 ·exact q.elim
end
theorem PoM.up {Y:Fx}{B B' :Hp}{r:R (T×En)}{σ:Sg}{Q:VK}(s:zy B B')(h:PoM Y B r σ Q):PoM Y B' r σ Q:=by
 unfold PoM at h ⊢;split
 ·exact λv H' B2 a=>h v H' B2 (s.trans a)
 ·exact XP.up s h
 ·exact h
theorem Xg {α β:Type}{Y:Fx}{rel:Hp->Hp->β->α->Prop}{f:En->R α}{k:α->R (T×En)}{ρ:En}{B:Hp}{σ:Sg}{H:Hp}{Q:VK}{K:β->Hp->Prop}(I:SI Y B ρ σ H)(h:PoM Y B ((f ρ).bind k) σ Q)
  (n:∀a b H1,f ρ= .ok a->zy H H1->rel (zS B H H1) H1 b a->SI Y (zS B H H1) ρ σ H1->PoM Y (zS B H H1) (k a) σ Q->K b H1):tS Y rel f ρ σ H K:=by
 refine⟨B,I, ?_⟩;cases e:f ρ with
 | bad=>rw[e]at h;exact h
 | ex c=>rw[e]at h;exact h
 | ok a=>
  rw[e]at h;exact λb H1 s r=>n a b H1 e s r (I.grow s) (PoM.up (zS.ge I.sB s) h)
section
variable {Y:Fx}{B:Hp}{ρ:En}{σ:Sg}{H:Hp}
theorem SI.back (I:SI Y B ρ σ H){k i j n:Nat}{fs:List (Str×Fd)}{os:List Ob}(h:obD k i j ρ=some (n,fs,os)){a:Addr}(ha:σ[i]? =some (some (V.ref a))):
  ∃H0,zy B H0/\zy H0 H/\Xf Y.cl k B H0 H a fs/\zy Y.H0 H0/\∀(H' B' :Hp) (fs' :List (Str×Fd)),zy H0 H' ->zy B B' ->zy B' H' ->(∀b o,H0 b=some o->B' b=B b)->Xf Y.cl k B' H0 H' a fs' ->SI Y B' (ρ.set j (.st (os.set n (k,fs')))) σ H' :=by
 classical
 obtain⟨h1,h2,h3⟩:=wq h;obtain⟨as,O,s⟩:=I.st;obtain⟨a1,C,dx,vs,e1,e2,e3,e4,e5,e6,e7,e8⟩:=s.st j os h2 n k fs h3;obtain⟨a',C',dx',vs',g1,g2,_⟩:=s.ob i k n h1;rw[e1]at g1;cases g1;rw[ha]at g2;cases g2
 let P:Addr->Prop:=λb=>b=a\/∃(m:Nat) (f:Str) (ts:List T),fs[m]? =some (f,.tl ts)/\vs[m]? =some (f,V.ref b)
 have lP:∀b,P b->b ≠ a->∃m xs,H b=some (.lst xs)/\B b=none/\Y.H0 b=none/\uo ρ σ b/\O b=some (n,m+1):=λb hb hne=>by
  rcases hb with z | ⟨m,f,ts,z1,z2⟩
  ·exact absurd z hne
  ·obtain⟨v,y1,l,xs,p1,p2,p3,p4,p5,p6,p7⟩:=e8 m f _ z1;rw[z2]at y1;cases y1;cases p1;exact⟨m,xs,p4,p2,p3,p6,p7⟩
 have nB:∀b o,B b=some o->¬ P b:=λb o hb hp=>by
  by_cases z:b=a
  ·rw[z,e4]at hb;cases hb
  ·obtain⟨_,_,_,q,_⟩:=lP b hp z;rw[q]at hb;cases hb
 have n0:∀b o,Y.H0 b=some o->¬ P b:=λb o hb hp=>by
  by_cases z:b=a
  ·rw[z,e5]at hb;cases hb
  ·obtain⟨_,_,_,_,q,_⟩:=lP b hp z;rw[q]at hb;cases hb
 let H0:Hp:=λb=>if P b then none else H b
 have H0n:∀{b o},H b=some o->¬ P b->H0 b=some o:=λ{b o} hb hp=>by show (if P b then none else H b)=_;rw[if_neg hp];exact hb
 have H0p:∀{b},P b->H0 b=none:=λ{b} hp=>if_pos hp;refine⟨H0,λb o hb=>H0n (I.sB b o hb) (nB b o hb),λb o hb=> ?_,⟨C,dx,vs,λb=>(O b).map Prod.snd,e2,e3,e4,H0p (.inl rfl),by show iF _ (O a)=_;rw[e6];rfl,e7,λm f d z=> ?_⟩,λb o hb=>H0n (I.sH b o hb) (n0 b o hb),λH' B' fs' s1 s2 s3 old ob' => ?_⟩
 ·have hb:(if P b then none else H b)=some o:=hb
  split at hb
  ·cases hb
  ·exact hb
 ·obtain⟨v,y1,y2⟩:=e8 m f d z;refine⟨v,y1, ?_⟩;cases d with
  | tv t=>exact y2
  | tl ts=>
   obtain⟨l,xs,p1,p2,p3,p4,p5,p6,p7⟩:=y2;subst p1;exact⟨l,xs,rfl,p2,H0p (.inr ⟨m,f,ts,z,y1⟩),p4,p5,by show iF _ (O l)=_;rw[p7];rfl⟩
 ·obtain⟨C',dx',us,O',c1,c2,c3,c4,c5,c6,c7⟩:=ob';rw[e2]at c1;cases c1;have keep:∀{b o},H b=some o->¬ P b->H' b=some o/\B' b=B b/\H0 b ≠ none:=λ{b o} hb hp=>⟨s1 _ _ (H0n hb hp),old b o (H0n hb hp),by rw[H0n hb hp];exact fw _⟩
  have own:∀(j' :Nat) (ws:List T),(ρ.set j (.st (os.set n (k,fs'))))[j']? =some (Sl.ow ws)->ρ[j']? =some (Sl.ow ws):=λj' ws hw=>by
   rcases zq hw with ⟨_,z⟩ | ⟨_,z⟩
   ·cases z
   ·exact z
  have ok' :∀b,uo ρ σ b->uo (ρ.set j _) σ b:=λb hb j' ws hw=>hb j' ws (own j' ws hw);have owP:∀{j' ws b xs},ρ[j']? =some (Sl.ow ws)->σ[j']? =some (some (V.ref b))->H b=some (.lst xs)->¬ P b:=λ{j' ws b xs} w1 w2 w3 hp=>by
   by_cases z:b=a
   ·rw[z,e3]at w3;cases w3
   ·obtain⟨_,_,_,_,_,q,_⟩:=lP b hp z;exact q j' ws w1 w2
  obtain⟨O2,hO1,hO2⟩:∃O2:Addr->Option (Nat×Nat),(∀b,H0 b ≠ none->O2 b=O b)/\∀b m,H0 b=none->O' b=some m->O2 b=some (n,m):=by
   refine⟨λb=>if H0 b=none then (O' b).map λm=>(n,m) else O b, ?_, ?_⟩
   ·intro b hb;exact if_neg hb
   ·intro b m z1 z2;show (if H0 b=none then (O' b).map λm=>(n,m) else O b)=_
    rw[if_pos z1,z2];rfl
  refine⟨I.s0,λb o hb=>(keep (I.sH b o hb) (n0 b o hb)).1,s3,λb o hb=> ?_,by rw[aI];exact I.len,λj' u h=> ?_,λj' ws h=> ?_,λj' c h=> ?_,as,O2,s.pre,λi' os' h=> ?_,λi1 i2 os1 os2 q1 q2=> ?_,λi' k' n' h=> ?_,λi' k' fs0 h=> ?_,λi' os' h n' k' fs2 e=> ?_⟩
  ·rw[(keep (I.sH b o hb) (n0 b o hb)).2.1];exact I.old b o hb
  ·rcases zq h with ⟨_,z⟩ | ⟨_,z⟩
   ·cases z
   ·obtain⟨v,y1,y2⟩:=I.vl j' u z;exact⟨v,y1,y2.mono s2⟩
  ·have z:=own j' ws h;obtain⟨b,xs',y1,y2,y3,y4,y5,y6⟩:=I.ow j' ws z;obtain⟨w1,w2,_⟩:=keep y4 (owP z y1 y4);exact⟨b,xs',y1,by rw[w2];exact y2,y3,w1,y5.mono s2,λj2 vs2 hj hw=>y6 j2 vs2 hj (own j2 vs2 hw)⟩
  ·rcases zq h with ⟨_,z⟩ | ⟨_,z⟩
   ·cases z
   ·obtain⟨b,y1,y2⟩:=I.xc j' c z;exact⟨b,y1,s2 _ _ y2⟩
  ·rcases zq h with ⟨_,z⟩ | ⟨_,z⟩
   ·cases z;rw[aI];exact s.len j os h2
   ·exact s.len _ _ z
  ·have one:∀i1 os1,(ρ.set j (.st (os.set n (k,fs'))))[i1]? =some _->i1=j:=λi1 os1 q1=>by
    rcases zq q1 with ⟨e,_⟩ | ⟨_,z⟩
    ·exact e
    ·exact s.one i1 j os1 os z h2
   rw[one i1 os1 q1,one i2 os2 q2]
  ·rcases zq h with ⟨_,z⟩ | ⟨_,z⟩
   ·cases z
   ·obtain⟨b,C2,dx2,vs2,y1,y2,y3,y4,y5,y6⟩:=s.ob i' k' n' z
    by_cases hb:b=a
    ·subst hb;rw[e3]at y4;cases y4;exact⟨b,_,dx',us,y1,y2,y3,c2,c3,y6.1,c6.2⟩
    ·have hp:¬ P b:=λhp=>by obtain⟨_,_,q,_⟩:=lP b hp hb;rw[q]at y4;cases y4
     obtain⟨w1,w2,_⟩:=keep y4 hp;exact⟨b,C2,dx2,vs2,y1,y2,y3,w1,by rw[w2];exact y5,y6⟩
  ·rcases zq h with ⟨_,z⟩ | ⟨_,z⟩
   ·cases z
   ·obtain⟨b,C2,dx2,vs2,y1,y2,y3,y4,y5⟩:=s.oc i' k' _ z;exact⟨b,C2,dx2,vs2,y1,y2,y3,y4,y5.mono s2 (zy.refl _)⟩
  ·rcases zq h with ⟨rfl,z⟩ | ⟨hne,z⟩
   ·cases z;rcases zq e with ⟨rfl,z⟩ | ⟨hn,z⟩
    ·cases z;refine⟨a,_,dx',us,e1,e2,c2,c3,e5,hO2 a 0 c4 c5,c6,λm f d z=> ?_⟩;obtain⟨v,y1,y2⟩:=c7 m f d z;refine⟨v,y1, ?_⟩;cases d with
     | tv t=>exact y2
     | tl ts=>
      obtain⟨l,xs,p1,p2,p3,p4,p5,p6⟩:=y2;refine⟨l,xs,p1,p2, ?_,p4,p5,λj' ws hw=> ?_,hO2 l _ p3 p6⟩
      ·cases q:Y.H0 l with
       | none=>rfl
       | some o=>rw[H0n (I.sH l o q) (n0 l o q)]at p3;cases p3
      ·have w:=own j' ws hw;obtain⟨b,xs',q1,q2,q3,q4,_⟩:=I.ow j' ws w;rw[q1];intro z;injection z with z;injection z with z;injection z with z;exact(keep q4 (owP w q1 q4)).2.2 (by rw[z];exact p3)
    ·obtain⟨b,C2,dx2,vs2,y1,y2,y3,y4,y5,y6,y7,y8⟩:=s.st i' os h2 n' k' fs2 z;have hb:b ≠ a:=λw=>by
      rw[w,e6]at y6;injection y6 with y6;injection y6 with y6 _;exact hn y6.symm
     have hp:¬ P b:=λhp=>by obtain⟨_,_,q,_⟩:=lP b hp hb;rw[q]at y3;cases y3
     obtain⟨w1,w2,w3⟩:=keep y3 hp;refine⟨b,C2,dx2,vs2,y1,y2,w1,by rw[w2];exact y4,y5,by rw[hO1 b w3];exact y6,y7,λm' f' d' z=> ?_⟩
     obtain⟨v',x1,x2⟩:=y8 m' f' d' z;refine⟨v',x1, ?_⟩;cases d' with
     | tv t=>exact Rep.mono s2 x2
     | tl ws=>
      obtain⟨l2,xs2,q1,q2,q3,q4,q5,q6,q7⟩:=x2;have hp:¬ P l2:=λhp=>by
       by_cases z:l2=a
       ·rw[z,e3]at q4;cases q4
       ·obtain⟨m2,_,_,_,_,_,q⟩:=lP l2 hp z;rw[q]at q7;injection q7 with q7;injection q7 with q7 _;exact hn q7.symm
      obtain⟨w1,w2,w3⟩:=keep q4 hp;exact⟨l2,xs2,q1,by rw[w2];exact q2,q3,w1,q5.mono s2,ok' l2 q6,by show O2 l2=_;rw[hO1 l2 w3];exact q7⟩
   ·exact absurd (s.one i' j os' os z h2) hne
end
noncomputable def j4 (k i j:Nat)(m:Str)(nn:Nat)(g:List (Str×Fd)->List T->R (T×List (Str×Fd)))(ga:En->R (List T)):En->R (T×En):=λρ=>match obD k i j ρ with
 | some (n,fs,os)=>if (fs.lookup m).isNone=true then (ga ρ).bind λts=>if ts.length=nn then (g fs ts).bind λp=> .ok (p.1,ρ.set j (.st (os.set n (k,p.2)))) else .bad else .bad
 | none=> .bad
section
variable {X:Cx}{Y:Fx}{a e:Expr}{cl:Nat->Value}{k i j kk kj nn:Nat}{x m:Str}{px ap pos p' :Pos}{C f:Addr}{fd:FuncData}{ps:List Str}{es:List Expr}{ga:En->R (List T)}{pl:Sem Bool}
theorem gE {g:List (Str×Fd)->List T->R (T×List (Str×Fd))}(hv:PE X (.Name x px) (wE i))(hy:Y.cl=cl)(hc:cl k= .ref C)(c:L2.Cls X.K C)(hm:L2.Meth X.K C m f)(F:jw X.prog X.w X.K X.mg X.base (CX1 X.prog X.w) kj f fd ps (spM cl k nn g))(hr:j3 kk X.A)(hj:kj<=kk)(bd:L2.Binds X.K fd ps [])(hp:Zu (CX1 X.prog X.w) X Y.E)(ha:We X Y (a :: es) ga)
  (hst:starEach (a :: es) X.env=(false,eval a X.env) :: starEach es X.env:=by exact zX rfl) (hpl:((backTo pos (starEach es X.env)).any λx=>x.fst)=false:=by exact ZB rfl)
  (ht:eval (.Call (.Attribute (.Name x px) m ap) (a :: es) [] pos) X.env=(do
   let ov ← eval (.Name x px) X.env
   standAt ap.atName
   let (f,first) ← holding [ov] (getMethod ov m pl)
   callWith pos f first (backTo pos (starEach (a :: es) X.env)) (backToKw pos (keywordEach [] X.env))):=by rfl):
  JK X Y (.Call (.Attribute (.Name x px) m ap) (a :: es) [] pos) (j4 k i j m nn g ga):= .mk λρ=>PE.imp (x8 hv c hm F (hr.mono hj) bd .nil hp (ha ρ) hst hpl ht) λσ H Q ⟨B,I,q⟩=>by
 unfold j4 at q;split at q
 ·rename_i n fs os e;split at q
  ·rename_i hl;obtain⟨a',C',dx,vs,e1,e2,e3,e4,al⟩:=I.obA e;subst hy;rw[hc]at e2;cases e2;have hno:=uD e4 al (by simpa using hl)
   refine⟨.ref a',e1,a',dx,vs,rfl,e3,hno, ?_⟩;refine Xg I q λts us H1 _ s1 r1 I1 q1=> ?_;split at q1
   ·rename_i hn;rw[aY];obtain⟨H0,b1,b2,b3,b4,b5⟩:=I1.back e e1;refine⟨a',us,ts,_,H0,fs,rfl,hn,b1,b2,b3,r1, ?_⟩;revert q1;cases g fs ts with
    | bad=>exact λq1=>q1
    | ex c2=>exact λq1 d H' z1 z2=>q1 d H' (b4.trans z1) z2
    | ok p=>
     obtain⟨t,fs2⟩:=p;exact λq1 v H' B' z1 z2 z3 z4 z5 z6=>q1 v H' B' z2 (b5 H' B' fs2 z1 z2 z3 z4 z5) z6
   ·exact q1.elim
  ·exact q.elim
 ·exact q.elim
theorem Xh {g:List (Str×Fd)->List T->R (T×List (Str×Fd))}(hv:PE X (.Name x px) (wE i))(hy:Y.cl=cl)(hc:cl k= .ref C)(c:L2.Cls X.K C)(hm:L2.Meth X.K C m f)(F:jw X.prog X.w X.K X.mg X.base (CX1 X.prog X.w) kj f fd ps (spM cl k 0 g))(hr:j3 kk X.A)(hj:kj<=kk)(bd:L2.Binds X.K fd ps [])(hp:Zu (CX1 X.prog X.w) X Y.E)
  (ht:eval (.Call (.Attribute (.Name x px) m ap) [] [] pos) X.env=(do
   let ov ← eval (.Name x px) X.env
   standAt ap.atName
   let (f,first) ← holding [ov] (getMethod ov m pl)
   callWith pos f first (backTo pos (starEach [] X.env)) (backToKw pos (keywordEach [] X.env))):=by rfl):
  JK X Y (.Call (.Attribute (.Name x px) m ap) [] [] pos) (j4 k i j m 0 g zj):= .mk λρ=>PE.imp (QR hv c hm F (hr.mono hj) bd .nil hp ht) λσ H Q ⟨B,I,q⟩=>by
 unfold j4 at q;split at q
 ·rename_i n fs os e;split at q
  ·rename_i hl;obtain⟨a',C',dx,vs,e1,e2,e3,e4,al⟩:=I.obA e;subst hy;rw[hc]at e2;cases e2;have hno:=uD e4 al (by simpa using hl)
   refine⟨.ref a',e1,a',dx,vs,rfl,e3,hno, ?_⟩;have q1:PoM Y B ((g fs []).bind λp=> .ok _) σ Q:=q;obtain⟨H0,b1,b2,b3,b4,b5⟩:=I.back e e1;refine⟨a',[],[],_,H0,fs,rfl,rfl,b1,b2,b3,.nil, ?_⟩;revert q1;cases g fs [] with
   | bad=>exact λq1=>q1
   | ex c2=>exact λq1 d H' z1 z2=>q1 d H' (b4.trans z1) z2
   | ok p=>
    obtain⟨t,fs2⟩:=p;exact λq1 v H' B' z1 z2 z3 z4 z5 z6=>q1 v H' B' z2 (b5 H' B' fs2 z1 z2 z3 z4 z5) z6
  ·exact q.elim
 ·exact q.elim
noncomputable def drM (f:En->R (T×En)):En->RS:=λρ=>(f ρ).s λp=> .nx p.2
theorem z1V {f:En->R (T×En)}(h:JK X Y e f)(hs:swapsWith e none pos.line X.env=pure false:=by rfl):jO X Y (.Expr e pos) (drM f):= .mk λρ=>PS.imp (Jx (h.go ρ) hs) λD σ H ⟨B,I,q⟩=>⟨B,I,by
 unfold drM at q;revert q;cases f ρ with
 | bad=>exact λq=>q
 | ex c=>exact λq=>q
 | ok p=>exact λq v H' B' s I' _=>q σ H' B' s I'⟩
noncomputable def seM (i:Nat)(f:En->R (T×En)):En->RS:=λρ=>(f ρ).s λp=> .nx (p.2.set i (.vl p.1))
theorem z1W {f:En->R (T×En)}(hN:X.N.Nodup)(hi:X.N[i]? =some x)(hx:L2.Loc X.env.scope x)(h:JK X Y e f)(hs:swapsWith e (some (.Name x p')) pos.line X.env=pure false:=by rfl)
  (hf:X.fn x=true\/X.env.scope.names.lookup x=some .local:=by first | exact .inl rfl | exact .inr rfl | assumption):jO X Y (.Assign [.Name x p'] e pos) (seM i f):= .mk λρ=>PS.imp (Wm hN hi hx (h.go ρ) hs hf) λD σ H ⟨B,I,q⟩=>⟨B,I,by
 unfold seM at q;revert q;cases f ρ with
 | bad=>exact λq=>q
 | ex c=>exact λq=>q
 | ok p=>exact λq v H' B' s I' r=>q _ H' B' s (I'.setV i r)⟩
end
section
variable {X:Cx}{Y:Fx}{b:Expr}{fb:En->R T}{p pos:Pos}
noncomputable def ixF (k i j:Nat)(f:Str)(fb:En->R T):En->R T:=λρ=>match obD k i j ρ with
 | some (_,fs,_)=>match fs.lookup f with
  | some (.tl ts)=>(fb ρ).bind λt=>match t with
   | .int q=>atT ts q
   | _=> .bad
  | _=> .bad
 | none=> .bad
theorem z1X {k i j:Nat}{x f:Str}{px:Pos}{C:Addr}(hv:PE X (.Name x px) (wE i))(hc:Y.cl k= .ref C)(c:L2.Cls X.K C)(n:L2.NoAttr X.K C f)(hb:Snd X Y b fb)(hbf:attributeBase (.Name x px) f X.env (eval (.Name x px) X.env)=eval (.Name x px) X.env:=by rfl)(hs:um b:=by exact λ_ _=>rfl):Snd X Y (.Subscript (.Attribute (.Name x px) f p) b pos) (ixF k i j f fb):= .mk λρ=>
 PE.imp (xi Vd (uX hv hbf) (hb ρ) hs) λσ H Q ⟨B,I,q⟩=>by
  unfold ixF at q;split at q
  ·rename_i n' fs os e;split at q
   ·rename_i ts el;obtain⟨a,C',dx,vs,v,m,as,O,s,e1,e2,e3,e4,e5,e6,l,xs,p1,p2,p3,hh,rr,_⟩:=I.look e el;rw[hc]at e2;cases e2;subst p1;refine⟨.ref a,e1,a,C,dx,vs,_,rfl,e3,c,n,e4,step I q λt' v' H2 _ s2 r2 I2 q2=> ?_⟩;cases r2 with
    | int j=>
     have q2:Po Y rC _ H2 (atT ts j) Q:=q2;unfold atT at q2;split at q2
     ·rename_i t e8;obtain⟨w,e9,e10⟩:=U1 (rr.mono (zS.ge I.sB s2)) e8;exact .inl ⟨_,xs,j,w,rfl,rfl,SqL.of (s2 _ _ hh),e9,po0 I2.sB q2 rfl e10⟩
     ·exact q2.elim
    | _=>exact q2.elim
   ·exact q.elim
  ·exact q.elim
end
section
variable {Y:Fx}{B:Hp}{ρ:En}{σ:Sg}{H:Hp}
theorem SI.made (I:SI Y B ρ σ H){i j k:Nat}{x:Addr}{os:List Ob}{fs:List (Str×Fd)}{B' H' H0:Hp}(h2:ρ[j]? =some (.st os))(hij:i ≠ j)(hi:i < ρ.length)(sH:zy H H0)(s1:zy H0 H')(s2:zy B B')(s3:zy B' H')(old:∀b o,H0 b=some o->B' b=B b)(ob:Xf Y.cl k B' H0 H' x fs):
  SI Y B' ((ρ.set j (.st (os++[(k,fs)]))).set i (.ob k os.length)) (σ.set i (some (V.ref x))) H' :=by
 classical
 obtain⟨as,O,s⟩:=I.st;obtain⟨C,dx,us,O',c1,c2,c3,c4,c5,c6,c7⟩:=ob;have hlen:=s.len j os h2;have keep:∀{b o},H b=some o->H' b=some o/\B' b=B b/\H0 b ≠ none:=λ{b o} hb=>⟨s1 _ _ (sH _ _ hb),old b o (sH _ _ hb),by rw[sH _ _ hb];exact fw _⟩
 have get:∀{i' :Nat} {y:Sl},((ρ.set j _).set i (.ob k os.length))[i']? =some y->(i' =i/\y= .ob k os.length)\/(i' ≠ i/\i' =j/\y= .st (os++[(k,fs)]))\/(i' ≠ i/\i' ≠ j/\ρ[i']? =some y):=λ{i' y} h=>by
  rcases zq h with ⟨a,b⟩ | ⟨a,b⟩
  ·exact .inl ⟨a,b⟩
  ·rcases zq b with ⟨c,d⟩ | ⟨c,d⟩
   ·exact .inr (.inl ⟨a,c,d⟩)
   ·exact .inr (.inr ⟨a,c,d⟩)
 have sg:∀{i' :Nat},i' ≠ i->(σ.set i (some (V.ref x)))[i']? =σ[i']? :=λ{i'} h=>ar (aU h);have own:∀{j' :Nat} {ws:List T},((ρ.set j _).set i (.ob k os.length))[j']? =some (Sl.ow ws)->j' ≠ i/\ρ[j']? =some (Sl.ow ws):=λ{j' ws} hw=>by
  rcases get hw with ⟨_,z⟩ | ⟨_,_,z⟩ | ⟨a,_,z⟩
  ·cases z
  ·cases z
  ·exact⟨a,z⟩
 have ok' :∀b,uo ρ σ b->uo _ _ b:=λb hb j' ws hw=>by
  obtain⟨h1,h2⟩:=own hw;rw[sg h1];exact hb j' ws h2
 obtain⟨O2,hO1,hO2⟩:∃O2:Addr->Option (Nat×Nat),(∀b,H0 b ≠ none->O2 b=O b)/\∀b m,H0 b=none->O' b=some m->O2 b=some (os.length,m):=by
  refine⟨λb=>if H0 b=none then (O' b).map λm=>(os.length,m) else O b, ?_, ?_⟩
  ·intro b hb;exact if_neg hb
  ·intro b m z1 z2;show (if H0 b=none then (O' b).map λm=>(os.length,m) else O b)=_
   rw[if_pos z1,z2];rfl
 have H0n:zy Y.H0 H0:=I.sH.trans sH;have asn:(as++[x])[os.length]? =some x:=by rw[aB (by omega),hlen,eU];rfl
 have aso:∀{n' :Nat} {b:Addr},as[n']? =some b->(as++[x])[n']? =some b:=λ{n' b} h=>by
  rw[aE (aw.mp h).1];exact h
 refine⟨I.s0,λb o hb=>(keep (I.sH b o hb)).1,s3,λb o hb=> ?_,by rw[aI,aI,aI];exact I.len,λj' u h=> ?_,λj' ws h=> ?_,λj' c h=> ?_,as++[x],O2,s.pre.trans (List.prefix_append _ _),λi' os' h=> ?_,λi1 i2 os1 os2 q1 q2=> ?_,λi' k' n' h=> ?_,λi' k' fs0 h=> ?_,λi' os' h n' k' fs2 e=> ?_⟩
 ·rw[(keep (I.sH b o hb)).2.1];exact I.old b o hb
 ·rcases get h with ⟨_,z⟩ | ⟨_,_,z⟩ | ⟨a,_,z⟩
  ·cases z
  ·cases z
  ·obtain⟨v,y1,y2⟩:=I.vl j' u z;exact⟨v,by rw[sg a];exact y1,y2.mono s2⟩
 ·obtain⟨a,z⟩:=own h;obtain⟨b,xs',y1,y2,y3,y4,y5,y6⟩:=I.ow j' ws z;obtain⟨w1,w2,_⟩:=keep y4;refine⟨b,xs',by rw[sg a];exact y1,by rw[w2];exact y2,y3,w1,y5.mono s2,λj2 vs2 hj hw=> ?_⟩
  obtain⟨q1,q2⟩:=own hw;rw[sg q1];exact y6 j2 vs2 hj q2
 ·rcases get h with ⟨_,z⟩ | ⟨_,_,z⟩ | ⟨a,_,z⟩
  ·cases z
  ·cases z
  ·obtain⟨b,y1,y2⟩:=I.xc j' c z;exact⟨b,by rw[sg a];exact y1,s2 _ _ y2⟩
 ·rcases get h with ⟨_,z⟩ | ⟨_,_,z⟩ | ⟨_,nj,z⟩
  ·cases z
  ·cases z;rw[av,av,hlen];rfl
  ·exact absurd (s.one i' j os' os z h2) nj
 ·have one:∀i1 os1,((ρ.set j _).set i _)[i1]? =some (Sl.st os1)->i1=j:=λi1 os1 q1=>by
   rcases get q1 with ⟨_,z⟩ | ⟨_,e,_⟩ | ⟨_,nj,z⟩
   ·cases z
   ·exact e
   ·exact s.one i1 j os1 os z h2
  rw[one i1 os1 q1,one i2 os2 q2]
 ·rcases get h with ⟨e,z⟩ | ⟨_,_,z⟩ | ⟨a,_,z⟩
  ·cases z;subst e;refine⟨x,C,dx,us,asn,aO (by rw[← I.len];exact hi),c1,c2,c3, ?_,c6.2⟩
   cases q:Y.H0 x with
   | none=>rfl
   | some o=>rw[H0n _ _ q]at c4;cases c4
  ·cases z
  ·obtain⟨b,C2,dx2,vs2,y1,y2,y3,y4,y5,y6⟩:=s.ob i' k' n' z;obtain⟨w1,w2,_⟩:=keep y4;exact⟨b,C2,dx2,vs2,aso y1,by rw[sg a];exact y2,y3,w1,by rw[w2];exact y5,y6⟩
 ·rcases get h with ⟨_,z⟩ | ⟨_,_,z⟩ | ⟨a,_,z⟩
  ·cases z
  ·cases z
  ·obtain⟨b,C2,dx2,vs2,y1,y2,y3,y4,y5⟩:=s.oc i' k' _ z;exact⟨b,C2,dx2,vs2,by rw[sg a];exact y1,y2,y3,y4,y5.mono s2 (zy.refl _)⟩
 ·rcases get h with ⟨_,z⟩ | ⟨_,ej,z⟩ | ⟨_,nj,z⟩
  ·cases z
  ·cases z
   by_cases hn:n' < os.length
   ·rw[aE hn]at e;obtain⟨b,C2,dx2,vs2,y1,y2,y3,y4,y5,y6,y7,y8⟩:=s.st j os h2 n' k' fs2 e;obtain⟨w1,w2,w3⟩:=keep y3;refine⟨b,C2,dx2,vs2,aso y1,y2,w1,by rw[w2];exact y4,y5,by rw[hO1 b w3];exact y6,y7,λm' f' d' z=> ?_⟩
    obtain⟨v',x1,x2⟩:=y8 m' f' d' z;refine⟨v',x1, ?_⟩;cases d' with
    | tv t=>exact Rep.mono s2 x2
    | tl ws=>
     obtain⟨l2,xs2,q1,q2,q3,q4,q5,q6,q7⟩:=x2;obtain⟨w1,w2,w3⟩:=keep q4;exact⟨l2,xs2,q1,by rw[w2];exact q2,q3,w1,q5.mono s2,ok' l2 q6,by show O2 l2=_;rw[hO1 l2 w3];exact q7⟩
   ·rw[aB (Nat.not_lt.mp hn)]at e;have hn' :n' =os.length:=by
     cases q:n' - os.length with
     | zero=>omega
     | succ r=>rw[q]at e;cases e
    subst hn';rw[eU]at e;cases e;have h0x:Y.H0 x=none:=by
     cases q:Y.H0 x with
     | none=>rfl
     | some o=>rw[H0n _ _ q]at c4;cases c4
    refine⟨x,C,dx,us,asn,c1,c2,c3,h0x,hO2 x 0 c4 c5,c6,λm f d z=> ?_⟩;obtain⟨v,y1,y2⟩:=c7 m f d z;refine⟨v,y1, ?_⟩;cases d with
    | tv t=>exact y2
    | tl ts=>
     obtain⟨l,xs,p1,p2,p3,p4,p5,p6⟩:=y2;refine⟨l,xs,p1,p2, ?_,p4,p5,λj' ws hw=> ?_,hO2 l _ p3 p6⟩
     ·cases q:Y.H0 l with
      | none=>rfl
      | some o=>rw[H0n _ _ q]at p3;cases p3
     ·obtain⟨hj',w⟩:=own hw;obtain⟨b,xs',q1,q2,q3,q4,_⟩:=I.ow j' ws w;rw[sg hj',q1];intro z;injection z with z;injection z with z;injection z with z;exact(keep q4).2.2 (by rw[z];exact p3)
  ·exact absurd (s.one i' j os' os z h2) nj
end
section
variable {X:Cx}{Y:Fx}{a:Expr}{fa:En->R T}{p pf pos:Pos}
noncomputable def z1Y (k i j:Nat)(f:Str):En->R T:=λρ=>match obD k i j ρ with
 | some (_,fs,_)=>match fs.lookup f with
  | some (.tl ts)=> .ok (.lst ts)
  | _=> .bad
 | none=> .bad
theorem gF {k i j:Nat}{x f:Str}{px:Pos}{C:Addr}(hv:PE X (.Name x px) (wE i))(hc:Y.cl k= .ref C)(c:L2.Cls X.K C)(n:L2.NoAttr X.K C f)(gl:Gl X "list")(mg:X.mg "list"=none)(hbf:attributeBase (.Name x px) f X.env (eval (.Name x px) X.env)=eval (.Name x px) X.env:=by rfl):Snd X Y (.Call (.Name "list" p) [.Attribute (.Name x px) f pf] [] pos) (z1Y k i j f):= .mk λρ=>
 PE.imp (ZU Ja gl mg (PyProof.Rows.Boot.«list») (zH (uX hv hbf) Z5 (st1 rfl)) (by decide) (by decide) (st1 rfl) rfl) λσ H Q ⟨B,I,q⟩=>by
  unfold z1Y at q;split at q
  ·rename_i n' fs os e;split at q
   ·rename_i ts el;obtain⟨a,C',dx,vs,v,m,as,O,s,e1,e2,e3,e4,e5,e6,l,xs,p1,p2,p3,hh,rr,_⟩:=I.look e el;rw[hc]at e2;cases e2;subst p1;exact⟨.ref a,e1,a,C,dx,vs,_,rfl,e3,c,n,e4,l,xs,rfl,.inl (SqL.of hh),λl' hl' =>q _ _ (zy.new hl' _) (.lst (by rw[Zf hl'];exact zC) (rr.mono (zS.ge I.sB (zy.new hl' _))))⟩
   ·exact q.elim
  ·exact q.elim
end
noncomputable def yL (Y:Fx)(B:Hp)(r:R (Bool×En))(σ:Sg)(Q:Bool->Hp->Prop):Prop:=match r with
 | .ok (b,ρ')=>∀H' B',zy B B' ->SI Y B' ρ' σ H' ->Q b H'
 | .ex c=>XP Y B c
 | .bad=>False
theorem yL.up {Y:Fx}{B B' :Hp}{r:R (Bool×En)}{σ:Sg}{Q:Bool->Hp->Prop}(s:zy B B')(h:yL Y B r σ Q):yL Y B' r σ Q:=by
 unfold yL at h ⊢;split
 ·exact λH' B2 a=>h H' B2 (s.trans a)
 ·exact XP.up s h
 ·exact h
structure yr (X:Cx) (Y:Fx) (e:Expr) (f:En->R (Bool×En)):Prop where
 mk ::
 go:∀ρ,PT X e λσ H Q=>∃B,SI Y B ρ σ H/\yL Y B (f ρ) σ Q
theorem gG {α β:Type}{Y:Fx}{rel:Hp->Hp->β->α->Prop}{f:En->R α}{k:α->R (Bool×En)}{ρ:En}{B:Hp}{σ:Sg}{H:Hp}{Q:Bool->Hp->Prop}{K:β->Hp->Prop}(I:SI Y B ρ σ H)(h:yL Y B ((f ρ).bind k) σ Q)
  (n:∀a b H1,f ρ= .ok a->zy H H1->rel (zS B H H1) H1 b a->SI Y (zS B H H1) ρ σ H1->yL Y (zS B H H1) (k a) σ Q->K b H1):tS Y rel f ρ σ H K:=by
 refine⟨B,I, ?_⟩;cases e:f ρ with
 | bad=>rw[e]at h;exact h
 | ex c=>rw[e]at h;exact h
 | ok a=>
  rw[e]at h;exact λb H1 s r=>n a b H1 e s r (I.grow s) (yL.up (zS.ge I.sB s) h)
section
variable {X:Cx}{Y:Fx}{a b c:Expr}{pos:Pos}{sts sts' :List Stmt}
noncomputable def Jc (g:T->T->R Bool)(fm:En->R (T×En))(fb:En->R T):En->R (Bool×En):=λρ=>(fm ρ).bind λp=>(fb p.2).bind λt' =>(g p.1 t').bind λb=> .ok (b,p.2)
theorem gH {op:CmpOp}{g:T->T->R Bool}{fm:En->R (T×En)}{fb:En->R T}(nx:Nx g)(ho:OpR X (compareOp op) (wk g))(ha:JK X Y a fm)(hb:jz X Y b fb)(hm:behindInMarks op b=false):yr X Y (.Compare a [op] [b] pos) (Jc g fm fb):= .mk λρ=>
 PT.imp (yY (tb:=λσ H Q=>∃ρ',tS Y rB fb ρ' σ H Q) ho (ha.go ρ) (λpins s σ H Q I ⟨ρ',q⟩=>hb ρ' _ s σ H Q I q) hm) λσ H Q ⟨B,I,q⟩=>by
  refine⟨B,I, ?_⟩;unfold Jc at q;revert q;cases fm ρ with
  | bad=>exact λq=>q
  | ex c=>exact λq=>q
  | ok p=>
   obtain⟨t,ρ'⟩:=p;intro q v H1 B1 s1 I1 r1;have q:=yL.up s1 q;refine⟨ρ',gG I1 q λt' v' H2 _ s2 r2 I2 q2=> ?_⟩;cases e:g t t' with
   | bad=>rw[e]at q2;exact q2.elim
   | ex c=>exact absurd e (nx _ _ _)
   | ok b=>
    rw[e]at q2;exact⟨t,t',b,(r1.mono I1.sB).mono s2,r2,e,b,rfl,q2 H2 _ (zy.refl _) I2⟩
noncomputable def ifM (ga:En->R (Bool×En))(f g:En->RS):En->RS:=λρ=>(ga ρ).s λp=>if p.1=true then f p.2 else g p.2
theorem z1Z {ga:En->R (Bool×En)}{f g:En->RS}(hc:yr X Y c ga)(h1:Wg X Y sts f)(h2:Wg X Y sts' g):jO X Y (.If c sts sts' pos) (ifM ga f g):= .mk λρ=>
 PS.imp (kL (t:=λD σ H=>∃ρ',tSS Y f ρ' D σ H) (u:=λD σ H=>∃ρ',tSS Y g ρ' D σ H) (hc.go ρ) (λpins s σ H D I ⟨ρ',q⟩=>h1 ρ' _ s σ H D I q) (λpins s σ H D I ⟨ρ',q⟩=>h2 ρ' _ s σ H D I q)) λD σ H ⟨B,I,q⟩=>by
  refine⟨B,I, ?_⟩;unfold ifM at q;revert q;cases ga ρ with
  | bad=>exact λq=>q
  | ex c=>exact λq=>q
  | ok p=>
   obtain⟨b,ρ'⟩:=p;intro q H' B' s I';cases b with
   | true=>exact⟨ρ',B',I',PoS.up s q⟩
   | false=>exact⟨ρ',B',I',PoS.up s q⟩
structure uE (X:Cx) (Y:Fx) (e:Expr) (f:En->R (Bool×En)):Prop where
 mk ::
 go:∀ρ,PW X e λσ H Q=>∃B,SI Y B ρ σ H/\yL Y B (f ρ) σ Q
theorem uE.t {e:Expr}{f:En->R (Bool×En)}(h:uE X Y e f):yr X Y e f:= .mk λρ=>(h.go ρ).pt
theorem gI {f:En->R (Bool×En)}(h:yr X Y a f):uE X Y (.BoolOp .Or [a] pos) f:= .mk λρ=>V9 (h.go ρ)
noncomputable def orM (fa fb:En->R (Bool×En)):En->R (Bool×En):=λρ=>(fa ρ).bind λp=>if p.1=true then .ok (true,p.2) else fb p.2
theorem z20 {rest:List Expr}{fa fb:En->R (Bool×En)}(ha:yr X Y a fa)(hb:uE X Y (.BoolOp .Or (b :: rest) pos) fb):uE X Y (.BoolOp .Or (a :: b :: rest) pos) (orM fa fb):= .mk λρ=>
 PW.imp (kG (ha.go ρ) (λwh pins s σ H Q I (h:∃ρ' B,SI Y B ρ' σ H/\yL Y B _ σ Q)=>let ⟨ρ',q⟩:=h;hb.go ρ' wh _ s σ H Q I q)) λσ H Q ⟨B,I,q⟩=>by
  refine⟨B,I, ?_⟩;unfold orM at q;revert q;cases fa ρ with
  | bad=>exact λq=>q
  | ex c=>exact λq=>q
  | ok p=>
   obtain⟨x,ρ'⟩:=p;intro q H' B' s I';cases x with
   | true=>exact q H' B' s I'
   | false=>exact⟨ρ',B',I',yL.up s q⟩
end
section
variable {X:Cx}{Y:Fx}{a:Expr}{fa:En->R T}{p pos:Pos}
noncomputable def z21:T->R T
 | .lst xs=> .ok (.lst xs)
 | .tup xs=> .ok (.lst xs)
 | _=> .bad
theorem z22 (gl:Gl X "list")(mg:X.mg "list"=none)(ha:Snd X Y a fa)(hs:St1 X a:=by exact st1 rfl):Snd X Y (.Call (.Name "list" p) [a] [] pos) (ap1 z21 fa):=
 Yn Ja (λv t B H Q r sB q=>by
  cases r with
  | @lst l xs ts h r=>exact⟨l,xs,rfl,.inl (SqL.of (sB _ _ h)),λl' hl' =>Kc sB q rfl r hl'⟩
  | @tup l xs ts h r=>exact⟨l,xs,rfl,.inr (SqT.of (sB _ _ h)),λl' hl' =>Kc sB q rfl r hl'⟩
  | _=>exact q.elim) gl mg (PyProof.Rows.Boot.«list») ha hs
end
theorem SI.st0 {Y:Fx}{B:Hp}{ρ:En}{σ:Sg}{H:Hp}(I:SI Y B ρ σ H)(hY:Y.as=[])(hno:∀(i:Nat) (s:Sl),s.isO=true->ρ[i]? ≠ some s)(j:Nat):SI Y B (ρ.set j (.st [])) σ H where
 s0:=I.s0
 sH:=I.sH
 sB:=I.sB
 old:=I.old
 len:=by rw[aI];exact I.len
 vl:=λi t h=>by
  rcases zq h with ⟨_,z⟩ | ⟨_,z⟩
  ·cases z
  ·exact I.vl i t z
 ow:=λi ts h=>by
  rcases zq h with ⟨_,z⟩ | ⟨_,z⟩
  ·cases z
  ·obtain⟨a,xs,e1,e2,e3,e4,e5,e6⟩:=I.ow i ts z;refine⟨a,xs,e1,e2,e3,e4,e5,λj' us hj hw=> ?_⟩;rcases zq hw with ⟨_,z⟩ | ⟨_,z⟩
   ·cases z
   ·exact e6 j' us hj z
 xc:=λi t h=>by
  rcases zq h with ⟨_,z⟩ | ⟨_,z⟩
  ·cases z
  ·exact I.xc i t z
 st:=by
  have one:∀i os,(ρ.set j (.st []))[i]? =some (Sl.st os)->i=j/\os=[]:=λi os h=>by
   rcases zq h with ⟨e,z⟩ | ⟨_,z⟩
   ·cases z;exact⟨e,rfl⟩
   ·exact(hno i _ rfl z).elim
  refine⟨[],λ_=>none,by rw[hY];exact cD _,λi os h=>by rw[(one i os h).2];rfl,λi i' os os' h h' =>by rw[(one i os h).1,(one i' os' h').1],λi k n h=> ?_,λi k fs0 h=> ?_,λi os h n k fs e=> ?_⟩
  ·rcases zq h with ⟨_,z⟩ | ⟨_,z⟩
   ·cases z
   ·exact(hno i _ rfl z).elim
  ·rcases zq h with ⟨_,z⟩ | ⟨_,z⟩
   ·cases z
   ·exact(hno i _ rfl z).elim
  ·rw[(one i os h).2]at e;simp at e
noncomputable def enS (n:Nat)(ts:List T):En:=(en0 n ts).set (n - 1) (.st [])
theorem SI.startS {Y:Fx}{N:List Str}{vs:List V}{ts:List T}(s:zy Y.B0 Y.H0)(r:zI Y.B0 vs ts)(hY:Y.as=[]):SI Y Y.B0 (enS N.length ts) (L2.start N vs) Y.H0:=
 (SI.start s r).st0 hY (λi s hs h=>ut (λt z=>by rw[z]at hs;cases hs) (λz=>by rw[z]at hs;cases hs) h) _
section
variable {P:Program}{w:World}{K:a8}{mg:Str->Option Value}{base:Heap}
theorem Xi {cl:Nat->Value}{x qual:Str}{st:Stmt}{f:Addr}{fd:FuncData}{N ps:List Str}{k n:Nat}{fb:En->RS}{g:List T->R T}(F:Fun K x qual st f fd)(S:ja N ps (zx st))(hn:n=ps.length)
  (hb:∀(cdv:Value) (A:Around) (outer:List Env) (s:Shared) (H:Hp) (E:XK) (Y:Fx),Y.cl=cl->Y.E=E->j3 k (A.deeper (envOfC qual (zx st) s.heap.objs.size f cdv))->
   Wg (ud (CX1 P w) P w K mg base N qual (zx st) f cdv A outer s H E) Y (zT st) fb)
  (hg:∀ts,ts.length=n->g ts=zu (fb (enS N.length ts))):jw P w K mg base (CX1 P w) (k+1) f fd ps (spP cl n g):=by
 subst hn;refine Fun.okX F S spP.len λcdv A outer s H vs Q E hr ⟨B,ts,hl,sB,r,q⟩=> ?_;refine⟨_,hb cdv A _ s H E ⟨B,H,E,cl,[]⟩ rfl rfl hr _,B,SI.startS sB r rfl, ?_⟩;rw[hg ts hl]at q;revert q;cases fb _ with
 | rt t=>exact λq v H' s r=>q v H' s r
 | rf t=>exact λq a xs H' B' s0 n e r _ l=>q _ H' s0 (.lst (by rw[Zf n];exact e) (r.mono l))
 | nx ρ=>exact λq σ' H' B' s' I' =>q _ H' I'.sH .non
 | bk ρ=>exact λq=>q.elim
 | ct ρ=>exact λq=>q.elim
 | ex c=>exact λq=>q
 | bad=>exact λq=>q
end
section
variable {X:Cx}{Y:Fx}{a b:Expr}{cl:Nat->Value}{k i j kk kj nn:Nat}{x m:Str}{px ap p pos p' :Pos}{C f:Addr}{fd:FuncData}{ps:List Str}{es:List Expr}{ga:En->R (List T)}{pl:Sem Bool}
noncomputable def obL (k i j:Nat)(ρ:En):Option (List (Str×Fd)):=match ρ[i]? with
 | some (.oc k' fs)=>if k' =k then some fs else none
 | _=>(obD k i j ρ).map λx=>x.2.1
theorem SI.obL {B:Hp}{ρ:En}{σ:Sg}{H:Hp}(I:SI Y B ρ σ H){fs:List (Str×Fd)}(h:obL k i j ρ=some fs):∃a C dx vs,σ[i]? =some (some (V.ref a))/\Y.cl k= .ref C/\H a=some (.ins C dx vs)/\InC vs/\FsO B H vs fs:=by
 unfold PV.obL at h;obtain⟨as,O,s⟩:=I.st;split at h
 ·rename_i k' fs' e;split at h
  ·rename_i hk;subst hk;cases h;obtain⟨a,C,dx,vs,e1,e2,e3,e4,e5⟩:=s.oc i _ _ e;exact⟨a,C,dx,vs,e1,e2,I.sH _ _ e3,e4,e5.mono (zy.refl _) I.sH⟩
  ·cases h
 ·cases e:obD k i j ρ with
  | none=>rw[e]at h;cases h
  | some x=>
   obtain⟨n,fs',os⟩:=x;rw[e]at h;cases h;obtain⟨h1,h2,h3⟩:=wq e;obtain⟨a,C,dx,vs,e1,e2,e3,e4,e5,e6,e7,e8⟩:=s.st j os h2 n k _ h3;obtain⟨a',C',dx',vs',g1,g2,_⟩:=s.ob i k n h1;rw[e1]at g1;cases g1;refine⟨a,C,dx,vs,g2,e2,e3,e7.2,λm f d z=> ?_⟩;obtain⟨v,z1,z2⟩:=e8 m f d z;refine⟨v,z1, ?_⟩;cases d with
   | tv t=>exact z2
   | tl ts=>obtain⟨l,xs,p1,_,_,p4,p5,_⟩:=z2;exact⟨l,xs,p1,p4,p5⟩
noncomputable def ki (k i j:Nat)(f:Str):En->R T:=λρ=>match obL k i j ρ with
 | some fs=>(match fs.lookup f with
  | some (.tv t)=> .ok t
  | _=> .bad)
 | none=> .bad
theorem gJ (hv:PE X (.Name x px) (wE i))(hc:Y.cl k= .ref C)(c:L2.Cls X.K C)(n:L2.NoAttr X.K C m)(hb:attributeBase (.Name x px) m X.env (eval (.Name x px) X.env)=eval (.Name x px) X.env:=by rfl):Snd X Y (.Attribute (.Name x px) m pos) (ki k i j m):= .mk λρ=>PE.imp (uX hv hb) λσ H Q ⟨B,I,q⟩=>by
 unfold ki at q;split at q
 ·rename_i fs e;split at q
  ·rename_i t el;obtain⟨a,C',dx,vs,e1,e2,e3,e4,e5⟩:=I.obL e;rw[hc]at e2;cases e2;obtain⟨m',v,z1,z2,z3⟩:=uC (λm g e he=>let ⟨v,z,_⟩:=e5 m g e he;⟨v,z⟩) el;obtain⟨v',y1,y2⟩:=e5 m' _ _ z1;rw[z2]at y1;cases y1;exact⟨.ref a,e1,a,C,dx,vs,v,rfl,e3,c,n,z3,po0 I.sB q rfl y2⟩
  ·exact q.elim
 ·exact q.elim
noncomputable def vJ (k i j nn:Nat)(g:List (Str×Fd)->List T->R (T×List (Str×Fd)))(ga:En->R (List T)):En->R (T×En):=λρ=>match obD k i j ρ with
 | some (n,fs,os)=>(ga ρ).bind λts=>if ts.length=nn then (g fs ts).bind λp=> .ok (p.1,ρ.set j (.st (os.set n (k,p.2)))) else .bad
 | none=> .bad
theorem gK {g:List (Str×Fd)->List T->R (T×List (Str×Fd))}(hv:PE X (.Name x px) (wE i))(hy:Y.cl=cl)(F:jw X.prog X.w X.K X.mg X.base (CX1 X.prog X.w) kj f fd ps (spM cl k nn g))(hr:j3 kk X.A)(hj:kj<=kk)(gl:Gl X m)(mg:X.mg m=some (.ref f))(kp:bu X.K (.ref f)=true)(bd:L2.Binds X.K fd ps [])(hp:Zu (CX1 X.prog X.w) X Y.E)(ha:We X Y es ga)
  (hd:(m == ("__debug__":Str))=false:=by decide) (hst:starEach (.Name x px :: es) X.env=(false,eval (.Name x px) X.env) :: starEach es X.env:=by exact zX rfl) (hpl:((backTo pos (starEach es X.env)).any λx=>x.fst)=false:=by exact ZB rfl):
  JK X Y (.Call (.Name m p) (.Name x px :: es) [] pos) (vJ k i j nn g ga):= .mk λρ=>PE.imp (uk F (hr.mono hj) gl mg kp bd .nil hp (zH hv (ha ρ) hst) hd hst hpl) λσ H Q ⟨B,I,q⟩=>by
 unfold vJ at q;split at q
 ·rename_i n fs os e;obtain⟨a',C',dx,vs,e1,e2,e3,e4,al⟩:=I.obA e;subst hy;refine⟨.ref a',e1, ?_⟩;refine Xg I q λts us H1 _ s1 r1 I1 q1=> ?_;split at q1
  ·rename_i hn;rw[aY];obtain⟨H0,b1,b2,b3,b4,b5⟩:=I1.back e e1;refine⟨a',us,ts,_,H0,fs,rfl,hn,b1,b2,b3,r1, ?_⟩;revert q1;cases g fs ts with
   | bad=>exact λq1=>q1
   | ex c2=>exact λq1 d H' z1 z2=>q1 d H' (b4.trans z1) z2
   | ok p=>
    obtain⟨t,fs2⟩:=p;exact λq1 v H' B' z1 z2 z3 z4 z5 z6=>q1 v H' B' z2 (b5 H' B' fs2 z1 z2 z3 z4 z5) z6
  ·exact q1.elim
 ·exact q.elim
theorem Uk {f:En->R (T×En)}{k:T×En->R (T×En)}{ρ:En}{B:Hp}{σ:Sg}{H:Hp}{Q:VK}{K:V->Hp->Prop}(I:SI Y B ρ σ H)(h:PoM Y B ((f ρ).bind k) σ Q)
  (n:∀t ρ' v H1 B1,f ρ= .ok (t,ρ')->zy B B1->Rep B1 v t->SI Y B1 ρ' σ H1->PoM Y B1 (k (t,ρ')) σ Q->K v H1):∃B,SI Y B ρ σ H/\PoM Y B (f ρ) σ K:=by
 refine⟨B,I, ?_⟩;cases e:f ρ with
 | bad=>rw[e]at h;exact h
 | ex c=>rw[e]at h;exact h
 | ok p=>
  obtain⟨t,ρ'⟩:=p;rw[e]at h;exact λv H1 B1 s I1 r=>n t ρ' v H1 B1 e s r I1 (PoM.up s h)
theorem finM {g:R T}{ρ:En}{B H:Hp}{σ:Sg}{Q:VK}(I:SI Y B ρ σ H)(q:PoM Y B (g.bind λt=> .ok (t,ρ)) σ Q):Po Y rC B H g Q:=by
 cases g with
 | bad=>exact q
 | ex c=>exact q
 | ok t=>exact λv H' s r=>q v H' _ (zS.ge I.sB s) (I.grow s) r
noncomputable def z23 (g:T->T->R T)(fa fb:En->R (T×En)):En->R (T×En):=λρ=>(fa ρ).bind λx=>(fb x.2).bind λy=>(g x.1 y.1).bind λt=> .ok (t,y.2)
theorem z24 {op:Operator}{g:T->T->R T}{fa fb:En->R (T×En)}(ho:OpR X (binaryOp op) (rG Y g))(ha:JK X Y a fa)(hb:JK X Y b fb):JK X Y (.BinOp a op b pos) (z23 g fa fb):= .mk λρ=>
 PE.imp (kP (tb:=λσ H Q=>∃ρ' B,SI Y B ρ' σ H/\PoM Y B _ σ Q) ho (ha.go ρ) (λpins s σ H Q I ⟨ρ',q⟩=>hb.go ρ' _ s σ H Q I q)) λσ H Q ⟨B,I,q⟩=>Uk I q λt ρ1 v H1 B1 _ s1 r1 I1 q1=>⟨ρ1,Uk I1 q1 λt' ρ2 v' H2 B2 _ s2 r2 I2 q2=>
  ⟨_,t,t',I2.sB,r1.mono s2,r2,finM I2 q2⟩⟩
noncomputable def cmM (g:T->T->R Bool)(fa fb:En->R (T×En)):En->R (T×En):=λρ=>(fa ρ).bind λx=>(fb x.2).bind λy=>(g x.1 y.1).bind λb=> .ok (.bl b,y.2)
theorem z25 {op:CmpOp}{g:T->T->R Bool}{fa fb:En->R (T×En)}(nx:Nx g)(ho:OpR X (compareOp op) (wk g))(ha:JK X Y a fa)(hb:JK X Y b fb)(hm:behindInMarks op b=false):JK X Y (.Compare a [op] [b] pos) (cmM g fa fb):= .mk λρ=>
 PE.imp (yX (tb:=λσ H Q=>∃ρ' B,SI Y B ρ' σ H/\PoM Y B _ σ Q) ho (ha.go ρ) (λpins s σ H Q I ⟨ρ',q⟩=>hb.go ρ' _ s σ H Q I q) hm) λσ H Q ⟨B,I,q⟩=>Uk I q λt ρ1 v H1 B1 _ s1 r1 I1 q1=>⟨ρ1,Uk I1 q1 λt' ρ2 v' H2 B2 _ s2 r2 I2 q2=>by
  cases e:g t t' with
  | bad=>rw[e]at q2;exact q2.elim
  | ex c=>exact absurd e (nx _ _ _)
  | ok b=>
   rw[e]at q2;exact⟨t,t',b,(r1.mono s2).mono I2.sB,r2.mono I2.sB,e,q2 _ H2 B2 (zy.refl _) I2 (.bl b)⟩⟩
noncomputable def kl (f:En->R (T×En)):En->RS:=λρ=>(f ρ).s λp=> .rt p.1
theorem gL {f:En->R (T×En)}(h:JK X Y a f):jO X Y (.Return (some a) pos) (kl f):= .mk λρ=>PS.imp (Wl (h.go ρ)) λD σ H ⟨B,I,q⟩=>⟨B,I,by
 unfold kl at q;revert q;cases f ρ with
 | bad=>exact λq=>q
 | ex c=>exact λq=>q
 | ok p=>
  intro q v H' B' s I' r;exact q v H' I'.sH (r.mono (by have:=U2 I'.sH I'.old (zy.refl H') I'.sB;rw[zS.self _ _ I'.sB]at this;exact this))⟩
end
end PV
namespace PV
open PySem PySem.Spec PyProof.Rows L2
structure Fn (K:a8) (mg:Str->Option Value) (x:Str) (st:Stmt) (ps:List Str) (f:Addr) (fd:FuncData):Prop where
 F:Fun K x x st f fd
 b:L2.Binds K fd ps []
 m:mg x=some (.ref f)
structure FnO (K:a8) (x qual:Str) (st:Stmt) (ps:List Str) (f:Addr) (fd:FuncData) (C:Addr):Prop where
 F:Fun K x qual st f fd
 b:L2.Binds K fd ps []
 m:L2.Meth K C x f
noncomputable abbrev FE (K:a8)(mg:Str->Option Value)(x:Str)(st:Stmt)(ps:List Str):Prop:=∃f fd,Fn K mg x st ps f fd
noncomputable abbrev FM (K:a8)(cl:Nat->Value)(c:Nat)(x:Str)(st:Stmt)(ps:List Str):Prop:=∃C qual f fd,cl c= .ref C/\FnO K x qual st ps f fd C
noncomputable abbrev FI (K:a8)(mg:Str->Option Value)(cl:Nat->Value)(c:Nat)(y:Str)(st:Stmt)(ps:List Str):Prop:=∃C qual f fd,cl c= .ref C/\mg y=some (.ref C)/\L2.Mk K C f/\FnO K "__init__" qual st ps f fd C
structure Zz where
 P:Program
 w:World
 K:a8
 mg:Str->Option Value
 base:Heap
 cl:Nat->Value
structure QQ (x:Str) (CX:CXT) (k:Nat) (sp:Sp) (Z:Zz):Prop where
 ex:∃st ps f fd,Fn Z.K Z.mg x st ps f fd/\jw Z.P Z.w Z.K Z.mg Z.base CX k f fd ps sp
structure CA (c:Nat) (as:List Str) (K:a8) (cl:Nat->Value):Prop where
 ex:∃C,cl c= .ref C/\L2.Cls K C/\∀f,as.contains f=true->L2.NoAttr K C f
structure QM (x:Str) (c k:Nat) (sp:Sp) (Z:Zz):Prop where
 ex:∃C qual st ps f fd,Z.cl c= .ref C/\L2.Cls Z.K C/\FnO Z.K x qual st ps f fd C/\jw Z.P Z.w Z.K Z.mg Z.base (CX1 Z.P Z.w) k f fd ps sp
structure QI (y:Str) (c k:Nat) (sp:Sp) (Z:Zz):Prop where
 ex:∃C qual st ps f fd,Z.cl c= .ref C/\Z.mg y=some (.ref C)/\L2.Mk Z.K C f/\FnO Z.K "__init__" qual st ps f fd C/\jw Z.P Z.w Z.K Z.mg Z.base (CX1 Z.P Z.w) k f fd ps sp
noncomputable abbrev qP (Z:Zz)(x:Str)(n k:Nat)(c:List T->R T):Prop:=QQ x CX0 k (spP Z.cl n c) Z
noncomputable abbrev qM (Z:Zz)(c:Nat)(x:Str)(n k:Nat)(g:List (Str×Fd)->List T->R (T×List (Str×Fd))):Prop:=QM x c k (spM Z.cl c n g) Z
noncomputable abbrev qI (Z:Zz)(c:Nat)(x:Str)(n k:Nat)(g:List (Str×Fd)->List T->R (T×List (Str×Fd))):Prop:=QI x c k (spM Z.cl c n g) Z
noncomputable abbrev qFM (Z:Zz)(c:Nat)(x:Str)(n k:Nat)(g:List (Str×Fd)->List T->R (T×List (Str×Fd))):Prop:=QQ x (CX1 Z.P Z.w) k (spM Z.cl c n g) Z
noncomputable def oP (m:Nat)(b:En->RS):List T->R T:=λts=>zu (b (en0 m ts))
noncomputable def oS (m:Nat)(b:En->RS):List T->R T:=λts=>zu (b (enS m ts))
noncomputable def oM (k j:Nat)(b:En->R (T×En)):List (Str×Fd)->List T->R (T×List (Str×Fd)):=λfs ts=>jY k j (b (enM k j fs ts))
section
variable {P:Program}{w:World}{K:a8}{mg:Str->Option Value}{base:Heap}{cl:Nat->Value}{x:Str}{CX:CXT}{k c:Nat}{sp:Sp}{G:Prop}{as:List Str}
theorem QQ.go (O:QQ x CX k sp ⟨P,w,K,mg,base,cl⟩)(h:∀st ps f fd,Fn K mg x st ps f fd->jw P w K mg base CX k f fd ps sp->G):G:=by
 obtain⟨⟨st,ps,f,fd,C,F⟩⟩:=O;exact h st ps f fd C F
theorem QM.go (O:QM x c k sp ⟨P,w,K,mg,base,cl⟩)(h:∀C q st ps f fd,cl c= .ref C->L2.Cls K C->FnO K x q st ps f fd C->jw P w K mg base (CX1 P w) k f fd ps sp->G):G:=by
 obtain⟨⟨C,q,st,ps,f,fd,e,c,M,F⟩⟩:=O;exact h C q st ps f fd e c M F
theorem QI.go (O:QI x c k sp ⟨P,w,K,mg,base,cl⟩)(h:∀C q st ps f fd,cl c= .ref C->mg x=some (.ref C)->L2.Mk K C f->FnO K "__init__" q st ps f fd C->jw P w K mg base (CX1 P w) k f fd ps sp->G):G:=by
 obtain⟨⟨C,q,st,ps,f,fd,e,g,M,O,F⟩⟩:=O;exact h C q st ps f fd e g M O F
theorem CA.go (A:CA c as K cl)(h:∀C,cl c= .ref C->L2.Cls K C->(∀f,as.contains f=true->L2.NoAttr K C f)->G):G:=by
 obtain⟨⟨C,e,c,n⟩⟩:=A;exact h C e c n
end
section
variable {Z:Zz}{x y:Str}{st:Stmt}{ps:List Str}{c k n m j:Nat}{fb:En->RS}{fm:En->R (T×En)}
noncomputable abbrev Sc (N ps:List Str)(st:Stmt):Prop:=ja N ps (zx st)
theorem okP (C:FE Z.K Z.mg x st ps)(N:List Str) (hb:∀(f:Addr) (cdv:Value) (A:Around) (outer:List Env) (s:Shared) (H:Hp) (E:XK) (Y:Fx),Y.cl=Z.cl->True->j3 k (A.deeper (envOfC x (zx st) s.heap.objs.size f cdv))->N.Nodup->True->
   Wg (ud CX0 Z.P Z.w Z.K Z.mg Z.base N x (zx st) f cdv A outer s H E).nox Y (zT st) fb)
  (S:Sc N ps st:=by refine⟨rfl,rfl,rfl, ?_,rfl, ?_, ?_⟩ <;> decide+kernel) (hn:n=ps.length:=by rfl) (hm:m=N.length:=by rfl):qP Z x n (k+1) (oP m fb):=by
 obtain⟨f,fd,C⟩:=C;subst hm;exact⟨_,_,f,fd,C,z1w C.F S hn (λcdv A outer s H E Y hy hr=>hb f cdv A outer s H E Y hy trivial hr S.nd trivial) λ_ _=>rfl⟩
noncomputable abbrev BM (Z:Zz)(k:Nat)(qual:Str)(st:Stmt)(N:List Str)(G:Cx->Fx->Prop):Prop:=∀(f:Addr) (cdv:Value) (A:Around) (outer:List Env) (s:Shared) (H:Hp) (E:XK) (Y:Fx),Y.cl=Z.cl->Y.E=E->j3 k (A.deeper (envOfC qual (zx st) s.heap.objs.size f cdv))->N.Nodup->Zu (CX1 Z.P Z.w) (ud (CX1 Z.P Z.w) Z.P Z.w Z.K Z.mg Z.base N qual (zx st) f cdv A outer s H E) Y.E->
   G (ud (CX1 Z.P Z.w) Z.P Z.w Z.K Z.mg Z.base N qual (zx st) f cdv A outer s H E) Y
variable {as:List Str}
theorem okM (ca:CA c as Z.K Z.cl)(C:FM Z.K Z.cl c x st ps)(N:List Str)(hb:∀q,BM Z k q st N λX Y=>vI X Y (zT st) fm)
  (S:Sc N ps st:=by refine⟨rfl,rfl,rfl, ?_,rfl, ?_, ?_⟩ <;> decide+kernel) (hn:ps.length=n+1:=by rfl) (hm:N.length=j+1:=by rfl) (hj:n+1<=j:=by decide):qM Z c x n (k+1) (oM c j fm):=by
 obtain⟨C,q,f,fd,e,M⟩:=C;obtain⟨C',e',cl,_⟩:=ca;rw[e]at e';cases e';exact⟨C,q,_,_,f,fd,e,cl,M,qc M.F S hn hm hj λcdv A outer s H E Y hy hE hr=>hb q f cdv A outer s H E Y hy hE hr S.nd (hE ▸ QX)⟩
theorem okI (C:FI Z.K Z.mg Z.cl c y st ps)(N:List Str)(hb:∀q,BM Z k q st N λX Y=>vI X Y (zT st) fm)
  (S:Sc N ps st:=by refine⟨rfl,rfl,rfl, ?_,rfl, ?_, ?_⟩ <;> decide+kernel) (hn:ps.length=n+1:=by rfl) (hm:N.length=j+1:=by rfl) (hj:n+1<=j:=by decide):qI Z c y n (k+1) (oM c j fm):=by
 obtain⟨C,q,f,fd,e,g,M,O⟩:=C;exact⟨C,q,_,_,f,fd,e,g,M,O,qc O.F S hn hm hj λcdv A outer s H E Y hy hE hr=>hb q f cdv A outer s H E Y hy hE hr S.nd (hE ▸ QX)⟩
theorem okFM (C:FE Z.K Z.mg x st ps)(N:List Str)(hb:BM Z k x st N λX Y=>vI X Y (zT st) fm)
  (S:Sc N ps st:=by refine⟨rfl,rfl,rfl, ?_,rfl, ?_, ?_⟩ <;> decide+kernel) (hn:ps.length=n+1:=by rfl) (hm:N.length=j+1:=by rfl) (hj:n+1<=j:=by decide):qFM Z c x n (k+1) (oM c j fm):=by
 obtain⟨f,fd,C⟩:=C;exact⟨_,_,f,fd,C,qc C.F S hn hm hj λcdv A outer s H E Y hy hE hr=>hb f cdv A outer s H E Y hy hE hr S.nd (hE ▸ QX)⟩
theorem okB (C:FE Z.K Z.mg x st ps)(hn:n=ps.length:=by rfl):qP Z x n k (λ_=> .bad):=by
 obtain⟨f,fd,C⟩:=C;exact⟨_,_,f,fd,C,λvs H Q E h=>by rw[← hn];exact spP.len vs H Q E h,λA outer s H args us vs Q E _ _ _ _ ⟨B,ts,_,_,_,q⟩=>q.elim⟩
end
section
variable {Z:Zz}{x:Str}{st:Stmt}{ps:List Str}{k n m:Nat}{fb:En->RS}{f:Addr}{fd:FuncData}
theorem okLS (C:Fn Z.K Z.mg x st ps f fd)(N:List Str) (hb:∀(cdv:Value) (A:Around) (outer:List Env) (s:Shared) (H:Hp) (E:XK) (Y:Fx),Y.cl=Z.cl->Y.E=E->j3 k (A.deeper (envOfC x (zx st) s.heap.objs.size f cdv))->N.Nodup->Zu (CX1 Z.P Z.w) (ud (CX1 Z.P Z.w) Z.P Z.w Z.K Z.mg Z.base N x (zx st) f cdv A outer s H E) Y.E->
   Wg (ud (CX1 Z.P Z.w) Z.P Z.w Z.K Z.mg Z.base N x (zx st) f cdv A outer s H E) Y (zT st) fb)
  (S:Sc N ps st:=by refine⟨rfl,rfl,rfl, ?_,rfl, ?_, ?_⟩ <;> decide+kernel) (hn:n=ps.length:=by rfl) (hm:m=N.length:=by rfl):jw Z.P Z.w Z.K Z.mg Z.base (CX1 Z.P Z.w) (k+1) f fd ps (spP Z.cl n (oS m fb)):=by
 subst hm;exact Xi C.F S hn (λcdv A outer s H E Y hy hE hr=>hb cdv A outer s H E Y hy hE hr S.nd (hE ▸ QX)) λ_ _=>rfl
end
section
variable {X:Cx}{Y:Fx}{cl:Nat->Value}{k j n:Nat}{g:List T->R T}{x:Str}{a:Expr}{es:List Expr}{ga:En->R (List T)}{p pos:Pos}
theorem cZ (hy:Y.cl=cl)(O:QQ x CX0 j (spP cl n g) ⟨X.prog,X.w,X.K,X.mg,X.base,cl⟩)(hr:j3 k X.A)(ha:We X Y (a :: es) ga)(hj:j<=k:=by omega)(gl:Gl X x:=by rfl)(hd:(x == ("__debug__":Str))=false:=by decide)
  (hs:starEach (a :: es) X.env=(false,eval a X.env) :: starEach es X.env:=by exact zX rfl) (hz:((backTo pos (starEach es X.env)).any λx=>x.fst)=false:=by exact ZB rfl):Snd X Y (.Call (.Name x p) (a :: es) [] pos) (za n g ga):=
 O.go λ_ _ _ _ C F=>xQ hy F hr hj gl C.m C.F.kp C.b ha hd hs hz
end
noncomputable def nms (N:List Str)(js:List Nat):List Str:=js.map λj=>N.getD j ""
noncomputable def ndB:List Str->Bool
 | []=>true
 | x :: r=> !(r.contains x) && ndB r
theorem Ul:∀{l:List Str},ndB l=true->l.Nodup
 | [],_=> .nil
 | x :: r,h=>by
  rw[ndB,ae]at h;exact cj.mpr ⟨by simpa using h.1,Ul h.2⟩
noncomputable def GY (N N' :List Str)(sc0 scope:Scope)(k:Nat)(js:List Nat):Bool:=(GT scope sc0 && GU N N' scope sc0 k js) && ndB N'
section
variable {cl:Nat->Value}{X:Cx}{Y:Fx}{x y:Str}{p p' p2:Pos}{kk:Nat}{iter elt:Expr}{ifs:List Expr}{scope:Scope}{js:List Nat}{fi:En->R (List T)}{ft:En->R Bool}{fe:En->R T}
theorem cr1 (hy:Y.cl=cl)(h:GY X.N (x :: nms X.N js) X.env.scope scope 1 js=true)(hx:((relabel scope X.env).names.lookup x == some .local)=true)(cm:X.calm=true)(it:uu X Y (.Name x p) iter fi)(tt:∀Y',Y'.cl=cl->Vm X scope (x :: nms X.N js) λXC=>wP XC Y' ifs ft)
  (el:∀Y',Y'.cl=cl->KA X scope (x :: nms X.N js) Y'.E λXC=>Snd XC Y' elt fe) (hs:∀x,foldedSetIterable iter X.env x=pure x:=by intro _;rfl):wm X Y (.Name x p) iter elt ifs scope (x :: nms X.N js) 1 js fi (wG 0) (zA 0) ft fe:=by
 subst hy;rw[GY,ae]at h;have hx:(relabel scope X.env).names.lookup x=some .local:=eq_of_beq hx;exact Vo _ _ _ rfl rfl h.1 cm it (λ_ _ _ _ _ _=>jP (Ul h.2) rfl (.inl hx) (.inr hx)) (ve 0) (vh 0) tt el hs
theorem cr2 (hy:Y.cl=cl)(h:GY X.N (x :: y :: nms X.N js) X.env.scope scope 2 js=true)(hx:((relabel scope X.env).names.lookup x == some .local && (relabel scope X.env).names.lookup y == some .local)=true)(cm:X.calm=true)(it:uu X Y (.Tuple [.Name x p,.Name y p'] kk p2) iter fi)(tt:∀Y',Y'.cl=cl->Vm X scope (x :: y :: nms X.N js) λXC=>wP XC Y' ifs ft)
  (el:∀Y',Y'.cl=cl->KA X scope (x :: y :: nms X.N js) Y'.E λXC=>Snd XC Y' elt fe) (hs:∀x,foldedSetIterable iter X.env x=pure x:=by intro _;rfl):wm X Y (.Tuple [.Name x p,.Name y p'] kk p2) iter elt ifs scope (x :: y :: nms X.N js) 2 js fi (GN X.K 2 (yQ (wG 0) (yQ (wG 1) z0L))) (Z3 0 1) ft fe:=by
 subst hy;rw[GY,ae]at h;rw[ae]at hx;have h1:(relabel scope X.env).names.lookup x=some .local:=eq_of_beq hx.1;have h2:(relabel scope X.env).names.lookup y=some .local:=eq_of_beq hx.2;exact Vo _ _ _ rfl rfl h.1 cm it (λ_ _ _ _ _ _=>Va cm (Jj (jP (Ul h.2) rfl (.inl h1) (.inr h1)) (Jj (jP (Ul h.2) rfl (.inl h2) (.inr h2)) yR))) (vf _ 0 1) (vi 0 1) tt el hs
end
end PV
namespace L2
open PySem PySem.Spec PyProof.Rows
section
variable {X:Cx}{pins:List (Addr×Obj)}{σ:St}{H:Hp}{s:Shared}{q:Nat}{x:Str}
theorem Inv.virt (I:Inv X pins σ H s)(hq:X.N[q]? =some x)(hv:X.env.scope.names.lookup x=none)(v:Option V):Inv X pins (σ.set q v) H s:=
 { I with
  loc:=let ⟨m,hn,hl⟩:=I.loc;⟨m,hn,λi y u e1 e2 e3=>by
   by_cases h:i=q
   ·subst h;rw[hq]at e1;cases e1;unfold Vis at e3;rw[hv]at e3;rcases e3 with z | z | z <;> cases z
   ·rw[ar (aU h)]at e2;exact hl i y u e1 e2 e3⟩
  len:=by rw[aI];exact I.len }
theorem Um {α:Type}{l:List α}{q:Nat}{x a:α}(h:l[q]? =some a):(l.set q x).set q a=l:=by
 rw[List.set_set];obtain⟨hq,rfl⟩:=aw.mp h;exact List.set_getElem_self hq
theorem Xj {e:Expr}{es:List Expr}{te:TE}{t:TA}(ha:PE X e te)(hr:PA X es t)(hq:X.N[q]? =some x)(hv:X.env.scope.names.lookup x=none)(hs:starEach (e :: es) X.env=(false,eval e X.env) :: starEach es X.env):
  PA X (e :: es) (λσ H Q=>te σ H λv H1=>t (σ.set q (some v)) H1 λvs H2=>Q (v :: vs) H2):=by
 intro pos pins s σ H Q I h;rw[hs];show wpAny _ _ (spliced ((false,eval e X.env) :: backTo pos (starEach es X.env))) _ _ s;refine dy (thn (ha pins s σ H _ I h) λu s1 ⟨x,H1,I1,r1,q1⟩=> ?_);refine thn (hr pos pins s1 _ H1 _ (I1.virt hq hv (some x)) q1) λus s2 ⟨xs,H2,I2,r2,q2⟩=>⟨x :: xs,H2, ?_,.cons r1 r2,q2⟩;have hl:q < σ.length:=by rw[I.len];exact(aw.mp hq).1
 have:=I2.virt hq hv σ[q];rw[Um (ag hl)]at this;exact this
end
end L2
namespace PV
open PySem PySem.Spec PyProof.Rows L2 PySem.W
section
variable {Y:Fx}{B:Hp}{ρ:En}{σ:Sg}{H:Hp}
theorem SI.cpO (I:SI Y B ρ σ H){q k n:Nat}{a:Addr}(h:ρ[q]? =some (.ob k n))(ha:σ[q]? =some (some (V.ref a)))(i:Nat):SI Y B (ρ.set i (.ob k n)) (σ.set i (some (V.ref a))) H:=by
 have get:∀{j:Nat} {y:Sl},(ρ.set i (.ob k n))[j]? =some y->(∀a b,y ≠ .ob a b)->ρ[j]? =some y/\(σ.set i (some (V.ref a)))[j]? =σ[j]? :=λ{j y} h hy=>by
  rcases zq h with ⟨_,z⟩ | ⟨e,z⟩
  ·exact absurd z (hy _ _)
  ·exact⟨z,ar (aU e)⟩
 have no:∀b,uo ρ σ b->uo (ρ.set i (.ob k n)) (σ.set i (some (V.ref a))) b:=λb hb j us hw=>by
  obtain⟨e1,e2⟩:=get hw (λ_ _=>Sl.noConfusion);rw[e2];exact hb j us e1
 obtain⟨as,O,x⟩:=I.st;refine⟨I.s0,I.sH,I.sB,I.old,by rw[aI,aI];exact I.len,λj t e=> ?_,λj ts e=> ?_,λj c e=> ?_,as,O,x.pre,λj os e=>x.len j os (get e (λ_ _=>Sl.noConfusion)).1,λj j' os os' e e' =>x.one j j' os os' (get e (λ_ _=>Sl.noConfusion)).1 (get e' (λ_ _=>Sl.noConfusion)).1,λj k' n' e=> ?_,λj k' fs e=> ?_,λj os e m k' fs e' => ?_⟩
 ·obtain⟨e1,e2⟩:=get e (λ_ _=>Sl.noConfusion);rw[e2];exact I.vl j t e1
 ·obtain⟨e1,e2⟩:=get e (λ_ _=>Sl.noConfusion);obtain⟨b,xs,y1,y2,y3,y4,y5,y6⟩:=I.ow j ts e1;refine⟨b,xs,by rw[e2];exact y1,y2,y3,y4,y5,λj' us hj hw=> ?_⟩
  obtain⟨e3,e4⟩:=get hw (λ_ _=>Sl.noConfusion);rw[e4];exact y6 j' us hj e3
 ·obtain⟨e1,e2⟩:=get e (λ_ _=>Sl.noConfusion);rw[e2];exact I.xc j c e1
 ·rcases zq e with ⟨rfl,z⟩ | ⟨hj,z⟩
  ·cases z;obtain⟨a',C,dx,vs,y1,y2,y3⟩:=x.ob q k n h;rw[ha]at y2;cases y2;exact⟨a,C,dx,vs,y1,aO (by rw[← I.len];exact WA e),y3⟩
  ·rw[ar (aU hj)];exact x.ob j k' n' z
 ·obtain⟨e1,e2⟩:=get e (λ_ _=>Sl.noConfusion);rw[e2];exact x.oc j k' fs e1
 ·obtain⟨b,C,dx,vs,y1,y2,y3,y4,y5,y6,y7,y8⟩:=x.st j os (get e (λ_ _=>Sl.noConfusion)).1 m k' fs e';refine⟨b,C,dx,vs,y1,y2,y3,y4,y5,y6,y7,λm' f d z=> ?_⟩;obtain⟨v,x1,x2⟩:=y8 m' f d z;refine⟨v,x1, ?_⟩;cases d with
  | tv t=>exact x2
  | tl ts=>
   obtain⟨l,xs,p1,p2,p3,p4,p5,p6,p7⟩:=x2;exact⟨l,xs,p1,p2,p3,p4,p5,no l p6,p7⟩
end
noncomputable def mkA (q j k nn:Nat)(g:List (Str×Fd)->List T->R (T×List (Str×Fd)))(ga:En->R (List T)):En->R En:=λρ=>(ga ρ).bind λts=>if ts.length=nn/\q ≠ j/\q < ρ.length then (match ρ[j]? with
 | some (.st os)=>(match g [] ts with
  | .ok (.non,fs)=> .ok ((ρ.set j (.st (os++[(k,fs)]))).set q (.ob k os.length))
  | .ex c=> .ex c
  | _=> .bad)
 | _=> .bad) else .bad
noncomputable def yt (i i2 i3 q:Nat)(m:En->R En)(gb:En->R (List T)):En->RS:=λρ=>(m ρ).s λρ1=>(gb ρ1).s λts=>match ts,ρ1[q]? with
 | [y,z],some (.ob k n)=> .nx ((((ρ1.set i (.ob k n)).set i2 (.vl y)).set i3 (.vl z)).set q .un)
 | _,_=> .bad
section
variable {X:Cx}{Y:Fx}{a b d:Expr}{cl:Nat->Value}{k i i2 i3 q j kk kj nn:Nat}{x y z c w:Str}{pc px py pz pt pt2 pos pos' :Pos}{kt k2:Nat}{C f:Addr}{fd:FuncData}{ps:List Str}{es:List Expr}{ga gb:En->R (List T)}
theorem Xk {g:List (Str×Fd)->List T->R (T×List (Str×Fd))}(hc' :X.calm=true)(hN:X.N.Nodup)(hi:X.N[i]? =some x)(hi2:X.N[i2]? =some y)(hi3:X.N[i3]? =some z)(hij:i ≠ i2)(hik:i ≠ i3)(hjk:i2 ≠ i3)(hx:X.env.scope.names.lookup x=some .local)(hy' :X.env.scope.names.lookup y=some .local)(hz:X.env.scope.names.lookup z=some .local)(hq:X.N[q]? =some w)(hw' :X.env.scope.names.lookup w=none)
  (hy:Y.cl=cl) (hc:cl k= .ref C) (M:L2.Mk X.K C f) (F:jw X.prog X.w X.K X.mg X.base (CX1 X.prog X.w) kj f fd ps (spM cl k nn g)) (hr:j3 kk X.A) (hj:kj+1<=kk) (gl:Gl X c) (mg:X.mg c=some (.ref C)) (bd:L2.Binds X.K fd ps []) (hp:Zu (CX1 X.prog X.w) X Y.E) (ha:We X Y (a :: es) ga) (hb:We X Y [b,d] gb)
  (hs:swappedStores [.Tuple [.Name x px,.Name y py,.Name z pz] kt pt] (.Tuple [.Call (.Name c pc) (a :: es) [] pos',b,d] k2 pt2) X.env=pure (some [x,y,z])) (hd:(c == ("__debug__":Str))=false:=by decide) (hst:starEach (a :: es) X.env=(false,eval a X.env) :: starEach es X.env:=by exact zX rfl) (hpl:((backTo pos' (starEach es X.env)).any λx=>x.fst)=false:=by exact ZB rfl)
  (hw:swapsWithSole [.Tuple [.Name x px,.Name y py,.Name z pz] kt pt] (.Tuple [.Call (.Name c pc) (a :: es) [] pos',b,d] k2 pt2) pos.line X.env=pure false:=by rfl) (hs3:starEach [.Call (.Name c pc) (a :: es) [] pos',b,d] X.env=(false,eval (.Call (.Name c pc) (a :: es) [] pos') X.env) :: starEach [b,d] X.env:=by exact zX rfl):
  jO X Y (.Assign [.Tuple [.Name x px,.Name y py,.Name z pz] kt pt] (.Tuple [.Call (.Name c pc) (a :: es) [] pos',b,d] k2 pt2) pos) (yt i i2 i3 q (mkA q j k nn g ga) gb):= .mk λρ=>by
 have hrest:PA X [b,d] (match mkA q j k nn g ga ρ with | .ok ρ1=>tS Y rCs gb ρ1 | _=>λ_ _ _=>False):=by
  cases mkA q j k nn g ga ρ with
  | ok ρ1=>exact hb ρ1
  | ex c=>exact λ_ _ _ _ _ _ _ h=>h.elim
  | bad=>exact λ_ _ _ _ _ _ _ h=>h.elim
 refine PS.imp (PySem.RW37.ps_par3 hc' hN hi hi2 hi3 hij hik hjk hx hy' hz (Xj (x9 M F (hr.mono hj) gl mg bd .nil hp (ha ρ) hd hst hpl) hrest hq hw' hs3) hs hw) λD σ H ⟨B,I,po⟩=> ?_;have nq:∀{i' :Nat} {x' :Str},X.N[i']? =some x' ->X.env.scope.names.lookup x' =some .local->q ≠ i' :=λh1 h2 e=>by
  subst e;rw[hq]at h1;cases h1;rw[hw']at h2;cases h2
 generalize em:mkA q j k nn g ga ρ=mr;unfold yt at po;rw[em]at po;have em' :=em;unfold mkA at em';refine⟨B,I, ?_⟩;cases eg:ga ρ with
 | bad=>rw[eg]at em';subst em';exact po
 | ex c=>rw[eg]at em';subst em';exact po
 | ok ts=>
  rw[eg]at em';intro vs H1 s1 r1;have I1:=I.grow s1;have po1:=po.up (zS.ge I.sB s1);have em' :(if ts.length=nn/\q ≠ j/\q < ρ.length then (match ρ[j]? with
   | some (.st os)=>(match g [] ts with
    | .ok (.non,fs)=> .ok ((ρ.set j (.st (os++[(k,fs)]))).set q (.ob k os.length))
    | .ex c=> .ex c
    | _=> .bad)
   | _=> .bad) else .bad:R En)=mr:=em'
  subst hy;split at em'
  ·rename_i hn;intro y0 dx h1 h2 h3;rw[aY];split at em'
   ·rename_i os ej;have sd:zy H1 (upd H1 dx (.own y0)):=zy.new h2 _;have hy0:upd H1 dx (.own y0) y0=none:=by rw[zv (aU h3)];exact h1
    refine⟨y0,vs,ts,_,upd H1 dx (.own y0),[],rfl,hn.1,I1.sB.trans sd,zy.new hy0 _,⟨C,dx,[],λ_=>some 0,hc,zC,I1.sB.free h1,hy0,rfl,⟨rfl,λ_ _=>rfl⟩,λm f d z=>by cases z⟩,r1, ?_⟩
    revert em';cases g [] ts with
    | bad=>exact λe=>by subst e;exact po1
    | ex c2=>exact λe=>by subst e;exact λd H' z1 z2=>po1 d H' ((I1.sH.trans sd).trans z1) z2
    | ok p=>
     obtain⟨t,fs2⟩:=p;cases t with
     | non=>
      intro e v H' B' z1 z2 z3 z4 z5 z6;cases z6;refine⟨rfl, ?_⟩;have em2:mr= .ok ((ρ.set j (.st (os++[(k,fs2)]))).set q (.ob k os.length)):=e.symm;subst em2;have S1:=I1.made (i:=q) ej hn.2.1 hn.2.2 sd z1 z2 z3 z4 z5;have po2:=po1.up z2;show tS Y rCs gb _ _ _ _;refine jr S1 po2 λus ws H3 _ s3 r3 I3 q3=> ?_;have hql:q < σ.length:=by rw[← I.len];exact hn.2.2
      have eq1:((ρ.set j (.st (os++[(k,fs2)]))).set q (.ob k os.length))[q]? =some (.ob k os.length):=aO (by rw[aI];exact hn.2.2)
      cases r3 with
      | nil=>exact q3.elim
      | cons r rr=>
       cases rr with
       | nil=>exact q3.elim
       | cons r' rr=>
        cases rr with
        | cons _ _=>exact q3.elim
        | nil=>
         rw[eq1]at q3;refine⟨_,_,_,rfl, ?_⟩;have J:=(((I3.cpO eq1 (aO hql) i).setV i2 r).setV i3 r').forget q σ[q];have es:∀A B:Option V,((((σ.set q (some (V.ref y0))).set i (some (V.ref y0))).set i2 A).set i3 B).set q σ[q]=((σ.set i (some (V.ref y0))).set i2 A).set i3 B:=λA B=>by
          rw[cq _ _ (nq hi3 hz).symm,cq _ _ (nq hi2 hy').symm,cq _ _ (nq hi hx).symm,Um (ag hql)]
         rw[es]at J;exact q3 _ _ _ (zy.refl _) J
     | _=>exact λe=>by subst e;exact po1.elim
   ·subst em';exact po1.elim
  ·subst em';exact po1.elim
end
end PV
namespace PV
open PySem PySem.Spec PyProof.Rows L2
noncomputable def z26 (ft:En->R Bool)(fa fb:En->R (T×En)):En->R (T×En):=λρ=>(ft ρ).bind λc=>if c=true then fa ρ else fb ρ
theorem m_if {X:Cx}{Y:Fx}{a b c:Expr}{pos:Pos}{ft:En->R Bool}{fa fb:En->R (T×En)}(hc:Wd X Y c ft)(ha:JK X Y a fa)(hb:JK X Y b fb):JK X Y (.IfExp c a b pos) (z26 ft fa fb):= .mk λρ=>
 PE.imp (uU (hc ρ) (ha.go ρ) (hb.go ρ)) λσ H Q ⟨B,I,q⟩=>Xg I q λt v H1 _ s1 r1 I1 q1=>by
  have r1:v=t:=r1;subst r1;cases v with
  | true=>exact⟨_,I1,q1⟩
  | false=>exact⟨_,I1,q1⟩
end PV
namespace G
open PySem PySem.Spec PyProof.Rows L2 PV
noncomputable def b_1u:En->RS:=
  zz (ifS (zF ltC (vB 1) (ap1 Zo (vB 0))) (zE (zb ixT (vE 0) (vE 1))) (nxS))
  (zz (ifS (zF eqC (vB 0) (ZT (zj))) (zE (cE (.int 0))) (nxS))
  (zE (zb zD (zb zY (zb ixT (vE 0) (zb j5 (vE 1) (ap1 Zo (vB 0)))) (cE (.int 31))) (vE 1))))
noncomputable def gM:List T->R T:=λts=>zu (b_1u  (en0 2 ts))
noncomputable def b_2 (c_1u:List T->R T):En->RS:=
  zz (zJ 3 (zb j5 (zb zY (zb zD (za 2 c_1u (z9 (vE 0) (z9 (vE 1) (zj)))) (zb zY (cE (.int 6151)) (zb zD (vE 1) (cE (.int 1))))) (cE (.int 40692))) (cE (.int 2147483399))))
  (zE (zb j5 (zb j5 (zb zD (zb zY (vE 3) (vE 3)) (zb JD (vE 3) (cE (.int 31)))) (cE (.int 2147483629))) (vE 2)))
noncomputable def f_2:List T->R T:=λts=>zu (b_2 (gM) (en0 4 ts))
noncomputable def GZ (c_2:List T->R T):En->RS:=
  zz (zJ 2 (cE (.str "abcdefghijklmnopqrstuvwxyz")))
  (zz (ifS (zF gtC (za 3 c_2 (z9 (vE 0) (z9 (vE 1) (z9 (cE (.int 6)) (zj))))) (cE (.int 0))) (zE (zb ixT (ZT (z9 (cE (.str "a")) (z9 (cE (.str "b")) (z9 (cE (.str "ab")) (z9 (cE (.str "cab")) (zj)))))) (za 3 c_2 (z9 (vE 0) (z9 (zb zD (vE 1) (cE (.int 1))) (z9 (cE (.int 4)) (zj))))))) (nxS))
  (zE (ap1 (KI "") (zW (ZC (zb zD (cE (.int 1)) (za 3 c_2 (z9 (vE 0) (z9 (zb zD (vE 1) (cE (.int 1))) (z9 (cE (.int 3)) (zj))))))) (zA 0) (Z1) (zb ixT (vE 3) (za 3 c_2 (z9 (vE 1) (z9 (zb zD (zb zD (vE 2) (cE (.int 2))) (vE 0)) (z9 (cE (.int 26)) (zj)))))) 1 [0,1,2]))))
noncomputable def km:List T->R T:=λts=>zu (GZ (f_2) (en0 3 ts))
noncomputable def z00 (c_2:List T->R T)(c_15:List T->R T):En->RS:=
  zz (ifS (zF gtC (za 3 c_2 (z9 (vE 0) (z9 (vE 1) (z9 (cE (.int 3)) (zj))))) (cE (.int 0))) (zz (zJ 2 (zb jA (za 3 c_2 (z9 (vE 0) (z9 (zb zD (vE 1) (cE (.int 1))) (z9 (cE (.int 7)) (zj))))) (cE (.int 3))))
  (zz (ifS (zF eqC (za 3 c_2 (z9 (vE 0) (z9 (zb zD (vE 1) (cE (.int 3))) (z9 (cE (.int 8)) (zj))))) (cE (.int 0))) (zJ 2 (zb ixT (ZT (z9 (Wf (cE (.int 20))) (z9 (cE (.int 17)) (z9 (cE (.int 20)) (zj))))) (za 3 c_2 (z9 (vE 0) (z9 (zb zD (vE 1) (cE (.int 4))) (z9 (cE (.int 3)) (zj))))))) (nxS))
  (zE (Zh (z9 (cE (.str "whole")) (z9 (vE 2) (z9 (zb Yq (cE (.int 20)) (zb zD (vE 2) (za 3 c_2 (z9 (vE 0) (z9 (zb zD (vE 1) (cE (.int 2))) (z9 (cE (.int 4)) (zj))))))) (zj)))))))) (nxS))
  (zz (yI 3 (zj))
  (zz (ZV (ZC (zb zD (cE (.int 1)) (za 3 c_2 (z9 (vE 0) (z9 (zb zD (vE 1) (cE (.int 1))) (z9 (cE (.int 4)) (zj))))))) (zA 4) (zz (zJ 5 (za 2 c_15 (z9 (vE 0) (z9 (zb zD (zb zD (vE 1) (cE (.int 5))) (zb zY (cE (.int 5)) (vE 4))) (zj)))))
  (ifS (zF v6 (vB 5) (vB 3)) (vc 3 (vE 5)) (nxS))))
  (zE (Zh (z9 (cE (.str "pick")) (z9 (ap1 GR (zW (xO (vE 3)) (Z3 0 1) (Z1) (Zh (z9 (vE 1) (z9 (zb zD (cE (.int 1)) (za 3 c_2 (z9 (vE 2) (z9 (zb zD (zb zD (vE 3) (cE (.int 30))) (vE 0)) (z9 (cE (.int 20)) (zj)))))) (zj)))) 2 [0,1])) (zj)))))))
noncomputable def gN:List T->R T:=λts=>zu (z00 (f_2) (km) (en0 6 ts))
noncomputable def b_h (c_2:List T->R T)(c_1a:List T->R T)(c_h:List T->R T):En->RS:=
  zz (zJ 3 (za 3 c_2 (z9 (vE 0) (z9 (vE 1) (z9 (cE (.int 5)) (zj))))))
  (zz (ifS (orT (zF eqC (vB 2) (cE (.int 1))) (zF ltC (vB 3) (cE (.int 2)))) (zE (za 2 c_1a (z9 (vE 0) (z9 (zb zD (vE 1) (cE (.int 1))) (zj))))) (nxS))
  (zz (ifS (zF ltC (vB 3) (cE (.int 4))) (zz (zJ 4 (zW (ZC (zb zD (cE (.int 1)) (za 3 c_2 (z9 (vE 0) (z9 (zb zD (vE 1) (cE (.int 1))) (z9 (cE (.int 3)) (zj))))))) (zA 0) (Z1) (za 3 c_h (z9 (vE 1) (z9 (zb zD (zb zD (zb zY (cE (.int 3)) (vE 2)) (cE (.int 40))) (zb zY (cE (.int 50)) (vE 0))) (z9 (zb jA (vE 3) (cE (.int 1))) (zj))))) 1 [0,1,2]))
  (zE (Zh (z9 (cE (.str "row")) (z9 (ap1 GR (vE 4)) (zj)))))) (nxS))
  (zz (zJ 5 (za 3 c_2 (z9 (vE 0) (z9 (zb zD (vE 1) (cE (.int 1))) (z9 (cE (.int 3)) (zj))))))
  (zE (Zh (z9 (cE (.str "many")) (z9 (za 3 c_h (z9 (vE 0) (z9 (zb zD (zb zY (cE (.int 3)) (vE 1)) (cE (.int 40))) (z9 (zb jA (vE 2) (cE (.int 1))) (zj))))) (z9 (vE 5) (z9 (zb Yq (cE (.int 3)) (zb zD (vE 5) (za 3 c_2 (z9 (vE 0) (z9 (zb zD (vE 1) (cE (.int 2))) (z9 (cE (.int 3)) (zj))))))) (zj))))))))))
noncomputable def S_h:Nat->Nat->List T->R T
 | 0,_=>λ_=> .bad
 | n+1,_=>λts=>zu (b_h (f_2) (gN) (S_h n 0) (en0 6 ts))
noncomputable abbrev f_h (n:Nat):List T->R T:=S_h n 0
noncomputable def b_c:En->RS:=
  zz (zJ 1 (ZT (z9 (Zh (zj)) (zj))))
  (zz (ZV (ZJ (vE 0)) (zA 2) (zz (yI 3 (zj))
  (zz (ZV (ZJ (vE 1)) (zA 4) (Qu 3 (zW (ZJ (vE 2)) (zA 0) (Z1) (zb zD (vE 1) (Zh (z9 (vE 0) (zj)))) 1 [4])))
  (mvS 1 3))))
  (zE (vE 1)))
noncomputable def f_c:List T->R T:=λts=>zu (b_c  (en0 5 ts))
noncomputable def b_4 (c_4:List T->R T)(c_c:List T->R T):En->RS:=
  zz (ifS (zF eqC (zb ixT (vE 0) (cE (.int 0))) (cE (.str "whole"))) (zE (GV (Ji (zb ixT (vE 0) (cE (.int 1))) (zb zD (zb ixT (vE 0) (cE (.int 2))) (cE (.int 1)))))) (nxS))
  (zz (ifS (zF eqC (zb ixT (vE 0) (cE (.int 0))) (cE (.str "pick"))) (zE (zW (ZJ (zb ixT (vE 0) (cE (.int 1)))) (Z3 0 1) (Z1) (vE 0) 2 [])) (nxS))
  (zz (ifS (zF eqC (zb ixT (vE 0) (cE (.int 0))) (cE (.str "row"))) (zE (za 1 c_c (z9 (zW (ZJ (zb ixT (vE 0) (cE (.int 1)))) (zA 0) (Z1) (za 1 c_4 (z9 (vE 0) (zj))) 1 []) (zj)))) (nxS))
  (zz (yI 1 (zj))
  (zz (ZV (Ji (zb ixT (vE 0) (cE (.int 2))) (zb zD (zb ixT (vE 0) (cE (.int 3))) (cE (.int 1)))) (zA 2) (Qu 1 (za 1 c_c (z9 (zb zY (ZT (z9 (za 1 c_4 (z9 (zb ixT (vE 0) (cE (.int 1))) (zj))) (zj))) (vE 2)) (zj)))))
  (zE (vE 1))))))
noncomputable def S_4:Nat->Nat->List T->R T
 | 0,_=>λ_=> .bad
 | n+1,_=>λts=>zu (b_4 (S_4 n 0) (f_c) (en0 3 ts))
noncomputable abbrev f_4 (n:Nat):List T->R T:=S_4 n 0
noncomputable def b_b (c_4:List T->R T)(c_b:List T->R T):En->RS:=
  zz (ifS (zF inC (zb ixT (vE 0) (cE (.int 0))) (Zh (z9 (cE (.str "whole")) (z9 (cE (.str "pick")) (zj))))) (zE (ap1 Zo (za 1 c_4 (z9 (vE 0) (zj))))) (nxS))
  (zz (zJ 1 (ifE (zF eqC (zb ixT (vE 0) (cE (.int 0))) (cE (.str "row"))) (zW (ZJ (zb ixT (vE 0) (cE (.int 1)))) (zA 0) (Z1) (za 1 c_b (z9 (vE 0) (zj))) 1 []) (ZT (zj))))
  (zz (zJ 2 (cE (.int 1)))
  (zz (ZV (ZJ (vE 1)) (zA 3) (zJ 2 (zb zY (vE 2) (vE 3))))
  (zz (ifS (zF eqC (zb ixT (vE 0) (cE (.int 0))) (cE (.str "many"))) (zz (zJ 4 (za 1 c_b (z9 (zb ixT (vE 0) (cE (.int 1))) (zj))))
  (zz (zJ 2 (zb zD (ap1 Wh (ZL eqC (zb ixT (vE 0) (cE (.int 2))) (cE (.int 0)))) (zb zY (vE 4) (ap1 Wh (chE leC leC (zb ixT (vE 0) (cE (.int 2))) (cE (.int 1)) (zb ixT (vE 0) (cE (.int 3))))))))
  (zz (zJ 2 (zb zD (vE 2) (zb zY (zb zY (vE 4) (vE 4)) (ap1 Wh (chE leC leC (zb ixT (vE 0) (cE (.int 2))) (cE (.int 2)) (zb ixT (vE 0) (cE (.int 3))))))))
  (zJ 2 (zb zD (vE 2) (zb zY (zb zY (zb zY (vE 4) (vE 4)) (vE 4)) (ap1 Wh (ZL eqC (zb ixT (vE 0) (cE (.int 3))) (cE (.int 3)))))))))) (nxS))
  (zE (vE 2))))))
noncomputable def S_b:Nat->Nat->List T->R T
 | 0,_=>λ_=> .bad
 | n+1,_=>λts=>zu (b_b (f_4 8) (S_b n 0) (en0 5 ts))
noncomputable abbrev f_b (n:Nat):List T->R T:=S_b n 0
noncomputable def z01 (c_h:List T->R T)(c_b:List T->R T):En->RS:=
  zz (zJ 3 (za 3 c_h (z9 (vE 0) (z9 (vE 1) (z9 (cE (.int 3)) (zj))))))
  (zz (ZV (ZC (cE (.int 3))) (zA 4) (zz (ifS (zF leC (za 1 c_b (z9 (vE 3) (zj))) (vB 2)) (zE (vE 3)) (nxS))
  (zJ 3 (za 3 c_h (z9 (vE 0) (z9 (zb zD (zb zD (vE 1) (cE (.int 500))) (zb zY (cE (.int 700)) (vE 4))) (z9 (cE (.int 2)) (zj))))))))
  (zE (ifE (zF leC (za 1 c_b (z9 (vE 3) (zj))) (vB 2)) (vE 3) (Zh (z9 (cE (.str "whole")) (z9 (Wf (cE (.int 1))) (z9 (cE (.int 2)) (zj))))))))
noncomputable def gO:List T->R T:=λts=>zu (z01 (f_h 8) (f_b 8) (en0 5 ts))
noncomputable def b_9:En->RS:=
  zE (j6 (ap1 (wM "int") (vB 0)) (Qs (ap1 (wM "bool") (vB 0))))
noncomputable def f_9:List T->R T:=λts=>zu (b_9  (en0 1 ts))
noncomputable def b_1w (c_9:List T->R T):En->RS:=
  zE (j6 (za 1 c_9 (z9 (vE 0) (zj))) (j6 (za 1 c_9 (z9 (vE 1) (zj))) (ch3E leC leC leC (vB 2) (vB 0) (vB 1) (vB 3))))
noncomputable def z02:List T->R T:=λts=>zu (b_1w (f_9) (en0 4 ts))
noncomputable def b_f:En->RS:=
  zE (j6 (ap1 (wM "tuple") (vB 0)) (chE leC leC (vB 1) (ap1 Zo (vB 0)) (vB 2)))
noncomputable def f_f:List T->R T:=λts=>zu (b_f  (en0 3 ts))
noncomputable def b_v:En->RS:=
  zz (ifS (orT (ue (Jk (ap1 (wM "str") (vB 0)))) (ue (chT leC leC (cE (.int 1)) (ap1 Zo (vB 0)) (cE (.int 3))))) (zE (cE (.bl false))) (nxS))
  (zE (ap1 Qt (zW (ZJ (vE 0)) (zA 0) (Z1) (chE leC leC (cE (.str "a")) (vB 0) (cE (.str "z"))) 1 [])))
noncomputable def f_v:List T->R T:=λts=>zu (b_v  (en0 1 ts))
noncomputable def z03 (c_9:List T->R T)(c_f:List T->R T)(c_v:List T->R T):En->RS:=
  zE (j6 (za 3 c_f (z9 (vE 0) (z9 (cE (.int 2)) (z9 (cE (.int 2)) (zj))))) (j6 (za 1 c_v (z9 (zb ixT (vE 0) (cE (.int 0))) (zj))) (j6 (za 1 c_9 (z9 (zb ixT (vE 0) (cE (.int 1))) (zj))) (chE leC leC (cE (.int 1)) (zb ixT (vE 0) (cE (.int 1))) (cE (.int 20))))))
noncomputable def Xl:List T->R T:=λts=>zu (z03 (f_9) (f_f) (f_v) (en0 1 ts))
noncomputable def z04 (c_f:List T->R T)(c_13:List T->R T):En->RS:=
  zz (ifS (orT (ue (Jk (za 3 c_f (z9 (vE 0) (z9 (cE (.int 1)) (z9 (cE (.int 4)) (zj))))))) (ue (Jk (ap1 Qt (zW (ZJ (vE 0)) (zA 0) (Z1) (za 1 c_13 (z9 (vE 0) (zj))) 1 []))))) (zE (cE (.bl false))) (nxS))
  (zz (zJ 1 (zW (ZJ (vE 0)) (zA 0) (Z1) (zb ixT (vE 0) (cE (.int 0))) 1 []))
  (zE (ZL eqC (ap1 vm (vB 1)) (ap1 Zo (vB 1)))))
noncomputable def gP:List T->R T:=λts=>zu (z04 (f_f) (Xl) (en0 2 ts))
noncomputable def b_8 (c_1w:List T->R T)(c_8:List T->R T)(c_1c:List T->R T)(c_1y:List T->R T):En->RS:=
  zz (ifS (orT (zF eqC (vB 1) (cE (.int 0))) (orT (ue (Jk (ap1 (wM "tuple") (vB 0)))) (zF eqC (ap1 Zo (vB 0)) (cE (.int 0))))) (zE (cE (.bl false))) (nxS))
  (zz (ifS (zF eqC (zb ixT (vE 0) (cE (.int 0))) (cE (.str "whole"))) (zE (j6 (ZL eqC (ap1 Zo (vB 0)) (cE (.int 3))) (za 4 c_1w (z9 (zb ixT (vE 0) (cE (.int 1))) (z9 (zb ixT (vE 0) (cE (.int 2))) (z9 (Wf (cE (.int 20))) (z9 (cE (.int 20)) (zj)))))))) (nxS))
  (zz (ifS (zF eqC (zb ixT (vE 0) (cE (.int 0))) (cE (.str "pick"))) (zE (j6 (ZL eqC (ap1 Zo (vB 0)) (cE (.int 2))) (za 1 c_1c (z9 (zb ixT (vE 0) (cE (.int 1))) (zj))))) (nxS))
  (zz (ifS (zF eqC (zb ixT (vE 0) (cE (.int 0))) (cE (.str "row"))) (zE (j6 (ZL eqC (ap1 Zo (vB 0)) (cE (.int 2))) (za 2 c_1y (z9 (zb ixT (vE 0) (cE (.int 1))) (z9 (zb jA (vE 1) (cE (.int 1))) (zj)))))) (nxS))
  (zz (ifS (zF eqC (zb ixT (vE 0) (cE (.int 0))) (cE (.str "many"))) (zE (j6 (ZL eqC (ap1 Zo (vB 0)) (cE (.int 4))) (j6 (za 4 c_1w (z9 (zb ixT (vE 0) (cE (.int 2))) (z9 (zb ixT (vE 0) (cE (.int 3))) (z9 (cE (.int 0)) (z9 (cE (.int 3)) (zj)))))) (za 2 c_8 (z9 (zb ixT (vE 0) (cE (.int 1))) (z9 (zb jA (vE 1) (cE (.int 1))) (zj))))))) (nxS))
  (zE (cE (.bl false)))))))
noncomputable def z05 (c_f:List T->R T)(c_8:List T->R T):En->RS:=
  zE (j6 (za 3 c_f (z9 (vE 0) (z9 (cE (.int 1)) (z9 (cE (.int 3)) (zj))))) (ap1 Qt (zW (ZJ (vE 0)) (zA 0) (Z1) (za 2 c_8 (z9 (vE 0) (z9 (vE 1) (zj)))) 1 [1])))
noncomputable def S_8:Nat->Nat->List T->R T
 | 0,_=>λ_=> .bad
 | n+1,0=>λts=>zu (b_8 (z02) (S_8 n 0) (gP) (S_8 n 1) (en0 2 ts))
 | n+1,_=>λts=>zu (z05 (f_f) (S_8 n 0) (en0 2 ts))
noncomputable abbrev f_8 (n:Nat):List T->R T:=S_8 n 0
noncomputable abbrev f_1y (n:Nat):List T->R T:=S_8 n 1
noncomputable def b_3 (c_8:List T->R T):En->RS:=
  zE (za 2 c_8 (z9 (vE 0) (z9 (cE (.int 3)) (zj))))
noncomputable def f_3:List T->R T:=λts=>zu (b_3 (f_8 20) (en0 1 ts))
noncomputable def b_u (c_3:List T->R T):En->RS:=
  ifS (ue (Jk (za 1 c_3 (z9 (vE 0) (zj))))) (KS) (nxS)
noncomputable def f_u:List T->R T:=λts=>zu (b_u (f_3) (en0 1 ts))
noncomputable def b_1 (c_w:List T->R T)(c_p:List T->R T):En->RS:=
  zz (ifS (zF eqC (zb ixT (vE 0) (cE (.int 0))) (cE (.str "whole"))) (zE (zb zD (zb jA (zb ixT (vE 0) (cE (.int 2))) (zb ixT (vE 0) (cE (.int 1)))) (cE (.int 1)))) (nxS))
  (zz (ifS (zF eqC (zb ixT (vE 0) (cE (.int 0))) (cE (.str "pick"))) (zE (ap1 Zo (zb ixT (vE 0) (cE (.int 1))))) (nxS))
  (zz (ifS (zF eqC (zb ixT (vE 0) (cE (.int 0))) (cE (.str "row"))) (zE (za 1 c_w (z9 (zb ixT (vE 0) (cE (.int 1))) (zj)))) (nxS))
  (zE (za 2 c_p (z9 (vE 0) (z9 (zb zD (zb ixT (vE 0) (cE (.int 3))) (cE (.int 1))) (zj)))))))
noncomputable def b_w (c_1:List T->R T):En->RS:=
  zz (zJ 1 (cE (.int 1)))
  (zz (ZV (ZJ (vE 0)) (zA 2) (zJ 1 (zb zY (vE 1) (za 1 c_1 (z9 (vE 2) (zj))))))
  (zE (vE 1)))
noncomputable def b_p (c_w:List T->R T):En->RS:=
  zE (ap1 X1 (zW (Ji (zb ixT (vE 0) (cE (.int 2))) (vE 1)) (zA 0) (Z1) (za 1 c_w (z9 (zb zY (ZT (z9 (zb ixT (vE 1) (cE (.int 1))) (zj))) (vE 0)) (zj))) 1 [0]))
noncomputable def S_1:Nat->Nat->List T->R T
 | 0,_=>λ_=> .bad
 | n+1,0=>λts=>zu (b_1 (S_1 n 1) (S_1 n 2) (en0 1 ts))
 | n+1,1=>λts=>zu (b_w (S_1 n 0) (en0 3 ts))
 | n+1,_=>λts=>zu (b_p (S_1 n 1) (en0 2 ts))
noncomputable abbrev f_1 (n:Nat):List T->R T:=S_1 n 0
noncomputable abbrev f_w (n:Nat):List T->R T:=S_1 n 1
noncomputable abbrev f_p (n:Nat):List T->R T:=S_1 n 2
noncomputable def b_q:En->RS:=
  zE (zW (ZJ (zb ixT (vE 0) (cE (.int 1)))) (zA 0) (Z1) (zb ixT (vE 0) (cE (.int 0))) 1 [])
noncomputable def f_q:List T->R T:=λts=>zu (b_q  (en0 1 ts))
noncomputable def b_7 (c_q:List T->R T)(c_1x:List T->R T)(c_z:List T->R T):En->RS:=
  zz (ifS (zF eqC (zb ixT (vE 0) (cE (.int 0))) (cE (.str "whole"))) (zE (zb zD (zb ixT (vE 0) (cE (.int 1))) (vE 1))) (nxS))
  (zz (ifS (zF eqC (zb ixT (vE 0) (cE (.int 0))) (cE (.str "pick"))) (zE (zb ixT (za 1 c_q (z9 (vE 0) (zj))) (vE 1))) (nxS))
  (zz (ifS (zF eqC (zb ixT (vE 0) (cE (.int 0))) (cE (.str "row"))) (zE (za 2 c_z (z9 (zb ixT (vE 0) (cE (.int 1))) (z9 (vE 1) (zj))))) (nxS))
  (zE (za 2 c_1x (z9 (vE 0) (z9 (vE 1) (zj)))))))
noncomputable def kn (c_p:List T->R T)(c_z:List T->R T):En->RS:=
  zz (zJ 2 (zb ixT (vE 0) (cE (.int 2))))
  (zz (Zv (zF leC (za 2 c_p (z9 (vE 0) (z9 (zb zD (vE 2) (cE (.int 1))) (zj)))) (vB 1)) (zJ 2 (zb zD (vE 2) (cE (.int 1)))) (8))
  (zE (za 2 c_z (z9 (zb zY (ZT (z9 (zb ixT (vE 0) (cE (.int 1))) (zj))) (vE 2)) (z9 (zb jA (vE 1) (za 2 c_p (z9 (vE 0) (z9 (vE 2) (zj))))) (zj))))))
noncomputable def b_z (c_1:List T->R T)(c_7:List T->R T):En->RS:=
  zz (yI 2 (zj))
  (zz (zJ 3 (vE 1))
  (zz (ZV (z1H (vE 0)) (zA 4) (zz (zJ 5 (za 1 c_1 (z9 (vE 4) (zj))))
  (zz (vc 2 (za 2 c_7 (z9 (vE 4) (z9 (zb j5 (vE 3) (vE 5)) (zj)))))
  (zJ 3 (zb JD (vE 3) (vE 5))))))
  (zE (ap1 vy (vE 2)))))
noncomputable def S_7:Nat->Nat->List T->R T
 | 0,_=>λ_=> .bad
 | n+1,0=>λts=>zu (b_7 (f_q) (S_7 n 1) (S_7 n 2) (en0 2 ts))
 | n+1,1=>λts=>zu (kn (f_p 20) (S_7 n 2) (en0 3 ts))
 | n+1,_=>λts=>zu (b_z (f_1 20) (S_7 n 0) (en0 6 ts))
noncomputable abbrev f_7 (n:Nat):List T->R T:=S_7 n 0
noncomputable abbrev f_1x (n:Nat):List T->R T:=S_7 n 1
noncomputable abbrev f_z (n:Nat):List T->R T:=S_7 n 2
noncomputable def b_y (c_u:List T->R T)(c_1:List T->R T)(c_7:List T->R T):En->RS:=
  zz (WB (za 1 c_u (z9 (vE 0) (zj))))
  (zz (zJ 1 (za 1 c_1 (z9 (vE 0) (zj))))
  (zz (ifS (zF gtC (vB 1) (cE (.int 500))) (KS) (nxS))
  (GW (ZC (vE 1)) (zA 0) (Z1) (za 2 c_7 (z9 (vE 1) (z9 (vE 0) (zj)))) 1 [0])))
noncomputable def f_y:List T->R T:=λts=>zu (b_y (f_u) (f_1 20) (f_7 20) (en0 2 ts))
noncomputable def z06 (c_y:List T->R T):En->R (T×En):=
  jC (stF 101 0 2 "kind" (vE 1))
  (jC (Qy 101 0 2 "remaining" (z9 (za 1 c_y (z9 (vE 1) (zj))) (zj)))
  (jC (Qy 101 0 2 "done" (zj))
  (jC (Qy 101 0 2 "undone" (zj))
  (z1S))))
noncomputable def Xm:List (Str×Fd)->List T->R (T×List (Str×Fd)):=λfs ts=>jY 101 2 (z06 (f_y) (enM 101 2 fs ts))
noncomputable def b_x:En->R (T×En):=
  uf (ap1 z21 (ixF 101 0 1 "remaining" (Wf (cE (.int 1)))))
noncomputable def f_x:List (Str×Fd)->List T->R (T×List (Str×Fd)):=λfs ts=>jY 101 1 (b_x  (enM 101 1 fs ts))
noncomputable def z07:En->RS:=
  zz (Zv (zF neC (vB 1) (cE (.int 0))) (zz (zJ 2 (zb j5 (vE 0) (vE 1)))
  (zz (zJ 0 (vE 1))
  (zJ 1 (vE 2)))) (2 ^ 9000))
  (zE (vE 0))
noncomputable def gQ:List T->R T:=λts=>zu (z07  (en0 3 ts))
noncomputable def b_o (c_19:List T->R T):En->RS:=
  zz (zJ 2 (za 2 c_19 (z9 (ap1 GX (vB 0)) (z9 (vE 1) (zj)))))
  (zE (Zh (z9 (zb Vs (vE 0) (vE 2)) (z9 (zb Vs (vE 1) (vE 2)) (zj)))))
noncomputable def f_o:List T->R T:=λts=>zu (b_o (gQ) (en0 3 ts))
noncomputable def b_g (c_o:List T->R T):En->RS:=
  zE (za 2 c_o (z9 (zb zD (zb mlT (zb ixT (vE 0) (cE (.int 0))) (zb ixT (vE 1) (cE (.int 1)))) (zb mlT (zb ixT (vE 1) (cE (.int 0))) (zb ixT (vE 0) (cE (.int 1))))) (z9 (zb mlT (zb ixT (vE 0) (cE (.int 1))) (zb ixT (vE 1) (cE (.int 1)))) (zj))))
noncomputable def f_g:List T->R T:=λts=>zu (b_g (f_o) (en0 2 ts))
noncomputable def b_i (c_g:List T->R T):En->RS:=
  zz (zJ 1 (Zh (z9 (cE (.int 0)) (z9 (cE (.int 1)) (zj)))))
  (zz (ZV (ZJ (vE 0)) (zA 2) (zJ 1 (za 2 c_g (z9 (vE 1) (z9 (vE 2) (zj))))))
  (zE (vE 1)))
noncomputable def f_i:List T->R T:=λts=>zu (b_i (f_g) (en0 3 ts))
noncomputable def z08 (c_o:List T->R T):En->RS:=
  vD 1 (zb ixT (vE 0) (cE (.int 1))) c_o
noncomputable def z09:List T->R T:=λts=>zu (z08 (f_o) (en0 3 ts))
noncomputable def b_s (c_o:List T->R T):En->RS:=
  zE (za 2 c_o (z9 (zb mlT (zb ixT (vE 0) (cE (.int 0))) (zb ixT (vE 1) (cE (.int 0)))) (z9 (zb mlT (zb ixT (vE 0) (cE (.int 1))) (zb ixT (vE 1) (cE (.int 1)))) (zj))))
noncomputable def f_s:List T->R T:=λts=>zu (b_s (f_o) (en0 2 ts))
noncomputable def b_6 (c_1:List T->R T)(c_s:List T->R T)(c_1j:List T->R T)(c_1q:List T->R T):En->RS:=
  zz (ifS (zF eqC (zb ixT (vE 0) (cE (.int 0))) (cE (.str "whole"))) (zE (Zh (z9 (cE (.int 1)) (z9 (za 1 c_1 (z9 (vE 0) (zj))) (zj))))) (nxS))
  (zz (ifS (zF eqC (zb ixT (vE 0) (cE (.int 0))) (cE (.str "pick"))) (zE (za 2 c_1j (z9 (vE 0) (z9 (vE 1) (zj))))) (nxS))
  (zz (ifS (zF eqC (zb ixT (vE 0) (cE (.int 0))) (cE (.str "row"))) (zE (za 2 c_1q (z9 (zb ixT (vE 0) (cE (.int 1))) (z9 (vE 1) (zj))))) (nxS))
  (zz (zJ 2 (Zh (z9 (cE (.int 1)) (z9 (zb zD (zb jA (zb ixT (vE 0) (cE (.int 3))) (zb ixT (vE 0) (cE (.int 2)))) (cE (.int 1))) (zj)))))
  (zE (za 2 c_s (z9 (vE 2) (z9 (za 2 c_1q (z9 (zb zY (ZT (z9 (zb ixT (vE 0) (cE (.int 1))) (zj))) (ap1 Zo (vB 1))) (z9 (vE 1) (zj)))) (zj))))))))
noncomputable def gR (c_s:List T->R T)(c_6:List T->R T):En->RS:=
  zz (zJ 2 (Zh (z9 (cE (.int 1)) (z9 (cE (.int 1)) (zj)))))
  (zz (ZV (Vp (vE 0) (vE 1)) (Z3 3 4) (zJ 2 (za 2 c_s (z9 (vE 2) (z9 (za 2 c_6 (z9 (vE 3) (z9 (vE 4) (zj)))) (zj))))))
  (zE (vE 2)))
noncomputable def S_6:Nat->Nat->List T->R T
 | 0,_=>λ_=> .bad
 | n+1,0=>λts=>zu (b_6 (f_1 20) (f_s) (z09) (S_6 n 1) (en0 3 ts))
 | n+1,_=>λts=>zu (gR (f_s) (S_6 n 0) (en0 5 ts))
noncomputable abbrev f_6 (n:Nat):List T->R T:=S_6 n 0
noncomputable abbrev f_1q (n:Nat):List T->R T:=S_6 n 1
noncomputable def z0a (c_i:List T->R T)(c_6:List T->R T):En->RS:=
  zE (za 1 c_i (z9 (zW (ZJ (vE 1)) (zA 0) (Z1) (za 2 c_6 (z9 (vE 1) (z9 (vE 0) (zj)))) 1 [0]) (zj)))
noncomputable def z0b:List T->R T:=λts=>zu (z0a (f_i) (f_6 20) (en0 2 ts))
noncomputable def b_17 (c_1i:List T->R T):En->R (T×En):=
  uf (za 2 c_1i (z9 (ki 101 0 1 "kind") (z9 (ixF 101 0 1 "remaining" (Wf (cE (.int 1)))) (zj))))
noncomputable def Xn:List (Str×Fd)->List T->R (T×List (Str×Fd)):=λfs ts=>jY 101 1 (b_17 (z0b) (enM 101 1 fs ts))
noncomputable def b_10:En->R (T×En):=
  uf (ki 101 0 1 "kind")
noncomputable def Vx:List (Str×Fd)->List T->R (T×List (Str×Fd)):=λfs ts=>jY 101 1 (b_10  (enM 101 1 fs ts))
noncomputable def b_m (c_2:List T->R T)(c_m:List T->R T):En->RS:=
  zz (zJ 3 (za 3 c_2 (z9 (vE 0) (z9 (vE 1) (z9 (cE (.int 9)) (zj))))))
  (zz (ifS (Kj (zF gtC (vB 2) (cE (.int 1))) (zF gtC (vB 3) (cE (.int 5)))) (zz (zJ 4 (za 3 c_m (z9 (vE 0) (z9 (zb zD (zb zY (cE (.int 2)) (vE 1)) (cE (.int 11))) (z9 (zb jA (vE 2) (cE (.int 1))) (zj))))))
  (zz (ifS (zF eqC (vB 3) (cE (.int 6))) (zE (Zh (z9 (cE (.str "no")) (z9 (vE 4) (zj))))) (nxS))
  (zE (Zh (z9 (zb ixT (ZT (z9 (cE (.str "all")) (z9 (cE (.str "some")) (zj)))) (zb jA (vE 3) (cE (.int 7)))) (z9 (vE 4) (z9 (za 3 c_m (z9 (vE 0) (z9 (zb zD (zb zY (cE (.int 2)) (vE 1)) (cE (.int 24))) (z9 (zb jA (vE 2) (cE (.int 1))) (zj))))) (zj)))))))) (nxS))
  (zz (zJ 5 (zb jA (za 3 c_2 (z9 (vE 0) (z9 (zb zD (vE 1) (cE (.int 1))) (z9 (cE (.int 9)) (zj))))) (cE (.int 4))))
  (zz (ifS (zF ltC (zb j5 (vE 3) (cE (.int 6))) (cE (.int 2))) (zE (Zh (z9 (cE (.str "sum")) (z9 (vE 5) (z9 (zb jA (zb zD (vE 5) (za 3 c_2 (z9 (vE 0) (z9 (zb zD (vE 1) (cE (.int 2))) (z9 (cE (.int 5)) (zj)))))) (cE (.int 1))) (zj)))))) (nxS))
  (zz (ifS (zF eqC (zb j5 (vE 3) (cE (.int 6))) (cE (.int 2))) (zE (Zh (z9 (cE (.str "size")) (z9 (za 3 c_2 (z9 (vE 0) (z9 (zb zD (vE 1) (cE (.int 1))) (z9 (cE (.int 3)) (zj))))) (z9 (za 3 c_2 (z9 (vE 0) (z9 (zb zD (vE 1) (cE (.int 2))) (z9 (cE (.int 4)) (zj))))) (zj)))))) (nxS))
  (zz (ifS (zF eqC (zb j5 (vE 3) (cE (.int 6))) (cE (.int 3))) (zE (Zh (z9 (cE (.str "word")) (z9 (zb ixT (ZT (z9 (cE (.str "a")) (z9 (cE (.str "b")) (z9 (cE (.str "ab")) (z9 (cE (.str "zz")) (zj)))))) (za 3 c_2 (z9 (vE 0) (z9 (zb zD (vE 1) (cE (.int 1))) (z9 (cE (.int 4)) (zj)))))) (zj))))) (nxS))
  (zE (ifE (zF eqC (zb j5 (vE 3) (cE (.int 6))) (cE (.int 4))) (Zh (z9 (cE (.str "rising")) (zj))) (Zh (z9 (cE (.str "unlike")) (zj))))))))))
noncomputable def S_m:Nat->Nat->List T->R T
 | 0,_=>λ_=> .bad
 | n+1,_=>λts=>zu (b_m (f_2) (S_m n 0) (en0 6 ts))
noncomputable abbrev f_m (n:Nat):List T->R T:=S_m n 0
noncomputable def z0c (c_2:List T->R T)(c_m:List T->R T):En->RS:=
  zE (Zh (z9 (zb ixT (ZT (z9 (cE (.str "keep")) (z9 (cE (.str "bar")) (zj)))) (za 3 c_2 (z9 (vE 0) (z9 (vE 1) (z9 (cE (.int 2)) (zj)))))) (z9 (za 3 c_m (z9 (vE 0) (z9 (zb zD (zb zY (cE (.int 4)) (vE 1)) (cE (.int 30))) (z9 (cE (.int 2)) (zj))))) (zj))))
noncomputable def ko:List T->R T:=λts=>zu (z0c (f_2) (f_m 8) (en0 2 ts))
noncomputable def b_l (c_l:List T->R T):En->RS:=
  zz (ifS (ue (Jk (ap1 (wM "tuple") (vB 0)))) (zE (ZT (z9 (vE 0) (zj)))) (nxS))
  (zz (zJ 1 (ZT (zj)))
  (zz (ZV (ZJ (vE 0)) (zA 2) (zJ 1 (zb zD (vE 1) (za 1 c_l (z9 (vE 2) (zj))))))
  (zE (vE 1))))
noncomputable def S_l:Nat->Nat->List T->R T
 | 0,_=>λ_=> .bad
 | n+1,_=>λts=>zu (b_l (S_l n 0) (en0 3 ts))
noncomputable abbrev f_l (n:Nat):List T->R T:=S_l n 0
noncomputable def b_d (c_l:List T->R T)(c_d:List T->R T):En->RS:=
  zz (zJ 2 (zW (ZJ (za 1 c_l (z9 (vE 1) (zj)))) (zA 0) (Jk (ap1 (wM "int") (vB 0))) (vE 0) 1 []))
  (zz (zJ 3 (ifE (Jk (ap1 (wM "tuple") (vB 1))) (vE 1) (Zh (z9 (vE 1) (zj)))))
  (zz (ifS (zF eqC (zb ixT (vE 0) (cE (.int 0))) (cE (.str "sum"))) (zz (zJ 4 (cE (.int 0)))
  (zz (ZV (ZJ (vE 2)) (zA 5) (zJ 4 (zb zD (vE 4) (vE 5))))
  (zE (j6 (ZL leC (zb ixT (vE 0) (cE (.int 1))) (vB 4)) (ZL leC (vB 4) (zb ixT (vE 0) (cE (.int 2)))))))) (nxS))
  (zz (ifS (zF eqC (zb ixT (vE 0) (cE (.int 0))) (cE (.str "size"))) (zE (j6 (ZL geC (ap1 Zo (vB 3)) (zb ixT (vE 0) (cE (.int 1)))) (ZL leC (ap1 Zo (vB 3)) (zb ixT (vE 0) (cE (.int 2)))))) (nxS))
  (zz (ifS (zF eqC (zb ixT (vE 0) (cE (.int 0))) (cE (.str "word"))) (zE (ZL neC (zW (ZJ (za 1 c_l (z9 (vE 1) (zj)))) (zA 0) (zF eqC (vB 0) (zb ixT (vE 1) (cE (.int 1)))) (vE 0) 1 [0]) (ZT (zj)))) (nxS))
  (zz (ifS (zF eqC (zb ixT (vE 0) (cE (.int 0))) (cE (.str "rising"))) (zE (ZL eqC (vB 2) (ap1 vz (vB 2)))) (nxS))
  (zz (ifS (zF eqC (zb ixT (vE 0) (cE (.int 0))) (cE (.str "unlike"))) (zE (ZL eqC (zW (ZC (ap1 Zo (vB 3))) (zA 0) (zF inC (zb ixT (vE 1) (vE 0)) (slE (vE 1) (noO) (jT (vE 0)))) (vE 0) 1 [3]) (ZT (zj)))) (nxS))
  (zz (ifS (zF eqC (zb ixT (vE 0) (cE (.int 0))) (cE (.str "no"))) (zE (Qs (za 2 c_d (z9 (zb ixT (vE 0) (cE (.int 1))) (z9 (vE 1) (zj)))))) (nxS))
  (zz (zJ 6 (zW (ZJ (slE (vE 0) (jT (cE (.int 1))) (noO))) (zA 0) (Z1) (za 2 c_d (z9 (vE 0) (z9 (vE 1) (zj)))) 1 [1]))
  (zE (ifE (zF eqC (zb ixT (vE 0) (cE (.int 0))) (cE (.str "all"))) (j6 (zb ixT (vE 6) (cE (.int 0))) (zb ixT (vE 6) (cE (.int 1)))) (orE (zb ixT (vE 6) (cE (.int 0))) (zb ixT (vE 6) (cE (.int 1))))))))))))))
noncomputable def S_d:Nat->Nat->List T->R T
 | 0,_=>λ_=> .bad
 | n+1,_=>λts=>zu (b_d (f_l 8) (S_d n 0) (en0 7 ts))
noncomputable abbrev f_d (n:Nat):List T->R T:=S_d n 0
noncomputable def z0d (c_d:List T->R T):En->RS:=
  zE (zW (ZJ (vE 0)) (zA 0) (zF eqC (za 2 c_d (z9 (zb ixT (vE 1) (cE (.int 1))) (z9 (vE 0) (zj)))) (ZL eqC (zb ixT (vE 1) (cE (.int 0))) (cE (.str "keep")))) (vE 0) 1 [1])
noncomputable def ku:List T->R T:=λts=>zu (z0d (f_d 8) (en0 2 ts))
noncomputable def z0e (c_9:List T->R T):En->RS:=
  zE (j6 (za 1 c_9 (z9 (vE 0) (zj))) (chE leC leC (Wf (cE (.int 50))) (vB 0) (cE (.int 50))))
noncomputable def z0f:List T->R T:=λts=>zu (z0e (f_9) (en0 1 ts))
noncomputable def b_n (c_v:List T->R T)(c_n:List T->R T)(c_1g:List T->R T):En->RS:=
  zz (ifS (orT (zF eqC (vB 1) (cE (.int 0))) (orT (ue (Jk (ap1 (wM "tuple") (vB 0)))) (zF eqC (ap1 Zo (vB 0)) (cE (.int 0))))) (zE (cE (.bl false))) (nxS))
  (zz (ifS (orT (zF eqC (zb ixT (vE 0) (cE (.int 0))) (cE (.str "sum"))) (zF eqC (zb ixT (vE 0) (cE (.int 0))) (cE (.str "size")))) (zE (j6 (ZL eqC (ap1 Zo (vB 0)) (cE (.int 3))) (j6 (za 1 c_1g (z9 (zb ixT (vE 0) (cE (.int 1))) (zj))) (za 1 c_1g (z9 (zb ixT (vE 0) (cE (.int 2))) (zj)))))) (nxS))
  (zz (ifS (zF eqC (zb ixT (vE 0) (cE (.int 0))) (cE (.str "word"))) (zE (j6 (ZL eqC (ap1 Zo (vB 0)) (cE (.int 2))) (za 1 c_v (z9 (zb ixT (vE 0) (cE (.int 1))) (zj))))) (nxS))
  (zz (ifS (orT (zF eqC (zb ixT (vE 0) (cE (.int 0))) (cE (.str "rising"))) (zF eqC (zb ixT (vE 0) (cE (.int 0))) (cE (.str "unlike")))) (zE (ZL eqC (ap1 Zo (vB 0)) (cE (.int 1)))) (nxS))
  (zz (ifS (zF eqC (zb ixT (vE 0) (cE (.int 0))) (cE (.str "no"))) (zE (j6 (ZL eqC (ap1 Zo (vB 0)) (cE (.int 2))) (za 2 c_n (z9 (zb ixT (vE 0) (cE (.int 1))) (z9 (zb jA (vE 1) (cE (.int 1))) (zj)))))) (nxS))
  (zz (ifS (orT (zF eqC (zb ixT (vE 0) (cE (.int 0))) (cE (.str "all"))) (zF eqC (zb ixT (vE 0) (cE (.int 0))) (cE (.str "some")))) (zE (j6 (ZL eqC (ap1 Zo (vB 0)) (cE (.int 3))) (j6 (za 2 c_n (z9 (zb ixT (vE 0) (cE (.int 1))) (z9 (zb jA (vE 1) (cE (.int 1))) (zj)))) (za 2 c_n (z9 (zb ixT (vE 0) (cE (.int 2))) (z9 (zb jA (vE 1) (cE (.int 1))) (zj))))))) (nxS))
  (zE (cE (.bl false))))))))
noncomputable def S_n:Nat->Nat->List T->R T
 | 0,_=>λ_=> .bad
 | n+1,_=>λts=>zu (b_n (f_v) (S_n n 0) (z0f) (en0 2 ts))
noncomputable abbrev f_n (n:Nat):List T->R T:=S_n n 0
noncomputable def b_a (c_n:List T->R T):En->RS:=
  zE (za 2 c_n (z9 (vE 0) (z9 (cE (.int 3)) (zj))))
noncomputable def f_a:List T->R T:=λts=>zu (b_a (f_n 8) (en0 1 ts))
noncomputable def z0g (c_a:List T->R T):En->RS:=
  ifS (ue (Jk (za 1 c_a (z9 (vE 0) (zj))))) (KS) (nxS)
noncomputable def gS:List T->R T:=λts=>zu (z0g (f_a) (en0 1 ts))
noncomputable def b_r:En->R (T×En):=
  uf (ap1 Zo (ixF 101 0 1 "remaining" (Wf (cE (.int 1)))))
noncomputable def f_r:List (Str×Fd)->List T->R (T×List (Str×Fd)):=λfs ts=>jY 101 1 (b_r  (enM 101 1 fs ts))
noncomputable def b_j (c_j:List T->R T):En->RS:=
  zz (ifS (ue (Jk (ap1 (wM "tuple") (vB 0)))) (zE (ZT (z9 (vE 0) (zj)))) (nxS))
  (zz (yI 1 (zj))
  (zz (ZV (ZJ (vE 0)) (zA 2) (Qu 1 (za 1 c_j (z9 (vE 2) (zj)))))
  (zE (vE 1))))
noncomputable def S_j:Nat->Nat->List T->R T
 | 0,_=>λ_=> .bad
 | n+1,_=>λts=>zu (b_j (S_j n 0) (en0 3 ts))
noncomputable abbrev f_j (n:Nat):List T->R T:=S_j n 0
noncomputable def z0h (c_9:List T->R T)(c_j:List T->R T):En->RS:=
  zE (zW (ZJ (za 1 c_j (z9 (vE 0) (zj)))) (zA 0) (Jk (za 1 c_9 (z9 (vE 0) (zj)))) (vE 0) 1 [])
noncomputable def z0i:List T->R T:=λts=>zu (z0h (f_9) (f_j 8) (en0 1 ts))
noncomputable def b_1v:En->RS:=
  zE (ifE (Jk (ap1 (wM "tuple") (vB 0))) (vE 0) (Zh (z9 (vE 0) (zj))))
noncomputable def z0j:List T->R T:=λts=>zu (b_1v  (en0 1 ts))
noncomputable def z0k:En->RS:=
  zE (ap1 Qt (zW (Vp (vE 0) (slE (vE 0) (jT (cE (.int 1))) (noO))) (Z3 0 1) (Z1) (ZL leC (vB 0) (vB 1)) 2 []))
noncomputable def z0l:List T->R T:=λts=>zu (z0k  (en0 1 ts))
noncomputable def z0m:En->RS:=
  zE (Qs (ap1 z1J (zW (Ub (vE 0)) (Z3 0 1) (Z1) (ZL inC (vB 1) (slE (vE 2) (noO) (jT (vE 0)))) 2 [0])))
noncomputable def z0n:List T->R T:=λts=>zu (z0m  (en0 1 ts))
noncomputable def z0o (c_1v:List T->R T)(c_j:List T->R T)(c_1e:List T->R T)(c_1l:List T->R T)(c_1m:List T->R T):En->RS:=
  zz (ifS (zF eqC (zb ixT (vE 0) (cE (.int 0))) (cE (.str "sum"))) (zE (chE leC leC (zb ixT (vE 0) (cE (.int 1))) (ap1 X1 (za 1 c_1e (z9 (vE 1) (zj)))) (zb ixT (vE 0) (cE (.int 2))))) (nxS))
  (zz (ifS (zF eqC (zb ixT (vE 0) (cE (.int 0))) (cE (.str "size"))) (zE (chE leC leC (zb ixT (vE 0) (cE (.int 1))) (ap1 Zo (za 1 c_1v (z9 (vE 1) (zj)))) (zb ixT (vE 0) (cE (.int 2))))) (nxS))
  (zz (ifS (zF eqC (zb ixT (vE 0) (cE (.int 0))) (cE (.str "word"))) (zE (ZL inC (zb ixT (vE 0) (cE (.int 1))) (za 1 c_j (z9 (vE 1) (zj))))) (nxS))
  (zz (ifS (zF eqC (zb ixT (vE 0) (cE (.int 0))) (cE (.str "rising"))) (zE (za 1 c_1l (z9 (za 1 c_1e (z9 (vE 1) (zj))) (zj)))) (nxS))
  (zE (za 1 c_1m (z9 (za 1 c_1v (z9 (vE 1) (zj))) (zj)))))))
noncomputable def gT:List T->R T:=λts=>zu (z0o (z0j) (f_j 8) (z0i) (z0l) (z0n) (en0 2 ts))
noncomputable def b_k (c_k:List T->R T)(c_1b:List T->R T):En->RS:=
  zz (ifS (zF eqC (zb ixT (vE 0) (cE (.int 0))) (cE (.str "no"))) (zE (Qs (za 2 c_k (z9 (zb ixT (vE 0) (cE (.int 1))) (z9 (vE 1) (zj)))))) (nxS))
  (zz (ifS (zF eqC (zb ixT (vE 0) (cE (.int 0))) (cE (.str "all"))) (zE (j6 (za 2 c_k (z9 (zb ixT (vE 0) (cE (.int 1))) (z9 (vE 1) (zj)))) (za 2 c_k (z9 (zb ixT (vE 0) (cE (.int 2))) (z9 (vE 1) (zj)))))) (nxS))
  (zz (ifS (zF eqC (zb ixT (vE 0) (cE (.int 0))) (cE (.str "some"))) (zE (orE (za 2 c_k (z9 (zb ixT (vE 0) (cE (.int 1))) (z9 (vE 1) (zj)))) (za 2 c_k (z9 (zb ixT (vE 0) (cE (.int 2))) (z9 (vE 1) (zj)))))) (nxS))
  (zE (za 2 c_1b (z9 (vE 0) (z9 (vE 1) (zj)))))))
noncomputable def S_k:Nat->Nat->List T->R T
 | 0,_=>λ_=> .bad
 | n+1,_=>λts=>zu (b_k (S_k n 0) (gT) (en0 2 ts))
noncomputable abbrev f_k (n:Nat):List T->R T:=S_k n 0
noncomputable def z0p (c_k:List T->R T):En->RS:=
  zz (zJ 2 (ZL eqC (zb ixT (vE 0) (cE (.int 0))) (cE (.str "keep"))))
  (zE (zW (ZJ (vE 1)) (zA 0) (zF eqC (za 2 c_k (z9 (zb ixT (vE 1) (cE (.int 1))) (z9 (vE 0) (zj)))) (vB 2)) (vE 0) 1 [0,2]))
noncomputable def gU:List T->R T:=λts=>zu (z0p (f_k 8) (en0 3 ts))
noncomputable def z0q (c_1h:List T->R T):En->R (T×En):=
  jC (kh 101 0 2 "remaining" (za 2 c_1h (z9 (vE 1) (z9 (ixF 101 0 2 "remaining" (Wf (cE (.int 1)))) (zj)))))
  (jC (kh 101 0 2 "done" (vE 1))
  (z1S))
noncomputable def kv:List (Str×Fd)->List T->R (T×List (Str×Fd)):=λfs ts=>jY 101 2 (z0q (gU) (enM 101 2 fs ts))
noncomputable def b_t (c_1f:List T->R T)(c_r:List (Str×Fd)->List T->R (T×List (Str×Fd)))(c_14:List (Str×Fd)->List T->R (T×List (Str×Fd))):En->R (T×En):=
  jC (WB (za 1 c_1f (z9 (vE 2) (zj))))
  (jC (seM 3 (j4 101 0 4 "left" 0 c_r zj))
  (jC (drM (j4 101 0 4 "do_step" 1 c_14 (z9 (Zh (z9 (vE 1) (z9 (vE 2) (zj)))) (zj))))
  (jC (Qy 101 0 4 "undone" (zj))
  (z23 jA (uf (vE 3)) (j4 101 0 4 "left" 0 c_r zj)))))
noncomputable def f_t:List (Str×Fd)->List T->R (T×List (Str×Fd)):=λfs ts=>jY 101 4 (b_t (gS) (f_r) (kv) (enM 101 4 fs ts))
noncomputable def b_1r (c_t:List (Str×Fd)->List T->R (T×List (Str×Fd))):En->R (T×En):=
  j4 101 0 2 "new_step" 2 c_t (z9 (cE (.str "keep")) (z9 (vE 1) (zj)))
noncomputable def gW:List (Str×Fd)->List T->R (T×List (Str×Fd)):=λfs ts=>jY 101 2 (b_1r (f_t) (enM 101 2 fs ts))
noncomputable def b_1t (c_t:List (Str×Fd)->List T->R (T×List (Str×Fd))):En->R (T×En):=
  j4 101 0 2 "new_step" 2 c_t (z9 (cE (.str "bar")) (z9 (vE 1) (zj)))
noncomputable def gX:List (Str×Fd)->List T->R (T×List (Str×Fd)):=λfs ts=>jY 101 2 (b_1t (f_t) (enM 101 2 fs ts))
noncomputable def z0r (c_1r:List (Str×Fd)->List T->R (T×List (Str×Fd)))(c_1t:List (Str×Fd)->List T->R (T×List (Str×Fd))):En->R (T×En):=
  z26 (zF eqC (zb ixT (vE 1) (cE (.int 0))) (cE (.str "keep"))) (j4 101 0 2 "keep" 1 c_1r (z9 (zb ixT (vE 1) (cE (.int 1))) (zj))) (j4 101 0 2 "bar" 1 c_1t (z9 (zb ixT (vE 1) (cE (.int 1))) (zj)))
noncomputable def vK:List (Str×Fd)->List T->R (T×List (Str×Fd)):=λfs ts=>jY 101 2 (z0r (gW) (gX) (enM 101 2 fs ts))
noncomputable def b_1k:En->R (T×En):=
  uf (z1Y 101 0 1 "done")
noncomputable def kx:List (Str×Fd)->List T->R (T×List (Str×Fd)):=λfs ts=>jY 101 1 (b_1k  (enM 101 1 fs ts))
noncomputable def z0s:En->RS:=
  zz (uw 2 3 (z9 (zb zD (zb mlT (zb ixT (vE 0) (cE (.int 0))) (zb ixT (vE 1) (cE (.int 1)))) (zb mlT (zb ixT (vE 1) (cE (.int 0))) (zb ixT (vE 0) (cE (.int 1))))) (z9 (zb mlT (zb ixT (vE 0) (cE (.int 1))) (zb ixT (vE 1) (cE (.int 1)))) (zj))))
  (zz (uw 4 5 (z9 (vE 2) (z9 (vE 3) (zj))))
  (zz (Zv (zF neC (vB 5) (cE (.int 0))) (uw 4 5 (z9 (vE 5) (z9 (zb j5 (vE 4) (vE 5)) (zj)))) (2 ^ 9000))
  (zE (Zh (z9 (zb Vs (vE 2) (vE 4)) (z9 (zb Vs (vE 3) (vE 4)) (zj)))))))
noncomputable def z0t:List T->R T:=λts=>zu (z0s  (en0 6 ts))
noncomputable def b_e (c_9:List T->R T)(c_f:List T->R T)(c_q:List T->R T)(c_1s:List T->R T):En->RS:=
  zz (ifS (zF eqC (zb ixT (vE 0) (cE (.int 0))) (cE (.str "whole"))) (zE (j6 (za 1 c_9 (z9 (vE 1) (zj))) (chE leC leC (zb ixT (vE 0) (cE (.int 1))) (vB 1) (zb ixT (vE 0) (cE (.int 2)))))) (nxS))
  (zz (ifS (zF eqC (zb ixT (vE 0) (cE (.int 0))) (cE (.str "pick"))) (zE (ZL inC (vB 1) (za 1 c_q (z9 (vE 0) (zj))))) (nxS))
  (zz (ifS (zF eqC (zb ixT (vE 0) (cE (.int 0))) (cE (.str "row"))) (zE (j6 (za 3 c_f (z9 (vE 1) (z9 (ap1 Zo (zb ixT (vE 0) (cE (.int 1)))) (z9 (ap1 Zo (zb ixT (vE 0) (cE (.int 1)))) (zj))))) (za 2 c_1s (z9 (zb ixT (vE 0) (cE (.int 1))) (z9 (vE 1) (zj)))))) (nxS))
  (zE (j6 (za 3 c_f (z9 (vE 1) (z9 (zb ixT (vE 0) (cE (.int 2))) (z9 (zb ixT (vE 0) (cE (.int 3))) (zj))))) (za 2 c_1s (z9 (zb zY (ZT (z9 (zb ixT (vE 0) (cE (.int 1))) (zj))) (ap1 Zo (vB 1))) (z9 (vE 1) (zj))))))))
noncomputable def gY (c_e:List T->R T):En->RS:=
  zE (ap1 Qt (zW (Vp (vE 0) (vE 1)) (Z3 0 1) (Z1) (za 2 c_e (z9 (vE 0) (z9 (vE 1) (zj)))) 2 []))
noncomputable def S_e:Nat->Nat->List T->R T
 | 0,_=>λ_=> .bad
 | n+1,0=>λts=>zu (b_e (f_9) (f_f) (f_q) (S_e n 1) (en0 2 ts))
 | n+1,_=>λts=>zu (gY (S_e n 0) (en0 2 ts))
noncomputable abbrev f_e (n:Nat):List T->R T:=S_e n 0
noncomputable abbrev f_1s (n:Nat):List T->R T:=S_e n 1
noncomputable def z0u (c_u:List T->R T)(c_e:List T->R T):En->RS:=
  zz (WB (za 1 c_u (z9 (vE 0) (zj))))
  (zE (za 2 c_e (z9 (vE 0) (z9 (vE 1) (zj)))))
noncomputable def z0v:List T->R T:=λts=>zu (z0u (f_u) (f_e 20) (en0 2 ts))
noncomputable def z0w (c_1p:List T->R T):En->RS:=
  ifS (ue (Jk (za 2 c_1p (z9 (vE 0) (z9 (vE 1) (zj)))))) (KS) (nxS)
noncomputable def z0x:List T->R T:=λts=>zu (z0w (z0v) (en0 2 ts))
noncomputable def b_5 (c_1n:List T->R T)(c_6:List T->R T):En->RS:=
  zz (WB (za 2 c_1n (z9 (vE 0) (z9 (vE 1) (zj)))))
  (zE (za 2 c_6 (z9 (vE 0) (z9 (vE 1) (zj)))))
noncomputable def f_5:List T->R T:=λts=>zu (b_5 (z0x) (f_6 20) (en0 2 ts))
noncomputable def b_0 (c_4:List T->R T)(c_1d:List T->R T)(c_5:List T->R T)(c_1o:List T->R T)(c_18:List T->R T)(c_16:List T->R T)(c_11:List (Str×Fd)->List T->R (T×List (Str×Fd)))(c_r:List (Str×Fd)->List T->R (T×List (Str×Fd)))(c_x:List (Str×Fd)->List T->R (T×List (Str×Fd)))(c_17:List (Str×Fd)->List T->R (T×List (Str×Fd)))(c_10:List (Str×Fd)->List T->R (T×List (Str×Fd)))(c_1k:List (Str×Fd)->List T->R (T×List (Str×Fd)))(c_12:List (Str×Fd)->List T->R (T×List (Str×Fd))):En->RS:=
  zz (zJ 1 (za 3 c_1d (z9 (vE 0) (z9 (cE (.int 10)) (z9 (cE (.int 60)) (zj))))))
  (zz (yt 2 3 4 10 (mkA 10 11 101 1 c_11 (z9 (vE 1) (zj))) (z9 (za 1 c_4 (z9 (vE 1) (zj))) (z9 (ZT (zj)) (zj))))
  (zz (ifM (orM (Jc neC (j4 101 2 11 "worths" 0 c_x zj) (vB 3)) (orM (Jc neC (j4 101 2 11 "part" 0 c_17 zj) (Zh (z9 (cE (.int 1)) (z9 (cE (.int 1)) (zj))))) (Jc neC (j4 101 2 11 "base" 0 c_10 zj) (vB 1)))) (zE (cE (.bl false))) (nxS))
  (zz (ZV (ZC (cE (.int 6))) (zA 5) (zz (zJ 6 (za 2 c_18 (z9 (vE 0) (z9 (zb zD (cE (.int 1000)) (zb zY (cE (.int 100)) (vE 5))) (zj)))))
  (zz (zJ 7 (za 2 c_16 (z9 (vE 3) (z9 (vE 6) (zj)))))
  (zz (ifM (orM (Jc neC (vJ 101 2 11 1 c_12 (z9 (vE 6) (zj))) (zb jA (ap1 Zo (vB 3)) (ap1 Zo (vB 7)))) (Jc neC (j4 101 2 11 "worths" 0 c_x zj) (vB 7))) (zE (cE (.bl false))) (nxS))
  (zz (uw 3 4 (z9 (vE 7) (z9 (zb zD (vE 4) (ZT (z9 (vE 6) (zj)))) (zj))))
  (zz (ifM (orM (Jc neC (j4 101 2 11 "left" 0 c_r zj) (ap1 Zo (vB 3))) (Jc neC (j4 101 2 11 "steps" 0 c_1k zj) (vB 4))) (zE (cE (.bl false))) (nxS))
  (ifS (zF eqC (vB 5) (cE (.int 1))) (zz (zJ 8 (Zh (z9 (cE (.int 0)) (z9 (cE (.int 1)) (zj)))))
  (zz (ZV (ZJ (vE 3)) (zA 9) (zJ 8 (za 2 c_1o (z9 (vE 8) (z9 (za 2 c_5 (z9 (vE 1) (z9 (vE 9) (zj)))) (zj))))))
  (ifM (Jc neC (j4 101 2 11 "part" 0 c_17 zj) (vB 8)) (zE (cE (.bl false))) (nxS)))) (nxS))))))))
  (kl (cmM eqC (j4 101 2 11 "base" 0 c_10 zj) (uf (vE 1)))))))
noncomputable def f_0:List T->R T:=λts=>zu (b_0 (f_4 8) (gO) (f_5) (z0t) (ko) (ku) (Xm) (f_r) (f_x) (Xn) (Vx) (kx) (vK) (enS 12 ts))
end G
namespace G
open PySem L2 PV
noncomputable abbrev scr (ns:List Int):T:= .fz (ns.map T.int)
theorem Xo (ns:List Int)(k:Int)(h0:0<=k):∃c,gM [scr ns,.int k]= .ok (.int c):=by
 have e1:gM [scr ns,.int k]=zu (if decide (k < ((ns.map T.int).length:Int))=true then (atT (ns.map T.int) k).s (λt=> .rt t) else
   match (eqC (scr ns) (.lst [])).s (λb=>if b=true then RS.rt (.int 0) else .nx [.vl (scr ns),.vl (.int k)]) with
   | .nx ρ' =>zE (zb zD (zb zY (zb ixT (vE 0) (zb j5 (vE 1) (ap1 Zo (vB 0)))) (cE (.int 31))) (vE 1)) ρ'
   | r=>r):=by
  show zu (match (if decide (k < ((ns.map T.int).length:Int))=true then (atT (ns.map T.int) k).s (λt=>RS.rt t) else .nx [.vl (scr ns),.vl (.int k)]) with
   | .nx ρ' =>_
   | r=>r)=_
  cases decide (k < ((ns.map T.int).length:Int)) with
  | true=>
   rw[if_pos rfl,if_pos rfl];unfold atT;cases atI (ns.map T.int) k <;> rfl
  | false=>rfl
 rw[e1,ac]
 by_cases hk:k < (ns.length:Int)
 ·obtain⟨v,hv⟩:∃v,ns[k.toNat]? =some v:=⟨ns[k.toNat]'(by omega),ag (by omega)⟩
  have ea:atI (ns.map T.int) k=some (.int v):=by
   have:k=((k.toNat:Nat):Int):=by omega
   rw[this];exact jb (by rw[ax,hv];rfl)
  rw[decide_eq_true hk,if_pos rfl];exact⟨v,by unfold atT;rw[ea];rfl⟩
 ·rw[decide_eq_false hk,if_neg au];cases ns with
  | nil=>exact⟨0,rfl⟩
  | cons x xs=>
   have hm0:=eZ k (show (((x :: xs).length:Nat):Int) ≠ 0 by simp only[aj];omega)
   have hm1:=dG k (show (0:Int) < (((x :: xs).length:Nat):Int) by simp only[aj];omega)
   obtain⟨v,hv⟩:∃v,(x :: xs)[(k % (((x :: xs).length:Nat):Int)).toNat]? =some v:=⟨_,ag (by omega)⟩
   have ea:atI ((x :: xs).map T.int) (k % (((x :: xs).length:Nat):Int))=some (.int v):=by
    have e:k % (((x :: xs).length:Nat):Int)=(((k % (((x :: xs).length:Nat):Int)).toNat:Nat):Int):=by omega
    rw[e];exact jb (by rw[ax,hv];rfl)
   have cm:Wc v 31:= .inr ⟨by decide,by decide⟩
   have hp:(0:Int) < (((x :: xs).map T.int).length:Int):=by simp only[ac,aj];omega
   refine⟨v*31+k, ?_⟩;show zu (((((if 0 < (((x :: xs).map T.int).length:Int) then R.ok (T.int (k % (((x :: xs).map T.int).length:Int))) else .bad).bind λy=>ixT (scr (x :: xs)) y).bind λa=>zY a (.int 31)).bind λa=>zD a (.int k)).s λt=> .rt t)=_
   rw[if_pos hp];show zu ((((atT ((x :: xs).map T.int) (k % (((x :: xs).map T.int).length:Int))).bind λa=>zY a (.int 31)).bind λa=>zD a (.int k)).s λt=> .rt t)=_;rw[ac];unfold atT;rw[ea];show zu ((((if Wc v 31 then R.ok (T.int (v*31)) else .bad)).bind λa=>zD a (.int k)).s λt=> .rt t)=_
   rw[if_pos cm];rfl
theorem zU (ns:List Int)(k m:Int)(h0:0<=k)(hm:0 < m):∃p,f_2 [scr ns,.int k,.int m]= .ok (.int p)/\0<=p/\p < m:=by
 obtain⟨c,hc⟩:=Xo ns k h0;have cm1:Wc 6151 (k+1):= .inl ⟨by decide,by decide⟩
 have cm2:Wc (c+6151*(k+1)) 40692:= .inr ⟨by decide,by decide⟩
 generalize hd:(c+6151*(k+1))*40692 % 2147483399=d;have hd0:0<=d:=by rw[← hd];exact eZ _ (by decide)
 have hd1:d < 2147483399:=by rw[← hd];exact dG _ (by decide)
 have cm3:Wc d d:= .inl ⟨by omega,by omega⟩
 refine⟨(d*d+d / 31) % 2147483629 % m, ?_,eZ _ (by omega),dG _ hm⟩
 have e1:f_2 [scr ns,.int k,.int m]=zu (match ((((((gM [scr ns,.int k]).bind λx=>(zY (.int 6151) (.int (k+1))).bind λy=>zD x y).bind λx=>zY x (.int 40692)).bind λx=>j5 x (.int 2147483399))).s λt=>RS.nx [.vl (scr ns),.vl (.int k),.vl (.int m),.vl t]) with
   | .nx ρ' =>zE (zb j5 (zb j5 (zb zD (zb zY (vE 3) (vE 3)) (zb JD (vE 3) (cE (.int 31)))) (cE (.int 2147483629))) (vE 2)) ρ'
   | r=>r):=rfl
 rw[e1,hc];show zu (match (((((if Wc 6151 (k+1) then R.ok (T.int (6151*(k+1))) else .bad).bind λy=>zD (.int c) y).bind λx=>zY x (.int 40692)).bind λx=>j5 x (.int 2147483399)).s λt=>RS.nx [.vl (scr ns),.vl (.int k),.vl (.int m),.vl t]) with
   | .nx ρ' =>_
   | r=>r)=_
 rw[if_pos cm1];show zu (match ((((if Wc (c+6151*(k+1)) 40692 then R.ok (T.int ((c+6151*(k+1))*40692)) else .bad)).bind λx=>j5 x (.int 2147483399)).s λt=>RS.nx [.vl (scr ns),.vl (.int k),.vl (.int m),.vl t]) with
   | .nx ρ' =>_
   | r=>r)=_
 rw[if_pos cm2];show zu (zE (zb j5 (zb j5 (zb zD (zb zY (vE 3) (vE 3)) (zb JD (vE 3) (cE (.int 31)))) (cE (.int 2147483629))) (vE 2)) [.vl (scr ns),.vl (.int k),.vl (.int m),.vl (.int ((c+6151*(k+1))*40692 % 2147483399))])=_;rw[hd];show zu (((((if Wc d d then R.ok (T.int (d*d)) else .bad).bind λx=>zD x (.int (d / 31))).bind λx=>j5 x (.int 2147483629)).bind λx=>j5 x (.int m)).s λt=>RS.rt t)=_
 rw[if_pos cm3];show zu ((if 0 < m then R.ok (T.int ((d*d+d / 31) % 2147483629 % m)) else .bad).s λt=>RS.rt t)=_
 rw[if_pos hm];rfl
theorem qe {ft:En->R Bool}{fe:En->R T}:∀(ts:List T) (ρ:En) (x:Sl),zO (zA 0) ft fe ts (ρ.set 0 x)=zO (zA 0) ft fe ts ρ
 | [],_,_=>rfl
 | t :: ts,ρ,x=>by
  unfold zO zA;rw[List.set_set]
theorem je {ft:En->R Bool}{fe:En->R T}{p:T->Bool}{h:T->T}:∀(ts:List T) (ρ:En),(∀t∈ts,ft (ρ.set 0 (.vl t))= .ok (p t)/\(p t=true->fe (ρ.set 0 (.vl t))= .ok (h t)))->zO (zA 0) ft fe ts ρ= .ok ((ts.filter p).map h)
 | [],_,_=>rfl
 | t :: ts,ρ,H=>by
  obtain⟨h1,h2⟩:=H t ad;have ih:=je ts ρ λu hu=>H u (a9 _ hu);have e:zO (zA 0) ft fe (t :: ts) ρ=(ft (ρ.set 0 (.vl t))).bind λk=>if k=true then (fe (ρ.set 0 (.vl t))).bind λv=>(zO (zA 0) ft fe ts (ρ.set 0 (.vl t))).bind λvs=> .ok (v :: vs) else zO (zA 0) ft fe ts (ρ.set 0 (.vl t)):=rfl
  rw[e,h1,qe,ih];show (if p t=true then _ else _)=_
  cases hp:p t with
  | true=>rw[if_pos rfl,h2 hp,List.filter_cons_of_pos hp];rfl
  | false=>rw[if_neg au,List.filter_cons_of_neg (by rw[hp];exact au)]
theorem qf {fe:En->R T}{h:T->T}(ts:List T)(ρ:En)(H:∀t∈ts,fe (ρ.set 0 (.vl t))= .ok (h t)):zO (zA 0) Z1 fe ts ρ= .ok (ts.map h):=by
 have:=je (ft:=Z1) (fe:=fe) (p:=λ_=>true) (h:=h) ts ρ λt ht=>⟨rfl,λ_=>H t ht⟩;rw[this,List.filter_eq_self.mpr (λ_ _=>rfl)]
theorem Z7 {fe:En->R T}{h:T->T}{k:Nat}{js:List Nat}{ρ:En}(ts:List T)(hl:ts.length<=bnd)(H:∀t∈ts,fe ((WC k js ρ).set 0 (.vl t))= .ok (h t)):zG (zA 0) Z1 fe k js ρ ts= .ok (ts.map h):=by
 unfold zG;rw[if_pos hl,qf ts _ H];rfl
theorem Jl (p:T->Bool):∀ts:List T,Wz (ts.map λt=>T.bl (p t))=some (ts.all p)
 | []=>rfl
 | t :: ts=>by
  show (match Wz (ts.map λt=>T.bl (p t)) with | some j=>some (p t && j) | none=>none)=_
  rw[Jl p ts];rfl
noncomputable def isW:T->Bool
 | .int _=>true
 | _=>false
theorem Jm (t:T):f_9 [t]= .ok (.bl (isW t)):=by cases t <;> rfl
noncomputable def yu (a b:Nat):T->Bool
 | .tup xs=>decide (a<=xs.length) && decide (xs.length<=b)
 | _=>false
theorem ZH (t:T)(a b:Nat):f_f [t,.int a,.int b]= .ok (.bl (yu a b t)):=by
 cases t with
 | tup xs=>
  show zu ((if decide ((a:Int)<=(xs.length:Int))=true then R.ok (T.bl (decide ((xs.length:Int)<=(b:Int)))) else .ok (.bl false)).s λt=> .rt t)=_
  have e1:decide ((a:Int)<=(xs.length:Int))=decide (a<=xs.length):=by simp
  have e2:decide ((xs.length:Int)<=(b:Int))=decide (xs.length<=b):=by simp
  rw[e1,e2];show _=R.ok (T.bl (decide (a<=xs.length) && decide (xs.length<=b)));cases decide (a<=xs.length) <;> rfl
 | _=>rfl
noncomputable def Jd (lo hi:Int):T->T->Bool
 | .int i,.int j=>decide (lo<=i) && decide (i<=j) && decide (j<=hi)
 | _,_=>false
theorem qg (t u:T)(lo hi:Int):z02 [t,u,.int lo,.int hi]= .ok (.bl (Jd lo hi t u)):=by
 cases t with
 | int i=>
  cases u with
  | int j=>
   show zu ((if decide (lo<=i)=true then (if decide (i<=j)=true then R.ok (T.bl (decide (j<=hi))) else .ok (.bl false)) else .ok (.bl false)).s λt=> .rt t)=_
   show _=R.ok (T.bl (decide (lo<=i) && decide (i<=j) && decide (j<=hi)));cases decide (lo<=i) <;> cases decide (i<=j) <;> rfl
  | _=>rfl
 | _=>cases u <;> rfl
noncomputable def Zi (c:Nat):Bool:=decide (97<=c) && decide (c<=122)
noncomputable def Zk:T->Bool
 | .str x=>decide (1<=x.length) && decide (x.length<=3) && x.cps.toList.all Zi
 | _=>false
theorem Vy (a b:Nat):decide ([a] < [b])=decide (a < b):=by
 by_cases h:a < b
 ·rw[decide_eq_true h];exact decide_eq_true (List.Lex.rel h)
 ·rw[decide_eq_false h];refine decide_eq_false λz=> ?_;cases z with
  | rel h' =>exact h h'
  | cons h' =>cases h'
theorem Xp (c:Nat)(ρ:En):chE leC leC (cE (.str "a")) (vB 0) (cE (.str "z")) ((Sl.vl (.str ⟨#[c]⟩)) :: ρ)= .ok (.bl (Zi c)):=by
 have e1:leC (.str "a") (.str ⟨#[c]⟩)= .ok (decide (97<=c)):=by
  show R.ok (!decide ([c] < [97]))=_;rw[Vy]
  by_cases h:c < 97
  ·rw[decide_eq_true h,decide_eq_false (by omega)];rfl
  ·rw[decide_eq_false h,decide_eq_true (by omega)];rfl
 have e2:leC (.str ⟨#[c]⟩) (.str "z")= .ok (decide (c<=122)):=by
  show R.ok (!decide ([122] < [c]))=_;rw[Vy]
  by_cases h:122 < c
  ·rw[decide_eq_true h,decide_eq_false (by omega)];rfl
  ·rw[decide_eq_false h,decide_eq_true (by omega)];rfl
 show (leC (.str "a") (.str ⟨#[c]⟩)).bind (λk=>if k=true then (leC (.str ⟨#[c]⟩) (.str "z")).bind λk' =>R.ok (T.bl k') else R.ok (T.bl false))=_
 rw[e1,e2];unfold Zi;show (if decide (97<=c)=true then R.ok (T.bl (decide (c<=122))) else .ok (.bl false))=_
 cases decide (97<=c) <;> rfl
noncomputable def Xq:T->Prop
 | .str x=>x.length<=bnd
 | _=>True
theorem qh (t:T)(ht:Xq t):f_v [t]= .ok (.bl (Zk t)):=by
 cases t with
 | str x=>
  have hx:x.length<=bnd:=ht;have e0:Zo (.str x)= .ok (.int x.length):=if_pos hx;have ec:zG (zA 0) Z1 (chE leC leC (cE (.str "a")) (vB 0) (cE (.str "z"))) 1 [] [.vl (.str x)] (jL x)= .ok (x.cps.toList.map λc=>T.bl (Zi c)):=by
   have hs:(jL x).length<=bnd:=by unfold jL;rw[ac,cI];exact hx
   have:=Z7 (fe:=chE leC leC (cE (.str "a")) (vB 0) (cE (.str "z"))) (h:=λt=>match t with | .str y=>T.bl (Zi (y.cps.toList.headD 0)) | t=>t) (k:=1) (js:=[]) (ρ:=[.vl (.str x)]) (jL x) hs λt ht=>by
    unfold jL at ht;obtain⟨c,_,rfl⟩:=aC.mp ht;exact Xp c []
   rw[this];unfold jL;rw[aV];rfl
  have ea:Wz (x.cps.toList.map λc=>T.bl (Zi c))=some (x.cps.toList.all Zi):=by
   have:=Jl (λt=>match t with | .str y=>Zi (y.cps.toList.headD 0) | _=>true) (jL x)
   unfold jL at this;rw[aV,fT]at this;exact this
  have e1:f_v [.str x]=zu (match ((((Zo (.str x)).bind λy=>(leC (.int 1) y).bind λk=>if k=true then leC y (.int 3) else .ok false).bind λb=> .ok (!b)).s λk=>if k=true then RS.rt (.bl false) else .nx [.vl (.str x)]) with
    | .nx ρ' =>zE (ap1 Qt (zW (ZJ (vE 0)) (zA 0) (Z1) (chE leC leC (cE (.str "a")) (vB 0) (cE (.str "z"))) 1 [])) ρ'
    | r=>r):=rfl
  rw[e1,e0];have c1:decide ((1:Int)<=(x.length:Int))=decide (1<=x.length):=by
   by_cases h:1<=x.length
   ·rw[decide_eq_true h];exact decide_eq_true (by omega)
   ·rw[decide_eq_false h];exact decide_eq_false (by omega)
  have c2:decide ((x.length:Int)<=(3:Int))=decide (x.length<=3):=by
   by_cases h:x.length<=3
   ·rw[decide_eq_true h];exact decide_eq_true (by omega)
   ·rw[decide_eq_false h];exact decide_eq_false (by omega)
  show zu (match ((((if decide ((1:Int)<=(x.length:Int))=true then R.ok (decide ((x.length:Int)<=(3:Int))) else .ok false)).bind λb=> .ok (!b)).s λk=>if k=true then RS.rt (.bl false) else .nx [.vl (.str x)]) with
    | .nx ρ' =>_
    | r=>r)=_
  rw[c1,c2];show _=R.ok (T.bl (decide (1<=x.length) && decide (x.length<=3) && x.cps.toList.all Zi));cases decide (1<=x.length) with
  | false=>rfl
  | true=>
   cases decide (x.length<=3) with
   | false=>rfl
   | true=>
    show zu ((((zG (zA 0) Z1 (chE leC leC (cE (.str "a")) (vB 0) (cE (.str "z"))) 1 [] [.vl (.str x)] (jL x)).bind λvs=> .ok (.lst vs)).bind Qt).s λt=> .rt t)=_;rw[ec];show zu ((match Wz (x.cps.toList.map λc=>T.bl (Zi c)) with | some k=>R.ok (T.bl k) | none=> .bad).s λt=> .rt t)=_
    rw[ea];rfl
 | _=>rfl
theorem bOk {α β:Type}(a:α)(f:α->R β):(R.ok a).bind f=f a:=rfl
theorem Zs {α:Type}(a:α)(f:α->RS):(R.ok a).s f=f a:=rfl
theorem Je (r:R T):zu (r.s λt=> .rt t)=r:=by cases r <;> rfl
theorem Zm (f:En->R T)(ρ:En):zE f ρ=(f (frz ρ)).s λt=> .rt t:=rfl
theorem zQ {g:List T->R T}{f:En->R T}{ρ:En}:za 1 g (z9 f zj) ρ=(f ρ).bind λx=>g [x]:=by
 unfold za z9 zj;cases f ρ <;> rfl
theorem zK {g:List T->R T}{f f' :En->R T}{ρ:En}:za 2 g (z9 f (z9 f' zj)) ρ=(f ρ).bind λx=>(f' ρ).bind λy=>g [x,y]:=by
 unfold za z9 zj;cases f ρ with
 | ok a=>cases f' ρ <;> rfl
 | ex c=>rfl
 | bad=>rfl
theorem Zq {g:List T->R T}{f f' f'' :En->R T}{ρ:En}:za 3 g (z9 f (z9 f' (z9 f'' zj))) ρ=(f ρ).bind λx=>(f' ρ).bind λy=>(f'' ρ).bind λz=>g [x,y,z]:=by
 unfold za z9 zj;cases f ρ with
 | ok a=>
  cases f' ρ with
  | ok b=>cases f'' ρ <;> rfl
  | ex c=>rfl
  | bad=>rfl
 | ex c=>rfl
 | bad=>rfl
theorem z27 {g:List T->R T}{f f' f'' f3:En->R T}{ρ:En}:za 4 g (z9 f (z9 f' (z9 f'' (z9 f3 zj)))) ρ=(f ρ).bind λx=>(f' ρ).bind λy=>(f'' ρ).bind λz=>(f3 ρ).bind λw=>g [x,y,z,w]:=by
 unfold za z9 zj;cases f ρ with
 | ok a=>
  cases f' ρ with
  | ok b=>
   cases f'' ρ with
   | ok c=>cases f3 ρ <;> rfl
   | ex c=>rfl
   | bad=>rfl
  | ex c=>rfl
  | bad=>rfl
 | ex c=>rfl
 | bad=>rfl
noncomputable def z0y (r k:R T):R T:=r.bind λx=>match x with
 | .bl true=>k
 | .bl false=> .ok (.bl false)
 | _=> .bad
theorem jM (f g:En->R T)(ρ:En):j6 f g ρ=z0y (f ρ) (g ρ):=rfl
theorem Zd (a:Bool)(k:R T):z0y (.ok (.bl a)) k=if a=true then k else .ok (.bl false):=by cases a <;> rfl
theorem v0 {t:T}{ρ:En}:vE 0 (.vl t :: ρ)= .ok t:=rfl
theorem v1 {t:T}{a:Sl}{ρ:En}:vE 1 (a :: .vl t :: ρ)= .ok t:=rfl
theorem w0 {t:T}{ρ:En}:vB 0 (.vl t :: ρ)= .ok t:=rfl
theorem w1 {t:T}{a:Sl}{ρ:En}:vB 1 (a :: .vl t :: ρ)= .ok t:=rfl
theorem Z0 {t:T}{ρ:En}:cE t ρ= .ok t:=rfl
theorem zt {g:T->T->R T}{f f' :En->R T}{ρ:En}:zb g f f' ρ=(f ρ).bind λx=>(f' ρ).bind λy=>g x y:=rfl
theorem jg {t:T}{ρ:En}:frz (.vl t :: ρ)= .vl t :: frz ρ:=rfl
theorem wa {ρ:En}:frz (.un :: ρ)= .un :: frz ρ:=rfl
theorem jt:frz []=[]:=rfl
theorem qi {g g' :T->T->R Bool}{fa fb fc:En->R T}{ρ:En}:chE g g' fa fb fc ρ=(fa ρ).bind λx=>(fb ρ).bind λy=>(g x y).bind λk=>if k=true then (fc ρ).bind λz=>(g' y z).bind λk' => .ok (.bl k') else .ok (.bl false):=rfl
theorem ZA {g:T->R T}{f:En->R T}{ρ:En}:ap1 g f ρ=(f ρ).bind g:=rfl
theorem wb {i j:Int}:leC (.int i) (.int j)= .ok (decide (i<=j)):=rfl
theorem Zl {g:T->T->R Bool}{f f' :En->R T}{ρ:En}:ZL g f f' ρ=(f ρ).bind λx=>(f' ρ).bind λy=>(g x y).bind λb=> .ok (.bl b):=rfl
theorem wc {xs:List T}:Zo (.tup xs)= .ok (.int xs.length):=rfl
theorem gZ {xs:List T}:Zo (.lst xs)= .ok (.int xs.length):=rfl
mutual
noncomputable def sOk:T->Prop
 | .str x=>x.length<=bnd
 | .tup xs=>ug xs
 | .lst xs=>ug xs
 | .fz xs=>ug xs
 | _=>True
noncomputable def ug:List T->Prop
 | []=>True
 | t :: ts=>sOk t/\ug ts
end
theorem jN:∀{ts:List T} {t:T},ug ts->t∈ts->sOk t
 | u :: ts,t,h,hm=>by
  have h' :sOk u/\ug ts:=by simpa only[ug] using h
  rcases ah.mp hm with rfl | hm
  ·exact h'.1
  ·exact jN h'.2 hm
theorem sOk.str {t:T}(h:sOk t):Xq t:=by
 cases t with
 | str x=>
  have h' :x.length<=bnd:=by simpa only[sOk] using h
  exact h'
 | _=>trivial
theorem wV {xs:List T}(h:sOk (.tup xs)):ug xs:=by simpa only[sOk] using h
noncomputable def zM:T->Bool
 | .tup [w,.int i]=>Zk w && decide (1<=i) && decide (i<=20)
 | _=>false
theorem qj (t:T)(ht:sOk t):Xl [t]= .ok (.bl (zM t)):=by
 have e:Xl [t]=zu (z03 f_9 f_f f_v [.vl t]):=rfl;rw[e,z03];simp only[Zm,Je,jg,jt,jM,Zq,zQ,v0,Z0,bOk,zt,qi];rw[show f_f [t,.int 2,.int 2]= .ok (.bl (yu 2 2 t)) from ZH t 2 2,Zd];cases t with
 | tup xs=>
  match xs,ht with
  | [],_=>rfl
  | [_],_=>rfl
  | _ :: _ :: _ :: _,_=>simp[yu,zM]
  | [w,n],ht=>
   have hw:sOk w:=jN (wV ht) (by simp)
   show (if true=true then z0y (f_v [w]) (z0y (f_9 [n]) ((leC (.int 1) n).bind λk=>if k=true then (leC n (.int 20)).bind λk' =>R.ok (T.bl k') else .ok (.bl false))) else _)=_
   rw[if_pos rfl,qh w hw.str,Jm,Zd,Zd];cases n with
   | int i=>
    show (if Zk w=true then (if true=true then (if decide (1<=i)=true then R.ok (T.bl (decide (i<=20))) else .ok (.bl false)) else _) else _)=R.ok (T.bl (Zk w && decide (1<=i) && decide (i<=20)))
    cases Zk w <;> cases decide (1<=i) <;> rfl
   | _=>
    show (if Zk w=true then (if false=true then _ else R.ok (T.bl false)) else R.ok (T.bl false))=R.ok (T.bl false)
    cases Zk w <;> rfl
 | _=>rfl
theorem Z6 (f g:En->RS)(ρ:En):zz f g ρ=match f ρ with | .nx ρ' =>g ρ' | r=>r:=rfl
theorem j7 (g:En->R Bool)(f1 f2:En->RS)(ρ:En):ifS g f1 f2 ρ=(g ρ).s λk=>if k=true then f1 ρ else f2 ρ:=rfl
theorem qk (f g:En->R Bool)(ρ:En):orT f g ρ=(f ρ).bind λx=>if x=true then .ok true else g ρ:=rfl
theorem JL (f:En->R Bool)(ρ:En):ue f ρ=(f ρ).bind λx=> .ok (!x):=rfl
theorem Jf (f:En->R T)(ρ:En):Jk f ρ=(f ρ).bind tru:=rfl
theorem wt (k:Bool):tru (.bl k)= .ok k:=rfl
theorem JM (i:Nat)(f:En->R T)(ρ:En):zJ i f ρ=(f ρ).s λt=> .nx (ρ.set i (.vl t)):=rfl
theorem zR {g:T->T->R Bool}{f f' :En->R T}{ρ:En}:zF g f f' ρ=(f ρ).bind λx=>(f' ρ).bind λy=>g x y:=rfl
theorem zP {fi:En->R (List T)}{g:T->En->R En}{ft:En->R Bool}{fe:En->R T}{k:Nat}{js:List Nat}{ρ:En}:zW fi g ft fe k js ρ=(fi ρ).bind λts=>(zG g ft fe k js ρ ts).bind λvs=> .ok (.lst vs):=rfl
theorem Zw {f:En->R T}{ρ:En}:ZJ f ρ=(f ρ).bind JG:=rfl
noncomputable def Za:T->Str
 | .tup (.str w :: _)=>w
 | _=>⟨#[]⟩
noncomputable def Uo:T->Bool
 | .tup cs=>decide (1<=cs.length) && decide (cs.length<=4) && cs.all zM && decide ((dd [] (cs.map Za)).length=cs.length)
 | _=>false
theorem WL {c:T}(h:zM c=true):∃w n,c= .tup [.str w,n]:=by
 unfold zM at h;split at h
 ·rename_i w i;cases w with
  | str x=>exact⟨x,_,rfl⟩
  | _=>cases h
 ·cases h
theorem wu:∀{cs:List T},cs.all zM=true->yK (cs.map λc=>T.str (Za c))=some (cs.map Za)
 | [],_=>rfl
 | c :: cs,h=>by
  rw[bU,ae]at h;have ih:=wu h.2;show (match yK (cs.map λc=>T.str (Za c)) with | some ys=>some (Za c :: ys) | none=>none)=_
  rw[ih];rfl
theorem yv (t:T)(ht:sOk t):gP [t]= .ok (.bl (Uo t)):=by
 have e:gP [t]=zu (z04 f_f Xl [.vl t,.un]):=rfl;rw[e,z04];simp only[Z6,j7,qk,JL,Jf,Zq,v0,Z0,bOk];rw[show f_f [t,.int 1,.int 4]= .ok (.bl (yu 1 4 t)) from ZH t 1 4];simp only[bOk,wt];cases t with
 | tup cs=>
  have hl:yu 1 4 (.tup cs)=(decide (1<=cs.length) && decide (cs.length<=4)):=rfl;rw[hl];show _=R.ok (T.bl (decide (1<=cs.length) && decide (cs.length<=4) && cs.all zM && decide ((dd [] (cs.map Za)).length=cs.length)));cases h14:(decide (1<=cs.length) && decide (cs.length<=4)) with
  | false=>rfl
  | true=>
   rw[ae,decide_eq_true_eq,decide_eq_true_eq]at h14;have hb:cs.length<=bnd:=aq h14.2 (by decide)
   have ec:zG (zA 0) Z1 (za 1 Xl (z9 (vE 0) zj)) 1 [] [.vl (.tup cs),.un] cs= .ok (cs.map λc=>T.bl (zM c)):=
    Z7 (h:=λc=>T.bl (zM c)) cs hb λc hc=>by
     show za 1 Xl (z9 (vE 0) zj) [.vl c]=_;rw[zQ,v0,bOk];exact qj c (jN (wV ht) hc)
   simp only[dR,aR,if_false,ZA,zP,Zw,v0,bOk,JG,ec];have ea:Qt (.lst (cs.map λc=>T.bl (zM c)))= .ok (.bl (cs.all zM)):=by
    show (match Wz (cs.map λc=>T.bl (zM c)) with | some k=>R.ok (T.bl k) | none=> .bad)=_
    rw[Jl]
   rw[ea];simp only[bOk,wt,Zs];cases hall:cs.all zM with
   | false=>rfl
   | true=>
    have ew:zG (zA 0) Z1 (zb ixT (vE 0) (cE (.int 0))) 1 [] [.vl (.tup cs),.un] cs= .ok (cs.map λc=>T.str (Za c)):=
     Z7 (h:=λc=>T.str (Za c)) cs hb λc hc=>by
      obtain⟨w,n,rfl⟩:=WL (aL.mp hall c hc);rfl
    simp only[dR,aR,if_false,nxS,JM,zP,Zw,v0,bOk,JG,ew,Zs,Zm];show zu (((vm (.lst (cs.map λc=>T.str (Za c)))).bind λx=>(Zo (.lst (cs.map λc=>T.str (Za c)))).bind λy=>(eqC x y).bind λb=>R.ok (T.bl b)).s λt=> .rt t)=_;have el:vm (.lst (cs.map λc=>T.str (Za c)))= .ok (.int (dd [] (cs.map Za)).length):=by
     show (match yK (cs.map λc=>T.str (Za c)) with | some ys=>if (cs.map λc=>T.str (Za c)).length+1 < 4096 then R.ok (T.int (dd [] ys).length) else .bad | none=> .bad)=_
     rw[wu hall];exact if_pos (by rw[ac];omega)
    rw[el,gZ,ac,Je];show R.ok (T.bl (((dd [] (cs.map Za)).length:Int) == (cs.length:Int)))=_;congr 2
    by_cases hq:(dd [] (cs.map Za)).length=cs.length
    ·rw[decide_eq_true hq,hq];simp
    ·rw[decide_eq_false hq];simp only[fB,beq_eq_false_iff_ne];omega
 | _=>rfl
noncomputable def isS (w:Str):T->Bool
 | .str s=>s == w
 | _=>false
theorem eqS (h:T)(w:Str):eqC h (.str w)= .ok (isS w h):=by cases h <;> rfl
theorem eqI (i j:Int):eqC (.int i) (.int j)= .ok (i == j):=rfl
theorem at0 {h:T}{r:List T}:ixT (.tup (h :: r)) (.int 0)= .ok h:=by
 show atT (h :: r) 0=_;unfold atT;rw[show atI (h :: r) 0=some h from jb (j:=0) rfl]
theorem at1 {h a:T}{r:List T}:ixT (.tup (h :: a :: r)) (.int 1)= .ok a:=by
 show atT (h :: a :: r) 1=_;unfold atT;rw[show atI (h :: a :: r) 1=some a from jb (j:=1) rfl]
theorem at2 {h a b:T}{r:List T}:ixT (.tup (h :: a :: b :: r)) (.int 2)= .ok b:=by
 show atT (h :: a :: b :: r) 2=_;unfold atT;rw[show atI (h :: a :: b :: r) 2=some b from jb (j:=2) rfl]
theorem at3 {h a b c:T}{r:List T}:ixT (.tup (h :: a :: b :: c :: r)) (.int 3)= .ok c:=by
 show atT (h :: a :: b :: c :: r) 3=_;unfold atT;rw[show atI (h :: a :: b :: c :: r) 3=some c from jb (j:=3) rfl]
noncomputable def JN (k:T->Bool):T->Bool
 | .tup ks=>decide (1<=ks.length) && decide (ks.length<=3) && ks.all k
 | _=>false
noncomputable def WM:List T->Bool
 | [a,b]=>Jd (-20) 20 a b
 | _=>false
noncomputable def qm:List T->Bool
 | [c]=>Uo c
 | _=>false
noncomputable def G1 (k:T->Bool):List T->Bool
 | [c]=>JN k c
 | _=>false
noncomputable def qo (k:T->Bool):List T->Bool
 | [c,a,b]=>Jd 0 3 a b && k c
 | _=>false
noncomputable def yw (k:T->Bool):T->Bool
 | .tup (h :: r)=>if isS "whole" h=true then WM r else if isS "pick" h=true then qm r else if isS "row" h=true then G1 k r else if isS "many" h=true then qo k r else false
 | _=>false
noncomputable def isK:Nat->T->Bool
 | 0,_=>false
 | d+1,t=>yw (isK d) t
theorem qp {α:Type}(xs:List α)(n:Nat):((xs.length:Int) == (n:Int))=decide (xs.length=n):=by
 by_cases h:xs.length=n
 ·rw[decide_eq_true h,h];simp
 ·rw[decide_eq_false h,beq_eq_false_iff_ne];omega
theorem Vz {f:En->R T}{ρ:En}:Wf f ρ=(f ρ).bind λx=>match x with | .int i=> .ok (.int (-i)) | _=> .bad:=rfl
theorem Zn {i j:Int}:jA (.int i) (.int j)= .ok (.int (i - j)):=rfl
set_option maxHeartbeats 1000000 in
theorem Xr {n:Nat}{d:Nat}{k:T->Bool}(H0:∀t,sOk t->S_8 n 0 [t,.int d]= .ok (.bl (k t)))(H1:∀t,sOk t->S_8 n 1 [t,.int d]= .ok (.bl (JN k t)))(t:T)(ht:sOk t):
  S_8 (n+1) 0 [t,.int ((d+1:Nat):Int)]= .ok (.bl (yw k t)):=by
 have e:S_8 (n+1) 0 [t,.int ((d+1:Nat):Int)]=zu (b_8 z02 (S_8 n 0) gP (S_8 n 1) [.vl t,.vl (.int ((d+1:Nat):Int))]):=rfl;have hL:(((d+1:Nat):Int) == 0)=false:=by rw[beq_eq_false_iff_ne];omega
 have hL1:((d+1:Nat):Int) - 1=(d:Int):=by omega
 rw[e,b_8];simp only[Z6,j7,qk,JL,Jf,zR,w0,w1,Z0,bOk,eqI,hL,aR,if_false,ZA];cases t with
 | tup xs=>
  cases xs with
  | nil=>rfl
  | cons h r=>
   have hs:=wV ht;have hm:∀u∈r,sOk u:=λu hu=>jN hs (a9 _ hu);have z0:(((h :: r).length:Int) == 0)=false:=by rw[beq_eq_false_iff_ne];simp only[aj];omega
   have ti:wM "tuple" (.tup (h :: r))= .ok (.bl true):=rfl;simp only[ti,bOk,wt,dR,aR,if_false,wc,eqI,z0,Zs,nxS,zt,v0,v1,Z0,at0,eqS,Zm,jg,jt,jM,Zl,ZA,w0,z27,zQ,zK,Vz,Zn,hL1];show _=R.ok (T.bl (if isS "whole" h=true then WM r else if isS "pick" h=true then qm r else if isS "row" h=true then G1 k r else if isS "many" h=true then qo k r else false))
   have l3:(((h :: r).length:Int) == 3)=decide ((h :: r).length=3):=qp (h :: r) 3;have l2:(((h :: r).length:Int) == 2)=decide ((h :: r).length=2):=qp (h :: r) 2;have l4:(((h :: r).length:Int) == 4)=decide ((h :: r).length=4):=qp (h :: r) 4;simp only[l2,l3,l4,Zd];cases isS "whole" h with
   | true=>
    simp only[if_true]
    match r,hm with
    | [],_=>rfl
    | [_],_=>rfl
    | _ :: _ :: _ :: _,_=>simp[WM,Zs,zu]
    | [a,b],_=>
     simp only[at1,at2,bOk,qg];rfl
   | false=>
    simp only[aR,if_false,v0,v1,w0,bOk,at0,Zs,jg,jt,wc,eqI,l2,l4,Zd,Zn,hL1];cases isS "pick" h with
    | true=>
     simp only[if_true]
     match r,hm with
     | [],_=>rfl
     | _ :: _ :: _,_=>simp[qm,Zs,zu]
     | [c],hm=>
      simp only[at1,bOk,yv c (hm c (by simp))]
      rfl
    | false=>
     simp only[aR,if_false,v0,v1,w0,bOk,at0,Zs,jg,jt,wc,eqI,l2,l4,Zd,Zn,hL1];cases isS "row" h with
     | true=>
      simp only[if_true]
      match r,hm with
      | [],_=>rfl
      | _ :: _ :: _,_=>simp[G1,Zs,zu]
      | [c],hm=>
       simp only[at1,bOk,H1 c (hm c (by simp))]
       rfl
     | false=>
      simp only[aR,if_false,v0,v1,w0,bOk,at0,Zs,jg,jt,wc,eqI,l2,l4,Zd,Zn,hL1];cases isS "many" h with
      | true=>
       simp only[if_true]
       match r,hm with
       | [],_=>rfl
       | [_],_=>rfl
       | [_,_],_=>rfl
       | _ :: _ :: _ :: _ :: _,_=>simp[qo,Zs,zu]
       | [c,a,b],hm=>
        simp only[at1,at2,at3,bOk,qg,H0 c (hm c (by simp)),Zd]
        show zu (match (if Jd 0 3 a b=true then R.ok (T.bl (k c)) else .ok (.bl false)).s (λt=>RS.rt t) with | .nx _=>RS.rt (T.bl false) | r=>r)=R.ok (T.bl (Jd 0 3 a b && k c))
        cases Jd 0 3 a b <;> rfl
      | false=>rfl
 | _=>rfl
theorem G4 {n:Nat}{d:Nat}{k:T->Bool}(H0:∀t,sOk t->S_8 n 0 [t,.int d]= .ok (.bl (k t)))(t:T)(ht:sOk t):S_8 (n+1) 1 [t,.int d]= .ok (.bl (JN k t)):=by
 have e:S_8 (n+1) 1 [t,.int d]=zu (z05 f_f (S_8 n 0) [.vl t,.vl (.int d)]):=rfl;rw[e,z05];simp only[Zm,Je,jg,jt,jM,Zq,v0,Z0,bOk];rw[show f_f [t,.int 1,.int 3]= .ok (.bl (yu 1 3 t)) from ZH t 1 3,Zd];cases t with
 | tup ks=>
  show (if (decide (1<=ks.length) && decide (ks.length<=3))=true then _ else _)=R.ok (T.bl (decide (1<=ks.length) && decide (ks.length<=3) && ks.all k))
  cases h13:(decide (1<=ks.length) && decide (ks.length<=3)) with
  | false=>rfl
  | true=>
   rw[ae,decide_eq_true_eq,decide_eq_true_eq]at h13;have hb:ks.length<=bnd:=aq h13.2 (by decide)
   have ec:zG (zA 0) Z1 (za 2 (S_8 n 0) (z9 (vE 0) (z9 (vE 1) zj))) 1 [1] [.vl (.tup ks),.vl (.int d)] ks= .ok (ks.map λc=>T.bl (k c)):=
    Z7 (h:=λc=>T.bl (k c)) ks hb λc hc=>by
     show za 2 (S_8 n 0) (z9 (vE 0) (z9 (vE 1) zj)) [.vl c,.vl (.int d)]=_;rw[zK,v0,v1,bOk,bOk];exact H0 c (jN (wV ht) hc)
   simp only[if_true,ZA,zP,Zw,v0,bOk,JG,ec];show (match Wz (ks.map λc=>T.bl (k c)) with | some k=>R.ok (T.bl k) | none=> .bad)=_
   rw[Jl];rfl
 | _=>rfl
theorem uF:∀(d n:Nat),2*d+1<=n->∀t,sOk t->S_8 n 0 [t,.int d]= .ok (.bl (isK d t))
 | 0,n+1,_,t,_=>rfl
 | d+1,n+2,h,t,ht=>Xr (n:=n+1) (λu hu=>uF d (n+1) (by omega) u hu) (λu hu=>G4 (λv hv=>uF d n (by omega) v hv) u hu) t ht
theorem yx (t:T)(ht:sOk t):f_3 [t]= .ok (.bl (isK 3 t)):=by
 have e:f_3 [t]=zu (b_3 (f_8 20) [.vl t]):=rfl;rw[e,b_3];simp only[Zm,Je,jg,jt,zK,v0,Z0,bOk];exact uF 3 20 (by omega) t ht
noncomputable def inR (lo hi:Int):T->Bool
 | .int i=>decide (lo<=i) && decide (i<=hi)
 | _=>false
theorem G5 (xs:List T):eqC (.lst xs) (.lst [])= .ok xs.isEmpty:=by cases xs <;> rfl
theorem WN:∀(ws acc:List Str),(dd acc ws).length<=acc.length+ws.length
 | [],acc=>ai _
 | w :: ws,acc=>by
  unfold dd;have:=WN ws (if w∈acc then acc else acc++[w])
  by_cases h:w∈acc
  ·rw[if_pos h]at this ⊢;simp only[aj];omega
  ·rw[if_neg h]at this ⊢;rw[av,aF]at this;simp only[aj];omega
theorem wW:∀(ws acc:List Str),((dd acc ws).length=acc.length+ws.length)↔∀(k:Nat) (w:Str),ws[k]? =some w->w ∉ acc++ws.take k
 | [],acc=>by simp[dd]
 | w :: ws,acc=>by
  unfold dd
  by_cases h:w∈acc
  ·rw[if_pos h];have:=WN ws acc;constructor
   ·intro e;simp only[aj]at e;omega
   ·intro H;exact absurd (db _ h) (H 0 w rfl)
  ·rw[if_neg h];have ih:=wW ws (acc++[w]);rw[av,aF]at ih;rw[show acc.length+(w :: ws).length=acc.length+1+ws.length by simp only[aj];omega,ih]
   constructor
   ·intro H k v e;cases k with
    | zero=>simp at e;subst e;simpa using h
    | succ k=>
     have:=H k v (by simpa using e)
     simpa[br] using this
   ·intro H k v e;have:=H (k+1) v (by simpa using e)
    simpa[br] using this
theorem ltI (i j:Int):ltC (.int i) (.int j)= .ok (decide (i < j)):=rfl
theorem v2 {t:T}{a b:Sl}{ρ:En}:vE 2 (a :: b :: .vl t :: ρ)= .ok t:=rfl
theorem v3 {t:T}{a b c:Sl}{ρ:En}:vE 3 (a :: b :: c :: .vl t :: ρ)= .ok t:=rfl
theorem w2 {t:T}{a b:Sl}{ρ:En}:vB 2 (a :: b :: .vl t :: ρ)= .ok t:=rfl
theorem w3 {t:T}{a b c:Sl}{ρ:En}:vB 3 (a :: b :: c :: .vl t :: ρ)= .ok t:=rfl
theorem w5 {t:T}{a b c d e:Sl}{ρ:En}:vB 5 (a :: b :: c :: d :: e :: .vl t :: ρ)= .ok t:=rfl
theorem v4 {t:T}{a b c d:Sl}{ρ:En}:vE 4 (a :: b :: c :: d :: .vl t :: ρ)= .ok t:=rfl
theorem Xs (f g:En->R Bool)(ρ:En):Kj f g ρ=(f ρ).bind λx=>if x=true then g ρ else .ok false:=rfl
theorem qr (t:T):wM "tuple" t= .ok (.bl (match t with | .tup _=>true | _=>false)):=by cases t <;> rfl
theorem Up (w:Str):∀ws:List Str,JY (λy=>eqF 30 y (.str w)) (ws.map T.str)=some (decide (w∈ws))
 | []=>rfl
 | x :: ws=>by
  have ih:=Up w ws;show (match JY (λy=>eqF 30 y (.str w)) (ws.map T.str) with | none=>none | some c=>some ((x == w) || c))=_
  rw[ih];show some ((x == w) || decide (w∈ws))=_
  congr 1
  by_cases h:x=w
  ·subst h;simp
  ·have h' :¬ w=x:=λz=>h z.symm;simp[h,h']
theorem gtI (i j:Int):gtC (.int i) (.int j)= .ok (decide (i > j)):=rfl
theorem Z8 (i j:Int):zD (.int i) (.int j)= .ok (.int (i+j)):=rfl
theorem G6 (p:Int)(h0:0<=p)(h1:p < 26):ixT (.str "abcdefghijklmnopqrstuvwxyz") (.int p)= .ok (.str ⟨#[97+p.toNat]⟩):=by
 obtain⟨n,rfl⟩:=Int.eq_ofNat_of_zero_le h0
 have h:n < 26:=by omega
 clear h0 h1
 iterate 26 (refine (Nat.lt_or_eq_of_le (Nat.le_of_lt_succ h)).elim (λh=>?_) (λe=>e ▸ rfl))
 exact absurd h (Nat.not_lt_zero _)
noncomputable abbrev z0z:En->R T:=zb ixT (vE 3) (za 3 f_2 (z9 (vE 1) (z9 (zb zD (zb zD (vE 2) (cE (.int 2))) (vE 0)) (z9 (cE (.int 26)) (zj)))))
theorem G7 (ns:List Int)(k:Int)(h0:0<=k)(j:Nat):∃c:Nat,(97<=c/\c<=122)/\z0z [.vl (.int (j:Int)),.vl (scr ns),.vl (.int k),.vl (.str "abcdefghijklmnopqrstuvwxyz")]= .ok (.str ⟨#[c]⟩):=by
 obtain⟨p,e,p0,p1⟩:=zU ns (k+2+j) 26 (by omega) (by omega)
 refine⟨97+p.toNat,⟨by omega,by omega⟩, ?_⟩
 simp only[z0z,zt,v3,bOk,Zq,v1,v2,v0,Z0,Z8,e];exact G6 p p0 p1
theorem yy (ns:List Int)(k:Int)(h0:0<=k):∃w:Str,km [scr ns,.int k]= .ok (.str w)/\Zk (.str w)=true:=by
 have e:km [scr ns,.int k]=zu (GZ f_2 [.vl (scr ns),.vl (.int k),.un]):=rfl;obtain⟨p,e0,p0,p1⟩:=zU ns k 6 h0 (by omega)
 have hset:∀t,([Sl.vl (scr ns),Sl.vl (.int k),.un]:En).set 2 (.vl t)=[Sl.vl (scr ns),Sl.vl (.int k),.vl t]:=λ_=>rfl;rw[e,GZ];simp only[Z6,j7,JM,Z0,Zs,hset,zR,Zq,v0,v1,bOk,e0,gtI];cases hp:decide (p > 0) with
 | true=>
  obtain⟨q,e1,q0,q1⟩:=zU ns (k+1) 4 (by omega) (by omega)
  simp only[if_true,Zm,jg,jt,zt,Zq,v0,v1,Z0,bOk,Z8,e1];have hq:q=0\/q=1\/q=2\/q=3:=by omega
  rcases hq with rfl | rfl | rfl | rfl
  ·exact⟨"a",rfl,by decide⟩
  ·exact⟨"b",rfl,by decide⟩
  ·exact⟨"ab",rfl,by decide⟩
  ·exact⟨"cab",rfl,by decide⟩
 | false=>
  obtain⟨q,e1,q0,q1⟩:=zU ns (k+1) 3 (by omega) (by omega)
  simp only[aR,if_false,nxS,Zm,Je,jg,jt,ZA,zP];obtain⟨g,hg⟩:=ia.mp (G7 ns k h0);have ei:ZC (zb zD (cE (.int 1)) (za 3 f_2 (z9 (vE 0) (z9 (zb zD (vE 1) (cE (.int 1))) (z9 (cE (.int 3)) (zj)))))) [Sl.vl (scr ns),Sl.vl (.int k),.vl (.str "abcdefghijklmnopqrstuvwxyz")]= .ok (rng 0 (1+q).toNat):=by
   unfold ZC;simp only[zt,Zq,v0,v1,Z0,bOk,Z8,e1];rw[if_pos ⟨by omega,by omega⟩]
  have ec:∀n:Nat,n<=3->zG (zA 0) Z1 z0z 1 [0,1,2] [Sl.vl (scr ns),Sl.vl (.int k),.vl (.str "abcdefghijklmnopqrstuvwxyz")] (rng 0 n)= .ok ((rng 0 n).map λt=>match t with | .int j=> .str ⟨#[g j.toNat]⟩ | t=>t):=λn hn=>
   Z7 (rng 0 n) (by unfold rng;rw[ac,be];exact aq hn (by decide)) λt ht=>by
    unfold rng at ht;obtain⟨j,_,rfl⟩:=aC.mp ht;show z0z [.vl (.int (0+(j:Int))),.vl (scr ns),.vl (.int k),.vl (.str "abcdefghijklmnopqrstuvwxyz")]= .ok (.str ⟨#[g (0+(j:Int)).toNat]⟩);rw[fY,bc];exact(hg j).2
  rw[ei,bOk,ec _ (by omega),bOk,bOk]
  have hw:∀j,Zi (g j)=true:=λj=>by
   obtain⟨a,b⟩:=(hg j).1;unfold Zi;rw[decide_eq_true a,decide_eq_true b];rfl
  have hq:q=0\/q=1\/q=2:=by omega
  rcases hq with rfl | rfl | rfl
  ·refine⟨⟨#[g 0]⟩,rfl, ?_⟩;show (Zi (g 0) && true)=true;rw[hw 0];rfl
  ·refine⟨⟨#[g 0,g 1]⟩,rfl, ?_⟩;show (Zi (g 0) && (Zi (g 1) && true))=true;rw[hw 0,hw 1];rfl
  ·refine⟨⟨#[g 0,g 1,g 2]⟩,rfl, ?_⟩;show (Zi (g 0) && (Zi (g 1) && (Zi (g 2) && true)))=true;rw[hw 0,hw 1,hw 2];rfl
theorem z28 (j:Int):zY (.int 5) (.int j)= .ok (.int (5*j)):=by
 show (if Wc 5 j then R.ok (T.int (5*j)) else .bad)=_
 rw[if_pos (.inl ⟨by decide,by decide⟩)]
theorem uh {f g:En->R T}{ρ:En}{x y:T}(hf:f ρ= .ok x)(hg:g ρ= .ok y):Zh (z9 f (z9 g zj)) ρ= .ok (.tup [x,y]):=by
 unfold Zh z9 zj;rw[hf,hg];rfl
theorem G8 {f g h:En->R T}{ρ:En}{x y z:T}(hf:f ρ= .ok x)(hg:g ρ= .ok y)(hh:h ρ= .ok z):Zh (z9 f (z9 g (z9 h zj))) ρ= .ok (.tup [x,y,z]):=by
 unfold Zh z9 zj;rw[hf,hg,hh];rfl
theorem tup4 {f g h i:En->R T}{ρ:En}{x y z w:T}(hf:f ρ= .ok x)(hg:g ρ= .ok y)(hh:h ρ= .ok z)(hi:i ρ= .ok w):Zh (z9 f (z9 g (z9 h (z9 i zj)))) ρ= .ok (.tup [x,y,z,w]):=by
 unfold Zh z9 zj;rw[hf,hg,hh,hi];rfl
noncomputable def Dst (ws:List Str):Prop:=∀(k:Nat) (w:Str),ws[k]? =some w->w ∉ ws.take k
theorem Dst.add {ws:List Str}(h:Dst ws){w:Str}(hw:w ∉ ws):Dst (ws++[w]):=λk x hx=>by
 by_cases hk:k < ws.length
 ·rw[aE hk]at hx;rw[List.take_append_of_le_length (by omega)]
  exact h k x hx
 ·rw[aB (by omega)]at hx
  have hk' :k=ws.length:=by
   rcases Nat.lt_or_ge (k - ws.length) 1 with z | z
   ·omega
   ·rw[aP (by simpa using z)]at hx;cases hx
  subst hk';rw[eU]at hx;cases hx;rw[List.take_left']
  ·exact hw
  ·rfl
noncomputable abbrev WO:En->RS:=zz (zJ 5 (za 2 km (z9 (vE 0) (z9 (zb zD (zb zD (vE 1) (cE (.int 5))) (zb zY (cE (.int 5)) (vE 4))) (zj)))))
  (ifS (zF v6 (vB 5) (vB 3)) (vc 3 (vE 5)) (nxS))
theorem JO (ns:List Int)(k:Int)(h0:0<=k):∀(js:List Nat) (ws:List Str) (x4 x5:Sl),js.length+ws.length<=4->Dst ws->(∀w∈ws,Zk (.str w)=true)->
  ∃ws' y4 y5,ZD (zA 4) WO (js.map λ(j:Nat)=>T.int (0+(j:Int))) [.vl (scr ns),.vl (.int k),.un,.ow (ws.map T.str),x4,x5]= .nx [.vl (scr ns),.vl (.int k),.un,.ow (ws'.map T.str),y4,y5]/\ws'.length<=4/\Dst ws' /\(∀w∈ws',Zk (.str w)=true)/\(0 < js.length+ws.length->0 < ws'.length)
 | [],ws,x4,x5,hl,hd,hw=>⟨ws,x4,x5,rfl,by simpa using hl,hd,hw,λh=>by simpa using h⟩
 | j :: js,ws,x4,x5,hl,hd,hw=>by
  obtain⟨w,ew,hw'⟩:=yy ns (k+5+5*(0+(j:Int))) (by omega)
  have hl' :js.length+ws.length+1<=4:=by simpa[aj,Nat.add_right_comm] using hl
  have e:ZD (zA 4) WO ((j :: js).map λ(j:Nat)=>T.int (0+(j:Int))) [.vl (scr ns),.vl (.int k),.un,.ow (ws.map T.str),x4,x5]=match WO [.vl (scr ns),.vl (.int k),.un,.ow (ws.map T.str),.vl (.int (0+(j:Int))),x5] with
   | .nx ρ2=>ZD (zA 4) WO (js.map λ(j:Nat)=>T.int (0+(j:Int))) ρ2
   | .ct ρ2=>ZD (zA 4) WO (js.map λ(j:Nat)=>T.int (0+(j:Int))) ρ2
   | .bk ρ2=> .nx ρ2
   | r=>r:=rfl
  have eb:WO [.vl (scr ns),.vl (.int k),.un,.ow (ws.map T.str),.vl (.int (0+(j:Int))),x5]= .nx [.vl (scr ns),.vl (.int k),.un,.ow ((if w∈ws then ws else ws++[w]).map T.str),.vl (.int (0+(j:Int))),.vl (.str w)]:=by
   have w3o:∀(a b c:Sl) (ts:List T) (ρ:En),vB 3 (a :: b :: c :: .ow ts :: ρ)= .ok (.lst ts):=λ_ _ _ _ _=>rfl;have hset:∀t,([.vl (scr ns),.vl (.int k),.un,.ow (ws.map T.str),.vl (.int (0+(j:Int))),x5]:En).set 5 (.vl t)=[.vl (scr ns),.vl (.int k),.un,.ow (ws.map T.str),.vl (.int (0+(j:Int))),.vl t]:=λ_=>rfl;have en:v6 (.str w) (.lst (ws.map T.str))= .ok (!decide (w∈ws)):=by
    show ((match JY (λy=>eqF 30 y (.str w)) (ws.map T.str) with | some b=>R.ok b | none=> .bad)).bind (λb=>R.ok (!b))=_
    rw[Up];rfl
   simp only[WO,Z6,JM,zK,v0,v1,v4,zt,Z0,bOk,Z8,z28,ew,Zs,hset,j7,zR,w5,w3o,en]
   by_cases hm:w∈ws
   ·rw[decide_eq_true hm,if_pos hm];rfl
   ·rw[decide_eq_false hm,if_neg hm];have hb:(ws.map T.str).length < bnd:=by rw[ac];exact bf (show ws.length<=4 by omega) (by decide)
    show (if (ws.map T.str).length < bnd then RS.nx _ else .bad)=_
    rw[if_pos hb,cn];rfl
  rw[e,eb]
  by_cases hm:w∈ws
  ·rw[if_pos hm];obtain⟨ws',y4,y5,r1,r2,r3,r4,r5⟩:=JO ns k h0 js ws (.vl (.int (0+(j:Int)))) (.vl (.str w)) (by omega) hd hw
   exact⟨ws',y4,y5,r1,r2,r3,r4,λ_=>r5 (by have:=List.length_pos_of_mem hm;omega)⟩
  ·rw[if_neg hm];obtain⟨ws',y4,y5,r1,r2,r3,r4,r5⟩:=JO ns k h0 js (ws++[w]) (.vl (.int (0+(j:Int)))) (.vl (.str w)) (by simp only[av,aj,bA];omega) (hd.add hm) (λx hx=>by
    rcases cO.mp hx with z | z
    ·exact hw x z
    ·rw[aG.mp z];exact hw')
   exact⟨ws',y4,y5,r1,r2,r3,r4,λ_=>r5 (by simp only[av,aj,bA];omega)⟩
noncomputable abbrev G9:En->R T:=Zh (z9 (vE 1) (z9 (zb zD (cE (.int 1)) (za 3 f_2 (z9 (vE 2) (z9 (zb zD (zb zD (vE 3) (cE (.int 30))) (vE 0)) (z9 (cE (.int 20)) (zj)))))) (zj)))
theorem Uq (ns:List Int)(k:Int)(h0:0<=k):∀(ws:List Str) (i:Nat) (x0 x1:Sl),(∀w∈ws,Zk (.str w)=true)->∃cs:List T,zO (Z3 0 1) Z1 G9 (((ws.map T.str).zipIdx i).map λp=>T.tup [.int (p.2:Nat),p.1]) [x0,x1,.vl (scr ns),.vl (.int k)]= .ok cs/\cs.all zM=true/\cs.map Za=ws
 | [],i,x0,x1,_=>⟨[],rfl,rfl,rfl⟩
 | w :: ws,i,x0,x1,hw=>by
  obtain⟨p,e,p0,p1⟩:=zU ns (k+30+i) 20 (by omega) (by omega)
  obtain⟨cs,r1,r2,r3⟩:=Uq ns k h0 ws (i+1) (.vl (.int (i:Int))) (.vl (.str w)) λx hx=>hw x (a9 _ hx);have ec:G9 [.vl (.int (i:Int)),.vl (.str w),.vl (scr ns),.vl (.int k)]= .ok (.tup [.str w,.int (1+p)]):=by
   have ea:za 3 f_2 (z9 (vE 2) (z9 (zb zD (zb zD (vE 3) (cE (.int 30))) (vE 0)) (z9 (cE (.int 20)) (zj)))) [.vl (.int (i:Int)),.vl (.str w),.vl (scr ns),.vl (.int k)]= .ok (.int p):=by
    simp only[Zq,v2,v3,v0,zt,Z0,bOk,Z8,e]
   have eb:zb zD (cE (.int 1)) (za 3 f_2 (z9 (vE 2) (z9 (zb zD (zb zD (vE 3) (cE (.int 30))) (vE 0)) (z9 (cE (.int 20)) (zj))))) [.vl (.int (i:Int)),.vl (.str w),.vl (scr ns),.vl (.int k)]= .ok (.int (1+p)):=by
    rw[zt,ea];rfl
   exact uh v1 eb
  refine⟨.tup [.str w,.int (1+p)] :: cs, ?_, ?_, ?_⟩
  ·show ((G9 [.vl (.int (i:Int)),.vl (.str w),.vl (scr ns),.vl (.int k)]).bind λv=>(zO (Z3 0 1) Z1 G9 (((ws.map T.str).zipIdx (i+1)).map λp=>T.tup [.int (p.2:Nat),p.1]) [.vl (.int (i:Int)),.vl (.str w),.vl (scr ns),.vl (.int k)]).bind λvs=>R.ok (v :: vs))=_;rw[ec,r1];rfl
  ·rw[bU,r2,Bool.and_true];show (Zk (.str w) && decide (1<=1+p) && decide (1+p<=20))=true;rw[hw w ad,decide_eq_true (by omega),decide_eq_true (by omega)];rfl
  ·rw[ao,r3];rfl
theorem VA (i j:Int):Yq (.int i) (.int j)= .ok (.int (if j < i then j else i)):=rfl
theorem Xt (ns:List Int)(k:Int)(h0:0<=k):∃t,gN [scr ns,.int k]= .ok t/\∀d,isK (d+1) t=true:=by
 have e:gN [scr ns,.int k]=zu (z00 f_2 km [.vl (scr ns),.vl (.int k),.un,.un,.un,.un]):=rfl;obtain⟨p,e0,p0,p1⟩:=zU ns k 3 h0 (by omega)
 rw[e,z00,Z6];simp only[j7,zR,Zq,v0,v1,Z0,bOk,e0,gtI,Zs];cases hp:decide (p > 0) with
 | true=>
  obtain⟨q,e1,q0,q1⟩:=zU ns (k+1) 7 (by omega) (by omega)
  obtain⟨q3,e3,_,_⟩:=zU ns (k+3) 8 (by omega) (by omega)
  obtain⟨q4,e4,a4,b4⟩:=zU ns (k+4) 3 (by omega) (by omega)
  obtain⟨q2,e2,a2,b2⟩:=zU ns (k+2) 4 (by omega) (by omega)
  have hset:∀t x,([.vl (scr ns),.vl (.int k),x,.un,.un,.un]:En).set 2 (.vl t)=[.vl (scr ns),.vl (.int k),.vl t,.un,.un,.un]:=λ_ _=>rfl;have fin:∀low:Int, -20<=low->low<=20->∃t,zu (zE (Zh (z9 (cE (.str "whole")) (z9 (vE 2) (z9 (zb Yq (cE (.int 20)) (zb zD (vE 2) (za 3 f_2 (z9 (vE 0) (z9 (zb zD (vE 1) (cE (.int 2))) (z9 (cE (.int 4)) (zj))))))) (zj))))) [.vl (scr ns),.vl (.int k),.vl (.int low),.un,.un,.un])= .ok t/\∀d,isK (d+1) t=true:=by
   intro low hl1 hl2;refine⟨.tup [.str "whole",.int low,.int (if low+q2 < 20 then low+q2 else 20)], ?_,λd=> ?_⟩
   ·rw[Zm,Je];refine G8 rfl rfl ?_;simp only[jg,wa,jt,zt,v2,v0,v1,Zq,Z0,bOk,Z8,e2,VA]
   ·show (decide (-20<=low) && decide (low<=_) && decide (_<=(20:Int)))=true;rw[decide_eq_true hl1,decide_eq_true (by split <;> omega),decide_eq_true (by split <;> omega)];rfl
  simp only[if_true,Z6,JM,j7,zt,Zq,v0,v1,Z0,bOk,Z8,e1,Zn,Zs,hset,zR,e3,eqI];cases hq:(q3 == 0) with
  | true=>
   have h3:q4=0\/q4=1\/q4=2:=by omega
   rcases h3 with rfl | rfl | rfl
   ·obtain⟨t,r,s⟩:=fin (-20) (by omega) (by omega)
    refine⟨t, ?_,s⟩;rw[← r];simp only[if_true,e4,bOk];have hv:∀ρ,(ZT (z9 (Wf (cE (.int 20))) (z9 (cE (.int 17)) (z9 (cE (.int 20)) (zj)))) ρ)= .ok (.lst [.int (-20),.int 17,.int 20]):=λ_=>rfl;simp only[hv,bOk];have hx:ixT (.lst [.int (-20),.int 17,.int 20]) (.int 0)= .ok (.int (-20)):=rfl;simp only[hx,Zs,hset,Zm];generalize Zh _ _=z;cases z <;> rfl
   ·obtain⟨t,r,s⟩:=fin (17) (by omega) (by omega)
    refine⟨t, ?_,s⟩;rw[← r];simp only[if_true,e4,bOk];have hv:∀ρ,(ZT (z9 (Wf (cE (.int 20))) (z9 (cE (.int 17)) (z9 (cE (.int 20)) (zj)))) ρ)= .ok (.lst [.int (-20),.int 17,.int 20]):=λ_=>rfl;simp only[hv,bOk];have hx:ixT (.lst [.int (-20),.int 17,.int 20]) (.int 1)= .ok (.int (17)):=rfl;simp only[hx,Zs,hset,Zm];generalize Zh _ _=z;cases z <;> rfl
   ·obtain⟨t,r,s⟩:=fin (20) (by omega) (by omega)
    refine⟨t, ?_,s⟩;rw[← r];simp only[if_true,e4,bOk];have hv:∀ρ,(ZT (z9 (Wf (cE (.int 20))) (z9 (cE (.int 17)) (z9 (cE (.int 20)) (zj)))) ρ)= .ok (.lst [.int (-20),.int 17,.int 20]):=λ_=>rfl;simp only[hv,bOk];have hx:ixT (.lst [.int (-20),.int 17,.int 20]) (.int 2)= .ok (.int (20)):=rfl;simp only[hx,Zs,hset,Zm];generalize Zh _ _=z;cases z <;> rfl
  | false=>
   obtain⟨t,r,s⟩:=fin (q - 3) (by omega) (by omega)
   refine⟨t, ?_,s⟩;rw[← r];simp only[aR,if_false,nxS,Zm];generalize Zh _ _=z;cases z <;> rfl
 | false=>
  obtain⟨q,e1,q0,q1⟩:=zU ns (k+1) 4 (by omega) (by omega)
  simp only[aR,if_false,nxS,Z6];have ei:ZC (zb zD (cE (.int 1)) (za 3 f_2 (z9 (vE 0) (z9 (zb zD (vE 1) (cE (.int 1))) (z9 (cE (.int 4)) (zj)))))) [.vl (scr ns),.vl (.int k),.un,.ow [],.un,.un]= .ok (rng 0 (1+q).toNat):=by
   unfold ZC;simp only[zt,Zq,v0,v1,Z0,bOk,Z8,e1];rw[if_pos ⟨by omega,by omega⟩]
  have el:yI 3 zj [.vl (scr ns),.vl (.int k),.un,.un,.un,.un]= .nx [.vl (scr ns),.vl (.int k),.un,.ow [],.un,.un]:=rfl;rw[el];have hn:(aT (1+q).toNat).length=(1+q).toNat:=be;obtain⟨ws,y4,y5,r1,r2,r3,r4,r5⟩:=JO ns k h0 (aT (1+q).toNat) [] .un .un (by rw[hn,bA];omega) (λk w h=>by cases h) (λw h=>by cases h)
  have hpos:0 < ws.length:=r5 (by rw[hn,bA];omega)
  have ef:ZV (ZC (zb zD (cE (.int 1)) (za 3 f_2 (z9 (vE 0) (z9 (zb zD (vE 1) (cE (.int 1))) (z9 (cE (.int 4)) (zj))))))) (zA 4) WO [.vl (scr ns),.vl (.int k),.un,.ow [],.un,.un]= .nx [.vl (scr ns),.vl (.int k),.un,.ow (ws.map T.str),y4,y5]:=by
   unfold ZV;rw[ei,Zs];exact r1
  obtain⟨cs,s1,s2,s3⟩:=Uq ns k h0 ws 0 .un .un r4;have hcl:cs.length=ws.length:=by rw[← s3,ac]
  refine⟨.tup [.str "pick",.tup cs], ?_,λd=> ?_⟩
  ·dsimp only;rw[ef];dsimp only;rw[Zm,Je];refine uh rfl ?_;rw[ZA,zP];have ee:xO (vE 3) (frz [.vl (scr ns),.vl (.int k),.un,.ow (ws.map T.str),y4,y5])= .ok (jB (ws.map T.str)):=rfl;rw[ee,bOk];unfold zG;rw[if_pos (by unfold jB;rw[ac,fI,ac];exact aq r2 (by decide))]
   have ec:zO (Z3 0 1) Z1 G9 (jB (ws.map T.str)) (WC 2 [0,1] (frz [.vl (scr ns),.vl (.int k),.un,.ow (ws.map T.str),y4,y5]))= .ok cs:=s1;rw[ec];rfl
  ·show (decide (1<=cs.length) && decide (cs.length<=4) && cs.all zM && decide ((dd [] (cs.map Za)).length=cs.length))=true;have hd:(dd [] (cs.map Za)).length=cs.length:=by
    rw[s3,hcl];have:=(wW ws []).mpr (λk w h=>by simpa using r3 k w h)
    simpa using this
   rw[decide_eq_true (by omega),decide_eq_true (by omega),s2,decide_eq_true hd];rfl
theorem uG (c:Int)(j:Int)(hc:Wc c j):zY (.int c) (.int j)= .ok (.int (c*j)):=by
 show (if Wc c j then R.ok (T.int (c*j)) else .bad)=_
 rw[if_pos hc]
theorem Ga (j:Int):zY (.int 3) (.int j)= .ok (.int (3*j)):=uG _ _ (.inl ⟨by decide,by decide⟩)
theorem Gb (j:Int):zY (.int 50) (.int j)= .ok (.int (50*j)):=uG _ _ (.inl ⟨by decide,by decide⟩)
noncomputable abbrev z0A (c:List T->R T):En->R T:=za 3 c (z9 (vE 1) (z9 (zb zD (zb zD (zb zY (cE (.int 3)) (vE 2)) (cE (.int 40))) (zb zY (cE (.int 50)) (vE 0))) (z9 (zb jA (vE 3) (cE (.int 1))) (zj))))
theorem uH (ns:List Int):∀(d n:Nat),d<=n->1<=d->∀k:Int,0<=k->∃t,S_h n 0 [scr ns,.int k,.int (d:Int)]= .ok t/\isK d t=true
 | d+1,n+1,hn,_,k,h0=>by
  have e:S_h (n+1) 0 [scr ns,.int k,.int ((d+1:Nat):Int)]=zu (b_h f_2 gN (S_h n 0) [.vl (scr ns),.vl (.int k),.vl (.int ((d+1:Nat):Int)),.un,.un,.un]):=rfl;obtain⟨p,e0,p0,p1⟩:=zU ns k 5 h0 (by omega)
  obtain⟨l,el,hl⟩:=Xt ns (k+1) (by omega)
  have hset:([.vl (scr ns),.vl (.int k),.vl (.int ((d+1:Nat):Int)),.un,.un,.un]:En).set 3 (.vl (.int p))=[.vl (scr ns),.vl (.int k),.vl (.int ((d+1:Nat):Int)),.vl (.int p),.un,.un]:=rfl;rw[e,b_h];simp only[Z6,JM,j7,qk,zR,Zq,zK,v0,v1,v2,Z0,bOk,e0,Zs,hset,w2,w3,eqI,ltI,Z8,Zm,jg,wa,jt,zt,el];have hd1:((((d+1:Nat):Int) == 1))=decide (d=0):=by
   by_cases h:d=0
   ·subst h;rfl
   ·rw[decide_eq_false h,beq_eq_false_iff_ne];omega
  rw[hd1]
  by_cases hleaf:d=0\/p < 2
  ·refine⟨l, ?_,hl d⟩;rcases hleaf with h | h
   ·rw[decide_eq_true h];rfl
   ·rw[decide_eq_true h];cases decide (d=0) <;> rfl
  ·have hd0:¬ d=0:=λz=>hleaf (.inl z);have hp2:¬ p < 2:=λz=>hleaf (.inr z);have hsub:((d+1:Nat):Int) - 1=(d:Int):=by omega
   rw[decide_eq_false hd0,decide_eq_false hp2];simp only[aR,if_false,Zs,nxS,w3,v0,v1,v2,bOk,ltI,Z0];cases hp:decide (p < 4) with
   | true=>
    obtain⟨q,e1,q0,q1⟩:=zU ns (k+1) 3 (by omega) (by omega)
    have hj:∀j:Nat,∃t,z0A (S_h n 0) [.vl (.int (0+(j:Int))),.vl (scr ns),.vl (.int k),.vl (.int ((d+1:Nat):Int))]= .ok t/\isK d t=true:=λj=>by
     obtain⟨t,r,s⟩:=uH ns d n (by omega) (by omega) (3*k+40+50*(0+(j:Int))) (by omega)
     refine⟨t, ?_,s⟩;simp only[z0A,Zq,v0,v1,v2,v3,zt,Z0,bOk,Ga,Gb,Z8,Zn,hsub,r]
    obtain⟨g,hg⟩:=ia.mp hj;have ei:ZC (zb zD (cE (.int 1)) (za 3 f_2 (z9 (vE 0) (z9 (zb zD (vE 1) (cE (.int 1))) (z9 (cE (.int 3)) (zj)))))) [.vl (scr ns),.vl (.int k),.vl (.int ((d+1:Nat):Int)),.vl (.int p),.un,.un]= .ok (rng 0 (1+q).toNat):=by
     unfold ZC;simp only[zt,Zq,v0,v1,Z0,bOk,Z8,e1];rw[if_pos ⟨by omega,by omega⟩]
    have ec:zG (zA 0) Z1 (z0A (S_h n 0)) 1 [0,1,2] [.vl (scr ns),.vl (.int k),.vl (.int ((d+1:Nat):Int)),.vl (.int p),.un,.un] (rng 0 (1+q).toNat)= .ok ((rng 0 (1+q).toNat).map λt=>match t with | .int j=>g j.toNat | t=>t):=
     Z7 (rng 0 (1+q).toNat) (by unfold rng;rw[ac,be];exact aq (show (1+q).toNat<=3 by omega) (by decide)) λt ht=>by
      unfold rng at ht;obtain⟨j,_,rfl⟩:=aC.mp ht;show z0A (S_h n 0) [.vl (.int (0+(j:Int))),.vl (scr ns),.vl (.int k),.vl (.int ((d+1:Nat):Int))]= .ok (g (0+(j:Int)).toNat);rw[(hg j).1,fY,bc]
    generalize hcs:((rng 0 (1+q).toNat).map λt=>match t with | .int j=>g j.toNat | t=>t)=cs at ec
    have hlen:cs.length=(1+q).toNat:=by rw[← hcs];unfold rng;rw[ac,ac,be]
    have hall:∀t∈cs,isK d t=true:=λt ht=>by
     rw[← hcs]at ht;obtain⟨u,hu,rfl⟩:=aC.mp ht;unfold rng at hu;obtain⟨j,_,rfl⟩:=aC.mp hu;exact(hg _).2
    refine⟨.tup [.str "row",.tup cs], ?_, ?_⟩
    ·have hs4:([.vl (scr ns),.vl (.int k),.vl (.int ((d+1:Nat):Int)),.vl (.int p),.un,.un]:En).set 4 (.vl (.lst cs))=[.vl (scr ns),.vl (.int k),.vl (.int ((d+1:Nat):Int)),.vl (.int p),.vl (.lst cs),.un]:=rfl;simp only[if_true,zP,ei,bOk,ec,Zs,hs4,jg,wa,jt];rfl
    ·show (decide (1<=cs.length) && decide (cs.length<=3) && cs.all (isK d))=true;rw[decide_eq_true (by omega),decide_eq_true (by omega),aL.mpr hall];rfl
   | false=>
    obtain⟨q,e1,q0,q1⟩:=zU ns (k+1) 3 (by omega) (by omega)
    obtain⟨q2,e2,_,_⟩:=zU ns (k+2) 3 (by omega) (by omega)
    obtain⟨t,r,s⟩:=uH ns d n (by omega) (by omega) (3*k+40) (by omega)
    refine⟨.tup [.str "many",t,.int q,.int (if q+q2 < 3 then q+q2 else 3)], ?_, ?_⟩
    ·have hs5:([.vl (scr ns),.vl (.int k),.vl (.int ((d+1:Nat):Int)),.vl (.int p),.un,.un]:En).set 5 (.vl (.int q))=[.vl (scr ns),.vl (.int k),.vl (.int ((d+1:Nat):Int)),.vl (.int p),.un,.vl (.int q)]:=rfl;simp only[aR,if_false,v0,v1,zt,Z0,bOk,Z8,e1,Zs,hs5,jg,wa,jt,Je];refine tup4 rfl ?_ rfl ?_
     ·simp only[Zq,v0,v1,v2,zt,Z0,bOk,Ga,Z8,Zn,hsub,r]
     ·have v5:∀{t:T} {a b c d e:Sl} {ρ:En},vE 5 (a :: b :: c :: d :: e :: .vl t :: ρ)= .ok t:=rfl;simp only[Zq,v0,v1,v5,zt,Z0,bOk,Z8,e2,VA]
    ·show (Jd 0 3 (.int q) (.int _) && isK d t)=true;rw[s,Bool.and_true];show (decide (0<=q) && decide (q<=_) && decide (_<=(3:Int)))=true;rw[decide_eq_true (by omega),decide_eq_true (by split <;> omega),decide_eq_true (by split <;> omega)];rfl
mutual
noncomputable def dep:T->Nat
 | .tup xs=>Qz xs+1
 | .lst xs=>Qz xs+1
 | _=>1
noncomputable def Qz:List T->Nat
 | []=>0
 | t :: ts=>max (dep t) (Qz ts)
end
mutual
noncomputable def siz:T->Nat
 | .tup xs=>QA xs+1
 | .lst xs=>QA xs+1
 | _=>1
noncomputable def QA:List T->Nat
 | []=>0
 | t :: ts=>siz t+QA ts
end
theorem Jg {w:Str}{t:T}(h:isS w t=true):t= .str w:=by
 cases t with
 | str s=>
  have:(s == w)=true:=h;rw[eq_of_beq this]
 | _=>cases h
theorem Xu {lo hi:Int}{t:T}(h:inR lo hi t=true):∃i,t= .int i:=by
 cases t with
 | int i=>exact⟨i,rfl⟩
 | _=>cases h
theorem Jn {lo hi:Int}{a b:T}(h:Jd lo hi a b=true):∃i j,a= .int i/\b= .int j:=by
 cases a with
 | int i=>
  cases b with
  | int j=>exact⟨i,j,rfl,rfl⟩
  | _=>cases h
 | _=>cases h
structure Fit (D S:Nat) (t:T):Prop where
 so:sOk t
 dp:dep t<=D
 sz:siz t<=S
theorem yz {c:T}(h:zM c=true):Fit 2 3 c:=by
 unfold zM at h;split at h
 ·rename_i w i;have hw:Zk w=true:=by
   rw[ae,ae]at h;exact h.1.1
  cases w with
  | str x=>
   have hx:(decide (1<=x.length) && decide (x.length<=3) && x.cps.toList.all Zi)=true:=hw;rw[ae,ae,decide_eq_true_eq,decide_eq_true_eq]at hx;refine⟨?_, ?_, ?_⟩
   ·simp only[sOk,ug,and_true];exact aq hx.1.2 (by decide)
   ·simp[dep,Qz]
   ·simp[siz,QA]
  | _=>cases hw
 ·cases h
theorem z29 {D S:Nat}:∀{cs:List T},(∀c∈cs,Fit D S c)->ug cs/\Qz cs<=D/\QA cs<=S*cs.length
 | [],_=>⟨by simp only[ug],b9 _,b9 _⟩
 | c :: cs,h=>by
  obtain⟨a,b,d⟩:=z29 (cs:=cs) λx hx=>h x (a9 _ hx);obtain⟨x,y,z⟩:=h c ad;refine⟨?_, ?_, ?_⟩
  ·simp only[ug];exact⟨x,a⟩
  ·simp only[Qz];omega
  ·simp only[QA,aj,Nat.mul_add,Nat.mul_one];omega
theorem wX:∀(d:Nat) (t:T),isK d t=true->Fit (2*d+2) (15*4 ^ d) t
 | 0,_,h=>by cases h
 | d+1,t,h=>by
  have hpow:4 ^ (d+1)=4*4 ^ d:=by rw[cF,bP]
  have hone:1<=4 ^ d:=Nat.pow_pos (by omega)
  have h:yw (isK d) t=true:=h;unfold yw at h;split at h
  ·rename_i hd r;split at h
   ·rename_i e;rw[Jg e];unfold WM at h;split at h
    ·obtain⟨i,j,rfl,rfl⟩:=Jn h;refine⟨by simp only[sOk,ug,and_true];decide,by simp only[dep,Qz];omega,by simp only[siz,QA];omega⟩
    ·cases h
   ·split at h
    ·rename_i e;rw[Jg e];unfold qm at h;split at h
     ·rename_i c;unfold Uo at h;split at h
      ·rename_i cs;rw[ae,ae,ae,decide_eq_true_eq,decide_eq_true_eq]at h;obtain⟨a,b,z⟩:=z29 (D:=2) (S:=3) (cs:=cs) λc hc=>yz (aL.mp h.1.2 c hc);refine⟨by simp only[sOk,ug,and_true];exact⟨by decide,a⟩,by simp only[dep,Qz];omega,by simp only[siz,QA];omega⟩
      ·cases h
     ·cases h
    ·split at h
     ·rename_i e;rw[Jg e];unfold G1 at h;split at h
      ·rename_i c;unfold JN at h;split at h
       ·rename_i cs;rw[ae,ae,decide_eq_true_eq,decide_eq_true_eq]at h;obtain⟨a,b,z⟩:=z29 (D:=2*d+2) (S:=15*4 ^ d) (cs:=cs) λc hc=>wX d c (aL.mp h.2 c hc);have:15*4 ^ d*cs.length<=15*4 ^ d*3:=Nat.mul_le_mul_left _ h.1.2;refine⟨by simp only[sOk,ug,and_true];exact⟨by decide,a⟩,by simp only[dep,Qz];omega,by simp only[siz,QA];omega⟩
       ·cases h
      ·cases h
     ·split at h
      ·rename_i e;rw[Jg e];unfold qo at h;split at h
       ·rename_i c a b;rw[ae]at h;obtain⟨i,j,rfl,rfl⟩:=Jn h.1;obtain⟨x,y,z⟩:=wX d c h.2;refine⟨by simp only[sOk,ug,and_true];exact⟨by decide,x⟩,by simp only[dep,Qz];omega,by simp only[siz,QA];omega⟩
       ·cases h
      ·cases h
  ·cases h
theorem tup1 {f:En->R T}{ρ:En}{x:T}(hf:f ρ= .ok x):Zh (z9 f zj) ρ= .ok (.tup [x]):=by
 unfold Zh z9 zj;rw[hf];rfl
theorem Gc {xs ys:List T}(h:xs.length+ys.length<=bnd):zD (.tup xs) (.tup ys)= .ok (.tup (xs++ys)):=if_pos h
theorem wv (ρ:En):nxS ρ= .nx ρ:=rfl
inductive Kd where
 | whole (lo hi:Int)
 | pick (cs:List (Str×Int))
 | row (ks:List Kd)
 | many (k:Kd) (lo hi:Nat)
noncomputable def ju (c:Str×Int):T:= .tup [.str c.1,.int c.2]
mutual
noncomputable def Kd.t:Kd->T
 | .whole lo hi=> .tup [.str "whole",.int lo,.int hi]
 | .pick cs=> .tup [.str "pick",.tup (cs.map ju)]
 | .row ks=> .tup [.str "row",.tup (Kd.ts ks)]
 | .many k lo hi=> .tup [.str "many",k.t,.int (lo:Int),.int (hi:Int)]
noncomputable def Kd.ts:List Kd->List T
 | []=>[]
 | k :: ks=>k.t :: Kd.ts ks
end
theorem Kd.ts_map:∀ks:List Kd,Kd.ts ks=ks.map Kd.t
 | []=>by simp only[Kd.ts,bz]
 | k :: ks=>by simp only[Kd.ts,ao,Kd.ts_map ks]
noncomputable def Kd.Ok:Nat->Kd->Prop
 | 0,_=>False
 | _+1,.whole lo hi=> -20<=lo/\lo<=hi/\hi<=20
 | _+1,.pick cs=>1<=cs.length/\cs.length<=4/\(∀c∈cs,Zk (.str c.1)=true/\1<=c.2/\c.2<=20)/\Dst (cs.map (·.1))
 | d+1,.row ks=>1<=ks.length/\ks.length<=3/\∀k∈ks,Kd.Ok d k
 | d+1,.many k lo hi=>lo<=hi/\hi<=3/\Kd.Ok d k
theorem qt {c:T}(h:zM c=true):∃p:Str×Int,c=ju p/\Zk (.str p.1)=true/\1<=p.2/\p.2<=20:=by
 unfold zM at h;split at h
 ·rename_i w i;rw[ae,ae,decide_eq_true_eq,decide_eq_true_eq]at h;cases w with
  | str x=>exact⟨(x,i),rfl,h.1.1,h.1.2,h.2⟩
  | _=>cases h.1.1
 ·cases h
theorem uI {α:Type}{P:T->Prop}{Q:α->Prop}{f:α->T}(H:∀t,P t->∃a,t=f a/\Q a):∀(ts:List T),(∀t∈ts,P t)->∃as:List α,ts=as.map f/\∀a∈as,Q a
 | [],_=>⟨[],rfl,λ_ h=>nomatch h⟩
 | t :: ts,h=>by
  obtain⟨a,rfl,ha⟩:=H t (h t ad);obtain⟨as,rfl,has⟩:=uI H ts λu hu=>h u (a9 _ hu);exact⟨a :: as,rfl,λb hb=>by
   rcases ah.mp hb with rfl | hb
   ·exact ha
   ·exact has b hb⟩
theorem uJ:∀(d:Nat) (t:T),isK d t=true->∃k:Kd,t=k.t/\k.Ok d
 | 0,_,h=>by cases h
 | d+1,t,h=>by
  have h:yw (isK d) t=true:=h;unfold yw at h;split at h
  ·rename_i hd r;split at h
   ·rename_i e;rw[Jg e];unfold WM at h;split at h
    ·obtain⟨i,j,rfl,rfl⟩:=Jn h;have h:(decide (-20<=i) && decide (i<=j) && decide (j<=20))=true:=h;rw[ae,ae,decide_eq_true_eq,decide_eq_true_eq,decide_eq_true_eq]at h;exact⟨.whole i j,by simp only[Kd.t],h.1.1,h.1.2,h.2⟩
    ·cases h
   ·split at h
    ·rename_i e;rw[Jg e];unfold qm at h;split at h
     ·rename_i c;unfold Uo at h;split at h
      ·rename_i cs;rw[ae,ae,ae,decide_eq_true_eq,decide_eq_true_eq,decide_eq_true_eq]at h;obtain⟨⟨⟨h1,h2⟩,h3⟩,h4⟩:=h;obtain⟨as,rfl,has⟩:=uI (λt ht=>qt ht) cs λc hc=>aL.mp h3 c hc;rw[ac]at h1 h2;refine⟨.pick as,by simp only[Kd.t],h1,h2,has, ?_⟩
       have e1:(as.map ju).map Za=as.map (·.1):=by rw[aV];rfl
       rw[e1]at h4;have:=(wW (as.map (·.1)) []).mp (by rw[h4,ac,ac];simp)
       exact λk w hw hm=>this k w hw (by simpa using hm)
      ·cases h
     ·cases h
    ·split at h
     ·rename_i e;rw[Jg e];unfold G1 at h;split at h
      ·rename_i c;unfold JN at h;split at h
       ·rename_i cs;rw[ae,ae,decide_eq_true_eq,decide_eq_true_eq]at h;obtain⟨ks,rfl,hks⟩:=uI (λt ht=>uJ d t ht) cs λc hc=>aL.mp h.2 c hc;rw[ac]at h;exact⟨.row ks,by simp only[Kd.t,Kd.ts_map],h.1.1,h.1.2,hks⟩
       ·cases h
      ·cases h
     ·split at h
      ·rename_i e;rw[Jg e];unfold qo at h;split at h
       ·rename_i c a b;rw[ae]at h;obtain⟨h1,h2⟩:=h;obtain⟨i,j,rfl,rfl⟩:=Jn h1;obtain⟨k,rfl,hk⟩:=uJ d c h2;have h1:(decide (0<=i) && decide (i<=j) && decide (j<=3))=true:=h1;rw[ae,ae,decide_eq_true_eq,decide_eq_true_eq,decide_eq_true_eq]at h1;obtain⟨⟨a1,a2⟩,a3⟩:=h1;obtain⟨m,rfl⟩:=bZ a1;obtain⟨n,rfl⟩:=bZ (fX a1 a2);exact⟨.many k m n,by simp only[Kd.t],by omega,by omega,hk⟩
       ·cases h
      ·cases h
  ·cases h
noncomputable def Z4 (made:List (List T)):List (List T)->List (List T)
 | []=>made
 | ls :: r=>Z4 (made.flatMap λa=>ls.map λx=>a++[x]) r
noncomputable abbrev Wi (ls:List (List T)):List T:=(Z4 [[]] ls).map T.tup
mutual
noncomputable def Kd.all:Kd->List T
 | .whole lo hi=>(aT (hi+1 - lo).toNat).map λ(i:Nat)=>T.int (lo+(i:Int))
 | .pick cs=>cs.map λc=>T.str c.1
 | .row ks=>Wi (Kd.alls ks)
 | .many k lo hi=>(aT (hi+1 - lo)).flatMap λi=>Wi (aa (lo+i) k.all)
noncomputable def Kd.alls:List Kd->List (List T)
 | []=>[]
 | k :: ks=>k.all :: Kd.alls ks
end
theorem Kd.alls_map:∀ks:List Kd,Kd.alls ks=ks.map Kd.all
 | []=>by simp only[Kd.alls,bz]
 | k :: ks=>by simp only[Kd.alls,ao,Kd.alls_map ks]
noncomputable def prd:List Nat->Nat
 | []=>1
 | n :: r=>n*prd r
theorem JP:∀{ns:List Nat},(∀n∈ns,1<=n)->1<=prd ns
 | [],_=>ai _
 | n :: ns,h=>bT (h n ad) (JP λm hm=>h m (a9 _ hm))
theorem Jo {α β:Type}(f:α->List β)(n:Nat):∀as:List α,(∀a∈as,(f a).length=n)->(as.flatMap f).length=as.length*n
 | [],_=>by simp
 | a :: as,h=>by
  rw[b7,av,h a ad,Jo f n as λb hb=>h b (a9 _ hb),aj,dg,bv,fR]
theorem JQ:∀(ls:List (List T)) (made:List (List T)),(Z4 made ls).length=made.length*prd (ls.map (·.length))
 | [],made=>by simp[Z4,prd]
 | l :: ls,made=>by
  rw[Z4,JQ ls,Jo _ l.length made λa _=>ac ..,ao,prd,cx]
noncomputable abbrev VB:En->RS:=Qu 3 (zW (ZJ (vE 2)) (zA 0) (Z1) (zb zD (vE 1) (Zh (z9 (vE 0) (zj)))) 1 [4])
theorem Ur {L M:T}{l:List T}(hl:l.length<=bnd):∀(as:List (List T)) (acc:List T) (x:Sl),(∀a∈as,a.length<=1000)->acc.length+as.length*l.length<=bnd->
  ∃y,ZD (zA 4) VB (as.map T.tup) [.vl L,.vl M,.vl (.lst l),.ow acc,x]= .nx [.vl L,.vl M,.vl (.lst l),.ow (acc++(as.flatMap λa=>l.map λx=>a++[x]).map T.tup),y]
 | [],acc,x,_,_=>⟨x,by simp[ZD]⟩
 | a :: as,acc,x,ha,hb=>by
  have ha1:=ha a ad;have hb1:bnd=16777216:=rfl;rw[aj,dg,bv]at hb;have ec:zG (zA 0) Z1 (zb zD (vE 1) (Zh (z9 (vE 0) (zj)))) 1 [4] [.vl L,.vl M,.vl (.lst l),.ow acc,.vl (.tup a)] l= .ok (l.map λx=>T.tup (a++[x])):=
   Z7 (h:=λx=>T.tup (a++[x])) l hl λx hx=>by
    show zb zD (vE 1) (Zh (z9 (vE 0) (zj))) [.vl x,.vl (.tup a)]=_;rw[zt,v1,bOk,tup1 v0,bOk];exact Gc (by rw[aF];omega)
  have eb:VB [.vl L,.vl M,.vl (.lst l),.ow acc,.vl (.tup a)]= .nx [.vl L,.vl M,.vl (.lst l),.ow (acc++l.map λx=>T.tup (a++[x])),.vl (.tup a)]:=by
   show ((zW _ _ _ _ _ _ _).s λt=>match t with | .lst us=>if acc.length+us.length<=bnd then RS.nx _ else .bad | _=> .bad)=_
   rw[zP,Zw,v2,bOk];show (((zG _ _ _ _ _ _ l).bind _).s _)=_;rw[ec,bOk,Zs];show (if _ then _ else _)=_
   rw[if_pos (by rw[ac];omega)]
   rfl
  obtain⟨y,ih⟩:=Ur hl as (acc++l.map λx=>T.tup (a++[x])) (.vl (.tup a)) (λb hb=>ha b (a9 _ hb)) (by rw[av,ac];omega)
  refine⟨y, ?_⟩;have e:ZD (zA 4) VB ((a :: as).map T.tup) [.vl L,.vl M,.vl (.lst l),.ow acc,x]=match VB [.vl L,.vl M,.vl (.lst l),.ow acc,.vl (.tup a)] with
   | .nx ρ2=>ZD (zA 4) VB (as.map T.tup) ρ2
   | .ct ρ2=>ZD (zA 4) VB (as.map T.tup) ρ2
   | .bk ρ2=> .nx ρ2
   | r=>r:=rfl
  rw[e,eb];dsimp only;rw[ih,b7,cn,aV,br];rfl
noncomputable abbrev WP:En->RS:=(zz (yI 3 (zj))
  (zz (ZV (ZJ (vE 1)) (zA 4) VB)
  (mvS 1 3)))
theorem WQ {L:T}(m:Nat):∀(ls:List (List T)) (made:List (List T)) (k:Nat) (x y z:Sl),(∀a∈made,a.length<=k)->k+ls.length<=1000->(∀l∈ls,1<=l.length)->made.length*prd (ls.map (·.length))<=bnd->1<=made.length->
  ∃x' y' z',ZD (zA 2) WP (ls.map T.lst) [.vl L,.vl (.lst (made.map T.tup)),x,y,z]= .nx [.vl L,.vl (.lst ((Z4 made ls).map T.tup)),x',y',z']
 | [],made,k,x,y,z,_,_,_,_,_=>⟨x,y,z,by simp[ZD,Z4]⟩
 | l :: ls,made,k,x,y,z,hk,hkl,hpos,hb,hm=>by
  have hpr:1<=prd (ls.map (·.length)):=JP λn hn=>by
   obtain⟨l',hl',rfl⟩:=aC.mp hn;exact hpos l' (a9 _ hl')
  rw[ao,prd,← cx]at hb;have hb1:made.length*l.length<=bnd:=aq (b_ _ hpr) hb;have hll:l.length<=bnd:=aq (Nat.le_mul_of_pos_left _ hm) hb1;rw[aj]at hkl;obtain⟨w,er⟩:=Ur (L:=L) (M:= .lst (made.map T.tup)) hll made [] z (λa ha=>aq (hk a ha) (by omega)) (by rw[bA];omega)
  rw[bp]at er;have es:WP [.vl L,.vl (.lst (made.map T.tup)),.vl (.lst l),y,z]= .nx [.vl L,.vl (.lst ((made.flatMap λa=>l.map λx=>a++[x]).map T.tup)),.vl (.lst l),.vl (.lst ((made.flatMap λa=>l.map λx=>a++[x]).map T.tup)),w]:=by
   have e0:yI 3 (zj) [.vl L,.vl (.lst (made.map T.tup)),.vl (.lst l),y,z]= .nx [.vl L,.vl (.lst (made.map T.tup)),.vl (.lst l),.ow [],z]:=rfl;have e1:ZV (ZJ (vE 1)) (zA 4) VB [.vl L,.vl (.lst (made.map T.tup)),.vl (.lst l),.ow [],z]= .nx [.vl L,.vl (.lst (made.map T.tup)),.vl (.lst l),.ow ((made.flatMap λa=>l.map λx=>a++[x]).map T.tup),w]:=er;unfold WP;rw[Z6,e0];dsimp only;rw[Z6,e1];rfl
  obtain⟨x',y',z',ih⟩:=WQ (L:=L) m ls (made.flatMap λa=>l.map λx=>a++[x]) (k+1) (.vl (.lst l)) (.vl (.lst ((made.flatMap λa=>l.map λx=>a++[x]).map T.tup))) w (λa ha=>by
   obtain⟨b,hb,hx⟩:=c8.mp ha;obtain⟨u,_,rfl⟩:=aC.mp hx;have:=hk b hb;rw[av,aF];omega) (by omega) (λl' hl' =>hpos l' (a9 _ hl')) (by
    rw[Jo _ l.length made λa _=>ac ..];exact hb) (by
    rw[Jo _ l.length made λa _=>ac ..];exact bT hm (hpos l ad))
  refine⟨x',y',z', ?_⟩;have e:ZD (zA 2) WP ((l :: ls).map T.lst) [.vl L,.vl (.lst (made.map T.tup)),x,y,z]=match WP [.vl L,.vl (.lst (made.map T.tup)),.vl (.lst l),y,z] with
   | .nx ρ2=>ZD (zA 2) WP (ls.map T.lst) ρ2
   | .ct ρ2=>ZD (zA 2) WP (ls.map T.lst) ρ2
   | .bk ρ2=> .nx ρ2
   | r=>r:=rfl
  rw[e,es];exact ih
theorem qu (ls:List (List T))(hl:ls.length<=1000)(hpos:∀l∈ls,1<=l.length)(hb:prd (ls.map (·.length))<=bnd):f_c [.lst (ls.map T.lst)]= .ok (.lst (Wi ls)):=by
 obtain⟨x',y',z',er⟩:=WQ (L:= .lst (ls.map T.lst)) 0 ls [[]] 0 .un .un .un (λa ha=>by rw[aG.mp ha];exact ai _) (by omega) hpos (by rw[aF,bv];exact hb) (ai _)
 have e:f_c [.lst (ls.map T.lst)]=zu (b_c [.vl (.lst (ls.map T.lst)),.un,.un,.un,.un]):=rfl;have e0:zJ 1 (ZT (z9 (Zh (zj)) (zj))) [.vl (.lst (ls.map T.lst)),.un,.un,.un,.un]= .nx [.vl (.lst (ls.map T.lst)),.vl (.lst [.tup []]),.un,.un,.un]:=rfl;have e1:ZV (ZJ (vE 0)) (zA 2) WP [.vl (.lst (ls.map T.lst)),.vl (.lst [.tup []]),.un,.un,.un]= .nx [.vl (.lst (ls.map T.lst)),.vl (.lst (Wi ls)),x',y',z']:=er;rw[e,b_c,Z6,e0];dsimp only;rw[Z6,e1];rfl
theorem jh (n:Nat):∀m:Nat,prd (aa m n)=n ^ m
 | 0=>rfl
 | m+1=>by rw[ba,prd,jh n m,cF,bP]
theorem Jp (ls:List (List T)):(Wi ls).length=prd (ls.map (·.length)):=by
 unfold Wi;rw[ac,JQ,aF,bv]
noncomputable def pw (n lo hi:Nat):Nat:=((aT (hi+1 - lo)).map λi=>n ^ (lo+i)).sum
theorem jn (k:Kd)(lo hi:Nat):(Kd.many k lo hi).all.length=pw k.all.length lo hi:=by
 rw[Kd.all,List.length_flatMap,pw];congr 1
 refine cK λi _=> ?_;rw[Jp,aS,jh]
theorem jZ (ks:List Kd):(Kd.row ks).all.length=prd (ks.map λk=>k.all.length):=by
 rw[Kd.all,Jp,Kd.alls_map,aV];rfl
theorem ZW (lo hi:Int):(Kd.whole lo hi).all.length=(hi+1 - lo).toNat:=by
 rw[Kd.all,ac,be]
theorem wY (cs:List (Str×Int)):(Kd.pick cs).all.length=cs.length:=by
 rw[Kd.all,ac]
theorem Xv {lo hi:Nat}(h:lo<=hi)(h3:hi<=3):(lo=0/\hi=0)\/(lo=0/\hi=1)\/(lo=0/\hi=2)\/(lo=0/\hi=3)\/(lo=1/\hi=1)\/(lo=1/\hi=2)\/(lo=1/\hi=3)\/(lo=2/\hi=2)\/(lo=2/\hi=3)\/(lo=3/\hi=3):=(by decide:∀hi lo:Fin 4,lo.1<=hi.1->(lo.1=0/\hi.1=0)\/(lo.1=0/\hi.1=1)\/(lo.1=0/\hi.1=2)\/(lo.1=0/\hi.1=3)\/(lo.1=1/\hi.1=1)\/(lo.1=1/\hi.1=2)\/(lo.1=1/\hi.1=3)\/(lo.1=2/\hi.1=2)\/(lo.1=2/\hi.1=3)\/(lo.1=3/\hi.1=3)) ⟨hi,Nat.lt_succ_of_le h3⟩ ⟨lo,Nat.lt_succ_of_le (Nat.le_trans h h3)⟩ h
noncomputable def iv (b:Bool):Nat:=if b then 1 else 0
theorem Xw (n:Nat){lo hi:Nat}(h:lo<=hi)(h3:hi<=3):pw n lo hi=iv (lo == 0)+n*iv (decide (lo<=1) && decide (1<=hi))+n*n*iv (decide (lo<=2) && decide (2<=hi))+n*n*n*iv (hi == 3):=by
 rcases Xv h h3 with ⟨rfl,rfl⟩ | ⟨rfl,rfl⟩ | ⟨rfl,rfl⟩ | ⟨rfl,rfl⟩ | ⟨rfl,rfl⟩ | ⟨rfl,rfl⟩ | ⟨rfl,rfl⟩ | ⟨rfl,rfl⟩ | ⟨rfl,rfl⟩ | ⟨rfl,rfl⟩ <;>
  simp[pw,eY,iv,cF]
 all_goals omega
theorem Ge {n:Nat}(hn:1<=n){lo hi:Nat}(h:lo<=hi)(h3:hi<=3):1<=pw n lo hi:=by
 have h2:1<=n*n:=bT hn hn;have h1:1<=n*n*n:=bT h2 hn;rw[Xw n h h3];rcases Xv h h3 with ⟨rfl,rfl⟩ | ⟨rfl,rfl⟩ | ⟨rfl,rfl⟩ | ⟨rfl,rfl⟩ | ⟨rfl,rfl⟩ | ⟨rfl,rfl⟩ | ⟨rfl,rfl⟩ | ⟨rfl,rfl⟩ | ⟨rfl,rfl⟩ | ⟨rfl,rfl⟩ <;>
  simp[iv] <;> omega
theorem z2a {n N:Nat}(hn:n<=N){lo hi:Nat}(h:lo<=hi)(h3:hi<=3):pw n lo hi<=1+N+N*N+N*N*N:=by
 have h2:n*n<=N*N:=aW hn hn;have h1:n*n*n<=N*N*N:=aW h2 hn;rw[Xw n h h3];rcases Xv h h3 with ⟨rfl,rfl⟩ | ⟨rfl,rfl⟩ | ⟨rfl,rfl⟩ | ⟨rfl,rfl⟩ | ⟨rfl,rfl⟩ | ⟨rfl,rfl⟩ | ⟨rfl,rfl⟩ | ⟨rfl,rfl⟩ | ⟨rfl,rfl⟩ | ⟨rfl,rfl⟩ <;>
  simp[iv] <;> omega
theorem VC {N:Nat}(hN:1<=N):∀(ns:List Nat),(∀n∈ns,n<=N)->prd ns<=N ^ ns.length
 | [],_=>ai _
 | n :: ns,h=>by
  rw[prd,aj,cF,bP];exact aW (VC hN ns λm hm=>h m (a9 _ hm)) (h n ad)
theorem ZQ:∀(d:Nat) (k:Kd),k.Ok d->1<=k.all.length
 | 0,_,h=>h.elim
 | d+1,.whole lo hi,h=>by
  obtain⟨_,h2,_⟩:=h;rw[ZW];omega
 | d+1,.pick cs,h=>by
  rw[wY];exact h.1
 | d+1,.row ks,h=>by
  rw[jZ];refine JP λn hn=> ?_;obtain⟨k,hk,rfl⟩:=aC.mp hn;exact ZQ d k (h.2.2 k hk)
 | d+1,.many k lo hi,h=>by
  rw[jn];exact Ge (ZQ d k h.2.2) h.1 h.2.1
noncomputable def mx:Nat->Nat
 | 0=>0
 | 1=>41
 | d+1=>1+mx d+mx d*mx d+mx d*mx d*mx d
theorem VD (d:Nat):41<=mx (d+1):=by
 induction d with
 | zero=>exact ai _
 | succ d ih=>
  show 41<=1+mx (d+1)+mx (d+1)*mx (d+1)+mx (d+1)*mx (d+1)*mx (d+1);omega
theorem qv (d:Nat)(n:Nat)(h:n<=41):n<=mx (d+1):=aq h (VD d)
theorem Xx {N m:Nat}(hN:1<=N)(h:m<=3):N ^ m<=1+N+N*N+N*N*N:=by
 have:m=0\/m=1\/m=2\/m=3:=by omega
 rcases this with rfl | rfl | rfl | rfl <;> simp[cF] <;> omega
theorem jx:∀(d:Nat) (k:Kd),k.Ok d->k.all.length<=mx d
 | 0,_,h=>h.elim
 | d+1,.whole lo hi,h=>by
  obtain⟨h1,h2,h3⟩:=h;rw[ZW];exact qv d _ (by omega)
 | d+1,.pick cs,h=>by
  rw[wY];exact qv d _ (aq h.2.1 (by omega))
 | 1,.row ks,h=>by
  obtain⟨h1,h2,h3⟩:=h
  match ks,h1,h3 with
  | k :: _,_,h3=>exact(h3 k ad).elim
 | d+2,.row ks,h=>by
  obtain⟨h1,h2,h3⟩:=h;rw[jZ];have hp:=aq (by omega:1<=41) (VD d)
  have:=VC hp (ks.map λk=>k.all.length) λn hn=>by
   obtain⟨k,hk,rfl⟩:=aC.mp hn;exact jx (d+1) k (h3 k hk)
  rw[ac]at this;exact aq this (Xx hp h2)
 | 1,.many k lo hi,h=>h.2.2.elim
 | d+2,.many k lo hi,h=>by
  rw[jn];exact z2a (jx (d+1) k h.2.2) h.1 h.2.1
theorem zd {f g:En->RS}{ρ ρ' :En}(h:f ρ= .nx ρ'):zz f g ρ=g ρ' :=by rw[Z6,h]
theorem cs0 {x w:Str}{r:List T}{ρ:En}:zF eqC (zb ixT (vE 0) (cE (.int 0))) (cE (.str w)) (.vl (.tup (.str x :: r)) :: ρ)= .ok (x == w):=by
 rw[zR,zt,v0,bOk,Z0,bOk,at0,bOk,Z0,bOk,eqS];rfl
theorem jy {a b:T}{r:List T}{ρ:En}:zb ixT (vE 0) (cE (.int 1)) (.vl (.tup (a :: b :: r)) :: ρ)= .ok b:=by
 rw[zt,v0,bOk,Z0,bOk,at1]
theorem Wj {a b c:T}{r:List T}{ρ:En}:zb ixT (vE 0) (cE (.int 2)) (.vl (.tup (a :: b :: c :: r)) :: ρ)= .ok c:=by
 rw[zt,v0,bOk,Z0,bOk,at2]
theorem Xy {a b c d:T}{r:List T}{ρ:En}:zb ixT (vE 0) (cE (.int 3)) (.vl (.tup (a :: b :: c :: d :: r)) :: ρ)= .ok d:=by
 rw[zt,v0,bOk,Z0,bOk,at3]
theorem yA {f:En->R T}{ρ:En}{i:Int}(h:f ρ= .ok (.int i)):zb zD f (cE (.int 1)) ρ= .ok (.int (i+1)):=by
 rw[zt,h,bOk,Z0,bOk,Z8]
theorem uK {f g:En->R T}{ρ:En}{i j:Int}(hf:f ρ= .ok (.int i))(hg:g ρ= .ok (.int j))(h: -1000000 < i/\i < 1000000/\ -1000000 < j/\j < 1000000):Ji f g ρ= .ok (rng i (j - i).toNat):=by
 unfold Ji;rw[hf,bOk,hg,bOk];exact if_pos h
theorem qw:∀(cs:List (Str×Int)) (x y:Sl),zO (Z3 0 1) Z1 (vE 0) (cs.map ju) [x,y]= .ok (cs.map λc=>T.str c.1)
 | [],_,_=>rfl
 | c :: cs,x,y=>by
  have e:zO (Z3 0 1) Z1 (vE 0) ((c :: cs).map ju) [x,y]=(zO (Z3 0 1) Z1 (vE 0) (cs.map ju) [.vl (.str c.1),.vl (.int c.2)]).bind λvs=> .ok (.str c.1 :: vs):=rfl;rw[e,qw cs];rfl
theorem WR {x:T}{m:Nat}(h:m<=3):zY (.lst [x]) (.int (m:Int))= .ok (.lst (aa m [x]).flatten):=by
 unfold zY;dsimp only;have c:0<=(m:Int)/\(m:Int) < 1000000/\[x].length*(m:Int).toNat<=bnd:=by
  have hb:3<=bnd:=by decide
  refine⟨by omega,by omega, ?_⟩
  rw[aF,bc,bv];exact aq h hb
 rw[if_pos c,bc]
theorem jo {α:Type}(x:α):∀m:Nat,(aa m [x]).flatten=aa m x
 | 0=>rfl
 | m+1=>by rw[ba,ba,dN,jo x m];rfl
noncomputable abbrev wd (ca cr:List T->R T):En->RS:=Qu 1 (za 1 cr (z9 (zb zY (ZT (z9 (za 1 ca (z9 (zb ixT (vE 0) (cE (.int 1))) (zj))) (zj))) (vE 2)) (zj)))
theorem QB {f:En->R T}{ρ:En}{x:T}(hf:f ρ= .ok x):ZT (z9 f zj) ρ= .ok (.lst [x]):=by
 unfold ZT z9 zj;rw[hf];rfl
theorem WS {ca:List T->R T}{k:Kd}{t:T}{lo:Nat}{ws:List T}(hw:ca [t]= .ok (.lst ws))(hpos:1<=ws.length){a b c:T}:∀(js:List Nat) (acc:List T) (x:Sl),(∀j∈js,lo+j<=3)->acc.length+(js.map λj=>ws.length ^ (lo+j)).sum<=bnd->
  ∃y,ZD (zA 2) (wd ca f_c) (js.map λ(j:Nat)=>T.int ((lo:Int)+(j:Int))) [.vl (.tup [a,t,b,c]),.ow acc,x]= .nx [.vl (.tup [a,t,b,c]),.ow (acc++js.flatMap λj=>Wi (aa (lo+j) ws)),y]
 | [],acc,x,_,_=>⟨x,by simp[ZD]⟩
 | j :: js,acc,x,hj,hb=>by
  have hj1:=hj j ad;have hb1:bnd=16777216:=rfl;rw[ao,d9]at hb;have er:f_c [.lst ((aa (lo+j) ws).map T.lst)]= .ok (.lst (Wi (aa (lo+j) ws))):=qu _ (by rw[aK];omega) (λl hl=>by rw[bh hl];exact hpos) (by rw[aS,jh];omega)
  have hlen:(Wi (aa (lo+j) ws)).length=ws.length ^ (lo+j):=by rw[Jp,aS,jh]
  have em:zY (.lst [.lst ws]) (.int ((lo:Int)+(j:Int)))= .ok (.lst ((aa (lo+j) ws).map T.lst)):=by
   have e1:(lo:Int)+(j:Int)=((lo+j:Nat):Int):=by omega
   rw[e1,WR (by omega),jo,aS]
  have eb:wd ca f_c [.vl (.tup [a,t,b,c]),.ow acc,.vl (.int ((lo:Int)+(j:Int)))]= .nx [.vl (.tup [a,t,b,c]),.ow (acc++Wi (aa (lo+j) ws)),.vl (.int ((lo:Int)+(j:Int)))]:=by
   have e1:za 1 f_c (z9 (zb zY (ZT (z9 (za 1 ca (z9 (zb ixT (vE 0) (cE (.int 1))) (zj))) (zj))) (vE 2)) (zj)) [.vl (.tup [a,t,b,c]),.ow acc,.vl (.int ((lo:Int)+(j:Int)))]= .ok (.lst (Wi (aa (lo+j) ws))):=by
    have e0:za 1 ca (z9 (zb ixT (vE 0) (cE (.int 1))) (zj)) [.vl (.tup [a,t,b,c]),.ow acc,.vl (.int ((lo:Int)+(j:Int)))]= .ok (.lst ws):=by
     rw[zQ,jy,bOk,hw]
    rw[zQ,zt,QB e0,bOk,v2,bOk,em,bOk,er]
   show ((za 1 f_c _ _).s λt=>match t with | .lst us=>if acc.length+us.length<=bnd then RS.nx _ else .bad | _=> .bad)=_
   rw[e1,Zs];show (if _ then _ else _)=_
   rw[if_pos (by rw[hlen];omega)]
   rfl
  obtain⟨y,ih⟩:=WS (k:=k) hw hpos (a:=a) (b:=b) (c:=c) js (acc++Wi (aa (lo+j) ws)) (.vl (.int ((lo:Int)+(j:Int)))) (λi hi=>hj i (a9 _ hi)) (by rw[av,hlen];omega)
  refine⟨y, ?_⟩;have e:ZD (zA 2) (wd ca f_c) ((j :: js).map λ(j:Nat)=>T.int ((lo:Int)+(j:Int))) [.vl (.tup [a,t,b,c]),.ow acc,x]=match wd ca f_c [.vl (.tup [a,t,b,c]),.ow acc,.vl (.int ((lo:Int)+(j:Int)))] with
   | .nx ρ2=>ZD (zA 2) (wd ca f_c) (js.map λ(j:Nat)=>T.int ((lo:Int)+(j:Int))) ρ2
   | .ct ρ2=>ZD (zA 2) (wd ca f_c) (js.map λ(j:Nat)=>T.int ((lo:Int)+(j:Int))) ρ2
   | .bk ρ2=> .nx ρ2
   | r=>r:=rfl
  rw[e,eb];dsimp only;rw[ih,b7,br]
theorem vL {ca:List T->R T}{a t:T}{lo hi:Nat}(h1:lo<=hi)(h2:hi<=3){x:Sl}{acc:List T}{r:RS}
  (el:ZD (zA 2) (wd ca f_c) ((aT (hi+1 - lo)).map λ(j:Nat)=>T.int ((lo:Int)+(j:Int))) [.vl (.tup [a,t,.int (lo:Int),.int (hi:Int)]),.ow acc,x]=r):
  ZV (Ji (zb ixT (vE 0) (cE (.int 2))) (zb zD (zb ixT (vE 0) (cE (.int 3))) (cE (.int 1)))) (zA 2) (wd ca f_c) [.vl (.tup [a,t,.int (lo:Int),.int (hi:Int)]),.ow acc,x]=r:=by
 have hn:((hi:Int)+1 - (lo:Int)).toNat=hi+1 - lo:=by omega
 have hc: -1000000 < (lo:Int)/\(lo:Int) < 1000000/\ -1000000 < (hi:Int)+1/\(hi:Int)+1 < 1000000:=by omega
 have e:ZV (Ji (zb ixT (vE 0) (cE (.int 2))) (zb zD (zb ixT (vE 0) (cE (.int 3))) (cE (.int 1)))) (zA 2) (wd ca f_c) [.vl (.tup [a,t,.int (lo:Int),.int (hi:Int)]),.ow acc,x]=(Ji (zb ixT (vE 0) (cE (.int 2))) (zb zD (zb ixT (vE 0) (cE (.int 3))) (cE (.int 1))) [.vl (.tup [a,t,.int (lo:Int),.int (hi:Int)]),.ow acc,x]).s λts=>ZD (zA 2) (wd ca f_c) ts [.vl (.tup [a,t,.int (lo:Int),.int (hi:Int)]),.ow acc,x]:=rfl;rw[e,uK Wj (yA Xy) hc,Zs,hn];exact el
theorem Gf {n L lo hi:Nat}(e:L=pw n lo hi)(h:L<=1000000):([]:List T).length+((aT (hi+1 - lo)).map λj=>n ^ (lo+j)).sum<=bnd:=by
 have h' :pw n lo hi<=bnd:=aq (e ▸ h) (by decide)
 unfold pw at h';rw[bA,fZ];exact h'
theorem qx {ca:List T->R T}(d:Nat)(lo hi:Int)(h:(Kd.whole lo hi).Ok (d+1))(hl:(Kd.whole lo hi).all.length<=1000000)(H:∀k' :Kd,k'.Ok d->ca [k'.t]= .ok (.lst k'.all)):zu (b_4 ca f_c (en0 3 [(Kd.whole lo hi).t]))= .ok (.lst (Kd.whole lo hi).all):=by
 have hb1:bnd=16777216:=rfl;have e:zu (b_4 ca f_c (en0 3 [(Kd.whole lo hi).t]))=zu (b_4 ca f_c [.vl (Kd.whole lo hi).t,.un,.un]):=rfl;rw[e,b_4,Z6,j7];obtain⟨h1,h2,h3⟩:=h;simp only[Kd.t];rw[cs0,Zs,show (("whole":Str) == "whole")=true from rfl,if_pos rfl,Zm,jg,wa,wa,jt];unfold GV;rw[uK jy (yA Wj) ⟨by omega,by omega,by omega,by omega⟩]
 rw[Kd.all];rfl
theorem vM {ca:List T->R T}(d:Nat)(cs:List (Str×Int))(h:(Kd.pick cs).Ok (d+1))(hl:(Kd.pick cs).all.length<=1000000)(H:∀k' :Kd,k'.Ok d->ca [k'.t]= .ok (.lst k'.all)):zu (b_4 ca f_c (en0 3 [(Kd.pick cs).t]))= .ok (.lst (Kd.pick cs).all):=by
 have hb1:bnd=16777216:=rfl;have e:zu (b_4 ca f_c (en0 3 [(Kd.pick cs).t]))=zu (b_4 ca f_c [.vl (Kd.pick cs).t,.un,.un]):=rfl;rw[e,b_4,Z6,j7];simp only[Kd.t];rw[cs0,Zs,show (("pick":Str) == "whole")=false from rfl,if_neg au,wv];dsimp only;rw[Z6,j7,cs0,Zs,show (("pick":Str) == "pick")=true from rfl,if_pos rfl,Zm,jg,wa,wa,jt,zP,Zw,jy,bOk];have hc:cs.length<=4:=h.2.1;have ec:zG (Z3 0 1) Z1 (vE 0) 2 [] [.vl (.tup [.str "pick",.tup (cs.map ju)]),.un,.un] (cs.map ju)= .ok (cs.map λc=>T.str c.1):=by
  unfold zG;rw[if_pos (by rw[ac];omega)]
  show quiet (zO (Z3 0 1) Z1 (vE 0) (cs.map ju) [.un,.un])=_;rw[qw];rfl
 show zu (match ((((R.ok (cs.map ju)).bind λts=>(zG (Z3 0 1) Z1 (vE 0) 2 [] [.vl (.tup [.str "pick",.tup (cs.map ju)]),.un,.un] ts).bind λvs=> .ok (.lst vs))).s λt=> .rt t) with | .nx ρ' =>_ | r=>r)=_
 rw[bOk,ec];rw[Kd.all];rfl
theorem Xz {ca:List T->R T}(d:Nat)(ks:List Kd)(h:(Kd.row ks).Ok (d+1))(hl:(Kd.row ks).all.length<=1000000)(H:∀k' :Kd,k'.Ok d->ca [k'.t]= .ok (.lst k'.all)):zu (b_4 ca f_c (en0 3 [(Kd.row ks).t]))= .ok (.lst (Kd.row ks).all):=by
 have hb1:bnd=16777216:=rfl;have e:zu (b_4 ca f_c (en0 3 [(Kd.row ks).t]))=zu (b_4 ca f_c [.vl (Kd.row ks).t,.un,.un]):=rfl;rw[e,b_4,Z6,j7];obtain⟨h1,h2,h3⟩:=h;simp only[Kd.t];rw[cs0,Zs,show (("row":Str) == "whole")=false from rfl,if_neg au,wv];dsimp only;rw[Z6,j7,cs0,Zs,show (("row":Str) == "pick")=false from rfl,if_neg au,wv];dsimp only;rw[Z6,j7,cs0,Zs,show (("row":Str) == "row")=true from rfl,if_pos rfl,Zm,jg,wa,wa,jt,zQ,zP,Zw,jy,bOk,Kd.ts_map];have ec:zG (zA 0) Z1 (za 1 ca (z9 (vE 0) (zj))) 1 [] [.vl (.tup [.str "row",.tup (ks.map Kd.t)]),.un,.un] (ks.map Kd.t)= .ok ((ks.map Kd.all).map T.lst):=by
  unfold zG;rw[if_pos (by rw[ac];omega)]
  show quiet (zO (zA 0) Z1 _ (ks.map Kd.t) [.un])=_;have:∀(ks:List Kd) (x:Sl),(∀k∈ks,k.Ok d)->zO (zA 0) Z1 (za 1 ca (z9 (vE 0) (zj))) (ks.map Kd.t) [x]= .ok ((ks.map Kd.all).map T.lst):=by
   intro ks
   induction ks with
   | nil=>intro _ _;rfl
   | cons k ks ih=>
    intro x hk;have e1:zO (zA 0) Z1 (za 1 ca (z9 (vE 0) (zj))) ((k :: ks).map Kd.t) [x]=(za 1 ca (z9 (vE 0) (zj)) [.vl k.t]).bind λv=>(zO (zA 0) Z1 (za 1 ca (z9 (vE 0) (zj))) (ks.map Kd.t) [.vl k.t]).bind λvs=> .ok (v :: vs):=rfl;rw[e1,zQ,v0,bOk,H k (hk k ad),bOk,ih _ λk' hk' =>hk k' (a9 _ hk')];rfl
  rw[this ks .un h3];rfl
 have hrow:=jZ ks;have er:f_c [.lst ((ks.map Kd.all).map T.lst)]= .ok (.lst (Wi (ks.map Kd.all))):=qu _ (by rw[ac];omega) (λl hl=>by
  obtain⟨k,hk,rfl⟩:=aC.mp hl;exact ZQ d k (h3 k hk)) (by
  rw[aV];show prd (ks.map λk=>k.all.length)<=bnd;omega)
 show zu (match ((((R.ok (ks.map Kd.t)).bind λts=>(zG (zA 0) Z1 (za 1 ca (z9 (vE 0) (zj))) 1 [] [.vl (.tup [.str "row",.tup (ks.map Kd.t)]),.un,.un] ts).bind λvs=> .ok (.lst vs)).bind λx=>f_c [x]).s λt=> .rt t) with | .nx ρ' =>_ | r=>r)=_
 rw[bOk,ec,bOk,bOk,er,Kd.all,Kd.alls_map];rfl
theorem vN {ca:List T->R T}(d:Nat)(k:Kd)(lo hi:Nat)(h:(Kd.many k lo hi).Ok (d+1))(hl:(Kd.many k lo hi).all.length<=1000000)(H:∀k' :Kd,k'.Ok d->ca [k'.t]= .ok (.lst k'.all)):zu (b_4 ca f_c (en0 3 [(Kd.many k lo hi).t]))= .ok (.lst (Kd.many k lo hi).all):=by
 have hb1:bnd=16777216:=rfl;have e:zu (b_4 ca f_c (en0 3 [(Kd.many k lo hi).t]))=zu (b_4 ca f_c [.vl (Kd.many k lo hi).t,.un,.un]):=rfl;rw[e,b_4,Z6,j7];obtain⟨h1,h2,h3⟩:=h;have hml:=jn k lo hi;simp only[Kd.t];rw[cs0,Zs,show (("many":Str) == "whole")=false from rfl,if_neg au,wv];dsimp only;rw[Z6,j7,cs0,Zs,show (("many":Str) == "pick")=false from rfl,if_neg au,wv];dsimp only;rw[Z6,j7,cs0,Zs,show (("many":Str) == "row")=false from rfl,if_neg au,wv];dsimp only;have e0:yI 1 (zj) [.vl (.tup [.str "many",k.t,.int (lo:Int),.int (hi:Int)]),.un,.un]= .nx [.vl (.tup [.str "many",k.t,.int (lo:Int),.int (hi:Int)]),.ow [],.un]:=rfl;rw[Z6,e0];dsimp only;obtain⟨y,el⟩:=WS (k:=k) (lo:=lo) (H k h3) (ZQ d k h3) (a:= .str "many") (b:= .int (lo:Int)) (c:= .int (hi:Int)) (aT (hi+1 - lo)) [] .un (λj hj=>by have:=bg.mp hj;omega) (Gf hml hl)
 have e1:=vL (ca:=ca) (t:=k.t) h1 h2 el;rw[bp]at e1;rw[zd e1,Kd.all];rfl
theorem vO {ca:List T->R T}(d:Nat)(k:Kd)(h:k.Ok (d+1))(hl:k.all.length<=1000000)(H:∀k' :Kd,k'.Ok d->ca [k'.t]= .ok (.lst k'.all)):zu (b_4 ca f_c (en0 3 [k.t]))= .ok (.lst k.all):=by
 cases k with
 | whole lo hi=>exact qx d lo hi h hl H
 | pick cs=>exact vM d cs h hl H
 | row ks=>exact Xz d ks h hl H
 | many k lo hi=>exact vN d k lo hi h hl H
theorem qy:∀(d n:Nat),d<=n->d<=3->∀k:Kd,k.Ok d->k.all.length<=1000000->S_4 n 0 [k.t]= .ok (.lst k.all)
 | 0,_,_,_,_,h,_=>h.elim
 | d+1,0,hn,_,_,_,_=>by omega
 | d+1,n+1,hn,hd,k,h,hl=>by
  have e:S_4 (n+1) 0 [k.t]=zu (b_4 (S_4 n 0) f_c (en0 3 [k.t])):=rfl;rw[e];refine vO d k h hl λk' hk' =>qy d n (by omega) (by omega) k' hk' ?_
  have h1:=jx d k' hk';have:mx d<=1000000:=by
   have:d=0\/d=1\/d=2:=by omega
   rcases this with rfl | rfl | rfl <;> decide
  omega
theorem in2 {x a b:Str}{r:List T}{ρ:En}:zF inC (zb ixT (vE 0) (cE (.int 0))) (Zh (z9 (cE (.str a)) (z9 (cE (.str b)) (zj)))) (.vl (.tup (.str x :: r)) :: ρ)=inC (.str x) (.tup [.str a,.str b]):=by
 rw[zR,zt,v0,bOk,Z0,bOk,at0,bOk,uh Z0 Z0,bOk]
theorem ZX {g:En->R Bool}{f1 f2:En->RS}{ρ:En}(h:g ρ= .ok true):ifS g f1 f2 ρ=f1 ρ:=by rw[j7,h,Zs,if_pos rfl]
theorem if_f {g:En->R Bool}{f1 f2:En->RS}{ρ:En}(h:g ρ= .ok false):ifS g f1 f2 ρ=f2 ρ:=by rw[j7,h,Zs,if_neg au]
theorem zw {g:En->R Bool}{f1:En->RS}{ρ:En}(h:g ρ= .ok false):ifS g f1 nxS ρ= .nx ρ:=by rw[if_f h];rfl
theorem zN {i:Nat}{f:En->R T}{ρ:En}{t:T}(h:f ρ= .ok t):zJ i f ρ= .nx (ρ.set i (.vl t)):=by rw[JM,h,Zs]
theorem zr {f:En->R T}{ρ:En}{t:T}(h:f (frz ρ)= .ok t):zE f ρ= .rt t:=by rw[Zm,h,Zs]
theorem ji {g:T->En->R En}{fb:En->RS}{t:T}{ts:List T}{ρ ρ1 ρ2:En}(hg:g t ρ= .ok ρ1)(hb:fb ρ1= .nx ρ2):ZD g fb (t :: ts) ρ=ZD g fb ts ρ2:=by
 rw[ZD,hg];dsimp only;rw[hb]
theorem setg (i:Nat)(t:T)(ρ:En):zA i t ρ= .ok (ρ.set i (.vl t)):=rfl
theorem zB {f g:En->RS}{ρ:En}{t:T}(h:f ρ= .rt t):zz f g ρ= .rt t:=by rw[Z6,h]
theorem qz {i j:Nat}(h:i < 2 ^ 60):zY (.int (i:Int)) (.int (j:Int))= .ok (.int ((i*j:Nat):Int)):=by
 rw[uG _ _ (.inl ⟨by omega,by omega⟩),ck]
theorem Gg {d n:Nat}(h:n<=mx d)(hd:d<=3):n < 2 ^ 60:=by
 have:d=0\/d=1\/d=2\/d=3:=by omega
 have h3:mx 3 < 2 ^ 60:=by decide
 have h2:mx 2 < 2 ^ 60:=by decide
 have h1:mx 1 < 2 ^ 60:=by decide
 have h0:mx 0 < 2 ^ 60:=by decide
 rcases this with rfl | rfl | rfl | rfl <;> omega
theorem Us {a b:Sl}:∀(ns:List Nat) (m:Nat) (x y:Sl),(∀n∈ns,1<=n)->m*prd ns < 2 ^ 60->∃x',ZD (zA 3) (zJ 2 (zb zY (vE 2) (vE 3))) (ns.map λ(n:Nat)=>T.int (n:Int)) [a,b,.vl (.int (m:Int)),x,y]= .nx [a,b,.vl (.int ((m*prd ns:Nat):Int)),x',y]
 | [],m,x,y,_,_=>⟨x,by simp[ZD,prd]⟩
 | n :: ns,m,x,y,hp,hb=>by
  have hpr:=JP (ns:=ns) λk hk=>hp k (a9 _ hk);have hn:=hp n ad;have hmm:m<=m*prd (n :: ns):=b_ _ (bT hn hpr);have hb2:m < 2 ^ 60:=bf hmm hb;rw[prd,← cx]at hb;obtain⟨x',ih⟩:=Us (a:=a) (b:=b) ns (m*n) (.vl (.int (n:Int))) y (λk hk=>hp k (a9 _ hk)) hb;refine⟨x', ?_⟩;have es:zJ 2 (zb zY (vE 2) (vE 3)) [a,b,.vl (.int (m:Int)),.vl (.int (n:Int)),y]= .nx [a,b,.vl (.int ((m*n:Nat):Int)),.vl (.int (n:Int)),y]:=by
   rw[JM,zt,v2,bOk,v3,bOk,qz hb2,Zs];rfl
  have s3:zA 3 (T.int (n:Int)) [a,b,.vl (.int (m:Int)),x,y]= .ok [a,b,.vl (.int (m:Int)),.vl (.int (n:Int)),y]:=rfl;rw[ao,ji s3 es,prd,← cx];exact ih
theorem Ut:∀(d:Nat) (lo hi:Int),(Kd.whole lo hi).Ok (d+1)->(Kd.whole lo hi).Ok 1
 | _,_,_,h=>h
theorem vP:∀(d:Nat) (cs:List (Str×Int)),(Kd.pick cs).Ok (d+1)->(Kd.pick cs).Ok 1
 | _,_,h=>h
theorem WT {cs:List T->R T}(k:Kd)(h:k.Ok 1){x:Str}{r:List T}(ht:k.t= .tup (.str x :: r))(hx:inC (.str x) (.tup [.str "whole",.str "pick"])= .ok true):zu (b_b (f_4 8) cs (en0 5 [k.t]))= .ok (.int (k.all.length:Int)):=by
 have ha:f_4 8 [k.t]= .ok (.lst k.all):=qy 1 8 (by omega) (by omega) k h (aq (jx 1 k h) (by decide))
 have e:zu (b_b (f_4 8) cs (en0 5 [k.t]))=zu (b_b (f_4 8) cs [.vl k.t,.un,.un,.un,.un]):=rfl;have e1:zF inC (zb ixT (vE 0) (cE (.int 0))) (Zh (z9 (cE (.str "whole")) (z9 (cE (.str "pick")) (zj)))) [.vl k.t,.un,.un,.un,.un]= .ok true:=by
  rw[ht,in2,hx]
 have e2:zE (ap1 Zo (za 1 (f_4 8) (z9 (vE 0) (zj)))) [.vl k.t,.un,.un,.un,.un]= .rt (.int (k.all.length:Int)):=by
  refine zr ?_;rw[jg,ZA,zQ,v0,bOk,ha,bOk,gZ]
 rw[e,b_b,zB (by rw[ZX e1,e2])]
 rfl
theorem z2b (b:Bool):b2 b=(iv b:Int):=by cases b <;> rfl
theorem vQ {cs:List T->R T}{d:Nat}(hd:d+1<=3)(ks:List Kd)(h:(Kd.row ks).Ok (d+1))(H:∀k:Kd,k.Ok d->cs [k.t]= .ok (.int (k.all.length:Int))):zu (b_b (f_4 8) cs (en0 5 [(Kd.row ks).t]))= .ok (.int ((Kd.row ks).all.length:Int)):=by
 have hlt:=Gg (jx (d+1) (.row ks) h) hd;rw[jZ]at hlt ⊢;obtain⟨h1,h2,h3⟩:=h;simp only[Kd.t,Kd.ts_map];have e:zu (b_b (f_4 8) cs (en0 5 [.tup [.str "row",.tup (ks.map Kd.t)]]))=zu (b_b (f_4 8) cs [.vl (.tup [.str "row",.tup (ks.map Kd.t)]),.un,.un,.un,.un]):=rfl;have e1:zF inC (zb ixT (vE 0) (cE (.int 0))) (Zh (z9 (cE (.str "whole")) (z9 (cE (.str "pick")) (zj)))) [.vl (.tup [.str "row",.tup (ks.map Kd.t)]),.un,.un,.un,.un]= .ok false:=by
  rw[in2];rfl
 have ec:zG (zA 0) Z1 (za 1 cs (z9 (vE 0) (zj))) 1 [] [.vl (.tup [.str "row",.tup (ks.map Kd.t)]),.un,.un,.un,.un] (ks.map Kd.t)= .ok ((ks.map λk=>k.all.length).map λ(n:Nat)=>T.int (n:Int)):=by
  unfold zG;rw[if_pos (by rw[ac];exact aq h2 (by decide))]
  have:∀(ks:List Kd) (x:Sl),(∀k∈ks,k.Ok d)->zO (zA 0) Z1 (za 1 cs (z9 (vE 0) (zj))) (ks.map Kd.t) [x]= .ok ((ks.map λk=>k.all.length).map λ(n:Nat)=>T.int (n:Int)):=by
   intro ks
   induction ks with
   | nil=>intro _ _;rfl
   | cons k ks ih=>
    intro x hk;have e1:zO (zA 0) Z1 (za 1 cs (z9 (vE 0) (zj))) ((k :: ks).map Kd.t) [x]=(za 1 cs (z9 (vE 0) (zj)) [.vl k.t]).bind λv=>(zO (zA 0) Z1 (za 1 cs (z9 (vE 0) (zj))) (ks.map Kd.t) [.vl k.t]).bind λvs=> .ok (v :: vs):=rfl;rw[e1,zQ,v0,bOk,H k (hk k ad),bOk,ih _ λk' hk' =>hk k' (a9 _ hk')];rfl
  show quiet (zO (zA 0) Z1 _ (ks.map Kd.t) [.un])=_;rw[this ks .un h3];rfl
 have e2:ifE (zF eqC (zb ixT (vE 0) (cE (.int 0))) (cE (.str "row"))) (zW (ZJ (zb ixT (vE 0) (cE (.int 1)))) (zA 0) (Z1) (za 1 cs (z9 (vE 0) (zj))) 1 []) (ZT (zj)) [.vl (.tup [.str "row",.tup (ks.map Kd.t)]),.un,.un,.un,.un]= .ok (.lst ((ks.map λk=>k.all.length).map λ(n:Nat)=>T.int (n:Int))):=by
  unfold ifE;rw[cs0,bOk,show (("row":Str) == "row")=true from rfl,if_pos rfl,zP,Zw,jy,bOk];show ((R.ok (ks.map Kd.t)).bind _)=_;rw[bOk,ec,bOk]
 obtain⟨x',el⟩:=Us (a:= .vl (.tup [.str "row",.tup (ks.map Kd.t)])) (b:= .vl (.lst ((ks.map λk=>k.all.length).map λ(n:Nat)=>T.int (n:Int)))) (ks.map λk=>k.all.length) 1 .un .un (λn hn=>by
  obtain⟨k,hk,rfl⟩:=aC.mp hn;exact ZQ d k (h3 k hk)) (by rw[bv];exact hlt)
 rw[bv]at el;have e3:ZV (ZJ (vE 1)) (zA 3) (zJ 2 (zb zY (vE 2) (vE 3))) [.vl (.tup [.str "row",.tup (ks.map Kd.t)]),.vl (.lst ((ks.map λk=>k.all.length).map λ(n:Nat)=>T.int (n:Int))),.vl (.int 1),.un,.un]=_:=el;have e4:zF eqC (zb ixT (vE 0) (cE (.int 0))) (cE (.str "many")) [.vl (.tup [.str "row",.tup (ks.map Kd.t)]),.vl (.lst ((ks.map λk=>k.all.length).map λ(n:Nat)=>T.int (n:Int))),.vl (.int ((prd (ks.map λk=>k.all.length):Nat):Int)),x',.un]= .ok false:=by
  rw[cs0];rfl
 rw[e,b_b,zd (zw e1),zd (zN e2)];have s1:([.vl (.tup [.str "row",.tup (ks.map Kd.t)]),.un,.un,.un,.un]:En).set 1 (.vl (.lst ((ks.map λk=>k.all.length).map λ(n:Nat)=>T.int (n:Int))))=[.vl (.tup [.str "row",.tup (ks.map Kd.t)]),.vl (.lst ((ks.map λk=>k.all.length).map λ(n:Nat)=>T.int (n:Int))),.un,.un,.un]:=rfl;rw[s1,zd (zN Z0)];have s2:([.vl (.tup [.str "row",.tup (ks.map Kd.t)]),.vl (.lst ((ks.map λk=>k.all.length).map λ(n:Nat)=>T.int (n:Int))),.un,.un,.un]:En).set 2 (.vl (.int 1))=[.vl (.tup [.str "row",.tup (ks.map Kd.t)]),.vl (.lst ((ks.map λk=>k.all.length).map λ(n:Nat)=>T.int (n:Int))),.vl (.int 1),.un,.un]:=rfl;rw[s2,zd e3,zd (zw e4)];rfl
theorem Gh {f g:En->R T}{ρ:En}{i j c:Int}(hf:f ρ= .ok (.int i))(hg:g ρ= .ok (.int j)):chE leC leC f (cE (.int c)) g ρ= .ok (.bl (decide (i<=c) && decide (c<=j))):=by
 rw[qi,hf,bOk,Z0,bOk,wb,bOk,hg];cases decide (i<=c) <;> rfl
theorem ww (a b:Nat):decide ((a:Int)<=(b:Int))=decide (a<=b):=by
 by_cases h:a<=b
 ·rw[decide_eq_true h];exact decide_eq_true (by omega)
 ·rw[decide_eq_false h];exact decide_eq_false (by omega)
theorem qA (a b:Nat):((a:Int) == (b:Int))=(a == b):=by
 by_cases h:a=b
 ·subst h;simp
 ·rw[beq_eq_false_iff_ne.mpr h,beq_eq_false_iff_ne];omega
theorem z0B {f:En->R T}{ρ:En}{b:Bool}(h:f ρ= .ok (.bl b)):ap1 Wh f ρ= .ok (.int ((iv b:Nat):Int)):=by
 rw[ZA,h,bOk];show R.ok (T.int (b2 b))=_;rw[z2b]
theorem qB {f g:En->R T}{ρ:En}{i j:Nat}(hf:f ρ= .ok (.int (i:Int)))(hg:g ρ= .ok (.int (j:Int))):zb zD f g ρ= .ok (.int ((i+j:Nat):Int)):=by
 rw[zt,hf,bOk,hg,bOk,Z8,iy]
theorem J0 {f g:En->R T}{ρ:En}{i j:Nat}(h:i < 2 ^ 60)(hf:f ρ= .ok (.int (i:Int)))(hg:g ρ= .ok (.int (j:Int))):zb zY f g ρ= .ok (.int ((i*j:Nat):Int)):=by
 rw[zt,hf,bOk,hg,bOk,qz h]
theorem XA {d n:Nat}(h:n<=mx d)(hd:d+1<=3)(h0:1<=d):n*n*n < 2 ^ 60/\n*n < 2 ^ 60/\n < 2 ^ 60:=by
 have h1:n<=70644:=by
  have:d=1\/d=2:=by omega
  have h2:mx 2=70644:=by decide
  have h1:mx 1=41:=by decide
  rcases this with rfl | rfl <;> omega
 have h2:n*n<=70644*70644:=aW h1 h1;have h3:n*n*n<=70644*70644*70644:=aW h2 h1;have h4:70644*70644*70644 < 2 ^ 60:=by decide
 have h5:70644*70644 < 2 ^ 60:=by decide
 have h6:70644 < 2 ^ 60:=by decide
 exact⟨bf h3 h4,bf h2 h5,bf h1 h6⟩
noncomputable abbrev mt (t:T)(lo hi:Nat):T:= .tup [.str "many",t,.int (lo:Int),.int (hi:Int)]
theorem v4' {t:T}{a b c d:Sl}{ρ:En}:vE 4 (a :: b :: c :: d :: .vl t :: ρ)= .ok t:=rfl
theorem qC {t:T}{a x:Sl}{lo hi n:Nat}(h3:n*n*n < 2 ^ 60)(h2:n*n < 2 ^ 60)(h1:n < 2 ^ 60):
  zz (zJ 2 (zb zD (ap1 Wh (ZL eqC (zb ixT (vE 0) (cE (.int 2))) (cE (.int 0)))) (zb zY (vE 4) (ap1 Wh (chE leC leC (zb ixT (vE 0) (cE (.int 2))) (cE (.int 1)) (zb ixT (vE 0) (cE (.int 3))))))))
  (zz (zJ 2 (zb zD (vE 2) (zb zY (zb zY (vE 4) (vE 4)) (ap1 Wh (chE leC leC (zb ixT (vE 0) (cE (.int 2))) (cE (.int 2)) (zb ixT (vE 0) (cE (.int 3))))))))
  (zJ 2 (zb zD (vE 2) (zb zY (zb zY (zb zY (vE 4) (vE 4)) (vE 4)) (ap1 Wh (ZL eqC (zb ixT (vE 0) (cE (.int 3))) (cE (.int 3))))))))
  [.vl (mt t lo hi),a,.vl (.int 1),x,.vl (.int (n:Int))]= .nx [.vl (mt t lo hi),a,.vl (.int ((iv (lo == 0)+n*iv (decide (lo<=1) && decide (1<=hi))+n*n*iv (decide (lo<=2) && decide (2<=hi))+n*n*n*iv (hi == 3):Nat):Int)),x,.vl (.int (n:Int))]:=by
 have le1:∀{p q r s:Sl},ap1 Wh (chE leC leC (zb ixT (vE 0) (cE (.int 2))) (cE (.int 1)) (zb ixT (vE 0) (cE (.int 3)))) [.vl (mt t lo hi),p,q,r,s]= .ok (.int ((iv (decide (lo<=1) && decide (1<=hi)):Nat):Int)):=λ{p q r s}=>z0B (by
  rw[Gh (c:=1) Wj Xy];rw[show decide ((lo:Int)<=1)=decide (lo<=1) from ww lo 1,show decide ((1:Int)<=(hi:Int))=decide (1<=hi) from ww 1 hi])
 have le2:∀{p q r s:Sl},ap1 Wh (chE leC leC (zb ixT (vE 0) (cE (.int 2))) (cE (.int 2)) (zb ixT (vE 0) (cE (.int 3)))) [.vl (mt t lo hi),p,q,r,s]= .ok (.int ((iv (decide (lo<=2) && decide (2<=hi)):Nat):Int)):=λ{p q r s}=>z0B (by
  rw[Gh (c:=2) Wj Xy];rw[show decide ((lo:Int)<=2)=decide (lo<=2) from ww lo 2,show decide ((2:Int)<=(hi:Int))=decide (2<=hi) from ww 2 hi])
 have eq0:∀{p q r s:Sl},ap1 Wh (ZL eqC (zb ixT (vE 0) (cE (.int 2))) (cE (.int 0))) [.vl (mt t lo hi),p,q,r,s]= .ok (.int ((iv (lo == 0):Nat):Int)):=λ{p q r s}=>z0B (by
  rw[Zl,Wj,bOk,Z0,bOk,eqI,bOk,show ((lo:Int) == 0)=(lo == 0) from qA lo 0])
 have eq3:∀{p q r s:Sl},ap1 Wh (ZL eqC (zb ixT (vE 0) (cE (.int 3))) (cE (.int 3))) [.vl (mt t lo hi),p,q,r,s]= .ok (.int ((iv (hi == 3):Nat):Int)):=λ{p q r s}=>z0B (by
  rw[Zl,Xy,bOk,Z0,bOk,eqI,bOk,show ((hi:Int) == 3)=(hi == 3) from qA hi 3])
 have a1:=zN (i:=2) (qB (eq0 (p:=a) (q:= .vl (.int 1)) (r:=x) (s:= .vl (.int (n:Int)))) (J0 h1 v4' le1));have a1:zJ 2 (zb zD (ap1 Wh (ZL eqC (zb ixT (vE 0) (cE (.int 2))) (cE (.int 0)))) (zb zY (vE 4) (ap1 Wh (chE leC leC (zb ixT (vE 0) (cE (.int 2))) (cE (.int 1)) (zb ixT (vE 0) (cE (.int 3))))))) [.vl (mt t lo hi),a,.vl (.int 1),x,.vl (.int (n:Int))]= .nx [.vl (mt t lo hi),a,.vl (.int ((iv (lo == 0)+n*iv (decide (lo<=1) && decide (1<=hi)):Nat):Int)),x,.vl (.int (n:Int))]:=a1;rw[zd a1];generalize iv (lo == 0)+n*iv (decide (lo<=1) && decide (1<=hi))=m1;have a2:=zN (i:=2) (qB (v2 (t:= .int (m1:Int)) (a:= .vl (mt t lo hi)) (b:=a) (ρ:=[x,.vl (.int (n:Int))])) (J0 h2 (J0 h1 v4' v4') le2));have a2:zJ 2 (zb zD (vE 2) (zb zY (zb zY (vE 4) (vE 4)) (ap1 Wh (chE leC leC (zb ixT (vE 0) (cE (.int 2))) (cE (.int 2)) (zb ixT (vE 0) (cE (.int 3))))))) [.vl (mt t lo hi),a,.vl (.int (m1:Int)),x,.vl (.int (n:Int))]= .nx [.vl (mt t lo hi),a,.vl (.int ((m1+n*n*iv (decide (lo<=2) && decide (2<=hi)):Nat):Int)),x,.vl (.int (n:Int))]:=a2;rw[zd a2];generalize m1+n*n*iv (decide (lo<=2) && decide (2<=hi))=m2;have a3:=zN (i:=2) (qB (v2 (t:= .int (m2:Int)) (a:= .vl (mt t lo hi)) (b:=a) (ρ:=[x,.vl (.int (n:Int))])) (J0 h3 (J0 h2 (J0 h1 v4' v4') v4') eq3));exact a3
theorem qD {cs:List T->R T}{d:Nat}(hd:d+1<=3)(k:Kd)(lo hi:Nat)(h:(Kd.many k lo hi).Ok (d+1))(H:∀k:Kd,k.Ok d->cs [k.t]= .ok (.int (k.all.length:Int))):zu (b_b (f_4 8) cs (en0 5 [(Kd.many k lo hi).t]))= .ok (.int ((Kd.many k lo hi).all.length:Int)):=by
 obtain⟨h1,h2,h3⟩:=h;have hd0:1<=d:=by
  cases d with
  | zero=>exact h3.elim
  | succ d=>omega
 obtain⟨c3,c2,c1⟩:=XA (jx d k h3) hd hd0;rw[jn,Xw _ h1 h2];simp only[Kd.t];have hk:=H k h3;generalize k.all.length=n at*;generalize k.t=t at*;have e:zu (b_b (f_4 8) cs (en0 5 [mt t lo hi]))=zu (b_b (f_4 8) cs [.vl (mt t lo hi),.un,.un,.un,.un]):=rfl;have e1:zF inC (zb ixT (vE 0) (cE (.int 0))) (Zh (z9 (cE (.str "whole")) (z9 (cE (.str "pick")) (zj)))) [.vl (mt t lo hi),.un,.un,.un,.un]= .ok false:=by
  rw[in2];rfl
 have e2:ifE (zF eqC (zb ixT (vE 0) (cE (.int 0))) (cE (.str "row"))) (zW (ZJ (zb ixT (vE 0) (cE (.int 1)))) (zA 0) (Z1) (za 1 cs (z9 (vE 0) (zj))) 1 []) (ZT (zj)) [.vl (mt t lo hi),.un,.un,.un,.un]= .ok (.lst []):=by
  unfold ifE;rw[cs0,bOk,show (("many":Str) == "row")=false from rfl,if_neg au];rfl
 have s1:([.vl (mt t lo hi),.un,.un,.un,.un]:En).set 1 (.vl (.lst []))=[.vl (mt t lo hi),.vl (.lst []),.un,.un,.un]:=rfl;have s2:([.vl (mt t lo hi),.vl (.lst []),.un,.un,.un]:En).set 2 (.vl (.int 1))=[.vl (mt t lo hi),.vl (.lst []),.vl (.int 1),.un,.un]:=rfl;have e3:ZV (ZJ (vE 1)) (zA 3) (zJ 2 (zb zY (vE 2) (vE 3))) [.vl (mt t lo hi),.vl (.lst []),.vl (.int 1),.un,.un]= .nx [.vl (mt t lo hi),.vl (.lst []),.vl (.int 1),.un,.un]:=rfl;have e4:zF eqC (zb ixT (vE 0) (cE (.int 0))) (cE (.str "many")) [.vl (mt t lo hi),.vl (.lst []),.vl (.int 1),.un,.un]= .ok true:=by
  rw[cs0];rfl
 have e5:za 1 cs (z9 (zb ixT (vE 0) (cE (.int 1))) (zj)) [.vl (mt t lo hi),.vl (.lst []),.vl (.int 1),.un,.un]= .ok (.int (n:Int)):=by
  rw[zQ,jy,bOk,hk]
 have s5:([.vl (mt t lo hi),.vl (.lst []),.vl (.int 1),.un,.un]:En).set 4 (.vl (.int (n:Int)))=[.vl (mt t lo hi),.vl (.lst []),.vl (.int 1),.un,.vl (.int (n:Int))]:=rfl;have e6:=qC (t:=t) (a:= .vl (.lst [])) (x:= .un) (lo:=lo) (hi:=hi) c3 c2 c1;rw[e,b_b,zd (zw e1),zd (zN e2),s1,zd (zN Z0),s2,zd e3];have e7:∀(P:En->RS),ifS (zF eqC (zb ixT (vE 0) (cE (.int 0))) (cE (.str "many"))) (zz (zJ 4 (za 1 cs (z9 (zb ixT (vE 0) (cE (.int 1))) (zj)))) P) nxS [.vl (mt t lo hi),.vl (.lst []),.vl (.int 1),.un,.un]=P [.vl (mt t lo hi),.vl (.lst []),.vl (.int 1),.un,.vl (.int (n:Int))]:=λP=>by
  rw[ZX e4,zd (zN e5),s5]
 rw[zd (Eq.trans (e7 _) e6)];rfl
theorem qE:∀(d n:Nat),d<=n->d<=3->∀k:Kd,k.Ok d->S_b n 0 [k.t]= .ok (.int (k.all.length:Int))
 | 0,_,_,_,_,h=>h.elim
 | d+1,0,hn,_,_,_=>by omega
 | d+1,n+1,hn,hd,k,h=>by
  have e:S_b (n+1) 0 [k.t]=zu (b_b (f_4 8) (S_b n 0) (en0 5 [k.t])):=rfl;rw[e];have H:∀k:Kd,k.Ok d->S_b n 0 [k.t]= .ok (.int (k.all.length:Int)):=λk' hk' =>qE d n (by omega) (by omega) k' hk'
  cases k with
  | whole lo hi=>exact WT (.whole lo hi) (Ut d lo hi h) (x:="whole") (r:=[.int lo,.int hi]) (by simp only[Kd.t]) rfl
  | pick cs=>exact WT (.pick cs) (vP d cs h) (x:="pick") (r:=[.tup (cs.map ju)]) (by simp only[Kd.t]) rfl
  | row ks=>exact vQ (by omega) ks h H
  | many k lo hi=>exact qD (by omega) k lo hi h H
theorem Ok.mono:∀(d:Nat) (k:Kd),k.Ok d->k.Ok (d+1)
 | 0,_,h=>h.elim
 | d+1,.whole _ _,h=>h
 | d+1,.pick _,h=>h
 | d+1,.row ks,h=>⟨h.1,h.2.1,λk hk=>Ok.mono d k (h.2.2 k hk)⟩
 | d+1,.many k _ _,h=>⟨h.1,h.2.1,Ok.mono d k h.2.2⟩
theorem XB (j:Int):zY (.int 700) (.int j)= .ok (.int (700*j)):=uG _ _ (.inl ⟨by decide,by decide⟩)
theorem Gi (ns:List Int)(d:Nat)(h1:1<=d)(h8:d<=8)(k:Int)(h0:0<=k):∃q:Kd,f_h 8 [scr ns,.int k,.int (d:Int)]= .ok q.t/\q.Ok d:=by
 obtain⟨t,ht,hi⟩:=uH ns d 8 h8 h1 k h0;obtain⟨q,rfl,hq⟩:=uJ d t hi;exact⟨q,ht,hq⟩
noncomputable abbrev smB:En->RS:=zz (ifS (zF leC (za 1 (f_b 8) (z9 (vE 3) (zj))) (vB 2)) (zE (vE 3)) (nxS))
  (zJ 3 (za 3 (f_h 8) (z9 (vE 0) (z9 (zb zD (zb zD (vE 1) (cE (.int 500))) (zb zY (cE (.int 700)) (vE 4))) (z9 (cE (.int 2)) (zj))))))
noncomputable abbrev en5 (ns:List Int)(a:Int)(m:Nat)(k:Kd)(x:Sl):En:=[.vl (scr ns),.vl (.int a),.vl (.int (m:Int)),.vl k.t,x]
theorem qF {ns:List Int}{a:Int}{m:Nat}{k:Kd}{x:Sl}(hk:k.Ok 3):zF leC (za 1 (f_b 8) (z9 (vE 3) (zj))) (vB 2) (en5 ns a m k x)= .ok (decide (k.all.length<=m)):=by
 have e:f_b 8 [k.t]= .ok (.int (k.all.length:Int)):=qE 3 8 (by omega) (by omega) k hk
 rw[zR,zQ,v3,bOk,e,bOk,w2,bOk,wb,ww]
theorem XD (ns:List Int){a:Int}{m:Nat}(ha:0<=a){k:Kd}(hk:k.Ok 3)(j:Nat):(k.all.length<=m/\smB (en5 ns a m k (.vl (.int (0+(j:Int)))))= .rt k.t)\/∃k' :Kd,k'.Ok 3/\smB (en5 ns a m k (.vl (.int (0+(j:Int)))))= .nx (en5 ns a m k' (.vl (.int (0+(j:Int))))):=by
 by_cases h:k.all.length<=m
 ·refine .inl ⟨h, ?_⟩;unfold smB;refine zB ?_;rw[ZX (by rw[qF hk,decide_eq_true h])]
  exact zr rfl
 ·obtain⟨q,hq,ho⟩:=Gi ns 2 (by omega) (by omega) (a+500+700*(0+(j:Int))) (by omega)
  refine .inr ⟨q,Ok.mono 2 q ho, ?_⟩;unfold smB;rw[zd (zw (by rw[qF hk,decide_eq_false h]))]
  have hq:f_h 8 [scr ns,.int (a+500+700*(0+(j:Int))),.int 2]= .ok q.t:=hq;have e:za 3 (f_h 8) (z9 (vE 0) (z9 (zb zD (zb zD (vE 1) (cE (.int 500))) (zb zY (cE (.int 700)) (vE 4))) (z9 (cE (.int 2)) (zj)))) (en5 ns a m k (.vl (.int (0+(j:Int)))))= .ok q.t:=by
   rw[Zq,v0,bOk,zt,zt,v1,bOk,Z0,bOk,Z8,bOk,zt,Z0,bOk,v4,bOk,XB,bOk,Z8,bOk,Z0,bOk,hq]
  rw[zN e];rfl
theorem Gj {g:T->En->R En}{fb:En->RS}{t:T}{ts:List T}{ρ ρ1:En}{r:T}(hg:g t ρ= .ok ρ1)(hb:fb ρ1= .rt r):ZD g fb (t :: ts) ρ= .rt r:=by
 rw[ZD,hg];dsimp only;rw[hb]
theorem qG (ns:List Int){a:Int}{m:Nat}(ha:0<=a):∀(js:List Nat) (k:Kd) (x:Sl),k.Ok 3->(∃k' :Kd,k'.Ok 3/\k'.all.length<=m/\ZD (zA 4) smB (js.map λ(j:Nat)=>T.int (0+(j:Int))) (en5 ns a m k x)= .rt k'.t)\/
  ∃(k' :Kd) (x' :Sl),k'.Ok 3/\ZD (zA 4) smB (js.map λ(j:Nat)=>T.int (0+(j:Int))) (en5 ns a m k x)= .nx (en5 ns a m k' x')
 | [],k,x,hk=> .inr ⟨k,x,hk,rfl⟩
 | j :: js,k,x,hk=>by
  have s3:zA 4 (T.int (0+(j:Int))) (en5 ns a m k x)= .ok (en5 ns a m k (.vl (.int (0+(j:Int))))):=rfl;rw[ao];rcases XD ns ha (m:=m) hk j with ⟨h1,h2⟩ | ⟨k',h1,h2⟩
  ·exact .inl ⟨k,hk,h1,Gj s3 h2⟩
  ·rw[ji s3 h2];exact qG ns ha js k' _ h1
theorem vR (ns:List Int)(a:Int)(ha:0<=a)(m:Nat)(hm:4<=m):∃k:Kd,k.Ok 3/\k.all.length<=m/\gO [scr ns,.int a,.int (m:Int)]= .ok k.t:=by
 obtain⟨q,hq,ho⟩:=Gi ns 3 (by omega) (by omega) a ha
 have hq:f_h 8 [scr ns,.int a,.int 3]= .ok q.t:=hq;have e:gO [scr ns,.int a,.int (m:Int)]=zu (z01 (f_h 8) (f_b 8) [.vl (scr ns),.vl (.int a),.vl (.int (m:Int)),.un,.un]):=rfl;have e1:za 3 (f_h 8) (z9 (vE 0) (z9 (vE 1) (z9 (cE (.int 3)) (zj)))) [.vl (scr ns),.vl (.int a),.vl (.int (m:Int)),.un,.un]= .ok q.t:=by
  rw[Zq,v0,bOk,v1,bOk,Z0,bOk,hq]
 have s1:([.vl (scr ns),.vl (.int a),.vl (.int (m:Int)),.un,.un]:En).set 3 (.vl q.t)=en5 ns a m q .un:=rfl;rw[e,z01,zd (zN e1),s1];rcases qG ns ha (m:=m) (aT 3) q .un ho with ⟨k,h1,h2,h3⟩ | ⟨k,x,h1,h3⟩
 ·refine⟨k,h1,h2, ?_⟩;have e2:ZV (ZC (cE (.int 3))) (zA 4) smB (en5 ns a m q .un)= .rt k.t:=h3;rw[zB e2];rfl
 ·have e2:ZV (ZC (cE (.int 3))) (zA 4) smB (en5 ns a m q .un)= .nx (en5 ns a m k x):=h3;rw[zd e2];have ec:zF leC (za 1 (f_b 8) (z9 (vE 3) (zj))) (vB 2) (frz (en5 ns a m k x))= .ok (decide (k.all.length<=m)):=qF (x:=z1p x) h1
  by_cases h:k.all.length<=m
  ·refine⟨k,h1,h, ?_⟩;rw[zr (t:=k.t)]
   ·rfl
   ·unfold ifE;rw[ec,bOk,decide_eq_true h,if_pos rfl];rfl
  ·refine⟨.whole (-1) 2,⟨by omega,by omega,by omega⟩,by rw[ZW];exact hm, ?_⟩
   rw[zr (t:=(Kd.whole (-1) 2).t)]
   ·rfl
   ·unfold ifE;rw[ec,bOk,decide_eq_false h,if_neg au,Kd.t];rfl
mutual
noncomputable def Kd.has:Kd->T->Bool
 | .whole lo hi=>λt=>inR lo hi t
 | .pick cs=>λt=>match t with | .str x=>cs.any λc=>c.1 == x | _=>false
 | .row ks=>λt=>match t with | .tup xs=>xs.length == ks.length && Kd.hass ks xs | _=>false
 | .many k lo hi=>λt=>match t with | .tup xs=>decide (lo<=xs.length) && decide (xs.length<=hi) && xs.all k.has | _=>false
noncomputable def Kd.hass:List Kd->List T->Bool
 | []=>λ_=>true
 | k :: ks=>λxs=>match xs with | []=>true | x :: xs=>k.has x && Kd.hass ks xs
end
theorem Jq:∀(ks:List Kd) (xs:List T),Kd.hass ks xs=(ks.zip xs).all λq=>q.1.has q.2
 | [],_=>by simp[Kd.hass]
 | k :: ks,[]=>by simp[Kd.hass]
 | k :: ks,x :: xs=>by simp[Kd.hass,Jq ks xs]
noncomputable def yB:List (List T)->List T->Prop
 | [],[]=>True
 | l :: ls,x :: xs=>x∈l/\yB ls xs
 | _,_=>False
theorem JR:∀(ls made:List (List T)) (xs:List T),xs∈Z4 made ls↔∃a∈made,∃b,yB ls b/\xs=a++b
 | [],made,xs=>by
  rw[Z4];constructor
  ·exact λh=>⟨xs,h,[],trivial,by simp⟩
  ·rintro⟨a,ha,b,hb,rfl⟩
   cases b with
   | nil=>simpa using ha
   | cons=>exact hb.elim
 | l :: ls,made,xs=>by
  rw[Z4,JR ls];constructor
  ·rintro⟨a',ha',b,hb,rfl⟩
   obtain⟨a,ha,hx⟩:=c8.mp ha';obtain⟨x,hl,e⟩:=aC.mp hx;exact⟨a,ha,x :: b,⟨hl,hb⟩,by rw[← e];simp⟩
  ·rintro⟨a,ha,b,hb,rfl⟩
   cases b with
   | nil=>exact hb.elim
   | cons x b=>exact⟨a++[x],c8.mpr ⟨a,ha,aC.mpr ⟨x,hb.1,rfl⟩⟩,b,hb.2,by simp⟩
theorem wZ (ls:List (List T))(t:T):t∈Wi ls↔∃xs,yB ls xs/\t= .tup xs:=by
 unfold Wi;rw[aC];constructor
 ·rintro⟨xs,h,rfl⟩
  obtain⟨a,ha,b,hb,rfl⟩:=(JR ls [[]] xs).mp h;rw[aG.mp ha];exact⟨b,hb,rfl⟩
 ·rintro⟨xs,h,rfl⟩
  exact⟨xs,(JR ls [[]] xs).mpr ⟨[],aG.mpr rfl,xs,h,rfl⟩,rfl⟩
theorem W0 (l:List T):∀(m:Nat) (xs:List T),yB (aa m l) xs↔xs.length=m/\∀x∈xs,x∈l
 | 0,[]=>by simp[yB]
 | 0,x :: xs=>by simp[yB]
 | m+1,[]=>by simp[yB,ba]
 | m+1,x :: xs=>by
  rw[ba];show x∈l/\yB _ xs↔_;rw[W0 l m xs];simp;constructor
  ·rintro⟨a,b,c⟩;exact⟨b,a,c⟩
  ·rintro⟨a,b,c⟩;exact⟨b,a,c⟩
theorem WU:∀(ks:List Kd),(∀k∈ks,∀x,x∈k.all↔k.has x=true)->∀xs,yB (ks.map Kd.all) xs↔(xs.length == ks.length && Kd.hass ks xs)=true
 | [],_,[]=>by simp[yB,Kd.hass]
 | [],_,x :: xs=>by simp[yB]
 | k :: ks,h,[]=>by simp[yB]
 | k :: ks,h,x :: xs=>by
  show x∈k.all/\yB (ks.map Kd.all) xs↔_;rw[WU ks (λk' hk' =>h k' (a9 _ hk')) xs,h k ad x];simp[Kd.hass];constructor
  ·rintro⟨a,b,c⟩;exact⟨b,a,c⟩
  ·rintro⟨a,b,c⟩;exact⟨b,a,c⟩
mutual
theorem W1:∀(k:Kd) (x:T),x∈k.all↔k.has x=true
 | .whole lo hi,x=>by
  rw[Kd.all,Kd.has,aC];constructor
  ·rintro⟨i,hi',rfl⟩
   rw[bg]at hi';simp[inR];omega
  ·intro h;obtain⟨i,rfl⟩:=Xu h;simp[inR]at h;exact⟨(i - lo).toNat,by rw[bg];omega,by congr 1;omega⟩
 | .pick cs,x=>by
  rw[Kd.all,Kd.has,aC];constructor
  ·rintro⟨c,hc,rfl⟩
   simp only[eG];exact⟨c,hc,by simp⟩
  ·intro h;dsimp only at h;split at h
   ·rw[eG]at h;obtain⟨c,hc,e⟩:=h;exact⟨c,hc,by rw[eq_of_beq e]⟩
   ·cases h
 | .row ks,x=>by
  rw[Kd.all,Kd.has,wZ,Kd.alls_map];have:=WU ks (Uu ks);constructor
  ·rintro⟨xs,h,rfl⟩
   exact(this xs).mp h
  ·intro h;dsimp only at h;split at h
   ·rename_i xs;exact⟨xs,(this xs).mpr h,rfl⟩
   ·cases h
 | .many k lo hi,x=>by
  rw[Kd.all,Kd.has,c8];constructor
  ·rintro⟨i,hi',h⟩
   rw[wZ]at h;obtain⟨xs,h,rfl⟩:=h;rw[W0]at h;rw[bg]at hi';simp only[ae,decide_eq_true_eq,aL];exact⟨⟨by omega,by omega⟩,λy hy=>(W1 k y).mp (h.2 y hy)⟩
  ·intro h;dsimp only at h;split at h
   ·rename_i xs;simp only[ae,decide_eq_true_eq,aL]at h;refine⟨xs.length - lo,by rw[bg];omega, ?_⟩
    rw[wZ];exact⟨xs,(W0 _ _ _).mpr ⟨by omega,λy hy=>(W1 k y).mpr (h.2 y hy)⟩,rfl⟩
   ·cases h
theorem Uu:∀(ks:List Kd),∀k∈ks,∀x,x∈k.all↔k.has x=true
 | [],_,h=>nomatch h
 | k :: ks,k',h=>by
  rcases ah.mp h with e | h
  ·intro x;rw[e];exact W1 k x
  ·exact Uu ks k' h
end
theorem wx {c:List T->R T}:∀(qs:List (Kd×T)) (x y:Sl),(∀q∈qs,c [q.1.t,q.2]= .ok (.bl (q.1.has q.2)))->zO (Z3 0 1) Z1 (za 2 c (z9 (vE 0) (z9 (vE 1) (zj)))) (qs.map λq=>T.tup [q.1.t,q.2]) [x,y]= .ok (qs.map λq=>T.bl (q.1.has q.2))
 | [],_,_,_=>rfl
 | q :: qs,x,y,h=>by
  have e:za 2 c (z9 (vE 0) (z9 (vE 1) (zj))) [.vl q.1.t,.vl q.2]= .ok (.bl (q.1.has q.2)):=by
   rw[zK,v0,bOk,v1,bOk,h q ad]
  have ih:=wx qs (.vl q.1.t) (.vl q.2) λr hr=>h r (a9 _ hr);have e0:zO (Z3 0 1) Z1 (za 2 c (z9 (vE 0) (z9 (vE 1) (zj)))) ((q :: qs).map λq=>T.tup [q.1.t,q.2]) [x,y]=
   (za 2 c (z9 (vE 0) (z9 (vE 1) (zj))) [.vl q.1.t,.vl q.2]).bind λv=>(zO (Z3 0 1) Z1 (za 2 c (z9 (vE 0) (z9 (vE 1) (zj)))) (qs.map λq=>T.tup [q.1.t,q.2]) [.vl q.1.t,.vl q.2]).bind λvs=> .ok (v :: vs):=rfl
  rw[e0,e,bOk,ih,bOk,ao]
theorem W2 {α:Type}(p:α->Bool):∀qs:List α,Wz (qs.map λq=>T.bl (p q))=some (qs.all p)
 | []=>rfl
 | q :: qs=>by
  have e:Wz ((q :: qs).map λq=>T.bl (p q))=match Wz (qs.map λq=>T.bl (p q)) with | some j=>some (p q && j) | none=>none:=rfl
  rw[e,W2 p qs];rfl
theorem Gk (ks:List Kd)(xs:List T):Qv (ks.map Kd.t) xs=(ks.zip xs).map λq=>T.tup [q.1.t,q.2]:=by
 unfold Qv;rw[List.zip_map_left,aV];rfl
theorem Uv {c:List T->R T}{s:T}(ks:List Kd)(xs:List T)(hs:jV s= .ok (ks.map Kd.t))(hl:ks.length<=3)(H:∀q∈ks.zip xs,c [q.1.t,q.2]= .ok (.bl (q.1.has q.2))):
  zu (gY c (en0 2 [s,.tup xs]))= .ok (.bl ((ks.zip xs).all λq=>q.1.has q.2)):=by
 have e:en0 2 [s,.tup xs]=[.vl s,.vl (.tup xs)]:=rfl;have ez:Vp (vE 0) (vE 1) [.vl s,.vl (.tup xs)]= .ok ((ks.zip xs).map λq=>T.tup [q.1.t,q.2]):=by
  show (jV s).bind _=_;rw[hs,bOk,← Gk];rfl
 have hb:((ks.zip xs).map λq=>T.tup [q.1.t,q.2]).length<=bnd:=by
  rw[ac,dj];exact aq (Nat.min_le_left _ _) (aq hl (by decide))
 have ec:zG (Z3 0 1) Z1 (za 2 c (z9 (vE 0) (z9 (vE 1) (zj)))) 2 [] [.vl s,.vl (.tup xs)] ((ks.zip xs).map λq=>T.tup [q.1.t,q.2])= .ok ((ks.zip xs).map λq=>T.bl (q.1.has q.2)):=by
  unfold zG;rw[if_pos hb];show quiet (zO _ _ _ _ [.un,.un])=_;rw[wx _ _ _ H];rfl
 rw[e,gY,zr (t:= .bl ((ks.zip xs).all λq=>q.1.has q.2))]
 ·rfl
 ·show ap1 _ _ [.vl s,.vl (.tup xs)]=_;rw[ZA,zP,ez,bOk,ec,bOk,bOk];show (match Wz ((ks.zip xs).map λq=>T.bl (q.1.has q.2)) with | some k=>_ | none=>_)=_
  rw[W2]
theorem Uw (cs:List (Str×Int))(h:cs.length<=4):f_q [(Kd.pick cs).t]= .ok (.lst (cs.map λc=>T.str c.1)):=by
 have e:f_q [(Kd.pick cs).t]=zu (b_q [.vl (.tup [.str "pick",.tup (cs.map ju)])]):=by rw[Kd.t];rfl
 have hb:(cs.map ju).length<=bnd:=by rw[ac];exact aq h (by decide)
 have ec:zG (zA 0) Z1 (zb ixT (vE 0) (cE (.int 0))) 1 [] [.vl (.tup [.str "pick",.tup (cs.map ju)])] (cs.map ju)= .ok ((cs.map ju).map λc=>match c with | .tup (w :: _)=>w | _=>c):=
  Z7 _ hb λt ht=>by
   obtain⟨c,_,rfl⟩:=aC.mp ht;rfl
 rw[e,b_q,zr (t:= .lst (cs.map λc=>T.str c.1))]
 ·rfl
 ·show zW _ _ _ _ _ _ [.vl (.tup [.str "pick",.tup (cs.map ju)])]=_;rw[zP,Zw,jy,bOk];show ((zG _ _ _ _ _ _ (cs.map ju)).bind _)=_;rw[ec,bOk,aV];rfl
theorem Ux (t:T):∀cs:List (Str×Int),JY (λy=>eqF 30 y t) (cs.map λc=>T.str c.1)=some ((Kd.pick cs).has t)
 | []=>by rw[Kd.has];cases t <;> rfl
 | c :: cs=>by
  have ih:=Ux t cs;rw[Kd.has]at ih ⊢;have e:JY (λy=>eqF 30 y t) ((c :: cs).map λc=>T.str c.1)=match eqF 30 (.str c.1) t with
   | none=>none
   | some b=>match JY (λy=>eqF 30 y t) (cs.map λc=>T.str c.1) with
    | none=>none
    | some d=>some (b || d):=rfl
  rw[e,ih];cases t <;> rfl
noncomputable abbrev en2 (a b:T):En:=[.vl a,.vl b]
theorem yM {x w:Str}{r:List T}{b:T}(h:(x == w)=false){f:En->RS}:ifS (zF eqC (zb ixT (vE 0) (cE (.int 0))) (cE (.str w))) f nxS (en2 (.tup (.str x :: r)) b)= .nx (en2 (.tup (.str x :: r)) b):=
 zw (by rw[cs0,h])
theorem ky {x:Str}{r:List T}{b:T}{f:En->RS}:ifS (zF eqC (zb ixT (vE 0) (cE (.int 0))) (cE (.str x))) f nxS (en2 (.tup (.str x :: r)) b)=f (en2 (.tup (.str x :: r)) b):=
 ZX (by rw[cs0,beq_self_eq_true])
theorem qH {cp:List T->R T}(lo hi:Int)(x:T):zu (b_e f_9 f_f f_q cp (en0 2 [(Kd.whole lo hi).t,x]))= .ok (.bl ((Kd.whole lo hi).has x)):=by
 have e:en0 2 [(Kd.whole lo hi).t,x]=en2 (.tup [.str "whole",.int lo,.int hi]) x:=by rw[Kd.t];rfl
 rw[e,b_e,zB (t:= .bl (inR lo hi x))]
 ·rw[Kd.has];rfl
 ·rw[ky,zr];show j6 _ _ (en2 _ x)=_;rw[jM,zQ,v1,bOk,Jm,Zd];cases x with
  | int i=>
   rw[show isW (T.int i)=true from rfl,if_pos rfl,qi,jy,bOk,w1,bOk,wb,bOk,Wj,bOk,wb,bOk];show _=R.ok (T.bl (decide (lo<=i) && decide (i<=hi)));cases decide (lo<=i) <;> rfl
  | _=>rfl
theorem vS {cp:List T->R T}(cs:List (Str×Int))(h4:cs.length<=4)(x:T):zu (b_e f_9 f_f f_q cp (en0 2 [(Kd.pick cs).t,x]))= .ok (.bl ((Kd.pick cs).has x)):=by
 have e:en0 2 [(Kd.pick cs).t,x]=en2 (.tup [.str "pick",.tup (cs.map ju)]) x:=by rw[Kd.t];rfl
 have hw:=Uw cs h4;rw[Kd.t]at hw;rw[e,b_e,zd (yM (by decide)),zB (t:= .bl ((Kd.pick cs).has x))]
 ·rfl
 ·rw[ky,zr];show ZL _ _ _ (en2 _ x)=_;rw[Zl,w1,bOk,zQ,v0,bOk,hw,bOk];show ((match JY (λy=>eqF 30 y x) (cs.map λ(c:Str×Int)=>T.str c.1) with | some b=>R.ok b | none=> .bad).bind _)=_
  rw[Ux];rfl
theorem XF {cp:List T->R T}(ks:List Kd)(h3:ks.length<=3)(x:T)(H:∀xs,x= .tup xs->cp [.tup (ks.map Kd.t),x]= .ok (.bl ((ks.zip xs).all λq=>q.1.has q.2))):zu (b_e f_9 f_f f_q cp (en0 2 [(Kd.row ks).t,x]))= .ok (.bl ((Kd.row ks).has x)):=by
 have e:en0 2 [(Kd.row ks).t,x]=en2 (.tup [.str "row",.tup (ks.map Kd.t)]) x:=by rw[Kd.t,Kd.ts_map];rfl
 rw[e,b_e,zd (yM (by decide)),zd (yM (by decide)),zB (t:= .bl ((Kd.row ks).has x))]
 ·rfl
 ·rw[ky,zr];show j6 _ _ (en2 _ x)=_;have el:ap1 Zo (zb ixT (vE 0) (cE (.int 1))) (en2 (.tup [.str "row",.tup (ks.map Kd.t)]) x)= .ok (.int (ks.length:Nat)):=by
   rw[ZA,jy,bOk,wc,ac]
  rw[jM,Zq,v1,bOk,el,bOk,bOk,ZH,Zd,zK,jy,bOk,v1,bOk,Kd.has];cases x with
  | tup xs=>
   rw[H xs rfl];show (if (decide (ks.length<=xs.length) && decide (xs.length<=ks.length))=true then _ else _)=R.ok (T.bl (xs.length == ks.length && Kd.hass ks xs))
   rw[Jq]
   by_cases h:xs.length=ks.length
   ·rw[if_pos (by simp[h])]
    simp[h]
   ·rw[if_neg (by simp;omega)]
    simp[h]
  | _=>rfl
theorem qJ (k:Kd):∀xs:List T,((aa xs.length k).zip xs).all (λq=>q.1.has q.2)=xs.all k.has
 | []=>rfl
 | x :: xs=>by
  rw[aj,ba,dH,bU,bU,qJ k xs]
theorem vT {cp:List T->R T}(k:Kd)(lo hi:Nat)(h3:hi<=3)(x:T)(H:∀xs,x= .tup xs->xs.length<=3->cp [.lst ((aa xs.length k).map Kd.t),x]= .ok (.bl (((aa xs.length k).zip xs).all λq=>q.1.has q.2))):zu (b_e f_9 f_f f_q cp (en0 2 [(Kd.many k lo hi).t,x]))= .ok (.bl ((Kd.many k lo hi).has x)):=by
 have e:en0 2 [(Kd.many k lo hi).t,x]=en2 (.tup [.str "many",k.t,.int (lo:Int),.int (hi:Int)]) x:=by rw[Kd.t];rfl
 rw[e,b_e,zd (yM (by decide)),zd (yM (by decide)),zd (yM (by decide)),zr (t:= .bl ((Kd.many k lo hi).has x))]
 ·rfl
 ·show j6 _ _ (en2 _ x)=_;rw[jM,Zq,v1,bOk,Wj,bOk,Xy,bOk,ZH,Zd,Kd.has];cases x with
  | tup xs=>
   show (if (decide (lo<=xs.length) && decide (xs.length<=hi))=true then _ else _)=R.ok (T.bl (decide (lo<=xs.length) && decide (xs.length<=hi) && xs.all k.has))
   cases hh:(decide (lo<=xs.length) && decide (xs.length<=hi)) with
   | false=>rfl
   | true=>
    rw[ae,decide_eq_true_eq,decide_eq_true_eq]at hh;have hx:xs.length<=3:=by omega
    have em:zb zY (ZT (z9 (zb ixT (vE 0) (cE (.int 1))) (zj))) (ap1 Zo (vB 1)) (en2 (.tup [.str "many",k.t,.int (lo:Int),.int (hi:Int)]) (.tup xs))= .ok (.lst ((aa xs.length k).map Kd.t)):=by
     rw[zt,QB jy,bOk,ZA,w1,bOk,wc,bOk,WR hx,jo,aS]
    rw[if_pos rfl,zK,em,bOk,v1,bOk,H xs rfl hx,qJ];rfl
  | _=>rfl
theorem VE:∀(d n:Nat),2*d<=n->∀(k:Kd) (x:T),k.Ok d->S_e n 0 [k.t,x]= .ok (.bl (k.has x))
 | 0,_,_,_,_,h=>h.elim
 | d+1,n+2,hn,k,x,h=>by
  have ih:=VE d n (by omega)
  have e:S_e (n+2) 0 [k.t,x]=zu (b_e f_9 f_f f_q (S_e (n+1) 1) (en0 2 [k.t,x])):=by rw[S_e]
  have e1:∀s y,S_e (n+1) 1 [s,y]=zu (gY (S_e n 0) (en0 2 [s,y])):=λs y=>by rw[S_e];intro h;cases h
  rw[e];cases k with
  | whole lo hi=>exact qH lo hi x
  | pick cs=>exact vS cs h.2.1 x
  | row ks=>
   refine XF ks h.2.1 x λxs hx=> ?_;rw[e1,hx,Uv ks xs rfl h.2.1 λq hq=>ih q.1 q.2 (h.2.2 q.1 (bG hq).1)]
  | many k lo hi=>
   refine vT k lo hi h.2.1 x λxs hx h3=> ?_;rw[e1,hx,Uv (aa xs.length k) xs rfl (by rw[aK];exact h3) λq hq=>ih q.1 q.2 (by
    rw[bh (bG hq).1];exact h.2.2)]
theorem qK:∀(d:Nat) (k:Kd),k.Ok d->isK d k.t=true
 | 0,_,h=>h.elim
 | d+1,.whole lo hi,h=>by
  have e:isK (d+1) (Kd.whole lo hi).t=(decide (-20<=lo) && decide (lo<=hi) && decide (hi<=20)):=by rw[Kd.t];rfl
  obtain⟨h1,h2,h3⟩:=h;rw[e];simp;omega
 | d+1,.pick cs,h=>by
  have e:isK (d+1) (Kd.pick cs).t=(decide (1<=(cs.map ju).length) && decide ((cs.map ju).length<=4) && (cs.map ju).all zM && decide ((dd [] ((cs.map ju).map Za)).length=(cs.map ju).length)):=by rw[Kd.t];rfl
  obtain⟨h1,h2,h3,h4⟩:=h;have e1:(cs.map ju).map Za=cs.map (·.1):=by rw[aV];rfl
  have e2:=(wW (cs.map (·.1)) []).mpr λk w hw=>by simpa using h4 k w hw
  rw[e,e1,e2,ac,ac];simp only[ae,decide_eq_true_eq,aL];refine⟨⟨⟨h1,h2⟩,λc hc=> ?_⟩,by simp⟩
  obtain⟨p,hp,rfl⟩:=aC.mp hc;obtain⟨a,b,c⟩:=h3 p hp;show (Zk (.str p.1) && decide (1<=p.2) && decide (p.2<=20))=true;rw[a];simp;omega
 | d+1,.row ks,h=>by
  have e:isK (d+1) (Kd.row ks).t=(decide (1<=(ks.map Kd.t).length) && decide ((ks.map Kd.t).length<=3) && (ks.map Kd.t).all (isK d)):=by rw[Kd.t,Kd.ts_map];rfl
  obtain⟨h1,h2,h3⟩:=h;rw[e,ac];simp only[ae,decide_eq_true_eq,aL];refine⟨⟨h1,h2⟩,λc hc=> ?_⟩;obtain⟨k,hk,rfl⟩:=aC.mp hc;exact qK d k (h3 k hk)
 | d+1,.many k lo hi,h=>by
  have e:isK (d+1) (Kd.many k lo hi).t=((decide ((0:Int)<=(lo:Int)) && decide ((lo:Int)<=(hi:Int)) && decide ((hi:Int)<=3)) && isK d k.t):=by rw[Kd.t];rfl
  obtain⟨h1,h2,h3⟩:=h;rw[e,qK d k h3];simp;omega
theorem Uy:∀(ks:List Kd) (xs:List T),xs.length=ks.length->Kd.hass ks xs=true->∀x∈xs,∃k∈ks,k.has x=true
 | [],[],_,_,_,h=>nomatch h
 | k :: ks,[],h,_,_,_=>by cases h
 | [],x :: xs,h,_,_,_=>by cases h
 | k :: ks,x :: xs,hl,h,y,hy=>by
  rw[Kd.hass]at h;have h:(k.has x && Kd.hass ks xs)=true:=h;rw[ae]at h;rcases ah.mp hy with rfl | hy
  ·exact⟨k,ad,h.1⟩
  ·obtain⟨k',hk,hh⟩:=Uy ks xs (by simpa using hl) h.2 y hy
   exact⟨k',a9 _ hk,hh⟩
theorem Uz {α β:Type}(f:α->List β)(m:Nat):∀(as:List α) (i j:Nat),(∀a∈as,(f a).length=m)->j < m->(as.flatMap f)[i*m+j]? =(as[i]?).bind λa=>(f a)[j]?
 | [],i,j,_,_=>by simp
 | a :: as,0,j,h,hj=>by
  have ha:=h a ad;rw[b7,Nat.zero_mul,fZ,aE (by omega)]
  rfl
 | a :: as,i+1,j,h,hj=>by
  have ha:=h a ad;have e:(i+1)*m=i*m+m:=by rw[dg,bv]
  rw[b7,aB (by omega),ha,e,show i*m+m+j - m=i*m+j by omega,Uz f m as i j (λb hb=>h b (a9 _ hb)) hj]
  rfl
theorem WV {α β:Type}(f:α->List β):∀(as:List α) (q j:Nat) (a:α),as[q]? =some a->j < (f a).length->(as.flatMap f)[((as.take q).map λb=>(f b).length).sum+j]? =(f a)[j]?
 | [],q,j,a,h,_=>by simp at h
 | b :: as,0,j,a,h,hj=>by
  have e:b=a:=by simpa using h
  subst e;rw[b7,List.take_zero,bz,List.sum_nil,fZ,aE hj]
 | b :: as,q+1,j,a,h,hj=>by
  rw[b7,List.take_succ_cons,ao,d9,Nat.add_assoc,aB (by omega),Nat.add_sub_cancel_left]
  exact WV f as q j a (by simpa using h) hj
theorem wy:∀(ls made:List (List T)) (l:List T),Z4 made (ls++[l])=(Z4 made ls).flatMap λa=>l.map λx=>a++[x]
 | [],made,l=>rfl
 | _ :: ls,made,l=>by
  rw[eI,Z4,Z4,wy ls]
theorem vU {ls:List (List T)}{l:List T}{i j:Nat}{xs:List T}{x:T}(h:(Z4 [[]] ls)[i]? =some xs)(hx:l[j]? =some x):(Z4 [[]] (ls++[l]))[i*l.length+j]? =some (xs++[x]):=by
 have hj:j < l.length:=(aw.mp hx).1;rw[wy,Uz _ l.length _ i j (λa _=>ac ..) hj,h];show (l.map λx=>xs++[x])[j]? =_;rw[ax,hx];rfl
theorem UA:∀(ns:List Nat) (n:Nat),prd (ns++[n])=prd ns*n
 | [],n=>by simp[prd]
 | m :: ns,n=>by rw[eI,prd,prd,UA ns n,cx]
theorem wz (ls:List (List T)):(Z4 [[]] ls).length=prd (ls.map (·.length)):=by rw[JQ,aF,bv]
theorem UB {α:Type}{xs:List α}{i:Nat}(h:i < xs.length):∃x,xs[i]? =some x:=⟨_,ag h⟩
theorem Gm {xs:List T}{j:Nat}{v:T}(h:xs[j]? =some v):atT xs (j:Int)= .ok v:=by unfold atT;rw[jb h]
noncomputable def shr (c lo q:Nat):Nat:=((aT q).map λi=>c ^ (lo+i)).sum
theorem vV (c lo q:Nat):shr c lo (q+1)=shr c lo q+c ^ (lo+q):=by
 unfold shr;rw[eY,cn,ix];simp
theorem VF (c lo hi:Nat):pw c lo hi=shr c lo (hi+1 - lo):=rfl
theorem XG {k:Kd}{lo hi q j:Nat}{xs:List T}(hq:q < hi+1 - lo)(h:(Z4 [[]] (aa (lo+q) k.all))[j]? =some xs):(Kd.many k lo hi).all[shr k.all.length lo q+j]? =some (.tup xs):=by
 have hj:=(aw.mp h).1;have e:=WV (λi=>Wi (aa (lo+i) k.all)) (aT (hi+1 - lo)) q j q (by rw[cJ hq]) (by rw[ac];exact hj)
 have e2:(((aT (hi+1 - lo)).take q).map λb=>(Wi (aa (lo+b) k.all)).length).sum=shr k.all.length lo q:=by
  rw[List.take_range,iz (eL hq),shr];congr 1
  refine cK λi _=> ?_;rw[Jp,aS,jh]
 rw[e2]at e;rw[Kd.all,e];show (List.map T.tup _)[j]? =_;rw[ax,h];rfl
noncomputable abbrev cpB (c:List T->R T):En->RS:=zJ 1 (zb zY (vE 1) (za 1 c (z9 (vE 2) (zj))))
theorem qL {c:List T->R T}{S:Sl}:∀(ks:List Kd) (m:Nat) (x:Sl),(∀k∈ks,c [k.t]= .ok (.int (k.all.length:Int))/\1<=k.all.length)->m*prd (ks.map λk=>k.all.length) < 2 ^ 60->
  ∃y,ZD (zA 2) (cpB c) (ks.map Kd.t) [S,.vl (.int (m:Int)),x]= .nx [S,.vl (.int ((m*prd (ks.map λk=>k.all.length):Nat):Int)),y]
 | [],m,x,_,_=>⟨x,by simp[ZD,prd]⟩
 | k :: ks,m,x,H,hb=>by
  obtain⟨hc,h1⟩:=H k ad;have hp:1<=prd (ks.map λk=>k.all.length):=JP λn hn=>by
   obtain⟨k',hk',rfl⟩:=aC.mp hn;exact(H k' (a9 _ hk')).2
  rw[ao,prd,← cx]at hb;have hm:m < 2 ^ 60:=by
   have h2:m<=m*k.all.length:=b_ _ h1;have h3:m*k.all.length<=m*k.all.length*prd (ks.map λk=>k.all.length):=b_ _ hp;omega
  have eb:cpB c [S,.vl (.int (m:Int)),.vl k.t]= .nx [S,.vl (.int ((m*k.all.length:Nat):Int)),.vl k.t]:=by
   rw[cpB,zN (t:= .int ((m*k.all.length:Nat):Int))]
   ·rfl
   ·rw[zt,v1,bOk,zQ,v2,bOk,hc,bOk,qz hm]
  obtain⟨y,ih⟩:=qL (c:=c) (S:=S) ks (m*k.all.length) (.vl k.t) (λk' hk' =>H k' (a9 _ hk')) hb;refine⟨y, ?_⟩;rw[ao,ji (ρ1:=[S,.vl (.int (m:Int)),.vl k.t]) rfl eb,ih,ao,prd,cx]
theorem JS {c:List T->R T}{s:T}(ks:List Kd)(hs:JG s= .ok (ks.map Kd.t))(H:∀k∈ks,c [k.t]= .ok (.int (k.all.length:Int))/\1<=k.all.length)(hb:prd (ks.map λk=>k.all.length) < 2 ^ 60):
  zu (b_w c (en0 3 [s]))= .ok (.int ((prd (ks.map λk=>k.all.length):Nat):Int)):=by
 obtain⟨y,e⟩:=qL (c:=c) (S:= .vl s) ks 1 .un H (by rw[bv];exact hb)
 rw[bv]at e;have e0:zJ 1 (cE (.int 1)) [.vl s,.un,.un]= .nx [.vl s,.vl (.int 1),.un]:=rfl;have e1:ZV (ZJ (vE 0)) (zA 2) (cpB c) [.vl s,.vl (.int 1),.un]= .nx [.vl s,.vl (.int ((prd (ks.map λk=>k.all.length):Nat):Int)),y]:=by
  show ((JG s).s λts=>ZD (zA 2) (cpB c) ts [.vl s,.vl (.int 1),.un])=_;rw[hs,Zs];exact e
 show zu (b_w c [.vl s,.un,.un])=_;rw[b_w,zd e0,zd e1];rfl
theorem qN {α:Type}(g:α->Nat):∀l:List α,ZM (l.map λa=>T.int ((g a:Nat):Int))=some (l.map λa=>((g a:Nat):Int))
 | []=>rfl
 | a :: l=>by
  show (match ZM (l.map λa=>T.int ((g a:Nat):Int)) with | some l=>some (_ :: l) | none=>none)=_
  rw[qN g l];rfl
theorem UC {α:Type}(g:α->Nat):∀l:List α,(l.map λa=>((g a:Nat):Int)).sum=(((l.map g).sum:Nat):Int)
 | []=>rfl
 | a :: l=>by rw[ao,d9,ao,d9,UC g l];omega
theorem Gn {α:Type}(g:α->Nat)(l:List α):X1 (.lst (l.map λa=>T.int ((g a:Nat):Int)))= .ok (.int (((l.map g).sum:Nat):Int)):=by
 unfold X1;dsimp only;rw[qN,← UC]
theorem jR (k:Kd)(m:Nat):((aa m k).map λk=>k.all.length)=aa m k.all.length:=by rw[aS]
theorem qO {c:List T->R T}{t:T}{n lo hi q:Nat}(h4:lo+q<=4)(H:∀m,m<=3->c [.lst (aa m t)]= .ok (.int ((n ^ m:Nat):Int))):
  zu (b_p c (en0 2 [mt t lo hi,.int ((lo+q:Nat):Int)]))= .ok (.int ((shr n lo q:Nat):Int)):=by
 show zu (b_p c [.vl (mt t lo hi),.vl (.int ((lo+q:Nat):Int))])=_;have er:Ji (zb ixT (vE 0) (cE (.int 2))) (vE 1) [.vl (mt t lo hi),.vl (.int ((lo+q:Nat):Int))]= .ok (rng (lo:Int) q):=by
  rw[uK (i:=(lo:Int)) (j:=((lo+q:Nat):Int)) rfl rfl ⟨by omega,by omega,by omega,by omega⟩]
  congr 2;omega
 have ec:zG (zA 0) Z1 (za 1 c (z9 (zb zY (ZT (z9 (zb ixT (vE 1) (cE (.int 1))) (zj))) (vE 0)) (zj))) 1 [0] [.vl (mt t lo hi),.vl (.int ((lo+q:Nat):Int))] (rng (lo:Int) q)= .ok ((rng (lo:Int) q).map λx=>match x with | .int i=>T.int ((n ^ i.toNat:Nat):Int) | y=>y):=
  Z7 _ (by unfold rng;rw[ac,be];have:bnd=16777216:=rfl;omega) λx hx=>by
   unfold rng at hx;obtain⟨i,hi',rfl⟩:=aC.mp hx;have hi2:=bg.mp hi';show za 1 c _ [.vl (.int ((lo:Int)+(i:Int))),.vl (mt t lo hi)]=_;have e1:zb zY (ZT (z9 (zb ixT (vE 1) (cE (.int 1))) (zj))) (vE 0) [.vl (.int ((lo:Int)+(i:Int))),.vl (mt t lo hi)]= .ok (.lst (aa (lo+i) t)):=by
    have e0:zb ixT (vE 1) (cE (.int 1)) [.vl (.int ((lo:Int)+(i:Int))),.vl (mt t lo hi)]= .ok t:=rfl;rw[zt,QB e0,bOk,v0,bOk,show (lo:Int)+(i:Int)=((lo+i:Nat):Int) by omega,WR (by omega),jo]
   rw[zQ,e1,bOk,H (lo+i) (by omega)]
   show _=R.ok (T.int ((n ^ ((lo:Int)+(i:Int)).toNat:Nat):Int));rw[show ((lo:Int)+(i:Int)).toNat=lo+i by omega]
 rw[b_p,zr (t:= .int ((shr n lo q:Nat):Int))]
 ·rfl
 ·show ap1 _ _ [.vl (mt t lo hi),.vl (.int ((lo+q:Nat):Int))]=_;rw[ZA,zP,er,bOk,ec,bOk,bOk];have e2:((rng (lo:Int) q).map λx=>match x with | .int i=>T.int ((n ^ i.toNat:Nat):Int) | y=>y)=(aT q).map λi=>T.int ((n ^ (lo+i):Nat):Int):=by
   unfold rng;rw[aV];refine cK λi _=> ?_;show T.int ((n ^ ((lo:Int)+(i:Int)).toNat:Nat):Int)=_;rw[show ((lo:Int)+(i:Int)).toNat=lo+i by omega]
  rw[e2,Gn (λi=>n ^ (lo+i))];rfl
theorem VG {d n m:Nat}(h:n<=mx d)(hd:d<=2)(hm:m<=3):n ^ m < 2 ^ 60:=by
 have h2:mx d<=70644:=by
  have:d=0\/d=1\/d=2:=by omega
  rcases this with rfl | rfl | rfl <;> decide
 have h3:n ^ m<=70644 ^ 3:=aq (Nat.pow_le_pow_left (aq h h2) m) (bw (by omega) hm)
 have:70644 ^ 3 < 2 ^ 60:=by decide
 omega
theorem UD:∀(d n:Nat),3*d<=n->d<=3->∀k:Kd,k.Ok d->S_1 n 0 [k.t]= .ok (.int (k.all.length:Int))
 | 0,_,_,_,_,h=>h.elim
 | d+1,n+3,hn,hd,k,h=>by
  have ih:=UD d n (by omega) (by omega)
  have ih1:=UD d (n+1) (by omega) (by omega)
  have e:S_1 (n+3) 0 [k.t]=zu (b_1 (S_1 (n+2) 1) (S_1 (n+2) 2) [.vl k.t]):=rfl;have e1:∀s,S_1 (n+2) 1 [s]=zu (b_w (S_1 (n+1) 0) (en0 3 [s])):=λs=>rfl;have e1' :∀s,S_1 (n+1) 1 [s]=zu (b_w (S_1 n 0) (en0 3 [s])):=λs=>rfl;have e2:∀s u,S_1 (n+2) 2 [s,u]=zu (b_p (S_1 (n+1) 1) (en0 2 [s,u])):=λs u=>rfl;rw[e,b_1];cases k with
  | whole lo hi=>
   obtain⟨h1,h2,h3⟩:=h;rw[ZW];simp only[Kd.t];rw[zB (t:= .int ((hi+1 - lo).toNat:Int))]
   ·rfl
   ·rw[ZX (by rw[cs0,beq_self_eq_true]),zr]
    show R.ok (T.int (hi - lo+1))=_;congr 2;omega
  | pick cs=>
   rw[wY];simp only[Kd.t];rw[zd (zw (by rw[cs0];rfl)),zB (t:= .int (cs.length:Int))]
   ·rfl
   ·rw[ZX (by rw[cs0,beq_self_eq_true]),zr]
    show R.ok (T.int ((cs.map ju).length:Int))=_;rw[ac]
  | row ks=>
   obtain⟨h1,h2,h3⟩:=h;rw[jZ];simp only[Kd.t];rw[Kd.ts_map,zd (zw (by rw[cs0];rfl)),zd (zw (by rw[cs0];rfl)),zB (t:= .int ((prd (ks.map λk=>k.all.length):Nat):Int))]
   ·rfl
   ·rw[ZX (by rw[cs0,beq_self_eq_true]),zr]
    show za 1 _ _ [.vl (.tup [.str "row",.tup (ks.map Kd.t)])]=_;rw[zQ,jy,bOk,e1];have hl:=jx (d+1) (.row ks) ⟨h1,h2,h3⟩;rw[jZ]at hl;exact JS ks rfl (λk hk=>⟨ih1 k (h3 k hk),ZQ d k (h3 k hk)⟩) (Gg hl hd)
  | many k lo hi=>
   obtain⟨h1,h2,h3⟩:=h;rw[jn,VF];simp only[Kd.t];rw[zd (zw (by rw[cs0];rfl)),zd (zw (by rw[cs0];rfl)),zd (zw (by rw[cs0];rfl)),zr (t:= .int ((shr k.all.length lo (hi+1 - lo):Nat):Int))]
   ·rfl
   ·show za 2 _ _ [.vl (mt k.t lo hi)]=_;rw[zK,v0,bOk,yA Xy,bOk,e2,show (hi:Int)+1=((lo+(hi+1 - lo):Nat):Int) by omega]
    refine qO (by omega) λm hm=> ?_
    have hp:prd ((aa m k).map λk=>k.all.length)=k.all.length ^ m:=by rw[jR,jh]
    rw[e1',← hp];have hd1:1<=d:=by
     cases d with
     | zero=>exact h3.elim
     | succ d=>omega
    refine JS (aa m k) (by rw[aS];rfl) (λk' hk' => ?_) (by rw[hp];exact VG (jx d k h3) (by omega) hm)
    rw[bh hk'];exact⟨ih k h3,ZQ d k h3⟩
theorem jm {d:Nat}(hd:d<=3){k:Kd}(h:k.Ok d):f_1 20 [k.t]= .ok (.int (k.all.length:Int)):=UD d 20 (by omega) hd k h
theorem UE {d:Nat}(hd:d<=2){k:Kd}(h:k.Ok d){lo hi q:Nat}(h4:lo+q<=4):f_p 20 [mt k.t lo hi,.int ((lo+q:Nat):Int)]= .ok (.int ((shr k.all.length lo q:Nat):Int)):=by
 have e:f_p 20 [mt k.t lo hi,.int ((lo+q:Nat):Int)]=zu (b_p (S_1 19 1) (en0 2 [mt k.t lo hi,.int ((lo+q:Nat):Int)])):=rfl;rw[e];refine qO h4 λm hm=> ?_;have hp:prd ((aa m k).map λk=>k.all.length)=k.all.length ^ m:=by rw[jR,jh]
 have e1:∀s,S_1 19 1 [s]=zu (b_w (S_1 18 0) (en0 3 [s])):=λs=>rfl;rw[e1,← hp];refine JS (aa m k) (by rw[aS];rfl) (λk' hk' => ?_) (by rw[hp];exact VG (jx d k h) hd hm)
 rw[bh hk'];exact⟨UD d 18 (by omega) (by omega) k h,ZQ d k h⟩
noncomputable abbrev paB (cc cw:List T->R T):En->RS:=zz (zJ 5 (za 1 cc (z9 (vE 4) (zj))))
  (zz (vc 2 (za 2 cw (z9 (vE 4) (z9 (zb j5 (vE 3) (vE 5)) (zj)))))
  (zJ 3 (zb JD (vE 3) (vE 5))))
structure AtOk (cc cw:List T->R T) (k:Kd):Prop where
 cnt:cc [k.t]= .ok (.int (k.all.length:Int))
 at_:∀(i:Nat) x,k.all[i]? =some x->cw [k.t,.int (i:Int)]= .ok x
 pos:1<=k.all.length
 le:k.all.length < 1000000
theorem v5' {t:T}{a b c d e:Sl}{ρ:En}:vE 5 (a :: b :: c :: d :: e :: .vl t :: ρ)= .ok t:=rfl
theorem qQ {n c:Nat}(h:1<=c):j5 (.int (n:Int)) (.int (c:Int))= .ok (.int ((n % c:Nat):Int)):=by
 unfold j5;dsimp only;rw[if_pos (by omega)];rfl
theorem XH {n c:Nat}(h:1<=c)(h' :c < 1000000):JD (.int (n:Int)) (.int (c:Int))= .ok (.int ((n / c:Nat):Int)):=by
 unfold JD;dsimp only;rw[if_pos (by omega)];rfl
theorem Go {i:Nat}{f:En->R T}{ρ:En}{ts:List T}{t:T}(hi:ρ[i]? =some (.ow ts))(hl:ts.length < bnd)(h:f ρ= .ok t):vc i f ρ= .nx (ρ.set i (.ow (ts++[t]))):=by
 unfold vc;rw[hi];dsimp only;rw[h,Zs,if_pos hl]
theorem qR {cc cw:List T->R T}{S N:Sl}:∀(rs:List Kd) (acc:List T) (n:Nat) (x y:Sl),(∀k∈rs,AtOk cc cw k)->n < prd (rs.map λk=>k.all.length)->acc.length+rs.length<=1000->
  ∃xs r x' y',(Z4 [[]] (rs.reverse.map Kd.all))[n]? =some xs/\ZD (zA 4) (paB cc cw) (rs.map Kd.t) [S,N,.ow acc,.vl (.int (n:Int)),x,y]= .nx [S,N,.ow (acc++xs.reverse),r,x',y']
 | [],acc,n,x,y,_,hn,_=>⟨[],.vl (.int (n:Int)),x,y,by
   have:n=0:=by simp[prd]at hn;exact hn
   subst this;rfl,by simp[ZD]⟩
 | k :: rs,acc,n,x,y,H,hn,hl=>by
  obtain⟨hc,hw,h1,hle⟩:=H k ad;rw[ao,prd]at hn;rw[aj]at hl;have hb:bnd=16777216:=rfl;have hmod:n % k.all.length < k.all.length:=fJ _ h1;obtain⟨v,hv⟩:=UB hmod;have hdiv:n / k.all.length < prd (rs.map λk=>k.all.length):=Nat.div_lt_of_lt_mul hn;obtain⟨xs,r,x',y',e1,e2⟩:=qR (cc:=cc) (cw:=cw) (S:=S) (N:=N) rs (acc++[v]) (n / k.all.length) (.vl k.t) (.vl (.int (k.all.length:Int))) (λk' hk' =>H k' (a9 _ hk')) hdiv (by rw[av,aF];omega)
  have b1:zJ 5 (za 1 cc (z9 (vE 4) (zj))) [S,N,.ow acc,.vl (.int (n:Int)),.vl k.t,y]= .nx [S,N,.ow acc,.vl (.int (n:Int)),.vl k.t,.vl (.int (k.all.length:Int))]:=by
   rw[zN (t:= .int (k.all.length:Int))]
   ·rfl
   ·rw[zQ,v4,bOk,hc]
  have b2:vc 2 (za 2 cw (z9 (vE 4) (z9 (zb j5 (vE 3) (vE 5)) (zj)))) [S,N,.ow acc,.vl (.int (n:Int)),.vl k.t,.vl (.int (k.all.length:Int))]= .nx [S,N,.ow (acc++[v]),.vl (.int (n:Int)),.vl k.t,.vl (.int (k.all.length:Int))]:=by
   rw[Go (ts:=acc) (t:=v) rfl (by omega)]
   ·rfl
   ·rw[zK,v4,bOk,zt,v3,bOk,v5',bOk,qQ h1,bOk,hw _ v hv]
  have b3:zJ 3 (zb JD (vE 3) (vE 5)) [S,N,.ow (acc++[v]),.vl (.int (n:Int)),.vl k.t,.vl (.int (k.all.length:Int))]= .nx [S,N,.ow (acc++[v]),.vl (.int ((n / k.all.length:Nat):Int)),.vl k.t,.vl (.int (k.all.length:Int))]:=by
   rw[zN (t:= .int ((n / k.all.length:Nat):Int))]
   ·rfl
   ·rw[zt,v3,bOk,v5',bOk,XH h1 hle]
  have eb:paB cc cw [S,N,.ow acc,.vl (.int (n:Int)),.vl k.t,y]= .nx [S,N,.ow (acc++[v]),.vl (.int ((n / k.all.length:Nat):Int)),.vl k.t,.vl (.int (k.all.length:Int))]:=by
   rw[paB,zd b1,zd b2,b3]
  refine⟨xs++[v],r,x',y', ?_, ?_⟩
  ·have:=vU e1 hv;rw[bP,Nat.div_add_mod]at this;rw[bS,cn];exact this
  ·rw[ao,ji (ρ1:=[S,N,.ow acc,.vl (.int (n:Int)),.vl k.t,y]) rfl eb,e2,List.reverse_append];simp
theorem qS:∀ns:List Nat,prd ns.reverse=prd ns
 | []=>rfl
 | n :: ns=>by rw[bS,UA,qS ns,prd,bP]
theorem JT {cc cw:List T->R T}{s:T}(ks:List Kd)(hs:jV s= .ok (ks.map Kd.t))(hl:ks.length<=3)(H:∀k∈ks,AtOk cc cw k){n:Nat}{xs:List T}(hx:(Z4 [[]] (ks.map Kd.all))[n]? =some xs):
  zu (b_z cc cw (en0 6 [s,.int (n:Int)]))= .ok (.tup xs):=by
 have hn:=(aw.mp hx).1;rw[wz,aV]at hn;have hr:(ks.reverse.map λk=>k.all.length)=(ks.map λk=>k.all.length).reverse:=by rw[ib]
 obtain⟨ys,r,x',y',e1,e2⟩:=qR (cc:=cc) (cw:=cw) (S:= .vl s) (N:= .vl (.int (n:Int))) ks.reverse [] n .un .un (λk hk=>H k (List.mem_reverse.mp hk)) (by rw[hr,qS];exact hn) (by rw[bJ,bA];omega)
 rw[fj,hx]at e1;cases e1;rw[bp]at e2;have e0:yI 2 (zj) [.vl s,.vl (.int (n:Int)),.un,.un,.un,.un]= .nx [.vl s,.vl (.int (n:Int)),.ow [],.un,.un,.un]:=rfl;have e3:zJ 3 (vE 1) [.vl s,.vl (.int (n:Int)),.ow [],.un,.un,.un]= .nx [.vl s,.vl (.int (n:Int)),.ow [],.vl (.int (n:Int)),.un,.un]:=rfl;have e4:ZV (z1H (vE 0)) (zA 4) (paB cc cw) [.vl s,.vl (.int (n:Int)),.ow [],.vl (.int (n:Int)),.un,.un]= .nx [.vl s,.vl (.int (n:Int)),.ow xs.reverse,r,x',y']:=by
  show (((jV s).bind λxs=>R.ok xs.reverse).s λts=>ZD (zA 4) (paB cc cw) ts [.vl s,.vl (.int (n:Int)),.ow [],.vl (.int (n:Int)),.un,.un])=_;rw[hs,bOk,Zs,← ib];exact e2
 have hlen:xs.reverse.length<=bnd:=by
  have:∀(ls made:List (List T)) (m:Nat),(∀a∈made,a.length<=m)->∀a∈Z4 made ls,a.length<=m+ls.length:=by
   intro ls
   induction ls with
   | nil=>intro made m h a ha;exact h a ha
   | cons l ls ih=>
    intro made m h a ha;have:=ih (made.flatMap λa=>l.map λx=>a++[x]) (m+1) (λb hb=>by
     obtain⟨c,hc,hb⟩:=c8.mp hb;obtain⟨z,_,rfl⟩:=aC.mp hb;have:=h c hc;rw[av,aF];omega) a ha
    rw[aj];omega
  have h1:=this (ks.map Kd.all) [[]] 0 (λa ha=>by rw[aG.mp ha];exact ai _) xs (df hx)
  rw[ac]at h1;rw[bJ];have hb:bnd=16777216:=rfl;omega
 show zu (b_z cc cw [.vl s,.vl (.int (n:Int)),.un,.un,.un,.un])=_;rw[b_z,zd e0,zd e3,zd e4,zr (t:= .tup xs)]
 ·rfl
 ·show vy (.lst xs.reverse)=_;unfold vy;dsimp only;rw[if_pos hlen,fj]
noncomputable abbrev mtT:En->R Bool:=zF leC (za 2 (f_p 20) (z9 (vE 0) (z9 (zb zD (vE 2) (cE (.int 1))) (zj)))) (vB 1)
noncomputable abbrev mtB:En->RS:=zJ 2 (zb zD (vE 2) (cE (.int 1)))
theorem w1n {t:T}{a:Sl}{ρ:En}:vB 1 (a :: .vl t :: ρ)= .ok t:=rfl
theorem qT {d:Nat}(hd:d<=2){k:Kd}(h:k.Ok d){lo hi n:Nat}(h1:lo<=hi)(h3:hi<=3)(hn:n < shr k.all.length lo (hi+1 - lo)):∀(f q:Nat),q<=hi - lo->hi - lo - q < f->shr k.all.length lo q<=n->
  ∃q',q' <=hi - lo/\shr k.all.length lo q' <=n/\n < shr k.all.length lo (q' +1)/\Zv mtT mtB f [.vl (mt k.t lo hi),.vl (.int (n:Int)),.vl (.int ((lo+q:Nat):Int))]= .nx [.vl (mt k.t lo hi),.vl (.int (n:Int)),.vl (.int ((lo+q' :Nat):Int))]
 | 0,q,_,hf,_=>by omega
 | f+1,q,hq,hf,hs=>by
  have et:mtT [.vl (mt k.t lo hi),.vl (.int (n:Int)),.vl (.int ((lo+q:Nat):Int))]= .ok (decide (shr k.all.length lo (q+1)<=n)):=by
   rw[mtT,zR,zK,v0,bOk,yA v2,bOk,show ((lo+q:Nat):Int)+1=((lo+(q+1):Nat):Int) by omega,UE hd h (by omega),bOk,w1n,bOk,wb,ww]
  have eu:Zv mtT mtB (f+1) [.vl (mt k.t lo hi),.vl (.int (n:Int)),.vl (.int ((lo+q:Nat):Int))]=(mtT [.vl (mt k.t lo hi),.vl (.int (n:Int)),.vl (.int ((lo+q:Nat):Int))]).s λk' =>if k' =true then match mtB [.vl (mt k.t lo hi),.vl (.int (n:Int)),.vl (.int ((lo+q:Nat):Int))] with
    | .nx ρ2=>Zv mtT mtB f ρ2
    | .ct ρ2=>Zv mtT mtB f ρ2
    | .bk ρ2=> .nx ρ2
    | r=>r
   else .nx [.vl (mt k.t lo hi),.vl (.int (n:Int)),.vl (.int ((lo+q:Nat):Int))]:=rfl
  rw[eu,et,Zs]
  by_cases hc:shr k.all.length lo (q+1)<=n
  ·rw[if_pos (decide_eq_true hc)];have hq2:q+1<=hi - lo:=by
    rcases Nat.lt_or_ge q (hi - lo) with z | z
    ·exact z
    ·have:q=hi - lo:=by omega
     rw[this,show hi - lo+1=hi+1 - lo by omega]at hc
     omega
   have eb:mtB [.vl (mt k.t lo hi),.vl (.int (n:Int)),.vl (.int ((lo+q:Nat):Int))]= .nx [.vl (mt k.t lo hi),.vl (.int (n:Int)),.vl (.int ((lo+(q+1):Nat):Int))]:=by
    rw[mtB,zN (t:= .int ((lo+(q+1):Nat):Int))]
    ·rfl
    ·rw[yA v2,show ((lo+q:Nat):Int)+1=((lo+(q+1):Nat):Int) by omega]
   rw[eb];exact qT hd h h1 h3 hn f (q+1) hq2 (by omega) hc
  ·rw[if_neg (by simpa using hc)]
   exact⟨q,hq,hs,by omega,rfl⟩
theorem Gp {i j:Nat}(h:j<=i):jA (.int (i:Int)) (.int (j:Int))= .ok (.int ((i - j:Nat):Int)):=by
 rw[Zn];congr 2;omega
theorem yC {d:Nat}(hd:d<=2){k:Kd}(h:k.Ok d){cp:List T->R T}{lo hi n:Nat}(h1:lo<=hi)(h3:hi<=3)(hn:n < shr k.all.length lo (hi+1 - lo))
  (H:∀(m:Nat),m<=3->∀(j:Nat) (xs:List T),(Z4 [[]] (aa m k.all))[j]? =some xs->cp [.lst (aa m k.t),.int (j:Int)]= .ok (.tup xs)):
  ∃x,(Kd.many k lo hi).all[n]? =some x/\zu (kn (f_p 20) cp (en0 3 [mt k.t lo hi,.int (n:Int)]))= .ok x:=by
 obtain⟨q,hq,hs,hs',e⟩:=qT hd h h1 h3 hn 8 0 (by omega) (by omega) (by unfold shr;simp)
 rw[vV]at hs';have hj:n - shr k.all.length lo q < (Z4 [[]] (aa (lo+q) k.all)).length:=by
  rw[wz,aS,jh];omega
 obtain⟨xs,hx⟩:=UB hj;have ha:=XG (k:=k) (lo:=lo) (hi:=hi) (by omega) hx
 rw[show shr k.all.length lo q+(n - shr k.all.length lo q)=n by omega]at ha
 refine⟨_,ha, ?_⟩;have e0:zJ 2 (zb ixT (vE 0) (cE (.int 2))) [.vl (mt k.t lo hi),.vl (.int (n:Int)),.un]= .nx [.vl (mt k.t lo hi),.vl (.int (n:Int)),.vl (.int ((lo+0:Nat):Int))]:=rfl;show zu (kn (f_p 20) cp [.vl (mt k.t lo hi),.vl (.int (n:Int)),.un])=_;rw[kn,zd e0,zd e,zr (t:= .tup xs)]
 ·rfl
 ·show za 2 cp _ [.vl (mt k.t lo hi),.vl (.int (n:Int)),.vl (.int ((lo+q:Nat):Int))]=_;have em:zb zY (ZT (z9 (zb ixT (vE 0) (cE (.int 1))) (zj))) (vE 2) [.vl (mt k.t lo hi),.vl (.int (n:Int)),.vl (.int ((lo+q:Nat):Int))]= .ok (.lst (aa (lo+q) k.t)):=by
   rw[zt,QB jy,bOk,v2,bOk,WR (by omega),jo]
  rw[zK,em,bOk,zt,v1,bOk,zK,v0,bOk,v2,bOk,UE hd h (by omega),bOk,Gp hs,bOk,H (lo+q) (by omega) _ xs hx]
theorem qU {d:Nat}(hd:d<=2){k:Kd}(h:k.Ok d):k.all.length < 1000000:=by
 have h1:=jx d k h;have h2:mx d<=70644:=by
  have:d=0\/d=1\/d=2:=by omega
  rcases this with rfl | rfl | rfl <;> decide
 omega
theorem jD:∀(d n:Nat),3*d<=n->d<=3->∀k:Kd,k.Ok d->∀(i:Nat) (x:T),k.all[i]? =some x->S_7 n 0 [k.t,.int (i:Int)]= .ok x
 | 0,_,_,_,_,h=>h.elim
 | d+1,n+3,hn,hd,k,h=>by
  intro i x hx;have ih:=jD d n (by omega) (by omega)
  have ih1:=jD d (n+1) (by omega) (by omega)
  have e:S_7 (n+3) 0 [k.t,.int (i:Int)]=zu (b_7 f_q (S_7 (n+2) 1) (S_7 (n+2) 2) (en2 k.t (.int (i:Int)))):=rfl;have e2:∀s u,S_7 (n+2) 2 [s,u]=zu (b_z (f_1 20) (S_7 (n+1) 0) (en0 6 [s,u])):=λs u=>rfl;have e2' :∀s u,S_7 (n+1) 2 [s,u]=zu (b_z (f_1 20) (S_7 n 0) (en0 6 [s,u])):=λs u=>rfl;have e1:∀s u,S_7 (n+2) 1 [s,u]=zu (kn (f_p 20) (S_7 (n+1) 2) (en0 3 [s,u])):=λs u=>rfl;have hi' :=(aw.mp hx).1;rw[e,b_7];cases k with
  | whole lo hi=>
   rw[Kd.all,ax]at hx;rw[ZW]at hi';rw[cJ hi']at hx;cases hx;simp only[Kd.t];rw[zB (t:= .int (lo+(i:Int)))]
   ·rfl
   ·rw[ky,zr];rfl
  | pick cs=>
   have hw:=Uw cs h.2.1;rw[Kd.all]at hx;simp only[Kd.t]at hw ⊢;rw[zd (yM (by decide)),zB (t:=x)]
   ·rfl
   ·rw[ky,zr];show zb ixT _ _ (en2 _ _)=_;rw[zt,zQ,v0,bOk,hw,bOk,v1,bOk];exact Gm hx
  | row ks=>
   obtain⟨h1,h2,h3⟩:=h;rw[Kd.all,Kd.alls_map,ax]at hx;cases hr:(Z4 [[]] (ks.map Kd.all))[i]? with
   | none=>rw[hr]at hx;cases hx
   | some xs=>
    rw[hr]at hx;cases hx;simp only[Kd.t];rw[Kd.ts_map,zd (yM (by decide)),zd (yM (by decide)),zB (t:= .tup xs)]
    ·rfl
    ·rw[ky,zr];show za 2 _ _ (en2 _ _)=_;rw[zK,jy,bOk,v1,bOk,e2];refine JT ks rfl h2 (λk hk=>⟨jm (by omega) (h3 k hk),ih1 k (h3 k hk),ZQ d k (h3 k hk),qU (by omega) (h3 k hk)⟩) hr
  | many k lo hi=>
   obtain⟨h1,h2,h3⟩:=h;rw[jn,VF]at hi';obtain⟨x',hx',hv⟩:=yC (cp:=S_7 (n+1) 2) (by omega:d<=2) h3 h1 h2 hi' (λm hm j xs hr=>by
    rw[e2'];refine JT (aa m k) (by rw[aS];rfl) (by rw[aK];exact hm) (λk' hk' => ?_) (by rw[aS];exact hr)
    rw[bh hk'];exact⟨jm (by omega) h3,ih k h3,ZQ d k h3,qU (by omega) h3⟩)
   rw[hx]at hx';cases hx';simp only[Kd.t];rw[zd (yM (by decide)),zd (yM (by decide)),zd (yM (by decide)),zr (t:=x)]
   ·rfl
   ·show za 2 _ _ (en2 _ _)=_;rw[zK,v0,bOk,v1,bOk,e1];exact hv
theorem Gq {k:Kd}(h:k.Ok 3){i:Nat}{x:T}(hx:k.all[i]? =some x):f_7 20 [k.t,.int (i:Int)]= .ok x:=jD 3 20 (by omega) (by omega) k h i x hx
theorem wA:∀(ls made:List (List T)) (m:Nat),(∀a∈made,a.length=m)->∀a∈Z4 made ls,a.length=m+ls.length
 | [],made,m,h,a,ha=>h a ha
 | l :: ls,made,m,h,a,ha=>by
  have:=wA ls (made.flatMap λa=>l.map λx=>a++[x]) (m+1) (λb hb=>by
   obtain⟨c,hc,hb⟩:=c8.mp hb;obtain⟨z,_,rfl⟩:=aC.mp hb;rw[av,aF,h c hc]) a ha
  rw[aj];omega
noncomputable def Pl:Nat->T->Prop
 | 0,_=>False
 | n+1,.tup xs=>∀x∈xs,Pl n x
 | n+1,.lst xs=>∀x∈xs,Pl n x
 | _+1,.fz _=>False
 | _+1,_=>True
theorem Jr {f:T->T->Option Bool}:∀(xs ys:List T),(∀x∈xs,∀y,∃b,f x y=some b)->∃b,eqL f xs ys=some b
 | [],[],_=>⟨_,rfl⟩
 | [],_ :: _,_=>⟨_,rfl⟩
 | _ :: _,[],_=>⟨_,rfl⟩
 | x :: xs,y :: ys,h=>by
  obtain⟨b,hb⟩:=h x ad y;obtain⟨c,hc⟩:=Jr xs ys λz hz=>h z (a9 _ hz);exact⟨b && c,by unfold eqL;rw[hb,hc]⟩
theorem Zr {f:T->T->Option Bool}:∀(xs:List T),(∀x∈xs,f x x=some true)->eqL f xs xs=some true
 | [],_=>rfl
 | x :: xs,h=>by
  unfold eqL;rw[h x ad,Zr xs λz hz=>h z (a9 _ hz)];rfl
theorem Js:∀(n:Nat) (y x:T),Pl n y->∃b,eqF n y x=some b
 | 0,_,_,h=>h.elim
 | n+1,y,x,h=>by
  cases y with
  | tup xs=>
   have h:∀x∈xs,Pl n x:=h;cases x with
   | tup ys=>rw[eqF];exact Jr xs ys λz hz u=>Js n z u (h z hz)
   | _=>exact⟨false,by rw[eqF] <;> intros <;> first | rfl | contradiction | (intro z;cases z)⟩
  | lst xs=>
   have h:∀x∈xs,Pl n x:=h;cases x with
   | lst ys=>rw[eqF];exact Jr xs ys λz hz u=>Js n z u (h z hz)
   | fz ys=>rw[eqF];exact Jr xs ys λz hz u=>Js n z u (h z hz)
   | _=>exact⟨false,by rw[eqF] <;> intros <;> first | rfl | contradiction | (intro z;cases z)⟩
  | fz xs=>exact h.elim
  | non=>cases x <;> exact⟨_,rfl⟩
  | bl b=>cases x <;> exact⟨_,rfl⟩
  | int i=>cases x <;> exact⟨_,rfl⟩
  | str i=>cases x <;> exact⟨_,rfl⟩
theorem Z9:∀(n:Nat) (y:T),Pl n y->eqF n y y=some true
 | 0,_,h=>h.elim
 | n+1,y,h=>by
  cases y with
  | tup xs=>rw[eqF];exact Zr xs λz hz=>Z9 n z ((show ∀x∈xs,Pl n x from h) z hz)
  | lst xs=>rw[eqF];exact Zr xs λz hz=>Z9 n z ((show ∀x∈xs,Pl n x from h) z hz)
  | fz xs=>exact h.elim
  | non=>rfl
  | bl b=>show some (b == b)=_;simp
  | int i=>show some (i == i)=_;simp
  | str i=>show some (i == i)=_;simp
theorem Pl.up:∀(n:Nat) (y:T),Pl n y->Pl (n+1) y
 | 0,_,h=>h.elim
 | n+1,y,h=>by
  cases y with
  | tup xs=>exact λz hz=>Pl.up n z ((show ∀x∈xs,Pl n x from h) z hz)
  | lst xs=>exact λz hz=>Pl.up n z ((show ∀x∈xs,Pl n x from h) z hz)
  | fz xs=>exact h.elim
  | _=>exact trivial
theorem Pl.le {n m:Nat}{y:T}(hm:n<=m)(h:Pl n y):Pl m y:=by
 obtain⟨j,rfl⟩:∃j,m=n+j:=⟨m - n,by omega⟩
 clear hm
 induction j with
 | zero=>exact h
 | succ j ih=>exact Pl.up _ _ ih
theorem XI {t:T}(h:Pl 30 t):neC t t= .ok false:=by unfold neC;rw[Z9 30 t h];rfl
theorem vW {t:T}(h:Pl 30 t):eqC t t= .ok true:=by unfold eqC;rw[Z9 30 t h]
theorem WW {f:T->Option Bool}:∀(ts:List T),(∀t∈ts,∃b,f t=some b)->∃b,JY f ts=some b/\(b=false->∀t∈ts,f t=some false)
 | [],_=>⟨false,rfl,λ_ _ h=>nomatch h⟩
 | t :: ts,h=>by
  obtain⟨b,hb⟩:=h t ad;obtain⟨c,hc,h'⟩:=WW ts λu hu=>h u (a9 _ hu);refine⟨b || c,by unfold JY;rw[hb,hc],λe u hu=> ?_⟩
  rw[fk]at e;rcases ah.mp hu with rfl | hu
  ·rw[hb,e.1]
  ·exact h' e.2 u hu
theorem W3 {f:En->R T}{ρ:En}{t:T}(h:f ρ= .ok t):WB f ρ= .nx ρ:=by unfold WB;rw[h,Zs]
theorem all_map (k:Kd):((rng 0 k.all.length).map λt=>match t with | .int i=>(k.all[i.toNat]?).getD .non | y=>y)=k.all:=by
 unfold rng;rw[aV];refine cY λi=> ?_;rw[ax]
 by_cases hi:i < k.all.length
 ·rw[cJ hi];show some ((k.all[((0:Int)+(i:Int)).toNat]?).getD .non)=_;rw[show ((0:Int)+(i:Int)).toNat=i by omega]
  obtain⟨x,hx⟩:=UB hi;rw[hx];rfl
 ·rw[aP (by simpa using hi),aP (by omega)];rfl
theorem qV {f:En->R T}{ρ:En}{j:Int}(hf:f ρ= .ok (.int j))(h: -1000000 < j/\j < 1000000):ZC f ρ= .ok (rng 0 j.toNat):=by
 unfold ZC;rw[hf,bOk];exact if_pos h
theorem XJ {i j:Int}:gtC (.int i) (.int j)= .ok (decide (j < i)):=rfl
theorem z2c {i:Int}:neC (.int i) (.int i)= .ok false:=by show R.ok (!(i == i))=_;simp
inductive W:Nat->T->Prop where
 | int (d:Nat) (i:Int):W d (.int i)
 | str (d:Nat) (s:Str):W d (.str s)
 | tup {d:Nat} {xs:List T} (h:xs.length<=3) (r:∀x∈xs,W d x):W (d+1) (.tup xs)
theorem z2d:∀(d:Nat) (k:Kd) (x:T),k.Ok (d+1)->k.has x=true->W d x
 | d,.whole lo hi,x,_,h=>by
  cases x <;> first | exact .int _ _ | (simp[Kd.has,inR]at h)
 | d,.pick cs,x,_,h=>by
  cases x <;> first | exact .str _ _ | (simp[Kd.has]at h)
 | 0,.row ks,x,hk,h=>by
  obtain⟨h1,h3,hk⟩:=hk
  match ks,h1,hk with
  | k :: _,_,hk=>exact(hk k ad).elim
 | 0,.many k lo hi,x,hk,h=>hk.2.2.elim
 | d+1,.row ks,x,hk,h=>by
  obtain⟨h1,h3,hk⟩:=hk;cases x with
  | tup xs=>
   rw[Kd.has]at h;simp only[ae,beq_iff_eq]at h;obtain⟨hl,hh⟩:=h;refine .tup (by omega) λx hx=> ?_
   obtain⟨k,hm,hx'⟩:=Uy ks xs hl hh x hx;exact z2d d k x (hk k hm) hx'
  | _=>simp[Kd.has]at h
 | d+1,.many k lo hi,x,hk,h=>by
  obtain⟨h1,h3,hk⟩:=hk;cases x with
  | tup xs=>
   rw[Kd.has]at h;simp only[ae,decide_eq_true_eq,aL]at h;obtain⟨⟨hl,hl'⟩,hh⟩:=h;refine .tup (by omega) λx hx=> ?_
   exact z2d d k x hk (hh x hx)
  | _=>simp[Kd.has]at h
mutual
noncomputable def lv:T->List T
 | .tup xs=>lvs xs
 | .non=>[.non]
 | .bl b=>[.bl b]
 | .int b=>[.int b]
 | .str b=>[.str b]
 | .lst b=>[.lst b]
 | .fz b=>[.fz b]
noncomputable def lvs:List T->List T
 | []=>[]
 | x :: xs=>lv x++lvs xs
end
theorem UF (xs:List T):lv (.tup xs)=lvs xs:=by rw[lv]
theorem UG (i:Int):lv (.int i)=[.int i]:=by rw[lv]
theorem UH (i:Str):lv (.str i)=[.str i]:=by rw[lv]
theorem Jt (x:T)(xs:List T):lvs (x :: xs)=lv x++lvs xs:=by rw[lvs]
theorem W4:lvs []=[]:=by rw[lvs]
theorem qW {n:Nat}:∀xs:List T,(∀x∈xs,(lv x).length<=n)->(lvs xs).length<=xs.length*n
 | [],_=>by rw[W4];exact b9 _
 | x :: xs,h=>by
  rw[Jt,av,aj,eP];have h1:=h x ad;have h2:=qW xs λy hy=>h y (a9 _ hy);omega
theorem pow3 (d:Nat):1<=3 ^ d:=Nat.one_le_pow _ _ (by omega)
theorem qX {d:Nat}{x:T}(h:W d x):(lv x).length<=3 ^ d:=by
 induction h with
 | int d i=>rw[UG];exact pow3 d
 | str d i=>rw[UH];exact pow3 d
 | @tup d xs h r ih=>
  rw[UF];have:=qW (n:=3 ^ d) xs ih;have h3:=dh (3 ^ d) h;rw[cF];omega
inductive Lf:T->Prop where
 | int (i:Int):Lf (.int i)
 | str (i:Str):Lf (.str i)
theorem VH:∀(xs:List T),(∀x∈xs,∀y∈lv x,Lf y)->∀y∈lvs xs,Lf y
 | [],_,y,hy=>by rw[W4]at hy;cases hy
 | x :: xs,h,y,hy=>by
  rw[Jt]at hy;rcases cO.mp hy with hy | hy
  ·exact h x ad y hy
  ·exact VH xs (λz hz=>h z (a9 _ hz)) y hy
theorem z2e {d:Nat}{x:T}(h:W d x):∀y∈lv x,Lf y:=by
 induction h with
 | int d i=>intro y hy;rw[UG]at hy;rw[aG.mp hy];exact .int _
 | str d i=>intro y hy;rw[UH]at hy;rw[aG.mp hy];exact .str _
 | @tup d xs h r ih=>intro y hy;rw[UF]at hy;exact VH xs ih y hy
theorem Gr {i:Nat}{f:En->R T}{ρ:En}{ts us:List T}(hi:ρ[i]? =some (.ow ts))(h:f ρ= .ok (.lst us))(hl:ts.length+us.length<=bnd):Qu i f ρ= .nx (ρ.set i (.ow (ts++us))):=by
 unfold Qu;rw[hi];dsimp only;rw[h,Zs];dsimp only;rw[if_pos hl]
noncomputable abbrev loB (c:List T->R T):En->RS:=Qu 1 (za 1 c (z9 (vE 2) (zj)))
theorem qY {c:List T->R T}{n:Nat}(hn:n<=1000){a:Sl}:∀(xs:List T) (acc:List T) (x:Sl),(∀x∈xs,c [x]= .ok (.lst (lv x))/\(lv x).length<=n)->acc.length+xs.length*n<=1000000->
  ∃x',ZD (zA 2) (loB c) xs [a,.ow acc,x]= .nx [a,.ow (acc++lvs xs),x']
 | [],acc,x,_,_=>⟨x,by rw[W4,aY];rfl⟩
 | y :: xs,acc,x,H,hb=>by
  obtain⟨e,hl⟩:=H y ad;rw[aj,eP]at hb;have hB:bnd=16777216:=rfl;obtain⟨x',h⟩:=qY hn (a:=a) xs (acc++lv y) (.vl y) (λz hz=>H z (a9 _ hz)) (by rw[av];omega)
  refine⟨x', ?_⟩;have s2:zA 2 y [a,.ow acc,x]= .ok [a,.ow acc,.vl y]:=rfl;have b2:loB c [a,.ow acc,.vl y]= .nx [a,.ow (acc++lv y),.vl y]:=by
   have z:za 1 c (z9 (vE 2) (zj)) [a,.ow acc,.vl y]= .ok (.lst (lv y)):=by rw[zQ,v2,bOk,e]
   exact Gr (i:=1) (ts:=acc) (us:=lv y) rfl z (by omega)
  rw[ji s2 b2,h,Jt,br]
theorem wB {x:T}{r:En}:ue (Jk (ap1 (wM "tuple") (vB 0))) (.vl x :: r)= .ok (!(match x with | .tup _=>true | _=>false)):=by
 rw[JL,Jf,ZA,w0,bOk,qr,bOk,wt,bOk]
 all_goals (cases x <;> rfl)
theorem JU:∀(n d:Nat),d < n->d<=3->∀x:T,W d x->S_j n 0 [x]= .ok (.lst (lv x))
 | 0,d,h,_,_,_=>absurd h (iA _)
 | n+1,d,h,h3,x,hx=>by
  show zu (b_j (S_j n 0) [.vl x,.un,.un])=_;rw[b_j];cases hx with
  | int d i=>
   rw[zB (by rw[ZX wB];exact zr (QB v0)),UG]
   rfl
  | str d i=>
   rw[zB (by rw[ZX wB];exact zr (QB v0)),UH]
   rfl
  | @tup d xs hl r=>
   have hp:3 ^ d<=27:=bw (n:=3) (by omega) (show d<=3 by omega)
   obtain⟨x',el⟩:=qY (c:=S_j n 0) (n:=3 ^ d) (by omega) (a:= .vl (.tup xs)) xs [] .un (λy hy=>⟨JU n d (by omega) (by omega) y (r y hy),qX (r y hy)⟩) (by have:=aW hl hp;simp;omega)
   have e1:yI 1 zj [.vl (.tup xs),.un,.un]= .nx [.vl (.tup xs),.ow [],.un]:=rfl;have e2:ZV (ZJ (vE 0)) (zA 2) (loB (S_j n 0)) [.vl (.tup xs),.ow [],.un]= .nx [.vl (.tup xs),.ow ([]++lvs xs),x']:=by
    unfold ZV;rw[Zw,v0,bOk];exact el
   rw[zd (zw wB),zd e1,zd e2,bp,UF];rfl
noncomputable abbrev llB (c:List T->R T):En->RS:=zJ 1 (zb zD (vE 1) (za 1 c (z9 (vE 2) (zj))))
theorem VI {xs ys:List T}(h:xs.length+ys.length<=1000000):zD (.lst xs) (.lst ys)= .ok (.lst (xs++ys)):=by
 unfold zD;dsimp only;rw[if_pos (by have hB:bnd=16777216:=rfl;omega)]
theorem qZ {c:List T->R T}{n:Nat}(hn:n<=1000){a:Sl}:∀(xs:List T) (acc:List T) (x:Sl),(∀x∈xs,c [x]= .ok (.lst (lv x))/\(lv x).length<=n)->acc.length+xs.length*n<=1000000->
  ∃x',ZD (zA 2) (llB c) xs [a,.vl (.lst acc),x]= .nx [a,.vl (.lst (acc++lvs xs)),x']
 | [],acc,x,_,_=>⟨x,by rw[W4,aY];rfl⟩
 | y :: xs,acc,x,H,hb=>by
  obtain⟨e,hl⟩:=H y ad;rw[aj,eP]at hb;obtain⟨x',h⟩:=qZ hn (a:=a) xs (acc++lv y) (.vl y) (λz hz=>H z (a9 _ hz)) (by rw[av];omega)
  refine⟨x', ?_⟩;have s2:zA 2 y [a,.vl (.lst acc),x]= .ok [a,.vl (.lst acc),.vl y]:=rfl;have b2:llB c [a,.vl (.lst acc),.vl y]= .nx [a,.vl (.lst (acc++lv y)),.vl y]:=by
   have z:zb zD (vE 1) (za 1 c (z9 (vE 2) (zj))) [a,.vl (.lst acc),.vl y]= .ok (.lst (acc++lv y)):=by rw[zt,v1,bOk,zQ,v2,bOk,e,bOk,VI (by omega)]
   exact zN (i:=1) z
  rw[ji s2 b2,h,Jt,br]
theorem UI:∀(n d:Nat),d < n->d<=3->∀x:T,W d x->S_l n 0 [x]= .ok (.lst (lv x))
 | 0,d,h,_,_,_=>absurd h (iA _)
 | n+1,d,h,h3,x,hx=>by
  show zu (b_l (S_l n 0) [.vl x,.un,.un])=_;rw[b_l];cases hx with
  | int d i=>
   rw[zB (by rw[ZX wB];exact zr (QB v0)),UG]
   rfl
  | str d i=>
   rw[zB (by rw[ZX wB];exact zr (QB v0)),UH]
   rfl
  | @tup d xs hl r=>
   have hp:3 ^ d<=27:=bw (n:=3) (by omega) (show d<=3 by omega)
   obtain⟨x',el⟩:=qZ (c:=S_l n 0) (n:=3 ^ d) (by omega) (a:= .vl (.tup xs)) xs [] .un (λy hy=>⟨UI n d (by omega) (by omega) y (r y hy),qX (r y hy)⟩) (by have:=aW hl hp;simp;omega)
   have e1:zJ 1 (ZT zj) [.vl (.tup xs),.un,.un]= .nx [.vl (.tup xs),.vl (.lst []),.un]:=rfl;have e2:ZV (ZJ (vE 0)) (zA 2) (llB (S_l n 0)) [.vl (.tup xs),.vl (.lst []),.un]= .nx [.vl (.tup xs),.vl (.lst ([]++lvs xs)),x']:=by
    unfold ZV;rw[Zw,v0,bOk];exact el
   rw[zd (zw wB),zd e1,zd e2,bp,UF];rfl
theorem ZE {ft:En->R Bool}{p:T->Bool}{k:Nat}{js:List Nat}{ρ:En}{fe:En->R T}(ts:List T)(hl:ts.length<=bnd)(H:∀t∈ts,ft ((WC k js ρ).set 0 (.vl t))= .ok (p t)/\fe ((WC k js ρ).set 0 (.vl t))= .ok t):zG (zA 0) ft fe k js ρ ts= .ok (ts.filter p):=by
 unfold zG;rw[if_pos hl,je (p:=p) (h:=id) ts _ λt ht=>⟨(H t ht).1,λ_=>(H t ht).2⟩,List.map_id];rfl
noncomputable def ZK:List T->List Int
 | []=>[]
 | .int i :: r=>i :: ZK r
 | .non :: r=>ZK r
 | .bl _ :: r=>ZK r
 | .str _ :: r=>ZK r
 | .tup _ :: r=>ZK r
 | .lst _ :: r=>ZK r
 | .fz _ :: r=>ZK r
theorem JV:∀ts:List T,ts.filter isW=(ZK ts).map T.int
 | []=>rfl
 | t :: ts=>by
  have ih:=JV ts;rw[ic,ih];cases t <;> rfl
theorem uL:∀is:List Int,ZM (is.map T.int)=some is
 | []=>rfl
 | i :: is=>by
  have e:ZM ((i :: is).map T.int)=match ZM (is.map T.int) with | some l=>some (i :: l) | none=>none:=rfl
  rw[e,uL is]
theorem W5:∀ts:List T,(ZK ts).length<=ts.length
 | []=>ai _
 | t :: ts=>by
  have ih:=W5 ts;cases t <;> simp only[ZK,aj] <;> omega
theorem w9 {d:Nat}{x:T}(hd:d<=2)(h:W d x):(lv x).length<=9:=aq (qX h) (bw (n:=3) (by omega) hd)
theorem yD {d:Nat}(hd:d<=2){x:T}(h:W d x):z0i [x]= .ok (.lst ((ZK (lv x)).map T.int)):=by
 show zu (z0h f_9 (f_j 8) [.vl x])=_;have hl:=w9 hd h;have ec:zG (zA 0) (Jk (za 1 f_9 (z9 (vE 0) (zj)))) (vE 0) 1 [] [.vl x] (lv x)= .ok ((lv x).filter isW):=
  ZE _ (by have hB:bnd=16777216:=rfl;omega) λt _=>⟨by
   show Jk _ [.vl t]=_;rw[Jf,zQ,v0,bOk,Jm,bOk,wt],rfl⟩
 rw[z0h,zr (t:= .lst ((ZK (lv x)).map T.int))]
 ·rfl
 ·show zW _ _ _ _ _ _ [.vl x]=_;have hv:f_j 8 [x]= .ok (.lst (lv x)):=JU 8 d (by omega) (by omega) x h
  rw[zP,Zw,zQ,v0,bOk,hv,bOk];show ((zG _ _ _ _ _ _ (lv x)).bind _)=_;rw[ec,bOk,JV]
noncomputable def asc (is:List Int):Bool:=(is.zip (is.drop 1)).all λq=>decide (q.1<=q.2)
theorem Q0:∀(qs:List (Int×Int)) (x y:Sl),zO (Z3 0 1) Z1 (ZL leC (vB 0) (vB 1)) (qs.map λq=>T.tup [.int q.1,.int q.2]) [x,y]= .ok (qs.map λq=>T.bl (decide (q.1<=q.2)))
 | [],_,_=>rfl
 | q :: qs,x,y=>by
  have ih:=Q0 qs (.vl (.int q.1)) (.vl (.int q.2));have e0:zO (Z3 0 1) Z1 (ZL leC (vB 0) (vB 1)) ((q :: qs).map λq=>T.tup [.int q.1,.int q.2]) [x,y]=
   (R.ok (T.bl (decide (q.1<=q.2)))).bind λv=>(zO (Z3 0 1) Z1 (ZL leC (vB 0) (vB 1)) (qs.map λq=>T.tup [.int q.1,.int q.2]) [.vl (.int q.1),.vl (.int q.2)]).bind λvs=> .ok (v :: vs):=rfl
  rw[e0,bOk,ih,bOk,ao]
theorem XL (xs:List T):cut xs (some ((1:Nat):Int)) none=xs.drop 1:=by
 unfold cut;rw[HT.sIx_nat,HT.sIx_none]
 by_cases h:1<=xs.length
 ·rw[iz h,eS (by rw[eA];omega)]
 ·have:xs=[]:=eC.mp (by omega)
  subst this;rfl
theorem Q1 (is:List Int)(hl:is.length<=100):z0l [.lst (is.map T.int)]= .ok (.bl (asc is)):=by
 show zu (z0k [.vl (.lst (is.map T.int))])=_;have hz:Vp (vE 0) (slE (vE 0) (jT (cE (.int 1))) (noO)) [.vl (.lst (is.map T.int))]= .ok ((is.zip (is.drop 1)).map λq=>T.tup [.int q.1,.int q.2]):=by
  show R.ok (Qv (is.map T.int) (cut (is.map T.int) (some ((1:Nat):Int)) none))=_;rw[XL,← List.map_drop];unfold Qv;rw[List.zip_map,aV];rfl
 have ec:zG (Z3 0 1) Z1 (ZL leC (vB 0) (vB 1)) 2 [] [.vl (.lst (is.map T.int))] ((is.zip (is.drop 1)).map λq=>T.tup [.int q.1,.int q.2])= .ok ((is.zip (is.drop 1)).map λq=>T.bl (decide (q.1<=q.2))):=by
  unfold zG;rw[if_pos (by rw[ac,dj];have hB:bnd=16777216:=rfl;omega)]
  show quiet (zO _ _ _ _ [.un,.un])=_;rw[Q0];rfl
 rw[z0k,zr (t:= .bl (asc is))]
 ·rfl
 ·show ap1 Qt _ [.vl (.lst (is.map T.int))]=_;rw[ZA,zP,hz,bOk,ec,bOk,bOk];show (match Wz _ with | some k=>R.ok (T.bl k) | none=> .bad)=_
  rw[W2 (λq:Int×Int=>decide (q.1<=q.2))];rfl
theorem Zx (x y:Int)(r:List Int):asc (x :: y :: r)=(decide (x<=y) && asc (y :: r)):=by
 unfold asc;rw[fx,dE,dH,bU,fx,dE]
theorem Q2 (x:Int):∀l:List Int,asc l=true->asc (uB x l)=true/\∀y,(∀z∈l,y<=z)->y<=x->∀z∈uB x l,y<=z
 | [],_=>⟨rfl,λy _ h z hz=>by rw[uB]at hz;rw[aG.mp hz];exact h⟩
 | [a],_=>by
  rw[uB];split
  ·rename_i h;exact⟨by rw[Zx,decide_eq_true h];rfl,λy h1 h2 z hz=>by
    rcases ah.mp hz with rfl | hz
    ·exact h2
    ·exact h1 z hz⟩
  ·rename_i h;rw[uB];exact⟨by rw[Zx,decide_eq_true (by omega)];rfl,λy h1 h2 z hz=>by
    rcases ah.mp hz with rfl | hz
    ·exact h1 _ ad
    ·rw[aG.mp hz];exact h2⟩
 | a :: b :: r,h=>by
  rw[Zx,ae,decide_eq_true_eq]at h;obtain⟨ih1,ih2⟩:=Q2 x (b :: r) h.2;rw[uB];split
  ·rename_i hx;exact⟨by rw[Zx,decide_eq_true hx,Zx,decide_eq_true h.1,h.2];rfl,λy h1 h2 z hz=>by
    rcases ah.mp hz with rfl | hz
    ·exact h2
    ·exact h1 z hz⟩
  ·rename_i hx;refine⟨?_,λy h1 h2 z hz=>by
    rcases ah.mp hz with rfl | hz
    ·exact h1 _ ad
    ·exact ih2 y (λw hw=>h1 w (a9 _ hw)) h2 z hz⟩
   rw[uB]at ih1 ⊢;split
   ·rename_i hb;rw[if_pos hb]at ih1;rw[Zx,decide_eq_true (by omega),ih1];rfl
   ·rename_i hb;rw[if_neg hb]at ih1;rw[Zx,decide_eq_true h.1,ih1];rfl
theorem Q3:∀l:List Int,asc (yl l)=true
 | []=>rfl
 | x :: l=>by rw[yl];exact(Q2 x _ (Q3 l)).1
theorem Q4:∀l:List Int,asc l=true->yl l=l
 | [],_=>rfl
 | [x],_=>rfl
 | x :: y :: r,h=>by
  rw[Zx,ae,decide_eq_true_eq]at h;rw[yl,Q4 (y :: r) h.2,uB,if_pos h.1]
theorem UJ {n:Nat}:∀xs ys:List Int,∃b,eqL (eqF n) (xs.map T.int) (ys.map T.int)=some b/\(b=true↔xs=ys)
 | [],[]=>⟨true,rfl,by simp⟩
 | [],y :: ys=>⟨false,rfl,by simp⟩
 | x :: xs,[]=>⟨false,rfl,by simp⟩
 | x :: xs,y :: ys=>by
  obtain⟨b,e,h⟩:=UJ (n:=n) xs ys;have e0:eqL (eqF n) ((x :: xs).map T.int) ((y :: ys).map T.int)=match eqF n (.int x) (.int y) with
   | none=>none
   | some b=>match eqL (eqF n) (xs.map T.int) (ys.map T.int) with
    | none=>none
    | some c=>some (b && c):=rfl
  have e1:eqF n (.int x) (.int y)=some (x == y):=by cases n <;> rfl
  refine⟨(x == y) && b,by rw[e0,e1,e], ?_⟩
  rw[ae,beq_iff_eq,h,List.cons.injEq]
theorem Q5 (is:List Int):eqC (.lst (is.map T.int)) (.lst ((yl is).map T.int))= .ok (asc is):=by
 obtain⟨b,e,h⟩:=UJ (n:=29) is (yl is);have e0:eqF 30 (.lst (is.map T.int)) (.lst ((yl is).map T.int))=some b:=e;unfold eqC;rw[e0];show R.ok b=_;congr 1
 cases hb:b with
 | true=>
  have:=h.mp hb;rw[this];exact(Q3 is).symm
 | false=>
  cases ha:asc is with
  | false=>rfl
  | true=>rw[hb]at h;exact absurd (h.mpr (Q4 is ha).symm) au
theorem qb (is:List Int)(hl:is.length<=60):vz (.lst (is.map T.int))= .ok (.lst ((yl is).map T.int)):=by
 unfold vz;dsimp only;rw[uL];dsimp only;rw[if_pos (by rw[ac];omega)]
theorem Gs (is:List Int):X1 (.lst (is.map T.int))= .ok (.int is.sum):=by
 unfold X1;dsimp only;rw[uL]
noncomputable def inB (xs:List T)(x:T):Bool:=(JY (λy=>eqF 30 y x) xs).getD false
theorem Gu {xs:List T}(x:T)(h:∀y∈xs,Pl 30 y):JY (λy=>eqF 30 y x) xs=some (inB xs x):=by
 obtain⟨b,e,_⟩:=WW (f:=λy=>eqF 30 y x) xs λt ht=>Js 30 t x (h t ht);unfold inB;rw[e];rfl
theorem W.pl {d:Nat}{x:T}(h:W d x):Pl (d+1) x:=by
 induction h with
 | int d i=>exact trivial
 | str d i=>exact trivial
 | @tup d xs h r ih=>exact ih
theorem W.pl30 {d:Nat}{x:T}(h:W d x)(hd:d<=2):Pl 30 x:=h.pl.le (by omega)
noncomputable def Ze:T->List T
 | .tup xs=>xs
 | .non=>[.non]
 | .bl b=>[.bl b]
 | .int b=>[.int b]
 | .str b=>[.str b]
 | .lst b=>[.lst b]
 | .fz b=>[.fz b]
theorem XM {d:Nat}{x:T}(h:W d x):z0j [x]= .ok (.tup (Ze x)):=by cases h <;> rfl
theorem WX {d:Nat}{x:T}(h:W d x):(Ze x).length<=3:=by
 cases h with
 | int=>exact(by decide:1<=3)
 | str=>exact(by decide:1<=3)
 | tup h _=>exact h
theorem UK {d:Nat}{x:T}(h:W d x)(hd:d<=2):∀y∈Ze x,Pl 30 y:=by
 cases h with
 | int=>intro y hy;rw[aG.mp hy];exact trivial
 | str=>intro y hy;rw[aG.mp hy];exact trivial
 | @tup d xs h r=>intro y hy;exact(r y hy).pl30 (by omega)
noncomputable def un (ps:List T):Bool:= !(ps.zipIdx.any λp=>inB (ps.take p.2) p.1)
theorem WY {xs:List T}{k:Nat}:slT (.tup xs) none (some (k:Int))= .ok (.tup (xs.take k)):=by
 show R.ok (T.tup (cut xs none (some (k:Int))))=_;have:cut xs none (some (k:Int))=xs.take k:=by
  unfold cut;rw[HT.sIx_none,HT.sIx_nat];simp only[dE,Nat.sub_zero];rw[List.take_eq_take_iff];omega
 rw[this]
theorem Q6 {ps:List T}(h:∀y∈ps,Pl 30 y)(k:Nat)(x:T):inC x (.tup (ps.take k))= .ok (inB (ps.take k) x):=by
 show (match JY (λy=>eqF 30 y x) (ps.take k) with | some b=>R.ok b | none=> .bad)=_
 rw[Gu x λy hy=>h y (List.mem_of_mem_take hy)]
noncomputable abbrev ulE:En->R T:=ZL inC (vB 1) (slE (vE 2) (noO) (jT (vE 0)))
theorem Q7 {ps:List T}(h:∀y∈ps,Pl 30 y):∀(qs:List (T×Nat)) (x y:Sl),zO (Z3 0 1) Z1 ulE (qs.map λp=>T.tup [.int (p.2:Nat),p.1]) [x,y,.vl (.tup ps)]= .ok (qs.map λp=>T.bl (inB (ps.take p.2) p.1))
 | [],_,_=>rfl
 | q :: qs,x,y=>by
  have ih:=Q7 h qs (.vl (.int (q.2:Nat))) (.vl q.1);have e:ulE [.vl (.int (q.2:Nat)),.vl q.1,.vl (.tup ps)]= .ok (.bl (inB (ps.take q.2) q.1)):=by
   have e2:slE (vE 2) noO (jT (vE 0)) [.vl (.int (q.2:Nat)),.vl q.1,.vl (.tup ps)]=slT (.tup ps) none (some (q.2:Int)):=rfl;unfold ulE;rw[Zl,w1,bOk,e2,WY,bOk,Q6 h,bOk]
  have e0:zO (Z3 0 1) Z1 ulE ((q :: qs).map λp=>T.tup [.int (p.2:Nat),p.1]) [x,y,.vl (.tup ps)]=
   (ulE [.vl (.int (q.2:Nat)),.vl q.1,.vl (.tup ps)]).bind λv=>(zO (Z3 0 1) Z1 ulE (qs.map λp=>T.tup [.int (p.2:Nat),p.1]) [.vl (.int (q.2:Nat)),.vl q.1,.vl (.tup ps)]).bind λvs=> .ok (v :: vs):=rfl
  rw[e0,e,bOk,ih,bOk,ao]
theorem WZ {α:Type}(p:α->Bool):∀qs:List α,w8 (qs.map λq=>T.bl (p q))=some (qs.any p)
 | []=>rfl
 | q :: qs=>by
  have e:w8 ((q :: qs).map λq=>T.bl (p q))=match w8 (qs.map λq=>T.bl (p q)) with | some j=>some (p q || j) | none=>none:=rfl
  rw[e,WZ p qs];rfl
theorem Q8 {ps:List T}(h:∀y∈ps,Pl 30 y)(hl:ps.length<=100):z0n [.tup ps]= .ok (.bl (un ps)):=by
 show zu (z0m [.vl (.tup ps)])=_;have ec:zG (Z3 0 1) Z1 ulE 2 [0] [.vl (.tup ps)] (jB ps)= .ok (ps.zipIdx.map λp=>T.bl (inB (ps.take p.2) p.1)):=by
  unfold zG;rw[if_pos (by unfold jB;rw[ac,fI];have hB:bnd=16777216:=rfl;omega)]
  show quiet (zO _ _ _ _ [.un,.un,.vl (.tup ps)])=_;unfold jB;rw[Q7 h];rfl
 rw[z0m,zr (t:= .bl (un ps))]
 ·rfl
 ·have e1:zW (Ub (vE 0)) (Z3 0 1) Z1 ulE 2 [0] [.vl (.tup ps)]= .ok (.lst (ps.zipIdx.map λp=>T.bl (inB (ps.take p.2) p.1))):=by
   rw[zP];show ((R.ok (jB ps)).bind _)=_;rw[bOk,ec,bOk]
  have e2:ap1 z1J (zW (Ub (vE 0)) (Z3 0 1) Z1 ulE 2 [0]) [.vl (.tup ps)]= .ok (.bl (ps.zipIdx.any λp=>inB (ps.take p.2) p.1)):=by
   rw[ZA,e1,bOk];show (match w8 _ with | some k=>R.ok (T.bl k) | none=> .bad)=_
   rw[WZ (λp:T×Nat=>inB (ps.take p.2) p.1)]
  show Qs _ [.vl (.tup ps)]=_;unfold Qs;rw[e2,bOk];rfl
theorem vX {ps:List T}(h:∀y∈ps,Pl 30 y)(hl:ps.length<=100){a b c:Sl}{ρ:En}:∃r,zG (zA 0) (zF inC (zb ixT (vE 1) (vE 0)) (slE (vE 1) (noO) (jT (vE 0)))) (vE 0) 1 [3] (a :: b :: c :: .vl (.tup ps) :: ρ) (rng 0 ps.length)= .ok r/\r.isEmpty=un ps:=by
 let p:T->Bool:=λt=>match t with
  | .int i=>match ps[i.toNat]? with | some w=>inB (ps.take i.toNat) w | none=>false
  | _=>false
 refine⟨(rng 0 ps.length).filter p,ZE _ (by unfold rng;rw[ac,be];have hB:bnd=16777216:=rfl;omega) λt ht=> ?_, ?_⟩
 ·unfold rng at ht;obtain⟨k,hk,rfl⟩:=aC.mp ht;have hk' :k < ps.length:=bg.mp hk;refine⟨?_,rfl⟩;show zF inC (zb ixT (vE 1) (vE 0)) (slE (vE 1) noO (jT (vE 0))) [.vl (.int (0+(k:Int))),.vl (.tup ps)]=_;rw[show (0:Int)+(k:Int)=(k:Int) by omega]
  have e1:ixT (.tup ps) (.int k)= .ok ps[k]:=by
   show atT ps k=_;unfold atT;rw[jb (ag hk')]
  have e2:slE (vE 1) noO (jT (vE 0)) [.vl (.int (k:Int)),.vl (.tup ps)]=slT (.tup ps) none (some (k:Int)):=rfl;rw[zR,zt,v1,bOk,v0,bOk,e1,bOk,e2,WY,bOk,Q6 h];show _=R.ok (match ps[((k:Int)).toNat]? with | some w=>inB (ps.take ((k:Int)).toNat) w | none=>false)
  rw[bc,ag hk']
 ·rw[e_,List.isEmpty_iff,List.filter_eq_nil_iff];unfold un;rw[Bool.not_eq_true',fL];constructor
  ·intro H q hq;obtain⟨x,k⟩:=q;have hk:=List.mem_zipIdx' hq;have:=H (.int (0+(k:Int))) (by unfold rng;exact aC.mpr ⟨k,bg.mpr hk.1,rfl⟩)
   intro hb;apply this
   show (match ps[((0:Int)+(k:Int)).toNat]? with | some w=>inB (ps.take ((0:Int)+(k:Int)).toNat) w | none=>false)=true
   rw[show ((0:Int)+(k:Int)).toNat=k by omega,ag hk.1,← hk.2]
   exact hb
  ·intro H t ht hb;unfold rng at ht;obtain⟨k,hk,rfl⟩:=aC.mp ht;have hk' :k < ps.length:=bg.mp hk;have hb:(match ps[((0:Int)+(k:Int)).toNat]? with | some w=>inB (ps.take ((0:Int)+(k:Int)).toNat) w | none=>false)=true:=hb
   rw[show ((0:Int)+(k:Int)).toNat=k by omega,ag hk']at hb
   exact H (ps[k],k) (List.mk_mem_zipIdx_iff_getElem?.mpr (ag hk')) hb
noncomputable def QC (w:Str):T->Bool
 | .str x=>x == w
 | _=>false
theorem Gv (w:Str)(n:Nat):∀t:T,eqF n t (.str w)=some (QC w t)
 | .str x=>by cases n <;> rfl
 | .non=>by cases n <;> rfl
 | .bl _=>by cases n <;> rfl
 | .int _=>by cases n <;> rfl
 | .tup _=>by cases n <;> rfl
 | .lst _=>by cases n <;> rfl
 | .fz _=>by cases n <;> rfl
theorem Q9 (w:Str):∀ts:List T,JY (λy=>eqF 30 y (.str w)) ts=some (ts.any (QC w))
 | []=>rfl
 | t :: ts=>by
  have e:JY (λy=>eqF 30 y (.str w)) (t :: ts)=match eqF 30 t (.str w) with
   | none=>none
   | some b=>match JY (λy=>eqF 30 y (.str w)) ts with
    | none=>none
    | some d=>some (b || d):=rfl
  rw[e,Gv,Q9 w ts];rfl
theorem XN (w:Str)(ts:List T):(ts.filter (QC w)).isEmpty= !(ts.any (QC w)):=by
 induction ts with
 | nil=>rfl
 | cons t ts ih=>
  rw[ic,dO];cases QC w t with
  | true=>rfl
  | false=>rw[if_neg au,ih,Bool.false_or]
inductive Ru where
 | sum (a b:Int) | size (a b:Int) | word (w:Str) | rising | unlike | no (r:Ru) | all (r s:Ru) | some (r s:Ru)
noncomputable def Ru.t:Ru->T
 | .sum a b=> .tup [.str "sum",.int a,.int b]
 | .size a b=> .tup [.str "size",.int a,.int b]
 | .word w=> .tup [.str "word",.str w]
 | .rising=> .tup [.str "rising"]
 | .unlike=> .tup [.str "unlike"]
 | .no r=> .tup [.str "no",r.t]
 | .all r s=> .tup [.str "all",r.t,s.t]
 | .some r s=> .tup [.str "some",r.t,s.t]
inductive jv:Nat->Ru->Prop where
 | sum {d:Nat} {a b:Int} (ha: -50<=a/\a<=50) (hb: -50<=b/\b<=50):jv (d+1) (.sum a b)
 | size {d:Nat} {a b:Int} (ha: -50<=a/\a<=50) (hb: -50<=b/\b<=50):jv (d+1) (.size a b)
 | word {d:Nat} {w:Str} (h:Zk (.str w)=true):jv (d+1) (.word w)
 | rising {d:Nat}:jv (d+1) .rising
 | unlike {d:Nat}:jv (d+1) .unlike
 | no {d:Nat} {r:Ru} (h:jv d r):jv (d+1) (.no r)
 | all {d:Nat} {r s:Ru} (h:jv d r) (h' :jv d s):jv (d+1) (.all r s)
 | some {d:Nat} {r s:Ru} (h:jv d r) (h' :jv d s):jv (d+1) (.some r s)
theorem jv.up {d:Nat}{r:Ru}(h:jv d r):jv (d+1) r:=by
 induction h with
 | sum ha hb=>exact .sum ha hb
 | size ha hb=>exact .size ha hb
 | word h=>exact .word h
 | rising=>exact .rising
 | unlike=>exact .unlike
 | no h ih=>exact .no ih
 | all h h' ih ih' =>exact .all ih ih'
 | some h h' ih ih' =>exact .some ih ih'
noncomputable def kp:Ru->T->Bool
 | .sum a b,x=>decide (a<=(ZK (lv x)).sum) && decide ((ZK (lv x)).sum<=b)
 | .size a b,x=>decide (a<=((Ze x).length:Int)) && decide (((Ze x).length:Int)<=b)
 | .word w,x=>(lv x).any (QC w)
 | .rising,x=>asc (ZK (lv x))
 | .unlike,x=>un (Ze x)
 | .no r,x=> !kp r x
 | .all r s,x=>kp r x && kp s x
 | .some r s,x=>kp r x || kp s x
theorem Ju {i:Int}(h: -50<=i/\i<=50):z0f [.int i]= .ok (.bl true):=by
 show zu (z0e f_9 [.vl (.int i)])=_;rw[z0e,zr (t:= .bl true)]
 ·rfl
 ·show j6 _ _ [.vl (.int i)]=_;rw[jM,zQ,v0,bOk,Jm,Zd,if_pos (show isW (.int i)=true from rfl),qi,Vz,Z0,bOk];show ((R.ok (T.int (-50))).bind _)=_;rw[bOk,w0,bOk,wb,decide_eq_true h.1,bOk,if_pos rfl,bOk,wb,decide_eq_true h.2];rfl
theorem Zj {x w:Str}{r:List T}{ρ:En}(b:Bool)(h:(x == w)=b):zF eqC (zb ixT (vE 0) (cE (.int 0))) (cE (.str w)) (.vl (.tup (.str x :: r)) :: ρ)= .ok b:=by rw[cs0,h]
theorem UL {f g:En->R Bool}{ρ:En}{b:Bool}(h:f ρ= .ok false)(h' :g ρ= .ok b):orT f g ρ= .ok b:=by rw[qk,h,bOk,if_neg au,h']
theorem z2f {f g:En->R Bool}{ρ:En}(h:f ρ= .ok true):orT f g ρ= .ok true:=by rw[qk,h,bOk,if_pos rfl]
theorem we {f g:En->R T}{ρ:En}{r:R T}(h:f ρ= .ok (.bl true))(h' :g ρ=r):j6 f g ρ=r:=by rw[jM,h,Zd,if_pos rfl,h']
theorem VJ {xs:List T}{ρ:En}{n:Int}(h:((xs.length:Int) == n)=true):ZL eqC (ap1 Zo (vB 0)) (cE (.int n)) (.vl (.tup xs) :: ρ)= .ok (.bl true):=by
 rw[Zl,ZA,w0,bOk,wc,bOk,Z0,bOk,eqI,h,bOk]
theorem jj {xs:List T}{d:Nat}{x:T}:orT (zF eqC (vB 1) (cE (.int 0))) (orT (ue (Jk (ap1 (wM "tuple") (vB 0)))) (zF eqC (ap1 Zo (vB 0)) (cE (.int 0)))) (en2 (.tup (x :: xs)) (.int ((d+1:Nat):Int)))= .ok false:=by
 refine UL ?_ (UL ?_ ?_)
 ·rw[zR,w1,bOk,Z0,bOk,eqI,beq_eq_false_iff_ne.mpr (by omega)]
 ·rw[JL,Jf,ZA,w0,bOk,qr,bOk,wt,bOk];rfl
 ·rw[zR,ZA,w0,bOk,wc,bOk,Z0,bOk,eqI,beq_eq_false_iff_ne.mpr (by rw[aj];omega)]
theorem vY {w:Str}(h:Zk (.str w)=true):Xq (.str w):=by
 have h:(decide (1<=w.length) && decide (w.length<=3) && w.cps.toList.all Zi)=true:=h;simp only[ae,decide_eq_true_eq]at h;show w.length<=bnd;exact aq h.1.2 (by decide)
theorem J4:∀(n d:Nat),d<=n->∀r:Ru,jv d r->S_n n 0 [r.t,.int (d:Int)]= .ok (.bl true)
 | 0,d,h,r,hr=>by
  have:d=0:=by omega
  subst this;cases hr
 | n+1,d,h,r,hr=>by
  show zu (b_n f_v (S_n n 0) z0f (en2 r.t (.int (d:Int))))=_;rw[b_n];cases hr with
  | @sum d a b ha hb=>
   rw[Ru.t,zd (zw jj),zB (t:= .bl true)]
   ·rfl
   ·rw[ZX (z2f (Zj true (by decide)))]
    exact zr (we (VJ rfl) (we (by show za 1 _ _ (en2 _ _)=_;rw[zQ,jy,bOk,Ju ha]) (by show za 1 _ _ (en2 _ _)=_;rw[zQ,Wj,bOk,Ju hb])))
  | @size d a b ha hb=>
   rw[Ru.t,zd (zw jj),zB (t:= .bl true)]
   ·rfl
   ·rw[ZX (UL (Zj false (by decide)) (Zj true (by decide)))]
    exact zr (we (VJ rfl) (we (by show za 1 _ _ (en2 _ _)=_;rw[zQ,jy,bOk,Ju ha]) (by show za 1 _ _ (en2 _ _)=_;rw[zQ,Wj,bOk,Ju hb])))
  | @word d w hw=>
   rw[Ru.t,zd (zw jj),zd (zw (UL (Zj false (by decide)) (Zj false (by decide)))),zB (t:= .bl true)]
   ·rfl
   ·rw[ZX (Zj true (by decide))]
    exact zr (we (VJ rfl) (by show za 1 _ _ (en2 _ _)=_;rw[zQ,jy,bOk,qh _ (vY hw),hw]))
  | rising=>
   rw[Ru.t,zd (zw jj),zd (zw (UL (Zj false (by decide)) (Zj false (by decide)))),zd (zw (Zj false (by decide))),zB (t:= .bl true)]
   ·rfl
   ·rw[ZX (z2f (Zj true (by decide)))]
    exact zr (VJ rfl)
  | unlike=>
   rw[Ru.t,zd (zw jj),zd (zw (UL (Zj false (by decide)) (Zj false (by decide)))),zd (zw (Zj false (by decide))),zB (t:= .bl true)]
   ·rfl
   ·rw[ZX (UL (Zj false (by decide)) (Zj true (by decide)))]
    exact zr (VJ rfl)
  | @no d r hr=>
   have ih:=J4 n d (by omega) r hr
   rw[Ru.t,zd (zw jj),zd (zw (UL (Zj false (by decide)) (Zj false (by decide)))),zd (zw (Zj false (by decide))),zd (zw (UL (Zj false (by decide)) (Zj false (by decide)))),zB (t:= .bl true)]
   ·rfl
   ·rw[ZX (Zj true (by decide))]
    exact zr (we (VJ rfl) (by show za 2 _ _ (en2 _ _)=_;rw[zK,jy,bOk,zt,v1,bOk,Z0,bOk,Zn,bOk,show ((d+1:Nat):Int) - 1=(d:Int) by omega,ih]))
  | @all d r s hr hs=>
   have ih:=J4 n d (by omega) r hr
   have ih' :=J4 n d (by omega) s hs
   rw[Ru.t,zd (zw jj),zd (zw (UL (Zj false (by decide)) (Zj false (by decide)))),zd (zw (Zj false (by decide))),zd (zw (UL (Zj false (by decide)) (Zj false (by decide)))),zd (zw (Zj false (by decide))),zB (t:= .bl true)]
   ·rfl
   ·rw[ZX (z2f (Zj true (by decide)))]
    exact zr (we (VJ rfl) (we (by show za 2 _ _ (en2 _ _)=_;rw[zK,jy,bOk,zt,v1,bOk,Z0,bOk,Zn,bOk,show ((d+1:Nat):Int) - 1=(d:Int) by omega,ih]) (by show za 2 _ _ (en2 _ _)=_;rw[zK,Wj,bOk,zt,v1,bOk,Z0,bOk,Zn,bOk,show ((d+1:Nat):Int) - 1=(d:Int) by omega,ih'])))
  | @some d r s hr hs=>
   have ih:=J4 n d (by omega) r hr
   have ih' :=J4 n d (by omega) s hs
   rw[Ru.t,zd (zw jj),zd (zw (UL (Zj false (by decide)) (Zj false (by decide)))),zd (zw (Zj false (by decide))),zd (zw (UL (Zj false (by decide)) (Zj false (by decide)))),zd (zw (Zj false (by decide))),zB (t:= .bl true)]
   ·rfl
   ·rw[ZX (UL (Zj false (by decide)) (Zj true (by decide)))]
    exact zr (we (VJ rfl) (we (by show za 2 _ _ (en2 _ _)=_;rw[zK,jy,bOk,zt,v1,bOk,Z0,bOk,Zn,bOk,show ((d+1:Nat):Int) - 1=(d:Int) by omega,ih]) (by show za 2 _ _ (en2 _ _)=_;rw[zK,Wj,bOk,zt,v1,bOk,Z0,bOk,Zn,bOk,show ((d+1:Nat):Int) - 1=(d:Int) by omega,ih'])))
theorem Gw {f g h:En->R T}{ρ:En}{i j k:Int}(hf:f ρ= .ok (.int i))(hg:g ρ= .ok (.int j))(hh:h ρ= .ok (.int k)):chE leC leC f g h ρ= .ok (.bl (decide (i<=j) && decide (j<=k))):=by
 rw[qi,hf,bOk,hg,bOk,wb,bOk];cases decide (i<=j) with
 | true=>rw[if_pos rfl,hh,bOk,wb,bOk,fB]
 | false=>rw[if_neg au,Bool.false_and]
theorem Qa {r:Ru}{x:T}{d:Nat}(hd:d<=2)(h:W d x)(b:Bool)(hr:(match r with | .no _=>False | .all _ _=>False | .some _ _=>False | _=>True)):gT [r.t,x]= .ok (.bl (kp r x)):=by
 have hn:=yD hd h;have hp:=XM h;have hv:f_j 8 [x]= .ok (.lst (lv x)):=JU 8 d (by omega) (by omega) x h
 have hi:(ZK (lv x)).length<=9:=aq (W5 _) (w9 hd h);show zu (z0o z0j (f_j 8) z0i z0l z0n (en2 r.t x))=_;rw[z0o];cases r with
 | sum a b=>
  rw[Ru.t,zB (t:= .bl (kp (.sum a b) x))]
  ·rfl
  ·rw[ZX (Zj true (by decide))]
   refine zr ?_;show chE _ _ _ _ _ (en2 _ x)=_;exact Gw jy (by rw[ZA,zQ,v1,bOk,hn,bOk,Gs]) Wj
 | size a b=>
  rw[Ru.t,zd (zw (Zj false (by decide))),zB (t:= .bl (kp (.size a b) x))]
  ·rfl
  ·rw[ZX (Zj true (by decide))]
   refine zr ?_;show chE _ _ _ _ _ (en2 _ x)=_;exact Gw jy (by rw[ZA,zQ,v1,bOk,hp,bOk,wc]) Wj
 | word w=>
  rw[Ru.t,zd (zw (Zj false (by decide))),zd (zw (Zj false (by decide))),zB (t:= .bl (kp (.word w) x))]
  ·rfl
  ·rw[ZX (Zj true (by decide))]
   refine zr ?_;show ZL _ _ _ (en2 _ x)=_;rw[Zl,jy,bOk,zQ,v1,bOk,hv,bOk];show ((match JY (λy=>eqF 30 y (.str w)) (lv x) with | some b=>R.ok b | none=> .bad).bind _)=_
   rw[Q9];rfl
 | rising=>
  rw[Ru.t,zd (zw (Zj false (by decide))),zd (zw (Zj false (by decide))),zd (zw (Zj false (by decide))),zB (t:= .bl (kp .rising x))]
  ·rfl
  ·rw[ZX (Zj true (by decide))]
   refine zr ?_;show za 1 _ _ (en2 _ x)=_;rw[zQ,zQ,v1,bOk,hn,bOk,Q1 _ (by omega)]
   rfl
 | unlike=>
  rw[Ru.t,zd (zw (Zj false (by decide))),zd (zw (Zj false (by decide))),zd (zw (Zj false (by decide))),zd (zw (Zj false (by decide))),zr (t:= .bl (kp .unlike x))]
  ·rfl
  ·show za 1 _ _ (en2 _ x)=_;rw[zQ,zQ,v1,bOk,hp,bOk,Q8 (UK h hd) (aq (WX h) (by omega))]
   rfl
 | no=>exact hr.elim
 | all=>exact hr.elim
 | some=>exact hr.elim
theorem Qb {f:En->R T}{ρ:En}{b:Bool}(h:f ρ= .ok (.bl b)):Qs f ρ= .ok (.bl (!b)):=by unfold Qs;rw[h];rfl
theorem W6 {f g:En->R T}{ρ:En}{a b:Bool}(h:f ρ= .ok (.bl a))(h' :g ρ= .ok (.bl b)):j6 f g ρ= .ok (.bl (a && b)):=by
 rw[jM,h,h',Zd];cases a <;> rfl
theorem VL {f g:En->R T}{ρ:En}{a b:Bool}(h:f ρ= .ok (.bl a))(h' :g ρ= .ok (.bl b)):orE f g ρ= .ok (.bl (a || b)):=by
 unfold orE;rw[h,bOk];cases a with
 | true=>rfl
 | false=>exact h'
theorem J6 {x:T}{e:Nat}(he:e<=2)(hx:W e x):∀(n d:Nat),d<=n->∀r:Ru,jv d r->S_k n 0 [r.t,x]= .ok (.bl (kp r x))
 | 0,d,h,r,hr=>by
  have:d=0:=by omega
  subst this;cases hr
 | n+1,d,h,r,hr=>by
  show zu (b_k (S_k n 0) gT (en2 r.t x))=_;rw[b_k];have fin:∀(r:Ru) (s:Str) (q:List T),r.t= .tup (.str s :: q)->(s == "no")=false->(s == "all")=false->(s == "some")=false->(match r with | .no _=>False | .all _ _=>False | .some _ _=>False | _=>True)->
    zu (zz (ifS (zF eqC (zb ixT (vE 0) (cE (.int 0))) (cE (.str "no"))) (zE (Qs (za 2 (S_k n 0) (z9 (zb ixT (vE 0) (cE (.int 1))) (z9 (vE 1) (zj)))))) (nxS))
  (zz (ifS (zF eqC (zb ixT (vE 0) (cE (.int 0))) (cE (.str "all"))) (zE (j6 (za 2 (S_k n 0) (z9 (zb ixT (vE 0) (cE (.int 1))) (z9 (vE 1) (zj)))) (za 2 (S_k n 0) (z9 (zb ixT (vE 0) (cE (.int 2))) (z9 (vE 1) (zj)))))) (nxS))
  (zz (ifS (zF eqC (zb ixT (vE 0) (cE (.int 0))) (cE (.str "some"))) (zE (orE (za 2 (S_k n 0) (z9 (zb ixT (vE 0) (cE (.int 1))) (z9 (vE 1) (zj)))) (za 2 (S_k n 0) (z9 (zb ixT (vE 0) (cE (.int 2))) (z9 (vE 1) (zj)))))) (nxS))
  (zE (za 2 gT (z9 (vE 0) (z9 (vE 1) (zj))))))) (en2 r.t x))= .ok (.bl (kp r x)):=by
   intro r s q e h1 h2 h3 hm;have hs:=Qa he hx true hm;rw[e]at hs ⊢;rw[zd (zw (Zj false h1)),zd (zw (Zj false h2)),zd (zw (Zj false h3)),zr (t:= .bl (kp r x))]
   ·rfl
   ·show za 2 _ _ (en2 _ x)=_;rw[zK,v0,bOk,v1,bOk,hs]
  cases hr with
  | @sum d a b ha hb=>exact fin (.sum a b) "sum" _ rfl (by decide) (by decide) (by decide) trivial
  | @size d a b ha hb=>exact fin (.size a b) "size" _ rfl (by decide) (by decide) (by decide) trivial
  | @word d w hw=>exact fin (.word w) "word" _ rfl (by decide) (by decide) (by decide) trivial
  | rising=>exact fin .rising "rising" _ rfl (by decide) (by decide) (by decide) trivial
  | unlike=>exact fin .unlike "unlike" _ rfl (by decide) (by decide) (by decide) trivial
  | @no d r hr=>
   have ih:=J6 he hx n d (by omega) r hr
   rw[Ru.t,zB (t:= .bl (kp (.no r) x))]
   ·rfl
   ·rw[ZX (Zj true (by decide))]
    exact zr (Qb (by show za 2 _ _ (en2 _ x)=_;rw[zK,jy,bOk,v1,bOk,ih]))
  | @all d r s hr hs=>
   have ih:=J6 he hx n d (by omega) r hr
   have ih' :=J6 he hx n d (by omega) s hs
   rw[Ru.t,zd (zw (Zj false (by decide))),zB (t:= .bl (kp (.all r s) x))]
   ·rfl
   ·rw[ZX (Zj true (by decide))]
    exact zr (W6 (by show za 2 _ _ (en2 _ x)=_;rw[zK,jy,bOk,v1,bOk,ih]) (by show za 2 _ _ (en2 _ x)=_;rw[zK,Wj,bOk,v1,bOk,ih']))
  | @some d r s hr hs=>
   have ih:=J6 he hx n d (by omega) r hr
   have ih' :=J6 he hx n d (by omega) s hs
   rw[Ru.t,zd (zw (Zj false (by decide))),zd (zw (Zj false (by decide))),zB (t:= .bl (kp (.some r s) x))]
   ·rfl
   ·rw[ZX (Zj true (by decide))]
    exact zr (VL (by show za 2 _ _ (en2 _ x)=_;rw[zK,jy,bOk,v1,bOk,ih]) (by show za 2 _ _ (en2 _ x)=_;rw[zK,Wj,bOk,v1,bOk,ih']))
noncomputable abbrev lk (r x a b:T):En:=[.vl r,.vl x,.vl a,.vl b,.un,.un,.un]
theorem lk0 {x w:Str}{r:List T}{y a b:T}(c:Bool)(h:(x == w)=c):zF eqC (zb ixT (vE 0) (cE (.int 0))) (cE (.str w)) (lk (.tup (.str x :: r)) y a b)= .ok c:=Zj c h
theorem UM {r x a b:T}{z:Sl}:∀(is:List Int) (m:Int) (y:Sl),∃y',ZD (zA 5) (zJ 4 (zb zD (vE 4) (vE 5))) (is.map T.int) [.vl r,.vl x,.vl a,.vl b,.vl (.int m),y,z]= .nx [.vl r,.vl x,.vl a,.vl b,.vl (.int (m+is.sum)),y',z]
 | [],m,y=>⟨y,by rw[List.sum_nil,Int.add_zero];rfl⟩
 | i :: is,m,y=>by
  obtain⟨y',h⟩:=UM (r:=r) (x:=x) (a:=a) (b:=b) (z:=z) is (m+i) (.vl (.int i));refine⟨y', ?_⟩;have s2:zA 5 (.int i) [.vl r,.vl x,.vl a,.vl b,.vl (.int m),y,z]= .ok [.vl r,.vl x,.vl a,.vl b,.vl (.int m),.vl (.int i),z]:=rfl;have b2:zJ 4 (zb zD (vE 4) (vE 5)) [.vl r,.vl x,.vl a,.vl b,.vl (.int m),.vl (.int i),z]= .nx [.vl r,.vl x,.vl a,.vl b,.vl (.int (m+i)),.vl (.int i),z]:=rfl;rw[ao,ji s2 b2,h,d9,Int.add_assoc]
theorem z2g {f g:En->R T}{ρ:En}{i j:Int}(hf:f ρ= .ok (.int i))(hg:g ρ= .ok (.int j)):ZL leC f g ρ= .ok (.bl (decide (i<=j))):=by rw[Zl,hf,bOk,hg,bOk,wb,bOk]
theorem ge_E {f g:En->R T}{ρ:En}{i j:Int}(hf:f ρ= .ok (.int i))(hg:g ρ= .ok (.int j)):ZL geC f g ρ= .ok (.bl (decide (j<=i))):=by
 rw[Zl,hf,bOk,hg,bOk];rfl
theorem u6 {r x a b:T}:frz (lk r x a b)=lk r x a b:=rfl
theorem jp {x:T}{e:Nat}(he:e<=2)(hx:W e x):∀(n d:Nat),d<=n->∀r:Ru,jv d r->S_d n 0 [r.t,x]= .ok (.bl (kp r x))
 | 0,d,h,r,hr=>by
  have:d=0:=by omega
  subst this;cases hr
 | n+1,d,h,r,hr=>by
  show zu (b_d (f_l 8) (S_d n 0) [.vl r.t,.vl x,.un,.un,.un,.un,.un])=_;have hv:f_l 8 [x]= .ok (.lst (lv x)):=UI 8 e (by omega) (by omega) x hx
  have hl:=w9 he hx;have hB:bnd=16777216:=rfl;have hi:(ZK (lv x)).length<=9:=aq (W5 _) hl;have e1:zJ 2 (zW (ZJ (za 1 (f_l 8) (z9 (vE 1) (zj)))) (zA 0) (Jk (ap1 (wM "int") (vB 0))) (vE 0) 1 []) [.vl r.t,.vl x,.un,.un,.un,.un,.un]= .nx [.vl r.t,.vl x,.vl (.lst ((ZK (lv x)).map T.int)),.un,.un,.un,.un]:=by
   have ec:zG (zA 0) (Jk (ap1 (wM "int") (vB 0))) (vE 0) 1 [] [.vl r.t,.vl x,.un,.un,.un,.un,.un] (lv x)= .ok ((lv x).filter isW):=
    ZE _ (by omega) λt ht=>⟨by cases z2e hx t ht <;> rfl,rfl⟩
   rw[zN (t:= .lst ((ZK (lv x)).map T.int))]
   ·rfl
   ·rw[zP,Zw,zQ,v1,bOk,hv,bOk];show ((zG _ _ _ _ _ _ (lv x)).bind _)=_;rw[ec,bOk,JV]
  have e2:zJ 3 (ifE (Jk (ap1 (wM "tuple") (vB 1))) (vE 1) (Zh (z9 (vE 1) (zj)))) [.vl r.t,.vl x,.vl (.lst ((ZK (lv x)).map T.int)),.un,.un,.un,.un]= .nx (lk r.t x (.lst ((ZK (lv x)).map T.int)) (.tup (Ze x))):=by
   cases hx <;> rfl
  rw[b_d,zd e1,zd e2];cases hr with
  | @sum d a b ha hb=>
   obtain⟨y',el⟩:=UM (r:=(Ru.sum a b).t) (x:=x) (a:= .lst ((ZK (lv x)).map T.int)) (b:= .tup (Ze x)) (z:= .un) (ZK (lv x)) 0 .un;rw[fY]at el;have e3:zJ 4 (cE (.int 0)) (lk (Ru.sum a b).t x (.lst ((ZK (lv x)).map T.int)) (.tup (Ze x)))= .nx [.vl (Ru.sum a b).t,.vl x,.vl (.lst ((ZK (lv x)).map T.int)),.vl (.tup (Ze x)),.vl (.int 0),.un,.un]:=rfl;have e4:ZV (ZJ (vE 2)) (zA 5) (zJ 4 (zb zD (vE 4) (vE 5))) [.vl (Ru.sum a b).t,.vl x,.vl (.lst ((ZK (lv x)).map T.int)),.vl (.tup (Ze x)),.vl (.int 0),.un,.un]= .nx [.vl (Ru.sum a b).t,.vl x,.vl (.lst ((ZK (lv x)).map T.int)),.vl (.tup (Ze x)),.vl (.int (ZK (lv x)).sum),y',.un]:=by
    unfold ZV;rw[Zw,v2,bOk];exact el
   rw[zB (t:= .bl (kp (.sum a b) x))]
   ·rfl
   ·rw[ZX (by rw[Ru.t];exact lk0 true (by decide)),zd e3,zd e4,zr (t:= .bl (kp (.sum a b) x))]
    show j6 _ _ [.vl (Ru.sum a b).t,.vl x,.vl (.lst ((ZK (lv x)).map T.int)),.vl (.tup (Ze x)),.vl (.int (ZK (lv x)).sum),z1p y',.un]=_;rw[Ru.t];exact W6 (z2g jy rfl) (z2g rfl Wj)
  | @size d a b ha hb=>
   rw[Ru.t,zd (zw (lk0 false (by decide))),zB (t:= .bl (kp (.size a b) x))]
   ·rfl
   ·rw[ZX (lk0 true (by decide)),zr (t:= .bl (kp (.size a b) x))]
    rw[u6];exact W6 (ge_E (i:=((Ze x).length:Int)) rfl jy) (z2g (i:=((Ze x).length:Int)) rfl Wj)
  | @word d w hw=>
   rw[Ru.t,zd (zw (lk0 false (by decide))),zd (zw (lk0 false (by decide))),zB (t:= .bl (kp (.word w) x))]
   ·rfl
   ·rw[ZX (lk0 true (by decide)),zr (t:= .bl (kp (.word w) x))]
    rw[u6];have ec:zG (zA 0) (zF eqC (vB 0) (zb ixT (vE 1) (cE (.int 1)))) (vE 0) 1 [0] (lk (.tup [.str "word",.str w]) x (.lst ((ZK (lv x)).map T.int)) (.tup (Ze x))) (lv x)= .ok ((lv x).filter (QC w)):=
     ZE _ (by omega) λt ht=>⟨by
      show zF eqC (vB 0) (zb ixT (vE 1) (cE (.int 1))) [.vl t,.vl (.tup [.str "word",.str w])]=_;rw[zR,w0,bOk,zt,v1,bOk,Z0,bOk,at1,bOk];unfold eqC;rw[Gv],rfl⟩
    rw[Zl,zP,Zw,zQ,v1,bOk,hv,bOk];show (((zG _ _ _ _ _ _ (lv x)).bind _).bind _)=_;rw[ec,bOk,bOk,show ZT zj (lk (.tup [.str "word",.str w]) x (.lst ((ZK (lv x)).map T.int)) (.tup (Ze x)))= .ok (.lst []) from rfl,bOk];have en:neC (.lst ((lv x).filter (QC w))) (.lst [])= .ok (!((lv x).filter (QC w)).isEmpty):=by cases (lv x).filter (QC w) <;> rfl
    rw[en,bOk,XN,Bool.not_not];rfl
  | rising=>
   rw[Ru.t,zd (zw (lk0 false (by decide))),zd (zw (lk0 false (by decide))),zd (zw (lk0 false (by decide))),zB (t:= .bl (kp .rising x))]
   ·rfl
   ·rw[ZX (lk0 true (by decide)),zr (t:= .bl (kp .rising x))]
    rw[u6,Zl,ZA,w2,bOk,bOk,qb _ (by omega),bOk,Q5,bOk]
    rfl
  | unlike=>
   rw[Ru.t,zd (zw (lk0 false (by decide))),zd (zw (lk0 false (by decide))),zd (zw (lk0 false (by decide))),zd (zw (lk0 false (by decide))),zB (t:= .bl (kp .unlike x))]
   ·rfl
   ·rw[ZX (lk0 true (by decide)),zr (t:= .bl (kp .unlike x))]
    rw[u6];have hp3:=WX hx;obtain⟨q,eq,hq⟩:=vX (UK hx he) (by omega) (a:= .vl (.tup [.str "unlike"])) (b:= .vl x) (c:= .vl (.lst ((ZK (lv x)).map T.int))) (ρ:=[.un,.un,.un])
    have er:ZC (ap1 Zo (vB 3)) (lk (.tup [.str "unlike"]) x (.lst ((ZK (lv x)).map T.int)) (.tup (Ze x)))= .ok (rng 0 (Ze x).length):=by
     rw[qV (j:=((Ze x).length:Int)) rfl ⟨by omega,by omega⟩,bc]
    rw[Zl,zP,er,bOk,eq,bOk,bOk,show ZT zj (lk (.tup [.str "unlike"]) x (.lst ((ZK (lv x)).map T.int)) (.tup (Ze x)))= .ok (.lst []) from rfl,bOk,G5,bOk,hq];rfl
  | @no d r hr=>
   have ih:=jp he hx n d (by omega) r hr
   rw[Ru.t,zd (zw (lk0 false (by decide))),zd (zw (lk0 false (by decide))),zd (zw (lk0 false (by decide))),zd (zw (lk0 false (by decide))),zd (zw (lk0 false (by decide))),zB (t:= .bl (kp (.no r) x))]
   ·rfl
   ·rw[ZX (lk0 true (by decide)),zr (t:= .bl (kp (.no r) x))]
    rw[u6];exact Qb (by rw[zK,jy,bOk,v1,bOk,ih])
  | @all d r s hr hs=>
   have ih:=jp he hx n d (by omega) r hr
   have ih' :=jp he hx n d (by omega) s hs
   have e3:zJ 6 (zW (ZJ (slE (vE 0) (jT (cE (.int 1))) (noO))) (zA 0) (Z1) (za 2 (S_d n 0) (z9 (vE 0) (z9 (vE 1) (zj)))) 1 [1]) (lk (.tup [.str "all",r.t,s.t]) x (.lst ((ZK (lv x)).map T.int)) (.tup (Ze x)))= .nx [.vl (.tup [.str "all",r.t,s.t]),.vl x,.vl (.lst ((ZK (lv x)).map T.int)),.vl (.tup (Ze x)),.un,.un,.vl (.lst [.bl (kp r x),.bl (kp s x)])]:=by
    rw[zN (t:= .lst [.bl (kp r x),.bl (kp s x)])]
    ·rfl
    ·rw[zP];show ((zG (zA 0) Z1 (za 2 (S_d n 0) (z9 (vE 0) (z9 (vE 1) (zj)))) 1 [1] (lk (.tup [.str "all",r.t,s.t]) x (.lst ((ZK (lv x)).map T.int)) (.tup (Ze x))) [r.t,s.t]).bind _)=_;have ec:zG (zA 0) Z1 (za 2 (S_d n 0) (z9 (vE 0) (z9 (vE 1) (zj)))) 1 [1] (lk (.tup [.str "all",r.t,s.t]) x (.lst ((ZK (lv x)).map T.int)) (.tup (Ze x))) [r.t,s.t]= .ok [.bl (kp r x),.bl (kp s x)]:=by
      unfold zG;rw[if_pos (by show 2<=bnd;omega)]
      have c1:za 2 (S_d n 0) (z9 (vE 0) (z9 (vE 1) (zj))) [.vl r.t,.vl x]= .ok (.bl (kp r x)):=by rw[zK,v0,bOk,v1,bOk,ih]
      have c2:za 2 (S_d n 0) (z9 (vE 0) (z9 (vE 1) (zj))) [.vl s.t,.vl x]= .ok (.bl (kp s x)):=by rw[zK,v0,bOk,v1,bOk,ih']
      show quiet ((za 2 (S_d n 0) (z9 (vE 0) (z9 (vE 1) (zj))) [.vl r.t,.vl x]).bind λv=>((za 2 (S_d n 0) (z9 (vE 0) (z9 (vE 1) (zj))) [.vl s.t,.vl x]).bind λv=>(R.ok []).bind λvs=> .ok (v :: vs)).bind λvs=> .ok (v :: vs))=_;rw[c1,c2];rfl
     rw[ec,bOk]
   rw[Ru.t,zd (zw (lk0 false (by decide))),zd (zw (lk0 false (by decide))),zd (zw (lk0 false (by decide))),zd (zw (lk0 false (by decide))),zd (zw (lk0 false (by decide))),zd (zw (lk0 false (by decide))),zd e3,zr (t:= .bl (kp (.all r s) x))]
   ·rfl
   ·show ifE _ _ _ [.vl (.tup [.str "all",r.t,s.t]),.vl x,.vl (.lst ((ZK (lv x)).map T.int)),.vl (.tup (Ze x)),.un,.un,.vl (.lst [.bl (kp r x),.bl (kp s x)])]=_;unfold ifE;rw[Zj true (by decide),bOk,if_pos rfl]
    exact W6 rfl rfl
  | @some d r s hr hs=>
   have ih:=jp he hx n d (by omega) r hr
   have ih' :=jp he hx n d (by omega) s hs
   have e3:zJ 6 (zW (ZJ (slE (vE 0) (jT (cE (.int 1))) (noO))) (zA 0) (Z1) (za 2 (S_d n 0) (z9 (vE 0) (z9 (vE 1) (zj)))) 1 [1]) (lk (.tup [.str "some",r.t,s.t]) x (.lst ((ZK (lv x)).map T.int)) (.tup (Ze x)))= .nx [.vl (.tup [.str "some",r.t,s.t]),.vl x,.vl (.lst ((ZK (lv x)).map T.int)),.vl (.tup (Ze x)),.un,.un,.vl (.lst [.bl (kp r x),.bl (kp s x)])]:=by
    rw[zN (t:= .lst [.bl (kp r x),.bl (kp s x)])]
    ·rfl
    ·rw[zP];show ((zG (zA 0) Z1 (za 2 (S_d n 0) (z9 (vE 0) (z9 (vE 1) (zj)))) 1 [1] (lk (.tup [.str "some",r.t,s.t]) x (.lst ((ZK (lv x)).map T.int)) (.tup (Ze x))) [r.t,s.t]).bind _)=_;have ec:zG (zA 0) Z1 (za 2 (S_d n 0) (z9 (vE 0) (z9 (vE 1) (zj)))) 1 [1] (lk (.tup [.str "some",r.t,s.t]) x (.lst ((ZK (lv x)).map T.int)) (.tup (Ze x))) [r.t,s.t]= .ok [.bl (kp r x),.bl (kp s x)]:=by
      unfold zG;rw[if_pos (by show 2<=bnd;omega)]
      have c1:za 2 (S_d n 0) (z9 (vE 0) (z9 (vE 1) (zj))) [.vl r.t,.vl x]= .ok (.bl (kp r x)):=by rw[zK,v0,bOk,v1,bOk,ih]
      have c2:za 2 (S_d n 0) (z9 (vE 0) (z9 (vE 1) (zj))) [.vl s.t,.vl x]= .ok (.bl (kp s x)):=by rw[zK,v0,bOk,v1,bOk,ih']
      show quiet ((za 2 (S_d n 0) (z9 (vE 0) (z9 (vE 1) (zj))) [.vl r.t,.vl x]).bind λv=>((za 2 (S_d n 0) (z9 (vE 0) (z9 (vE 1) (zj))) [.vl s.t,.vl x]).bind λv=>(R.ok []).bind λvs=> .ok (v :: vs)).bind λvs=> .ok (v :: vs))=_;rw[c1,c2];rfl
     rw[ec,bOk]
   rw[Ru.t,zd (zw (lk0 false (by decide))),zd (zw (lk0 false (by decide))),zd (zw (lk0 false (by decide))),zd (zw (lk0 false (by decide))),zd (zw (lk0 false (by decide))),zd (zw (lk0 false (by decide))),zd e3,zr (t:= .bl (kp (.some r s) x))]
   ·rfl
   ·show ifE _ _ _ [.vl (.tup [.str "some",r.t,s.t]),.vl x,.vl (.lst ((ZK (lv x)).map T.int)),.vl (.tup (Ze x)),.un,.un,.vl (.lst [.bl (kp r x),.bl (kp s x)])]=_;unfold ifE;rw[Zj false (by decide),bOk,if_neg au]
    exact VL rfl rfl
noncomputable abbrev lr (ns:List Int)(k:Int)(d:Nat)(p:Int)(a b:Sl):En:=[.vl (scr ns),.vl (.int k),.vl (.int (d:Int)),.vl (.int p),a,b]
theorem Qc {ns:List Int}{k:Int}{d:Nat}{p:Int}{a b:Sl}{j m q:Int}(h:f_2 [scr ns,.int (k+j),.int m]= .ok (.int q)):za 3 f_2 (z9 (vE 0) (z9 (zb zD (vE 1) (cE (.int j))) (z9 (cE (.int m)) (zj)))) (lr ns k d p a b)= .ok (.int q):=by
 rw[Zq,v0,bOk,zt,v1,bOk,Z0,bOk,Z8,bOk,Z0,bOk,h]
theorem W7 (ns:List Int):∀(n d:Nat),d<=n->1<=d->∀k:Int,0<=k->∃r:Ru,S_m n 0 [scr ns,.int k,.int (d:Int)]= .ok r.t/\jv d r
 | 0,d,h,h1,k,hk=>by omega
 | n+1,d,h,h1,k,hk=>by
  obtain⟨p,hp,p0,p9⟩:=zU ns k 9 hk (by omega)
  have e1:zJ 3 (za 3 f_2 (z9 (vE 0) (z9 (vE 1) (z9 (cE (.int 9)) (zj))))) [.vl (scr ns),.vl (.int k),.vl (.int (d:Int)),.un,.un,.un]= .nx (lr ns k d p .un .un):=by
   rw[zN (t:= .int p)]
   ·rfl
   ·rw[Zq,v0,bOk,v1,bOk,Z0,bOk,hp]
  have e:S_m (n+1) 0 [scr ns,.int k,.int (d:Int)]=zu (b_m f_2 (S_m n 0) [.vl (scr ns),.vl (.int k),.vl (.int (d:Int)),.un,.un,.un]):=rfl;rw[e,b_m,zd e1];have et:Kj (zF gtC (vB 2) (cE (.int 1))) (zF gtC (vB 3) (cE (.int 5))) (lr ns k d p .un .un)= .ok (decide (1 < d) && decide (5 < p)):=by
   rw[Xs,zR,w2,bOk,Z0,bOk,XJ,bOk,show decide ((1:Int) < (d:Int))=decide (1 < d) by rw[e_,decide_eq_true_eq,decide_eq_true_eq];omega]
   cases decide (1 < d) with
   | true=>rw[if_pos rfl,zR,w3,bOk,Z0,bOk,XJ,fB]
   | false=>rfl
  by_cases hb:1 < d/\5 < p
  ·rw[decide_eq_true hb.1,decide_eq_true hb.2]at et;obtain⟨d,rfl⟩:∃d',d=d' +1:=⟨d - 1,by omega⟩
   obtain⟨r1,hr1,o1⟩:=W7 ns n d (by omega) (by omega) (2*k+11) (by omega)
   obtain⟨r2,hr2,o2⟩:=W7 ns n d (by omega) (by omega) (2*k+24) (by omega)
   have m2:zY (.int 2) (.int k)= .ok (.int (2*k)):=uG _ _ (.inl ⟨by decide,by decide⟩)
   have e2:zJ 4 (za 3 (S_m n 0) (z9 (vE 0) (z9 (zb zD (zb zY (cE (.int 2)) (vE 1)) (cE (.int 11))) (z9 (zb jA (vE 2) (cE (.int 1))) (zj))))) (lr ns k (d+1) p .un .un)= .nx (lr ns k (d+1) p (.vl r1.t) .un):=by
    rw[zN (t:=r1.t)]
    ·rfl
    ·rw[Zq,v0,bOk,zt,zt,Z0,bOk,v1,bOk,m2,bOk,Z0,bOk,Z8,bOk,zt,v2,bOk,Z0,bOk,Zn,bOk,show ((d+1:Nat):Int) - 1=(d:Int) by omega,hr1]
   have c2:za 3 (S_m n 0) (z9 (vE 0) (z9 (zb zD (zb zY (cE (.int 2)) (vE 1)) (cE (.int 24))) (z9 (zb jA (vE 2) (cE (.int 1))) (zj)))) (lr ns k (d+1) p (.vl r1.t) .un)= .ok r2.t:=by
    rw[Zq,v0,bOk,zt,zt,Z0,bOk,v1,bOk,m2,bOk,Z0,bOk,Z8,bOk,zt,v2,bOk,Z0,bOk,Zn,bOk,show ((d+1:Nat):Int) - 1=(d:Int) by omega,hr2]
   by_cases h6:p=6
   ·subst h6;refine⟨.no r1, ?_,.no o1⟩;rw[zB (t:=(Ru.no r1).t)]
    ·rfl
    ·rw[ZX et,zd e2,zB (t:=(Ru.no r1).t)];rw[ZX rfl,Ru.t];exact zr (uh rfl rfl)
   ·have h6' :zF eqC (vB 3) (cE (.int 6)) (lr ns k (d+1) p (.vl r1.t) .un)= .ok false:=by
     rw[zR,w3,bOk,Z0,bOk,eqI,beq_eq_false_iff_ne.mpr h6]
    by_cases h7:p=7
    ·subst h7;refine⟨.all r1 r2, ?_,.all o1 o2⟩;rw[zB (t:=(Ru.all r1 r2).t)]
     ·rfl
     ·rw[ZX et,zd e2,zd (zw h6'),Ru.t];exact zr (G8 rfl rfl c2)
    ·have h8:p=8:=by omega
     subst h8;refine⟨.some r1 r2, ?_,.some o1 o2⟩;rw[zB (t:=(Ru.some r1 r2).t)]
     ·rfl
     ·rw[ZX et,zd e2,zd (zw h6'),Ru.t];exact zr (G8 rfl rfl c2)
  ·have et:Kj (zF gtC (vB 2) (cE (.int 1))) (zF gtC (vB 3) (cE (.int 5))) (lr ns k d p .un .un)= .ok false:=by
    rw[et];congr 1
    rw[Bool.and_eq_false_iff,decide_eq_false_iff_not,decide_eq_false_iff_not];omega
   obtain⟨d,rfl⟩:∃d',d=d' +1:=⟨d - 1,by omega⟩
   obtain⟨q,hq,q0,q9⟩:=zU ns (k+1) 9 (by omega) (by omega)
   have e2:zJ 5 (zb jA (za 3 f_2 (z9 (vE 0) (z9 (zb zD (vE 1) (cE (.int 1))) (z9 (cE (.int 9)) (zj))))) (cE (.int 4))) (lr ns k (d+1) p .un .un)= .nx (lr ns k (d+1) p .un (.vl (.int (q - 4)))):=by
    rw[zN (t:= .int (q - 4))]
    ·rfl
    ·rw[zt,Qc hq,bOk,Z0,bOk,Zn]
   rw[zd (zw et),zd e2];have hm:∃m:Nat,m < 6/\zb j5 (vE 3) (cE (.int 6)) (lr ns k (d+1) p .un (.vl (.int (q - 4))))= .ok (.int (m:Int)):=by
    obtain⟨w,rfl⟩:=bZ p0;exact⟨w % 6,fJ _ (by omega),by rw[zt,v3,bOk,Z0,bOk];exact qQ (c:=6) (by omega)⟩
   obtain⟨m,m6,hm⟩:=hm;have t2:zF ltC (zb j5 (vE 3) (cE (.int 6))) (cE (.int 2)) (lr ns k (d+1) p .un (.vl (.int (q - 4))))= .ok (decide (m < 2)):=by
    rw[zR,hm,bOk,Z0,bOk,ltI];congr 1;rw[e_,decide_eq_true_eq,decide_eq_true_eq];omega
   have tk:∀j:Nat,zF eqC (zb j5 (vE 3) (cE (.int 6))) (cE (.int (j:Int))) (lr ns k (d+1) p .un (.vl (.int (q - 4))))= .ok (m == j):=λj=>by
    rw[zR,hm,bOk,Z0,bOk,eqI,qA]
   have tk2:zF eqC (zb j5 (vE 3) (cE (.int 6))) (cE (.int 2)) (lr ns k (d+1) p .un (.vl (.int (q - 4))))= .ok (m == 2):=tk 2;have tk3:zF eqC (zb j5 (vE 3) (cE (.int 6))) (cE (.int 3)) (lr ns k (d+1) p .un (.vl (.int (q - 4))))= .ok (m == 3):=tk 3;have tk4:zF eqC (zb j5 (vE 3) (cE (.int 6))) (cE (.int 4)) (lr ns k (d+1) p .un (.vl (.int (q - 4))))= .ok (m == 4):=tk 4
   by_cases h2:m < 2
   ·obtain⟨u,hu,u0,u5⟩:=zU ns (k+2) 5 (by omega) (by omega)
    refine⟨.sum (q - 4) (q - 4+u - 1), ?_,.sum ⟨by omega,by omega⟩ ⟨by omega,by omega⟩⟩
    rw[zB (t:=(Ru.sum (q - 4) (q - 4+u - 1)).t)]
    ·rfl
    ·rw[ZX (by rw[t2,decide_eq_true h2]),Ru.t]
     refine zr (G8 rfl rfl ?_);show zb jA _ _ (lr ns k (d+1) p .un (.vl (.int (q - 4))))=_;rw[zt,zt,Qc hu,show vE 5 (lr ns k (d+1) p .un (.vl (.int (q - 4))))= .ok (.int (q - 4)) from rfl,bOk,bOk,Z8,bOk,Z0,bOk,Zn]
   rw[zd (zw (by rw[t2,decide_eq_false h2]))]
   by_cases h3:m=2
   ·subst h3;obtain⟨q',hq',q'0,q'3⟩:=zU ns (k+1) 3 (by omega) (by omega)
    obtain⟨u,hu,u0,u4⟩:=zU ns (k+2) 4 (by omega) (by omega)
    refine⟨.size q' u, ?_,.size ⟨by omega,by omega⟩ ⟨by omega,by omega⟩⟩
    rw[zB (t:=(Ru.size q' u).t)]
    ·rfl
    ·rw[ZX tk2,Ru.t];exact zr (G8 rfl (Qc hq') (Qc hu))
   rw[zd (zw (by rw[tk2,beq_eq_false_iff_ne.mpr h3]))]
   by_cases h4:m=3
   ·subst h4;obtain⟨q',hq',q'0,q'3⟩:=zU ns (k+1) 4 (by omega) (by omega)
    have hw:∃w:Str,Zk (.str w)=true/\ixT (.lst [.str "a",.str "b",.str "ab",.str "zz"]) (.int q')= .ok (.str w):=by
     have hq4:q' =0\/q' =1\/q' =2\/q' =3:=by omega
     rcases hq4 with rfl | rfl | rfl | rfl
     ·exact⟨"a",by decide,rfl⟩
     ·exact⟨"b",by decide,rfl⟩
     ·exact⟨"ab",by decide,rfl⟩
     ·exact⟨"zz",by decide,rfl⟩
    obtain⟨w,hw,hx⟩:=hw;refine⟨.word w, ?_,.word hw⟩;rw[zB (t:=(Ru.word w).t)]
    ·rfl
    ·rw[ZX tk3,Ru.t];refine zr (uh rfl ?_);show zb ixT _ _ (lr ns k (d+1) p .un (.vl (.int (q - 4))))=_;rw[zt,Qc hq'];exact hx
   rw[zd (zw (by rw[tk3,beq_eq_false_iff_ne.mpr h4]))]
   by_cases h5:m=4
   ·subst h5;refine⟨.rising, ?_,.rising⟩;rw[zr (t:=Ru.rising.t)]
    ·rfl
    ·show ifE _ _ _ (lr ns k (d+1) p .un (.vl (.int (q - 4))))=_;unfold ifE;rw[tk4,bOk];rfl
   ·refine⟨.unlike, ?_,.unlike⟩;rw[zr (t:=Ru.unlike.t)]
    ·rfl
    ·show ifE _ _ _ (lr ns k (d+1) p .un (.vl (.int (q - 4))))=_;unfold ifE;rw[tk4,bOk,beq_eq_false_iff_ne.mpr h5];rfl
theorem yE {x:T}(hx:W 2 x){r:Ru}(hr:jv 3 r):f_k 8 [r.t,x]= .ok (.bl (kp r x)):=J6 (by omega) hx 8 3 (by omega) r hr
noncomputable def frT (q:Rat):T:= .tup [.int q.num,.int q.den]
theorem vZ {b:Nat}:neC (.int (b:Int)) (.int 0)= .ok (!(b == 0)):=by
 show R.ok (!((b:Int) == 0))=_;congr 2
 cases b with
 | zero=>rfl
 | succ n=>
  rw[show ((n+1 == 0)=false) from rfl,beq_eq_false_iff_ne];omega
theorem UN {g:En->R Bool}{fb:En->RS}{n:Nat}{ρ ρ' :En}(h:g ρ= .ok true)(hb:fb ρ= .nx ρ'):Zv g fb (n+1) ρ=Zv g fb n ρ' :=by
 show (g ρ).s _=_;rw[h,Zs,if_pos rfl,hb]
theorem u7 {g:En->R Bool}{fb:En->RS}{n:Nat}{ρ:En}(h:g ρ= .ok false):Zv g fb (n+1) ρ= .nx ρ:=by
 show (g ρ).s _=_;rw[h,Zs,if_neg au]
theorem modn {a b:Nat}(h:1<=b):j5 (.int (a:Int)) (.int (b:Int))= .ok (.int ((a % b:Nat):Int)):=qQ h
noncomputable abbrev gdB:En->RS:=zz (zJ 2 (zb j5 (vE 0) (vE 1))) (zz (zJ 0 (vE 1)) (zJ 1 (vE 2)))
theorem Qd:∀(n b a:Nat) (x:Sl),b < n->∃x',Zv (zF neC (vB 1) (cE (.int 0))) gdB n [.vl (.int (a:Int)),.vl (.int (b:Int)),x]= .nx [.vl (.int ((d5 a b:Nat):Int)),.vl (.int 0),x']
 | 0,b,a,x,h=>by omega
 | n+1,0,a,x,h=>⟨x,by
  rw[u7 (show zF neC (vB 1) (cE (.int 0)) [.vl (.int (a:Int)),.vl (.int ((0:Nat):Int)),x]= .ok false from vZ),fK];rfl⟩
 | n+1,b+1,a,x,h=>by
  have e:gdB [.vl (.int (a:Int)),.vl (.int ((b+1:Nat):Int)),x]= .nx [.vl (.int ((b+1:Nat):Int)),.vl (.int ((a % (b+1):Nat):Int)),.vl (.int ((a % (b+1):Nat):Int))]:=by
   have e1:zJ 2 (zb j5 (vE 0) (vE 1)) [.vl (.int (a:Int)),.vl (.int ((b+1:Nat):Int)),x]= .nx [.vl (.int (a:Int)),.vl (.int ((b+1:Nat):Int)),.vl (.int ((a % (b+1):Nat):Int))]:=by
    rw[zN (t:= .int ((a % (b+1):Nat):Int))]
    ·rfl
    ·rw[zt,v0,bOk,v1,bOk,modn (by omega)]
   show zz _ _ _=_;rw[zd e1];rfl
  have hlt:a % (b+1) < n:=by have:=fJ a (show b+1 > 0 by omega);omega
  obtain⟨x',hx⟩:=Qd n (a % (b+1)) (b+1) (.vl (.int ((a % (b+1):Nat):Int))) hlt;refine⟨x', ?_⟩;rw[UN (show zF neC (vB 1) (cE (.int 0)) [.vl (.int (a:Int)),.vl (.int ((b+1:Nat):Int)),x]= .ok true from vZ) e,hx,dq (b+1),← Nat.gcd_rec,dq]
theorem XO {a b:Nat}(h:b < 2 ^ 9000):gQ [.int (a:Int),.int (b:Int)]= .ok (.int ((d5 a b:Nat):Int)):=by
 obtain⟨x',hx⟩:=Qd (2 ^ 9000) b a .un h;show zu (z07 [.vl (.int (a:Int)),.vl (.int (b:Int)),.un])=_;unfold z07;rw[zd hx];rfl
theorem Gx (u:Int):GX (.int u)= .ok (.int (u.natAbs:Int)):=by
 show R.ok (T.int (if u < 0 then -u else u))=_
 congr 2
 split <;> omega
theorem UO {u:Int}{g:Nat}(h0:1<=g)(h:g < 2 ^ 9000):Vs (.int u) (.int (g:Int))= .ok (.int (u / (g:Int))):=by
 show (if _ then _ else _)=_
 rw[if_pos];refine⟨by omega, ?_⟩
 rw[cg];exact(Nat.log2_lt (by omega)).mpr h
theorem XQ (u:Int)(d:Nat)(h:1<=d):(mkRat u d).num=u / ((d5 u.natAbs d:Nat):Int)/\(((mkRat u d).den:Nat):Int)=(d:Int) / ((d5 u.natAbs d:Nat):Int):=by
 rw[dX,dY,if_neg (by omega),if_neg (by omega),dq d]
 exact⟨rfl,Int.natCast_ediv _ _⟩
theorem XR {u:Int}{d:Nat}(h:1<=d):1<=d5 u.natAbs d/\d5 u.natAbs d<=d:=⟨dZ _ h,ie _ h⟩
theorem jE {u:Int}{d:Nat}(h:1<=d)(hd:d < 2 ^ 9000):f_o [.int u,.int (d:Int)]= .ok (frT (mkRat u d)):=by
 obtain⟨g1,g2⟩:=XR (u:=u) h;have hg:d5 u.natAbs d < 2 ^ 9000:=bf g2 hd;obtain⟨m1,m2⟩:=XQ u d h;show zu (b_o gQ [.vl (.int u),.vl (.int (d:Int)),.un])=_;unfold b_o;have e1:zJ 2 (za 2 gQ (z9 (ap1 GX (vB 0)) (z9 (vE 1) (zj)))) [.vl (.int u),.vl (.int (d:Int)),.un]= .nx [.vl (.int u),.vl (.int (d:Int)),.vl (.int ((d5 u.natAbs d:Nat):Int))]:=by
  rw[zN (t:= .int ((d5 u.natAbs d:Nat):Int))]
  ·rfl
  ·rw[zK,ZA,w0,bOk,Gx,bOk,v1,bOk,XO hd]
 rw[zd e1,zr (t:=frT (mkRat u d))]
 ·rfl
 ·unfold frT;rw[m1,m2];exact uh (UO g1 hg) (UO g1 hg)
structure Bd (q:Rat) (m:Nat):Prop where
 num:q.num.natAbs<=2 ^ m
 den:q.den<=2 ^ m
theorem Bd.le {q:Rat}{m n:Nat}(h:Bd q m)(hm:m<=n):Bd q n:=⟨aq h.num (bw (by decide) hm),aq h.den (bw (by decide) hm)⟩
theorem Bd.mk' {u:Int}{d m:Nat}(h:1<=d)(h1:u.natAbs<=2 ^ m)(h2:d<=2 ^ m):Bd (mkRat u d) m:=by
 constructor
 ·rw[dX,if_neg (by omega),Int.natAbs_ediv_of_dvd]
  ·exact aq (iB _ _) h1
  ·exact Int.natAbs_dvd_natAbs.mp (by simpa using Nat.gcd_dvd_right d u.natAbs)
 ·rw[dY,if_neg (by omega)]
  exact aq (iB _ _) h2
theorem QD (q:Rat):1<=q.den:=Nat.pos_of_ne_zero q.den_nz
theorem Bd.mul {p q:Rat}{m n:Nat}(h:Bd p m)(k:Bd q n):Bd (p*q) (m+n):=by
 rw[Rat.mul_def'];refine Bd.mk' (bT (QD p) (QD q)) ?_ ?_
 ·rw[fq,cT];exact aW h.num k.num
 ·rw[cT];exact aW h.den k.den
theorem XS {p q:Rat}{m n:Nat}(h:Bd p m)(k:Bd q n):(p.num*(q.den:Int)+q.num*(p.den:Int)).natAbs<=2 ^ (m+n+1):=by
 refine aq (Int.natAbs_add_le _ _) ?_;rw[fq,fq,cg,cg];have e1:=aW h.num k.den;have e2:=aW k.num h.den;rw[cF,cT];have e3:2 ^ n*2 ^ m=2 ^ m*2 ^ n:=bP _ _;omega
theorem Bd.add {p q:Rat}{m n:Nat}(h:Bd p m)(k:Bd q n):Bd (p+q) (m+n+1):=by
 rw[f_];refine Bd.mk' (bT (QD p) (QD q)) (XS h k) ?_;refine aq (aW h.den k.den) ?_;rw[← cT];exact bw (by decide) (by omega)
theorem lt9 {n m:Nat}(h:n<=2 ^ m)(hm:m < 9000):n < 2 ^ 9000:=bf h (fr (by decide) hm)
theorem ltb {n m:Nat}(h:n<=2 ^ m)(hm:m < 8000):n < big:=by
 unfold big;exact bf h (fr (by decide) hm)
theorem z2h {i j:Int}{m n:Nat}(h:i.natAbs<=2 ^ m)(k:j.natAbs<=2 ^ n)(hm:m < 8000)(hn:n < 8000):mlT (.int i) (.int j)= .ok (.int (i*j)):=by
 show (if _ then _ else _)=_
 rw[if_pos ⟨ltb h hm,ltb k hn⟩]
theorem nd (d:Nat){m:Nat}(h:d<=2 ^ m):((d:Int)).natAbs<=2 ^ m:=by rw[cg];exact h
theorem ix0 {i:Nat}{a b:T}{ρ:En}(h:vE i ρ= .ok (.tup [a,b])):zb ixT (vE i) (cE (.int 0)) ρ= .ok a:=by rw[zt,h,bOk,Z0,bOk,at0]
theorem ix1 {i:Nat}{a b:T}{ρ:En}(h:vE i ρ= .ok (.tup [a,b])):zb ixT (vE i) (cE (.int 1)) ρ= .ok b:=by rw[zt,h,bOk,Z0,bOk,at1]
theorem u8 {f g:En->R T}{ρ:En}{i j:Int}{m n:Nat}(hf:f ρ= .ok (.int i))(hg:g ρ= .ok (.int j))(h:i.natAbs<=2 ^ m)(k:j.natAbs<=2 ^ n)(hm:m < 8000)(hn:n < 8000):zb mlT f g ρ= .ok (.int (i*j)):=by
 rw[zt,hf,bOk,hg,bOk,z2h h k hm hn]
theorem Gy {f g:En->R T}{ρ:En}{i j:Int}(hf:f ρ= .ok (.int i))(hg:g ρ= .ok (.int j)):zb zD f g ρ= .ok (.int (i+j)):=by
 rw[zt,hf,bOk,hg,bOk,Z8]
theorem UP {p q:Rat}{m n:Nat}(h:Bd p m)(k:Bd q n)(hm:m+n < 8000):f_s [frT p,frT q]= .ok (frT (p*q)):=by
 show zu (b_s f_o [.vl (frT p),.vl (frT q)])=_;unfold b_s;rw[zr (t:=frT (p*q))]
 ·rfl
 ·rw[zK];have e0:vE 0 (frz [.vl (frT p),.vl (frT q)])= .ok (.tup [.int p.num,.int p.den]):=rfl;have e1:vE 1 (frz [.vl (frT p),.vl (frT q)])= .ok (.tup [.int q.num,.int q.den]):=rfl;rw[u8 (ix0 e0) (ix0 e1) h.num k.num (by omega) (by omega),bOk,u8 (ix1 e0) (ix1 e1) (nd _ h.den) (nd _ k.den) (by omega) (by omega),bOk,← ck,
   jE (bT (QD p) (QD q)) (lt9 (m:=m+n) (by rw[cT];exact aW h.den k.den) (by omega)),← Rat.mul_def']
theorem XT {p q:Rat}{m n:Nat}(h:Bd p m)(k:Bd q n)(hm:m+n < 8000):f_g [frT p,frT q]= .ok (frT (p+q)):=by
 show zu (b_g f_o [.vl (frT p),.vl (frT q)])=_;unfold b_g;rw[zr (t:=frT (p+q))]
 ·rfl
 ·rw[zK];have e0:vE 0 (frz [.vl (frT p),.vl (frT q)])= .ok (.tup [.int p.num,.int p.den]):=rfl;have e1:vE 1 (frz [.vl (frT p),.vl (frT q)])= .ok (.tup [.int q.num,.int q.den]):=rfl;rw[Gy (u8 (ix0 e0) (ix1 e1) h.num (nd _ k.den) (by omega) (by omega)) (u8 (ix0 e1) (ix1 e0) k.num (nd _ h.den) (by omega) (by omega)),bOk,u8 (ix1 e0) (ix1 e1) (nd _ h.den) (nd _ k.den) (by omega) (by omega),bOk,← ck,
   jE (bT (QD p) (QD q)) (lt9 (m:=m+n) (by rw[cT];exact aW h.den k.den) (by omega)),← f_]
noncomputable def ZI:List Rat->Rat
 | []=>0
 | q :: r=>q+ZI r
noncomputable abbrev tgB:En->RS:=zJ 1 (za 2 f_g (z9 (vE 1) (z9 (vE 2) (zj))))
theorem Qe {s:Sl}{m:Nat}:∀(qs:List Rat) (p:Rat) (n:Nat) (x:Sl),(∀q∈qs,Bd q m)->Bd p n->n+qs.length*(m+1) < 8000->
  ∃x',ZD (zA 2) tgB (qs.map frT) [s,.vl (frT p),x]= .nx [s,.vl (frT (p+ZI qs)),x']
 | [],p,n,x,_,_,_=>⟨x,by rw[ZI,g7];rfl⟩
 | q :: r,p,n,x,hq,hp,hl=>by
  rw[aj,dg]at hl;have kq:=hq q ad;obtain⟨x',e⟩:=Qe r (p+q) (n+m+1) (.vl (frT q)) (λa ha=>hq a (a9 _ ha)) (hp.add kq) (by omega)
  refine⟨x', ?_⟩;rw[ao,ji (setg 2 _ _) (ρ2:=[s,.vl (frT (p+q)),.vl (frT q)]),e,ZI,fD];show zJ 1 _ [s,.vl (frT p),.vl (frT q)]=_;rw[zN (t:=frT (p+q))]
  ·rfl
  ·rw[zK,v1,bOk,show vE 2 [s,.vl (frT p),.vl (frT q)]= .ok (frT q) from rfl,bOk,XT hp kq (by omega)]
theorem bd0:Bd 0 0:=⟨by decide,by decide⟩
theorem bd1:Bd 1 0:=⟨by decide,by decide⟩
theorem uM {qs:List Rat}{m:Nat}(h:∀q∈qs,Bd q m)(hl:qs.length*(m+1) < 8000):f_i [.lst (qs.map frT)]= .ok (frT (ZI qs)):=by
 show zu (b_i f_g [.vl (.lst (qs.map frT)),.un,.un])=_;unfold b_i;have e1:zJ 1 (Zh (z9 (cE (.int 0)) (z9 (cE (.int 1)) (zj)))) [.vl (.lst (qs.map frT)),.un,.un]= .nx [.vl (.lst (qs.map frT)),.vl (frT 0),.un]:=by
  rw[zN (uh rfl rfl)];rfl
 obtain⟨x',e⟩:=Qe (s:= .vl (.lst (qs.map frT))) qs 0 0 .un h bd0 (by omega)
 have e2:ZV (ZJ (vE 0)) (zA 2) tgB [.vl (.lst (qs.map frT)),.vl (frT 0),.un]= .nx [.vl (.lst (qs.map frT)),.vl (frT (ZI qs)),x']:=by
  rw[g_]at e;exact e
 rw[zd e1,zd e2];rfl
noncomputable def ZR:List Rat->Rat
 | []=>1
 | q :: r=>q*ZR r
noncomputable def wC (cs:List (Str×Int)):Int:=(cs.map (·.2)).sum
mutual
noncomputable def Kd.sh:Kd->T->Rat
 | .whole lo hi=>λ_=>mkRat 1 (hi+1 - lo).toNat
 | .pick cs=>λt=>match t with | .str x=>mkRat ((cs.lookup x).getD 0) (wC cs).toNat | _=>0
 | .row ks=>λt=>match t with | .tup xs=>Kd.shs ks xs | _=>0
 | .many k lo hi=>λt=>match t with | .tup xs=>mkRat 1 (hi+1 - lo)*ZR (xs.map k.sh) | _=>0
noncomputable def Kd.shs:List Kd->List T->Rat
 | []=>λ_=>1
 | k :: ks=>λxs=>match xs with | []=>1 | x :: xs=>k.sh x*Kd.shs ks xs
end
theorem W8:∀(ks:List Kd) (xs:List T),Kd.shs ks xs=ZR ((ks.zip xs).map λq=>q.1.sh q.2)
 | [],_=>by simp[Kd.shs,ZR]
 | k :: ks,[]=>by simp[Kd.shs,ZR]
 | k :: ks,x :: xs=>by simp[Kd.shs,ZR,W8 ks xs]
theorem UQ (k:Kd):∀xs:List T,((aa xs.length k).zip xs).map (λq=>q.1.sh q.2)=xs.map k.sh
 | []=>rfl
 | x :: xs=>by rw[aj,ba,dH,ao,ao,UQ k xs]
theorem Bd.prod {m:Nat}:∀{qs:List Rat},(∀q∈qs,Bd q m)->Bd (ZR qs) (qs.length*m)
 | [],_=>by rw[ZR];exact bd1.le (b9 _)
 | q :: r,h=>by
  rw[ZR,aj,dg,bv,fR];exact(h q ad).mul (Bd.prod λa ha=>h a (a9 _ ha))
theorem Qf:∀cs:List (Str×Int),jW (cs.map ju)=some cs
 | []=>rfl
 | c :: cs=>by
  show (match jW (cs.map ju) with | some l=>some ((c.1,c.2) :: l) | none=>none)=_
  rw[Qf cs]
theorem Dst.nd {ws:List Str}(h:Dst ws):ws.Nodup:=by
 rw[List.Nodup,dL];intro i j hi hj hij e;refine h j _ (ag hj) ?_;rw[← e];rw[List.mem_take_iff_getElem];exact⟨i,by omega,rfl⟩
theorem J7:∀(cs:List (Str×Int)) (x:Str),(cs.any λc=>c.1 == x)=true->∃i,cs.lookup x=some i/\(x,i)∈cs
 | [],x,h=>by simp at h
 | c :: cs,x,h=>by
  rw[dO,iu]at h
  by_cases e:c.1=x
  ·refine⟨c.2, ?_, ?_⟩
   ·rw[aA];simp[e]
   ·rw[← e];exact ad
  ·have h:(cs.any λc=>c.1 == x)=true:=h.resolve_left (by simp[e])
   obtain⟨i,h1,h2⟩:=J7 cs x h;refine⟨i, ?_,a9 _ h2⟩;rw[aA];have:(x == c.1)=false:=beq_eq_false_iff_ne.mpr (aU e);rw[this];exact h1
theorem VM:∀{cs:List (Str×Int)},(∀c∈cs,1<=c.2/\c.2<=20)->(cs.length:Int)<=wC cs/\wC cs<=20*cs.length
 | [],_=>by simp[wC]
 | c :: cs,h=>by
  have ih:=VM (cs:=cs) λa ha=>h a (a9 _ ha);have h0:=h c ad;have e:wC (c :: cs)=c.2+wC cs:=by simp[wC]
  rw[e,aj];omega
theorem UR {d:Nat}{cs:List (Str×Int)}(h:(Kd.pick cs).Ok (d+1)):1<=wC cs/\wC cs<=80/\∀c∈cs,1<=c.2/\c.2<=20:=by
 have hb:∀c∈cs,1<=c.2/\c.2<=20:=λc hc=>(h.2.2.1 c hc).2;have:=VM hb;have h1:=h.1;have h2:=h.2.1;exact⟨by omega,by omega,hb⟩
theorem uN (cs:List (Str×Int))(x:Str):(Kd.pick cs).sh (.str x)=mkRat ((cs.lookup x).getD 0) (wC cs).toNat:=by rw[Kd.sh]
theorem Gz {cs:List (Str×Int)}(hd:Dst (cs.map (·.1))){x:Str}{i:Int}(h:cs.lookup x=some i):YM (.tup (cs.map ju)) (.str x)= .ok (.int i):=by
 unfold YM;dsimp only;rw[Qf];dsimp only;rw[if_pos hd.nd,h]
theorem XU {cs:List (Str×Int)}(hd:Dst (cs.map (·.1))):WK (.tup (cs.map ju))= .ok (.int (wC cs)):=by
 unfold WK;dsimp only;rw[Qf];dsimp only;rw[if_pos hd.nd];rfl
theorem V0 {d:Nat}{cs:List (Str×Int)}(h:(Kd.pick cs).Ok (d+1)){x:Str}{i:Int}(hx:cs.lookup x=some i):z09 [(Kd.pick cs).t,.str x]= .ok (frT ((Kd.pick cs).sh (.str x))):=by
 obtain⟨w1',w2',_⟩:=UR h;show zu (z08 f_o [.vl (Kd.pick cs).t,.vl (.str x),.un])=_;unfold z08;have e1:zb ixT (vE 0) (cE (.int 1)) [.vl (Kd.pick cs).t,.vl (.str x),.un]= .ok (.tup (cs.map ju)):=by rw[Kd.t];exact jy
 have en:wC cs=(((wC cs).toNat:Nat):Int):=by omega
 show zu ((R.bind _ _).s _)=_;rw[e1,bOk,v1,bOk,Gz h.2.2.2 hx,bOk,XU h.2.2.2,bOk,en,jE (by omega) (lt9 (m:=7) (by omega) (by decide)),Zs,uN,hx]
 rfl
noncomputable abbrev spB (c:List T->R T):En->RS:=zJ 2 (za 2 f_s (z9 (vE 2) (z9 (za 2 c (z9 (vE 3) (z9 (vE 4) (zj)))) (zj))))
theorem Qg {c:List T->R T}{s t:Sl}{m:Nat}:∀(qs:List (Kd×T)) (p:Rat) (n:Nat) (x y:Sl),(∀q∈qs,c [q.1.t,q.2]= .ok (frT (q.1.sh q.2))/\Bd (q.1.sh q.2) m)->Bd p n->n+qs.length*m < 8000->
  ∃x' y',ZD (Z3 3 4) (spB c) (qs.map λq=>T.tup [q.1.t,q.2]) [s,t,.vl (frT p),x,y]= .nx [s,t,.vl (frT (p*ZR (qs.map λq=>q.1.sh q.2))),x',y']
 | [],p,n,x,y,_,_,_=>⟨x,y,by simp only[bz,ZR,im];rfl⟩
 | q :: r,p,n,x,y,h,hp,hl=>by
  rw[aj,dg]at hl;obtain⟨k1,k2⟩:=h q ad;obtain⟨x',y',e⟩:=Qg r (p*q.1.sh q.2) (n+m) (.vl q.1.t) (.vl q.2) (λa ha=>h a (a9 _ ha)) (hp.mul k2) (by omega)
  refine⟨x',y', ?_⟩;rw[ao,ao,ji (ρ1:=[s,t,.vl (frT p),.vl q.1.t,.vl q.2]) (ρ2:=[s,t,.vl (frT (p*q.1.sh q.2)),.vl q.1.t,.vl q.2]) rfl,e,ZR,Rat.mul_assoc];show zJ 2 _ [s,t,.vl (frT p),.vl q.1.t,.vl q.2]=_;rw[zN (t:=frT (p*q.1.sh q.2))]
  ·rfl
  ·rw[zK,show vE 2 [s,t,.vl (frT p),.vl q.1.t,.vl q.2]= .ok (frT p) from rfl,bOk,zK,show vE 3 [s,t,.vl (frT p),.vl q.1.t,.vl q.2]= .ok q.1.t from rfl,bOk,show vE 4 [s,t,.vl (frT p),.vl q.1.t,.vl q.2]= .ok q.2 from rfl,bOk,k1,bOk,UP hp k2 (by omega)]
theorem u9 {c:List T->R T}{s:T}{m:Nat}(ks:List Kd)(xs:List T)(hs:jV s= .ok (ks.map Kd.t))(hl:ks.length<=3)(hm:m<=1000)(H:∀q∈ks.zip xs,c [q.1.t,q.2]= .ok (frT (q.1.sh q.2))/\Bd (q.1.sh q.2) m):
  zu (gR f_s c (en0 5 [s,.tup xs]))= .ok (frT (ZR ((ks.zip xs).map λq=>q.1.sh q.2))):=by
 have e:en0 5 [s,.tup xs]=[.vl s,.vl (.tup xs),.un,.un,.un]:=rfl;have hz:(ks.zip xs).length*m < 8000:=by
  have h1:(ks.zip xs).length<=3:=by rw[dj];omega
  have:=aW h1 hm;omega
 obtain⟨x',y',el⟩:=Qg (c:=c) (s:= .vl s) (t:= .vl (.tup xs)) (ks.zip xs) 1 0 .un .un H bd1 (by omega)
 have e1:zJ 2 (Zh (z9 (cE (.int 1)) (z9 (cE (.int 1)) (zj)))) [.vl s,.vl (.tup xs),.un,.un,.un]= .nx [.vl s,.vl (.tup xs),.vl (frT 1),.un,.un]:=by
  rw[zN (uh rfl rfl)];rfl
 have ez:Vp (vE 0) (vE 1) [.vl s,.vl (.tup xs),.vl (frT 1),.un,.un]= .ok ((ks.zip xs).map λq=>T.tup [q.1.t,q.2]):=by
  show (jV s).bind _=_;rw[hs,bOk,← Gk];rfl
 have e2:ZV (Vp (vE 0) (vE 1)) (Z3 3 4) (spB c) [.vl s,.vl (.tup xs),.vl (frT 1),.un,.un]= .nx [.vl s,.vl (.tup xs),.vl (frT (ZR ((ks.zip xs).map λq=>q.1.sh q.2))),x',y']:=by
  unfold ZV;rw[ez,Zs,el,Rat.one_mul]
 rw[e,gR,zd e1,zd e2];rfl
noncomputable def sb:Nat->Nat
 | 0=>0
 | d+1=>7+3*sb d
theorem z0C (d:Nat):sb (d+1)=7+3*sb d:=rfl
noncomputable abbrev Qh (a b:T):En:=[.vl a,.vl b,.un]
theorem kz {x w:Str}{r:List T}{b:T}(h:(x == w)=false){f:En->RS}:ifS (zF eqC (zb ixT (vE 0) (cE (.int 0))) (cE (.str w))) f nxS (Qh (.tup (.str x :: r)) b)= .nx (Qh (.tup (.str x :: r)) b):=
 zw (by rw[show zF eqC (zb ixT (vE 0) (cE (.int 0))) (cE (.str w)) (Qh (.tup (.str x :: r)) b)= .ok (x == w) from cs0,h])
theorem z2i {x:Str}{r:List T}{b:T}{f:En->RS}:ifS (zF eqC (zb ixT (vE 0) (cE (.int 0))) (cE (.str x))) f nxS (Qh (.tup (.str x :: r)) b)=f (Qh (.tup (.str x :: r)) b):=
 ZX (by rw[show zF eqC (zb ixT (vE 0) (cE (.int 0))) (cE (.str x)) (Qh (.tup (.str x :: r)) b)= .ok (x == x) from cs0,beq_self_eq_true])
theorem W9:∀(d n:Nat),2*d<=n->d<=3->∀(k:Kd) (x:T),k.Ok d->k.has x=true->S_6 n 0 [k.t,x]= .ok (frT (k.sh x))/\Bd (k.sh x) (sb d)
 | 0,_,_,_,_,_,h,_=>h.elim
 | d+1,n+2,hn,hd3,k,x,h,hx=>by
  have ih:=W9 d n (by omega) (by omega)
  have hsb:sb d<=1000:=by
   have h2:d<=2:=by omega
   rcases(show d=0\/d=1\/d=2 by omega) with rfl | rfl | rfl <;> decide
  have e:S_6 (n+2) 0 [k.t,x]=zu (b_6 (f_1 20) f_s z09 (S_6 (n+1) 1) (Qh k.t x)):=by rw[S_6];rfl
  have e1:∀s y,S_6 (n+1) 1 [s,y]=zu (gR f_s (S_6 n 0) (en0 5 [s,y])):=λs y=>by rw[S_6];intro h;cases h
  rw[e];cases k with
  | whole lo hi=>
   obtain⟨a1,a2,a3⟩:=h;have hc:=jm (d:=1) (by omega) (Ut d lo hi ⟨a1,a2,a3⟩)
   rw[ZW]at hc;constructor
   ·rw[show (Kd.whole lo hi).t= .tup [.str "whole",.int lo,.int hi] from by rw[Kd.t]]at hc ⊢
    rw[b_6,zB (t:=frT (mkRat 1 (hi+1 - lo).toNat)),Kd.sh]
    ·rfl
    ·rw[z2i,zr (t:=frT (mkRat 1 (hi+1 - lo).toNat))];show Zh _ (Qh _ x)=_;have ez:frT (mkRat 1 (hi+1 - lo).toNat)= .tup [.int 1,.int (((hi+1 - lo).toNat:Nat):Int)]:=by
      unfold frT;rw[dX,dY,if_neg (by omega),if_neg (by omega),show (1:Int).natAbs=1 from rfl,hJ,Nat.div_one]
      rfl
     rw[ez];exact uh rfl (by rw[zQ,v0,bOk,hc])
   ·rw[Kd.sh];refine(Bd.mk' (m:=7) (by omega) (by decide) (by omega)).le ?_
    rw[z0C];omega
  | pick cs=>
   cases x with
   | str y=>
    have hx' :(cs.any λc=>c.1 == y)=true:=by rw[Kd.has]at hx;exact hx
    obtain⟨i,hi,hm⟩:=J7 cs y hx';obtain⟨w1',w2',w3'⟩:=UR h;have hw:=w3' _ hm;constructor
    ·have hs:=V0 h hi;rw[show (Kd.pick cs).t= .tup [.str "pick",.tup (cs.map ju)] from by rw[Kd.t]]at hs ⊢
     rw[b_6,zd (kz (by decide)),zB (t:=frT ((Kd.pick cs).sh (.str y)))]
     ·rfl
     ·rw[z2i,zr (t:=frT ((Kd.pick cs).sh (.str y)))];show za 2 _ _ (Qh _ _)=_;rw[zK,v0,bOk,v1,bOk,hs]
    ·rw[uN,hi];refine(Bd.mk' (m:=7) (by omega) ?_ (by omega)).le ?_
     ·show i.natAbs<=128;omega
     ·rw[z0C];omega
   | _=>rw[Kd.has]at hx;cases hx
  | row ks=>
   cases x with
   | tup xs=>
    have hx' :(xs.length == ks.length && Kd.hass ks xs)=true:=by rw[Kd.has]at hx;exact hx
    rw[ae,beq_iff_eq,Jq,aL]at hx';have H:∀q∈ks.zip xs,S_6 n 0 [q.1.t,q.2]= .ok (frT (q.1.sh q.2))/\Bd (q.1.sh q.2) (sb d):=λq hq=>ih q.1 q.2 (h.2.2 q.1 (bG hq).1) (hx'.2 q hq);have hp:=u9 (s:= .tup (ks.map Kd.t)) ks xs rfl h.2.1 hsb H;have es:(Kd.row ks).sh (.tup xs)=ZR ((ks.zip xs).map λq=>q.1.sh q.2):=by rw[Kd.sh,← W8]
    rw[es];constructor
    ·rw[show (Kd.row ks).t= .tup [.str "row",.tup (ks.map Kd.t)] from by rw[Kd.t,Kd.ts_map]]
     rw[b_6,zd (kz (by decide)),zd (kz (by decide)),zB (t:=frT (ZR ((ks.zip xs).map λq=>q.1.sh q.2)))]
     ·rfl
     ·rw[z2i,zr (t:=frT (ZR ((ks.zip xs).map λq=>q.1.sh q.2)))];show za 2 _ _ (Qh _ _)=_;rw[zK,jy,bOk,v1,bOk,e1,hp]
    ·have hb:=Bd.prod (qs:=(ks.zip xs).map λq=>q.1.sh q.2) (m:=sb d) (λq hq=>by
      obtain⟨a,ha,rfl⟩:=aC.mp hq;exact(H a ha).2)
     refine hb.le ?_;have h3:=h.2.1;have hz:((ks.zip xs).map λq=>q.1.sh q.2).length<=3:=by rw[ac,dj];omega
     have:=dh (sb d) hz;rw[z0C];omega
   | _=>rw[Kd.has]at hx;cases hx
  | many k lo hi=>
   cases x with
   | tup xs=>
    have hx' :(decide (lo<=xs.length) && decide (xs.length<=hi) && xs.all k.has)=true:=by rw[Kd.has]at hx;exact hx
    rw[ae,ae,decide_eq_true_eq,decide_eq_true_eq,aL]at hx';obtain⟨⟨l1,l2⟩,hx'⟩:=hx';have h1:=h.1;have h3:=h.2.1;have hx3:xs.length<=3:=by omega
    have H:∀q∈(aa xs.length k).zip xs,S_6 n 0 [q.1.t,q.2]= .ok (frT (q.1.sh q.2))/\Bd (q.1.sh q.2) (sb d):=λq hq=>by
     have:=bG hq;have e:=bh this.1;refine ih q.1 q.2 ?_ ?_
     ·rw[e];exact h.2.2
     ·rw[e];exact hx' q.2 this.2
    have hp:=u9 (s:= .lst ((aa xs.length k).map Kd.t)) (aa xs.length k) xs rfl (by rw[aK];exact hx3) hsb H
    rw[UQ]at hp;have es:(Kd.many k lo hi).sh (.tup xs)=mkRat 1 (hi+1 - lo)*ZR (xs.map k.sh):=by rw[Kd.sh]
    have hb:=Bd.prod (qs:=xs.map k.sh) (m:=sb d) (λq hq=>by
      rw[← UQ]at hq;obtain⟨a,ha,rfl⟩:=aC.mp hq;exact(H a ha).2)
    rw[ac]at hb;have hb0:Bd (mkRat 1 (hi+1 - lo)) 2:=Bd.mk' (by omega) (by decide) (by show hi+1 - lo<=4;omega)
    have hz:=dh (sb d) hx3;rw[es];constructor
    ·rw[show (Kd.many k lo hi).t= .tup [.str "many",k.t,.int (lo:Int),.int (hi:Int)] from by rw[Kd.t]]
     have em:zb zY (ZT (z9 (zb ixT (vE 0) (cE (.int 1))) (zj))) (ap1 Zo (vB 1)) [.vl (.tup [.str "many",k.t,.int (lo:Int),.int (hi:Int)]),.vl (.tup xs),.vl (frT (mkRat 1 (hi+1 - lo)))]= .ok (.lst ((aa xs.length k).map Kd.t)):=by
      rw[zt,QB jy,bOk,ZA,w1,bOk,wc,bOk,WR hx3,jo,aS]
     have ez:frT (mkRat 1 (hi+1 - lo))= .tup [.int 1,.int ((hi:Int) - (lo:Int)+1)]:=by
      unfold frT;rw[dX,dY,if_neg (by omega),if_neg (by omega),show (1:Int).natAbs=1 from rfl,hJ,Nat.div_one,show ((hi+1 - lo:Nat):Int)=(hi:Int) - (lo:Int)+1 by omega]
      rfl
     have eq:zJ 2 (Zh (z9 (cE (.int 1)) (z9 (zb zD (zb jA (zb ixT (vE 0) (cE (.int 3))) (zb ixT (vE 0) (cE (.int 2)))) (cE (.int 1))) (zj)))) (Qh (.tup [.str "many",k.t,.int (lo:Int),.int (hi:Int)]) (.tup xs))= .nx [.vl (.tup [.str "many",k.t,.int (lo:Int),.int (hi:Int)]),.vl (.tup xs),.vl (frT (mkRat 1 (hi+1 - lo)))]:=by
      rw[ez,zN (uh rfl (y:= .int ((hi:Int) - (lo:Int)+1)) (yA (by rw[zt,Xy,bOk,Wj,bOk,Zn])))]
      rfl
     rw[b_6,zd (kz (by decide)),zd (kz (by decide)),zd (kz (by decide)),zd eq,zr (t:=frT (mkRat 1 (hi+1 - lo)*ZR (xs.map k.sh)))]
     ·rfl
     ·show za 2 _ _ [.vl (.tup [.str "many",k.t,.int (lo:Int),.int (hi:Int)]),.vl (.tup xs),.vl (frT (mkRat 1 (hi+1 - lo)))]=_;rw[zK,show vE 2 [.vl (.tup [.str "many",k.t,.int (lo:Int),.int (hi:Int)]),.vl (.tup xs),.vl (frT (mkRat 1 (hi+1 - lo)))]= .ok (frT (mkRat 1 (hi+1 - lo))) from rfl,bOk,zK,em,bOk,v1,bOk,e1,hp,bOk,UP hb0 hb (by omega)]
    ·refine(hb0.mul hb).le ?_;rw[z0C];omega
   | _=>rw[Kd.has]at hx;cases hx
theorem US:∀as bs:List Rat,ZI (as++bs)=ZI as+ZI bs
 | [],bs=>by rw[bp,ZI,g_]
 | a :: as,bs=>by rw[eI,ZI,ZI,US as bs,fD]
theorem Wa {α:Type}(c:Rat)(f:α->Rat):∀as:List α,ZI (as.map λa=>c*f a)=c*ZI (as.map f)
 | []=>by simp only[bz,ZI,Rat.mul_zero]
 | a :: as=>by simp only[ao,ZI,Wa c f as,Rat.mul_add]
theorem JW {α β:Type}(f:α->List β)(g:β->Rat):∀as:List α,ZI ((as.flatMap f).map g)=ZI (as.map λa=>ZI ((f a).map g))
 | []=>rfl
 | a :: as=>by rw[b7,cn,US,JW f g as];rfl
theorem ZY {α:Type}{f g:α->Rat}:∀{as:List α},(∀a∈as,f a=g a)->ZI (as.map f)=ZI (as.map g)
 | [],_=>rfl
 | a :: as,h=>by rw[ao,ao,ZI,ZI,h a ad,ZY λb hb=>h b (a9 _ hb)]
theorem J8:∀(ls made:List (List T)),Z4 made ls=made.flatMap λa=>(Z4 [[]] ls).map λb=>a++b
 | [],made=>by
  simp only[Z4,ao,bz,aY]
  induction made with
  | nil=>rfl
  | cons a as ih=>rw[b7,← ih];rfl
 | l :: ls,made=>by
  rw[Z4,J8 ls,Z4,J8 ls (List.flatMap _ [[]])]
  induction made with
  | nil=>rfl
  | cons a as ih=>
   rw[b7,List.flatMap_append,ih,b7];congr 1
   simp only[ig,aY,bp];rw[List.map_flatMap,eJ,eJ];congr 1
   funext x
   rw[aV];congr 1
   funext b
   simp[br]
theorem Qi (l:List T)(ls:List (List T)):Z4 [[]] (l :: ls)=l.flatMap λx=>(Z4 [[]] ls).map λb=>x :: b:=by
 rw[Z4,J8,b7,ig,aY,eJ];rfl
noncomputable abbrev Due (k:Kd):Prop:=ZI (k.all.map k.sh)=1
theorem JX:∀ks:List Kd,(∀k∈ks,Due k)->ZI ((Z4 [[]] (ks.map Kd.all)).map (Kd.shs ks))=1
 | [],_=>by
  show ZI [Kd.shs [] []]=1;rw[Kd.shs];simp only[ZI,g7]
 | k :: ks,h=>by
  rw[ao,Qi,JW];have e:∀x∈k.all,ZI (((Z4 [[]] (ks.map Kd.all)).map λb=>x :: b).map (Kd.shs (k :: ks)))=k.sh x:=λx _=>by
   rw[aV];have:((Kd.shs (k :: ks)) ∘ λb=>x :: b)=λb=>k.sh x*Kd.shs ks b:=by funext b;show Kd.shs _ _=_;rw[Kd.shs]
   rw[this,Wa,JX ks λa ha=>h a (a9 _ ha),im]
  rw[ZY e];exact h k ad
theorem uO (n:Nat)(h:n ≠ 0):mkRat (n:Int) n=1:=by
 have e:(1:Rat)=mkRat 1 1:=rfl;rw[e,ii h (by decide)];omega
theorem J9 {α:Type}(c:Rat):∀as:List α,ZI (as.map λ_=>c)=mkRat (as.length:Int) 1*c
 | []=>by
  rw[bz,ZI,bA,fE];show 0=((0:Int):Rat)*c;rw[show ((0:Int):Rat)=0 from rfl,Rat.zero_mul]
 | a :: as=>by
  rw[ao,ZI,J9 c as,aj,fE,fE,iy,Rat.intCast_add,Rat.add_mul,Rat.add_comm];show _=_+((1:Int):Rat)*c;rw[show ((1:Int):Rat)=1 from rfl,Rat.one_mul]
theorem wD:∀(cs:List (Str×Int)),(cs.map (·.1)).Nodup->∀c∈cs,cs.lookup c.1=some c.2
 | [],_,c,h=>by simp at h
 | a :: cs,hn,c,h=>by
  rw[ao,cj]at hn;rw[aA];rcases ah.mp h with rfl | h
  ·simp
  ·have hne:(c.1 == a.1)=false:=beq_eq_false_iff_ne.mpr λe=>hn.1 (e ▸ aC.mpr ⟨c,h,rfl⟩);rw[hne];exact wD cs hn.2 c h
theorem Qj (d:Nat)(hd:d ≠ 0):∀cs:List (Str×Int),ZI (cs.map λc=>mkRat c.2 d)=mkRat (wC cs) d
 | []=>by
  show (0:Rat)=mkRat 0 d;rw[Rat.zero_mkRat]
 | c :: cs=>by
  rw[ao,ZI,Qj d hd cs,Rat.mkRat_add_mkRat _ _ hd hd,ii (Nat.mul_ne_zero hd hd) hd];have:wC (c :: cs)=c.2+wC cs:=by simp[wC]
  rw[this,ck,← Int.add_mul,Int.mul_assoc]
theorem due:∀(d:Nat) (k:Kd),k.Ok d->Due k
 | 0,_,h=>h.elim
 | d+1,.whole lo hi,h=>by
  have h1:=h.2.1;show ZI _=1;rw[Kd.all,aV];have e:((Kd.whole lo hi).sh ∘ λ(i:Nat)=>T.int (lo+(i:Int)))=λ_=>mkRat 1 (hi+1 - lo).toNat:=by funext i;show Kd.sh _ _=_;rw[Kd.sh]
  rw[e,J9,be,fy,ij,bv];exact uO _ (by omega)
 | d+1,.pick cs,h=>by
  obtain⟨w1',w2',_⟩:=UR h;show ZI _=1;rw[Kd.all,aV];have e:∀c∈cs,((Kd.pick cs).sh ∘ λc=>T.str c.1) c=mkRat c.2 (wC cs).toNat:=λc hc=>by
   show (Kd.pick cs).sh (.str c.1)=_;rw[uN,wD cs h.2.2.2.nd c hc];rfl
  rw[ZY e,Qj _ (by omega),show wC cs=(((wC cs).toNat:Nat):Int) by omega]
  exact uO _ (by omega)
 | d+1,.row ks,h=>by
  have es:((Kd.row ks).sh ∘ T.tup)=Kd.shs ks:=by funext xs;show Kd.sh _ _=_;rw[Kd.sh]
  show ZI _=1;rw[Kd.all,Kd.alls_map,aV,es,JX ks λk hk=>due d k (h.2.2 k hk)]
 | d+1,.many k lo hi,h=>by
  have h1:=h.1;have hin:∀(m:Nat),ZI ((Wi (aa m k.all)).map (Kd.many k lo hi).sh)=mkRat 1 (hi+1 - lo):=λm=>by
   have er:aa m k.all=(aa m k).map Kd.all:=by rw[aS]
   have d1:=JX (aa m k) λa ha=>by rw[bh ha];exact due d k h.2.2
   rw[← er]at d1;have hl:∀xs∈Z4 [[]] (aa m k.all),xs.length=m:=λxs hx=>by
    have:=wA (aa m k.all) [[]] 0 (λa ha=>by rw[aG.mp ha];rfl) xs hx
    rw[aK]at this;omega
   show ZI (((Z4 [[]] _).map T.tup).map _)=_;rw[aV,ZY (f:=(Kd.many k lo hi).sh ∘ T.tup) (g:=λxs=>mkRat 1 (hi+1 - lo)*Kd.shs (aa m k) xs) (λxs hx=>by
    show Kd.sh _ _=_;rw[Kd.sh,W8,← hl xs hx,UQ]),Wa,d1,im]
  show ZI _=1;rw[Kd.all,JW,ZY (g:=λ_=>mkRat 1 (hi+1 - lo)) (λi _=>hin (lo+i)),J9,be,fy,ij,bv];exact uO _ (by omega)
theorem Qk {k:Kd}(hk:k.Ok 3):f_u [k.t]= .ok .non:=by
 have hi:=qK 3 k hk;show zu (b_u f_3 [.vl k.t])=_;rw[b_u,zw]
 ·rfl
 ·show ue (Jk (za 1 f_3 (z9 (vE 0) zj))) [.vl k.t]=_;rw[JL,Jf,zQ,v0,bOk,yx _ (wX 3 _ hi).so,hi];rfl
theorem Wb {k:Kd}(hk:k.Ok 3)(h5:k.all.length<=500):f_y [k.t]= .ok (.lst k.all):=by
 show zu (b_y f_u (f_1 20) (f_7 20) [.vl k.t,.un])=_;have e1:zJ 1 (za 1 (f_1 20) (z9 (vE 0) (zj))) [.vl k.t,.un]= .nx (en2 k.t (.int (k.all.length:Int))):=by
  rw[zN (t:= .int (k.all.length:Int))]
  ·rfl
  ·rw[zQ,v0,bOk,jm (by omega) hk]
 have e2:zF gtC (vB 1) (cE (.int 500)) (en2 k.t (.int (k.all.length:Int)))= .ok false:=by
  rw[zR,w1,bOk,Z0,bOk,XJ,decide_eq_false (by omega)]
 have er:ZC (vE 1) (en2 k.t (.int (k.all.length:Int)))= .ok (rng 0 k.all.length):=by
  rw[qV (j:=(k.all.length:Int)) rfl ⟨by omega,by omega⟩,bc]
 have ec:zG (zA 0) Z1 (za 2 (f_7 20) (z9 (vE 1) (z9 (vE 0) (zj)))) 1 [0] (en2 k.t (.int (k.all.length:Int))) (rng 0 k.all.length)= .ok ((rng 0 k.all.length).map λt=>match t with | .int i=>(k.all[i.toNat]?).getD .non | y=>y):=
  Z7 _ (by unfold rng;rw[ac,be];have:bnd=16777216:=rfl;omega) λt ht=>by
   unfold rng at ht;obtain⟨i,hi,rfl⟩:=aC.mp ht;obtain⟨x,hx⟩:=UB (bg.mp hi);show za 2 _ _ (en2 (.int ((0:Int)+(i:Int))) k.t)=R.ok ((k.all[((0:Int)+(i:Int)).toNat]?).getD .non);rw[show ((0:Int)+(i:Int))=(i:Int) by omega,zK,v1,bOk,v0,bOk,Gq hk hx,bc,hx]
   rfl
 have e3:GW (ZC (vE 1)) (zA 0) (Z1) (za 2 (f_7 20) (z9 (vE 1) (z9 (vE 0) (zj)))) 1 [0] (en2 k.t (.int (k.all.length:Int)))= .rf k.all:=by
  show ((ZC (vE 1) (en2 k.t (.int (k.all.length:Int)))).s λts=>(zG _ _ _ _ _ (en2 k.t (.int (k.all.length:Int))) ts).s λvs=>RS.rf vs)=_;rw[er,Zs,ec,Zs];exact congrArg RS.rf (all_map k)
 rw[b_y,zd (W3 (t:= .non) (by rw[zQ,v0,bOk,Qk hk])),zd e1,zd (zw e2),e3]
 rfl
theorem ua {r:Ru}(h:jv 3 r):gS [r.t]= .ok .non:=by
 show zu (z0g f_a [.vl r.t])=_;rw[z0g,zw]
 ·rfl
 ·have e:f_a [r.t]= .ok (.bl true):=by
   show zu (zE (za 2 (f_n 8) (z9 (vE 0) (z9 (cE (.int 3)) zj))) [.vl r.t])=_;rw[zr (t:= .bl true)]
   ·rfl
   ·show za 2 _ _ [.vl r.t]=_;rw[zK,v0,bOk,Z0,bOk];exact J4 8 3 (by omega) r h
  rw[JL,Jf,zQ,v0,bOk,e];rfl
theorem uP {k:Kd}(hk:k.Ok 3){x:T}(hx:k.has x=true):f_5 [k.t,x]= .ok (frT (k.sh x)):=by
 have hw:z0v [k.t,x]= .ok (.bl true):=by
  show zu (z0u f_u (f_e 20) (en2 k.t x))=_;rw[z0u,zd (W3 (t:= .non) (by rw[zQ,v0,bOk,Qk hk])),zr (t:= .bl true)]
  ·rfl
  ·show za 2 _ _ (en2 k.t x)=_;rw[zK,v0,bOk,v1,bOk,show f_e 20 [k.t,x]=_ from VE 3 20 (by omega) k x hk,hx]
 have hn:z0x [k.t,x]= .ok .non:=by
  show zu (z0w z0v (en2 k.t x))=_;rw[z0w,zw]
  ·rfl
  ·rw[JL,Jf,zK,v0,bOk,v1,bOk,hw];rfl
 show zu (b_5 z0x (f_6 20) (en2 k.t x))=_;rw[b_5,zd (W3 (t:= .non) (by rw[zK,v0,bOk,v1,bOk,hn])),zr (t:=frT (k.sh x))]
 ·rfl
 ·show za 2 _ _ (en2 k.t x)=_;rw[zK,v0,bOk,v1,bOk];exact(W9 3 20 (by omega) (by omega) k x hk hx).1
noncomputable abbrev sv (t:T)(rs ds us:List T):List (Str×Fd):=[("kind",.tv t),("remaining",.tl rs),("done",.tl ds),("undone",.tl us)]
noncomputable abbrev Rem (fs:List (Str×Fd))(rs:List T):Prop:=fs.lookup ("remaining":Str)=some (.tl rs)
theorem XV {rs:List T}{w:T}:atT (rs++[w]) (-1)= .ok w:=by
 have:atI (rs++[w]) (-1)=some w:=by
  unfold atI ixN;have hl:(rs++[w]).length=rs.length+1:=by simp
  rw[if_neg (by decide),if_pos (by omega),hl,show ((-1:Int)+((rs.length+1:Nat):Int)).toNat=rs.length by omega]
  show (rs++[w])[rs.length]? =some w;rw[aB (ai _),eU];rfl
 unfold atT;rw[this]
theorem z0D {j:Nat}{fs:List (Str×Fd)}{w:T}{rs:List T}{ρ:En}{os:List Ob}(h:obD 101 0 j ρ=some (0,fs,os))(hl:Rem fs (rs++[w])):ixF 101 0 j "remaining" (Wf (cE (.int 1))) ρ= .ok w:=by
 unfold ixF;rw[h];dsimp only;rw[show fs.lookup ("remaining":Str)=_ from hl];exact XV
noncomputable abbrev o1 (fs:List (Str×Fd)):En:=[.ob 101 0,.st [(101,fs)]]
theorem ob1 (fs:List (Str×Fd)):obD 101 0 1 (o1 fs)=some (0,fs,[(101,fs)]):=rfl
theorem z2j {f:En->R T}{fs:List (Str×Fd)}{t:T}(h:f (o1 fs)= .ok t):jY 101 1 (uf f (o1 fs))= .ok (t,fs):=by unfold uf;rw[h];rfl
theorem ub {fs:List (Str×Fd)}{rs ws:List T}(hl:Rem fs (rs++[.lst ws])):f_x fs []= .ok (.lst ws,fs):=by
 show jY 101 1 (uf (ap1 z21 (ixF 101 0 1 "remaining" (Wf (cE (.int 1))))) (o1 fs))=_;exact z2j (by rw[ZA,z0D (ob1 fs) hl];rfl)
theorem Ql {fs:List (Str×Fd)}{rs ws:List T}(hl:Rem fs (rs++[.lst ws])):f_r fs []= .ok (.int (ws.length:Int),fs):=by
 show jY 101 1 (uf (ap1 Zo (ixF 101 0 1 "remaining" (Wf (cE (.int 1))))) (o1 fs))=_;exact z2j (by rw[ZA,z0D (ob1 fs) hl];rfl)
theorem Qm {t:T}{rs ds us:List T}:Vx (sv t rs ds us) []= .ok (t,sv t rs ds us):=rfl
theorem V1 {t:T}{rs ds us:List T}:kx (sv t rs ds us) []= .ok (.lst ds,sv t rs ds us):=rfl
theorem XW {k:Kd}(hk:k.Ok 3)(h5:k.all.length<=500):Xm [] [k.t]= .ok (.non,sv k.t [.lst k.all] [] []):=by
 show jY 101 2 (z06 f_y [.ob 101 0,.vl k.t,.st [(101,[])]])=_;have e:z9 (za 1 f_y (z9 (vE 1) zj)) zj [.ob 101 0,.vl k.t,.st [(101,[("kind",.tv k.t)])]]= .ok [.lst k.all]:=by
  show ((za 1 f_y (z9 (vE 1) zj)) _).bind _=_;rw[zQ,v1,bOk,Wb hk h5];rfl
 have e2:Qy 101 0 2 "remaining" (z9 (za 1 f_y (z9 (vE 1) zj)) zj) [.ob 101 0,.vl k.t,.st [(101,[("kind",.tv k.t)])]]= .nx [.ob 101 0,.vl k.t,.st [(101,[("kind",.tv k.t),("remaining",.tl [.lst k.all])])]]:=by
  unfold Qy;rw[e];rfl
 unfold z06;show jY 101 2 (match Qy 101 0 2 "remaining" (z9 (za 1 f_y (z9 (vE 1) zj)) zj) [.ob 101 0,.vl k.t,.st [(101,[("kind",.tv k.t)])]] with
  | .nx ρ' =>_
  | .ex c=> .ex c
  | _=> .bad)=_
 rw[e2];rfl
noncomputable def Jv (b:Bool)(r:Ru)(ws:List T):List T:=ws.filter λx=>kp r x == b
noncomputable def dw (b:Bool):Str:=if b then "keep" else "bar"
noncomputable def stp (b:Bool)(r:Ru):T:= .tup [.str (dw b),r.t]
theorem kw (b:Bool):eqC (.str (dw b)) (.str "keep")= .ok b:=by cases b <;> rfl
theorem GA (a b:Bool):eqC (.bl a) (.bl b)= .ok (a == b):=by cases a <;> cases b <;> rfl
theorem z2k {i:Nat}{b:Bool}{r:Ru}{ρ:En}(h:vE i ρ= .ok (stp b r)):zb ixT (vE i) (cE (.int 0)) ρ= .ok (.str (dw b)):=ix0 h
theorem z2l {i:Nat}{b:Bool}{r:Ru}{ρ:En}(h:vE i ρ= .ok (stp b r)):zb ixT (vE i) (cE (.int 1)) ρ= .ok r.t:=ix1 h
theorem yF {b:Bool}{r:Ru}(hr:jv 3 r){ws:List T}(hw:∀x∈ws,W 2 x)(hl:ws.length<=bnd):gU [stp b r,.lst ws]= .ok (.lst (Jv b r ws)):=by
 show zu (z0p (f_k 8) [.vl (stp b r),.vl (.lst ws),.un])=_;have e1:zJ 2 (ZL eqC (zb ixT (vE 0) (cE (.int 0))) (cE (.str "keep"))) [.vl (stp b r),.vl (.lst ws),.un]= .nx [.vl (stp b r),.vl (.lst ws),.vl (.bl b)]:=by
  rw[zN (t:= .bl b)]
  ·rfl
  ·rw[Zl,z2k rfl,bOk,Z0,bOk,kw,bOk]
 have ec:zG (zA 0) (zF eqC (za 2 (f_k 8) (z9 (zb ixT (vE 1) (cE (.int 1))) (z9 (vE 0) (zj)))) (vB 2)) (vE 0) 1 [0,2] [.vl (stp b r),.vl (.lst ws),.vl (.bl b)] ws= .ok (Jv b r ws):=
  ZE _ hl λt ht=>⟨by
   show zF eqC _ _ [.vl t,.vl (stp b r),.vl (.bl b)]=_;rw[zR,zK,z2l (b:=b) rfl,bOk,v0,bOk,yE (hw t ht) hr,bOk];exact GA _ _,rfl⟩
 rw[z0p,zd e1,zr (t:= .lst (Jv b r ws))]
 ·rfl
 ·show zW _ _ _ _ _ _ [.vl (stp b r),.vl (.lst ws),.vl (.bl b)]=_;rw[zP,Zw,v1,bOk];show ((zG _ _ _ _ _ _ ws).bind _)=_;rw[ec,bOk]
theorem Qn {b:Bool}{r:Ru}{d:Nat}(hd:d<=3)(hr:jv d r){ws:List T}(hw:∀x∈ws,W 2 x)(hl:ws.length<=bnd):ku [.lst ws,stp b r]= .ok (.lst (Jv b r ws)):=by
 show zu (z0d (f_d 8) (en2 (.lst ws) (stp b r)))=_;have ec:zG (zA 0) (zF eqC (za 2 (f_d 8) (z9 (zb ixT (vE 1) (cE (.int 1))) (z9 (vE 0) (zj)))) (ZL eqC (zb ixT (vE 1) (cE (.int 0))) (cE (.str "keep")))) (vE 0) 1 [1] (en2 (.lst ws) (stp b r)) ws= .ok (Jv b r ws):=
  ZE _ hl λt ht=>⟨by
   show zF eqC _ _ (en2 t (stp b r))=_;have ek:f_d 8 [r.t,t]= .ok (.bl (kp r t)):=jp (by omega) (hw t ht) 8 d (by omega) r hr
   rw[zR,zK,z2l (b:=b) rfl,bOk,v0,bOk,ek,bOk,Zl,z2k (r:=r) rfl,bOk,Z0,bOk,kw,bOk,bOk,GA],rfl⟩
 rw[z0d,zr (t:= .lst (Jv b r ws))]
 ·rfl
 ·show zW _ _ _ _ _ _ (en2 (.lst ws) (stp b r))=_;rw[zP,Zw,v0,bOk];show ((zG _ _ _ _ _ _ ws).bind _)=_;rw[ec,bOk]
theorem GB {k i j n:Nat}{f:Str}{fa:En->R T}{ρ:En}{fs:List (Str×Fd)}{os:List Ob}{ts:List T}{t:T}(h:obD k i j ρ=some (n,fs,os))(hl:fs.lookup f=some (.tl ts))(hf:fa ρ= .ok t)(hb:ts.length < bnd):kh k i j f fa ρ= .nx (ρ.set j (.st (os.set n (k,Ug f (.tl (ts++[t])) fs)))):=by
 unfold kh;rw[h];dsimp only;rw[hl];dsimp only;rw[hf,Zs,if_pos hb]
theorem uc {k i j n nn:Nat}{m:Str}{g:List (Str×Fd)->List T->R (T×List (Str×Fd))}{ga:En->R (List T)}{ρ:En}{fs fs' :List (Str×Fd)}{os:List Ob}{ts:List T}{t:T}(h:obD k i j ρ=some (n,fs,os))(hm:fs.lookup m=none)(ha:ga ρ= .ok ts)(hn:ts.length=nn)(hg:g fs ts= .ok (t,fs')):j4 k i j m nn g ga ρ= .ok (t,ρ.set j (.st (os.set n (k,fs')))):=by
 unfold j4;rw[h];dsimp only;rw[hm,if_pos (show (none:Option Fd).isNone=true from rfl),ha,bOk,if_pos hn,hg];rfl
theorem jF {t:T}{rs ds us:List T}(m:Str)(h:(m == ("kind":Str) || (m == ("remaining":Str) || (m == ("done":Str) || m == ("undone":Str))))=false):(sv t rs ds us).lookup m=none:=by
 simp only[fk]at h;obtain⟨a,b,c,d⟩:=h;simp only[sv,aA,a,b,c,d];rfl
theorem jq {f:En->RS}{g:En->R (T×En)}{ρ ρ' :En}(h:f ρ= .nx ρ'):jC f g ρ=g ρ' :=by unfold jC;rw[h]
theorem V2 {f g:En->R T}{ρ:En}{x y:T}(hf:f ρ= .ok x)(hg:g ρ= .ok y):z9 f (z9 g zj) ρ= .ok [x,y]:=by
 show ((f ρ).bind λt=>((z9 g zj) ρ).bind λts=> .ok (t :: ts))=_;rw[hf,bOk];show ((g ρ).bind λt=>(R.ok []).bind λts=>R.ok (t :: ts)).bind _=_;rw[hg];rfl
theorem XX {f:En->R T}{ρ:En}{x:T}(hf:f ρ= .ok x):z9 f zj ρ= .ok [x]:=by
 show ((f ρ).bind λt=>(R.ok []).bind λts=>R.ok (t :: ts))=_;rw[hf];rfl
theorem XY {b:Bool}{r:Ru}{a c s:Sl}:z9 (Zh (z9 (vE 1) (z9 (vE 2) zj))) zj [a,.vl (.str (dw b)),.vl r.t,c,s]= .ok [stp b r]:=rfl
theorem GC {y:T}{a c:Sl}:z9 (cE (.str "keep")) (z9 (vE 1) zj) [a,.vl y,c]= .ok [.str (dw true),y]:=by
 rw[show dw true="keep" from if_pos rfl];rfl
theorem z2m {y:T}{a c:Sl}:z9 (cE (.str "bar")) (z9 (vE 1) zj) [a,.vl y,c]= .ok [.str (dw false),y]:=by
 rw[show dw false="bar" from if_neg au];rfl
theorem ob2 {a:Sl}(fs:List (Str×Fd)):obD 101 0 2 [.ob 101 0,a,.st [(101,fs)]]=some (0,fs,[(101,fs)]):=rfl
theorem ob4 {a b c:Sl}(fs:List (Str×Fd)):obD 101 0 4 [.ob 101 0,a,b,c,.st [(101,fs)]]=some (0,fs,[(101,fs)]):=rfl
theorem z2n (fs:List (Str×Fd))(x:T):kv fs [x]=jY 101 2 (z0q gU [.ob 101 0,.vl x,.st [(101,fs)]]):=rfl
theorem GD (fs:List (Str×Fd))(x y:T):f_t fs [x,y]=jY 101 4 (b_t gS f_r kv [.ob 101 0,.vl x,.vl y,.un,.st [(101,fs)]]):=rfl
theorem XZ (fs:List (Str×Fd))(x:T):gW fs [x]=jY 101 2 (j4 101 0 2 "new_step" 2 f_t (z9 (cE (.str "keep")) (z9 (vE 1) zj)) [.ob 101 0,.vl x,.st [(101,fs)]]):=rfl
theorem GE (fs:List (Str×Fd))(x:T):gX fs [x]=jY 101 2 (j4 101 0 2 "new_step" 2 f_t (z9 (cE (.str "bar")) (z9 (vE 1) zj)) [.ob 101 0,.vl x,.st [(101,fs)]]):=rfl
theorem GF (fs:List (Str×Fd))(x:T):vK fs [x]=jY 101 2 (z0r gW gX [.ob 101 0,.vl x,.st [(101,fs)]]):=rfl
theorem z0E (fs:List (Str×Fd))(x t:T):jY 101 2 (.ok (t,[.ob 101 0,.vl x,.st [(101,fs)]]))= .ok (t,fs):=rfl
theorem VN {j:Nat}{ρ:En}{fs:List (Str×Fd)}{rs ws:List T}{os:List Ob}(h:obD 101 0 j ρ=some (0,fs,os))(hm:fs.lookup ("left":Str)=none)(hl:Rem fs (rs++[.lst ws])):j4 101 0 j "left" 0 f_r zj ρ= .ok (.int (ws.length:Int),ρ.set j (.st (os.set 0 (101,fs)))):=uc h hm rfl rfl (Ql hl)
section
variable {k:Kd}{t:T}{rs ds us ws:List T}{b:Bool}{r:Ru}
noncomputable abbrev sv' (t:T)(rs ds us ws:List T)(b:Bool)(r:Ru):List (Str×Fd):=sv t ((rs++[.lst ws])++[.lst (Jv b r ws)]) (ds++[stp b r]) us
theorem z2o (hr:jv 3 r)(hw:∀x∈ws,W 2 x)(hl:ws.length<=1000)(h1:rs.length<=1000)(h2:ds.length<=1000):kv (sv t (rs++[.lst ws]) ds us) [stp b r]= .ok (.non,sv' t rs ds us ws b r):=by
 have hb:bnd=16777216:=rfl;rw[z2n];have e1:=GB (k:=101) (i:=0) (j:=2) (f:="remaining") (fa:=za 2 gU (z9 (vE 1) (z9 (ixF 101 0 2 "remaining" (Wf (cE (.int 1)))) (zj)))) (ρ:=[.ob 101 0,.vl (stp b r),.st [(101,sv t (rs++[.lst ws]) ds us)]]) (t:= .lst (Jv b r ws)) rfl rfl
  (by rw[zK,v1,bOk,z0D (rs:=rs) (w:= .lst ws) rfl rfl,bOk,yF hr hw (by omega)]) (by rw[av,aF];omega)
 have e2:=GB (k:=101) (i:=0) (j:=2) (f:="done") (fa:=vE 1) (ρ:=[.ob 101 0,.vl (stp b r),.st [(101,sv t ((rs++[.lst ws])++[.lst (Jv b r ws)]) ds us)]]) (ts:=ds) (t:=stp b r) rfl rfl rfl (by omega)
 unfold z0q;rw[jq e1];show jY 101 2 (jC _ _ [.ob 101 0,.vl (stp b r),.st [(101,sv t ((rs++[.lst ws])++[.lst (Jv b r ws)]) ds us)]])=_;rw[jq e2];rfl
theorem VO (hr:jv 3 r)(hw:∀x∈ws,W 2 x)(hl:ws.length<=1000)(h1:rs.length<=1000)(h2:ds.length<=1000):f_t (sv t (rs++[.lst ws]) ds us) [.str (dw b),r.t]= .ok (.int ((ws.length:Int) - ((Jv b r ws).length:Int)),sv' t rs ds [] ws b r):=by
 rw[GD];have e1:WB (za 1 gS (z9 (vE 2) zj)) [.ob 101 0,.vl (.str (dw b)),.vl r.t,.un,.st [(101,sv t (rs++[.lst ws]) ds us)]]= .nx [.ob 101 0,.vl (.str (dw b)),.vl r.t,.un,.st [(101,sv t (rs++[.lst ws]) ds us)]]:=W3 (t:= .non) (by rw[zQ];exact ua hr)
 have e2:seM 3 (j4 101 0 4 "left" 0 f_r zj) [.ob 101 0,.vl (.str (dw b)),.vl r.t,.un,.st [(101,sv t (rs++[.lst ws]) ds us)]]= .nx [.ob 101 0,.vl (.str (dw b)),.vl r.t,.vl (.int (ws.length:Int)),.st [(101,sv t (rs++[.lst ws]) ds us)]]:=by
  unfold seM;rw[VN (rs:=rs) (ws:=ws) (ob4 _) (jF _ (by decide+kernel)) rfl];rfl
 have d0:=z2o (t:=t) (rs:=rs) (ds:=ds) (ws:=ws) (b:=b) (us:=us) hr hw hl h1 h2;have m1:(sv t (rs++[.lst ws]) ds us).lookup ("do_step":Str)=none:=jF _ (by decide+kernel)
 have m:=uc (nn:=1) (ob4 (a:= .vl (.str (dw b))) (b:= .vl r.t) (c:= .vl (.int (ws.length:Int))) (sv t (rs++[.lst ws]) ds us)) m1 XY rfl d0;have e3:drM (j4 101 0 4 "do_step" 1 kv (z9 (Zh (z9 (vE 1) (z9 (vE 2) (zj)))) (zj))) [.ob 101 0,.vl (.str (dw b)),.vl r.t,.vl (.int (ws.length:Int)),.st [(101,sv t (rs++[.lst ws]) ds us)]]= .nx [.ob 101 0,.vl (.str (dw b)),.vl r.t,.vl (.int (ws.length:Int)),.st [(101,sv' t rs ds us ws b r)]]:=by
  unfold drM;rw[m];rfl
 have e4:Qy 101 0 4 "undone" zj [.ob 101 0,.vl (.str (dw b)),.vl r.t,.vl (.int (ws.length:Int)),.st [(101,sv' t rs ds us ws b r)]]= .nx [.ob 101 0,.vl (.str (dw b)),.vl r.t,.vl (.int (ws.length:Int)),.st [(101,sv' t rs ds [] ws b r)]]:=by
  unfold Qy;rw[ob4];rfl
 unfold b_t;rw[jq e1,jq e2,jq e3,jq e4];unfold z23 uf;have ev:vE 3 [.ob 101 0,.vl (.str (dw b)),.vl r.t,.vl (.int (ws.length:Int)),.st [(101,sv' t rs ds [] ws b r)]]= .ok (.int (ws.length:Int)):=rfl;rw[ev,bOk,bOk];dsimp only;rw[VN (fs:=sv' t rs ds [] ws b r) (rs:=rs++[.lst ws]) (ws:=Jv b r ws) (ob4 _) (jF _ (by decide+kernel)) rfl]
 rfl
theorem k0 (hr:jv 3 r)(hw:∀x∈ws,W 2 x)(hl:ws.length<=1000)(h1:rs.length<=1000)(h2:ds.length<=1000):gW (sv t (rs++[.lst ws]) ds us) [r.t]= .ok (.int ((ws.length:Int) - ((Jv true r ws).length:Int)),sv' t rs ds [] ws true r):=by
 have d0:=VO (t:=t) (rs:=rs) (ds:=ds) (ws:=ws) (b:=true) (us:=us) hr hw hl h1 h2;have m1:(sv t (rs++[.lst ws]) ds us).lookup ("new_step":Str)=none:=jF _ (by decide+kernel)
 rw[XZ,uc (nn:=2) (ob2 _) m1 GC rfl d0];exact z0E _ _ _
theorem GG (hr:jv 3 r)(hw:∀x∈ws,W 2 x)(hl:ws.length<=1000)(h1:rs.length<=1000)(h2:ds.length<=1000):gX (sv t (rs++[.lst ws]) ds us) [r.t]= .ok (.int ((ws.length:Int) - ((Jv false r ws).length:Int)),sv' t rs ds [] ws false r):=by
 have d0:=VO (t:=t) (rs:=rs) (ds:=ds) (ws:=ws) (b:=false) (us:=us) hr hw hl h1 h2;have m1:(sv t (rs++[.lst ws]) ds us).lookup ("new_step":Str)=none:=jF _ (by decide+kernel)
 rw[GE,uc (nn:=2) (ob2 _) m1 z2m rfl d0];exact z0E _ _ _
theorem GH (hr:jv 3 r)(hw:∀x∈ws,W 2 x)(hl:ws.length<=1000)(h1:rs.length<=1000)(h2:ds.length<=1000):vK (sv t (rs++[.lst ws]) ds us) [stp b r]= .ok (.int ((ws.length:Int) - ((Jv b r ws).length:Int)),sv' t rs ds [] ws b r):=by
 have a1:z9 (zb ixT (vE 1) (cE (.int 1))) zj [.ob 101 0,.vl (stp b r),.st [(101,sv t (rs++[.lst ws]) ds us)]]= .ok [r.t]:=XX (z2l (b:=b) rfl);have mk:(sv t (rs++[.lst ws]) ds us).lookup ("keep":Str)=none:=jF _ (by decide+kernel)
 have mb:(sv t (rs++[.lst ws]) ds us).lookup ("bar":Str)=none:=jF _ (by decide+kernel)
 rw[GF];unfold z0r z26;rw[zR,z2k (b:=b) (r:=r) rfl,bOk,Z0,bOk,kw,bOk];cases b with
 | true=>rw[if_pos rfl,uc (nn:=1) (ob2 _) mk a1 rfl (k0 (us:=us) hr hw hl h1 h2)];exact z0E _ _ _
 | false=>rw[if_neg au,uc (nn:=1) (ob2 _) mb a1 rfl (GG (us:=us) hr hw hl h1 h2)];exact z0E _ _ _
end
theorem k3 {k:Kd}(hk:k.Ok 3){x:T}(hx:k.has x=true):f_6 20 [k.t,x]= .ok (frT (k.sh x))/\Bd (k.sh x) 91:=W9 3 20 (by omega) (by omega) k x hk hx
theorem z2p {k:Kd}(hk:k.Ok 3){ws:List T}(hw:∀x∈ws,k.has x=true)(hl:ws.length<=60):z0b [k.t,.lst ws]= .ok (frT (ZI (ws.map k.sh))):=by
 show zu (z0a f_i (f_6 20) (en2 k.t (.lst ws)))=_;have ec:zG (zA 0) Z1 (za 2 (f_6 20) (z9 (vE 1) (z9 (vE 0) (zj)))) 1 [0] (en2 k.t (.lst ws)) ws= .ok (ws.map λx=>frT (k.sh x)):=
  Z7 _ (aq hl (by decide)) λt ht=>by
   show za 2 _ _ (en2 t k.t)=_;rw[zK,v1,bOk,v0,bOk,(k3 hk (hw t ht)).1]
 unfold z0a;rw[zr (t:=frT (ZI (ws.map k.sh)))]
 ·rfl
 ·show za 1 _ _ (en2 k.t (.lst ws))=_;rw[zQ,zP,Zw,v1,bOk];show ((zG _ _ _ _ _ _ ws).bind _).bind _=_;rw[ec,bOk,bOk];have:=uM (qs:=ws.map k.sh) (m:=91) (λq hq=>by obtain⟨x,hx,rfl⟩:=aC.mp hq;exact(k3 hk (hw x hx)).2) (by rw[ac];omega)
  rw[aV]at this;exact this
theorem Qo {k:Kd}(hk:k.Ok 3){fs:List (Str×Fd)}{rs ws:List T}(h0:fs.lookup ("kind":Str)=some (.tv k.t))(h:Rem fs (rs++[.lst ws]))(hw:∀x∈ws,k.has x=true)(hl:ws.length<=60):Xn fs []= .ok (frT (ZI (ws.map k.sh)),fs):=by
 show jY 101 1 (uf (za 2 z0b (z9 (ki 101 0 1 "kind") (z9 (ixF 101 0 1 "remaining" (Wf (cE (.int 1)))) (zj)))) (o1 fs))=_;refine z2j ?_;have e:ki 101 0 1 "kind" (o1 fs)= .ok k.t:=by
  show (match fs.lookup ("kind":Str) with | some (.tv t)=>R.ok t | _=> .bad)=_
  rw[h0]
 rw[zK,e,bOk,z0D (ob1 fs) h,bOk,z2p hk hw hl]
theorem Qp {q:Rat}:0<=q↔0<=q.num:=Rat.num_nonneg.symm
theorem k6 {u:Int}{d:Nat}(h:0<=u)(hd:1<=d):0<=mkRat u d:=by
 rw[Qp,(XQ u d hd).1];exact Int.ediv_nonneg h (by omega)
theorem uQ:∀qs:List Rat,(∀q∈qs,0<=q)->0<=ZR qs
 | [],_=>by decide
 | q :: qs,h=>by
  rw[ZR];exact Rat.mul_nonneg (h q ad) (uQ qs λa ha=>h a (a9 _ ha))
theorem k7:∀(d:Nat) (k:Kd) (x:T),k.Ok d->k.has x=true->0<=k.sh x
 | 0,_,_,h,_=>h.elim
 | d+1,.whole lo hi,x,h,hx=>by have:=h.2.1;rw[Kd.sh];exact k6 (by decide) (by omega)
 | d+1,.pick cs,x,h,hx=>by
  obtain⟨w1',_,w3⟩:=UR h;rw[Kd.sh];cases x with
  | str x=>
   have hx' :(cs.any λc=>c.1 == x)=true:=by rw[Kd.has]at hx;exact hx
   obtain⟨i,e,hm⟩:=J7 cs x hx';refine k6 ?_ (by omega)
   rw[e];exact fX (by decide) (w3 _ hm).1
  | _=>rw[Kd.has]at hx;cases hx
 | d+1,.row ks,x,h,hx=>by
  cases x with
  | tup xs=>
   have hx' :(xs.length == ks.length && Kd.hass ks xs)=true:=by rw[Kd.has]at hx;exact hx
   rw[ae,beq_iff_eq,Jq,aL]at hx';rw[Kd.sh];show 0<=Kd.shs ks xs;rw[W8];exact uQ _ λq hq=>by
    obtain⟨p,hp,rfl⟩:=aC.mp hq;exact k7 d p.1 p.2 (h.2.2 p.1 (bG hp).1) (hx'.2 p hp)
  | _=>rw[Kd.has]at hx;cases hx
 | d+1,.many k lo hi,x,h,hx=>by
  cases x with
  | tup xs=>
   have hx' :(decide (lo<=xs.length) && decide (xs.length<=hi) && xs.all k.has)=true:=by rw[Kd.has]at hx;exact hx
   rw[ae,aL]at hx';have:=h.1;rw[Kd.sh];exact Rat.mul_nonneg (k6 (by decide) (by omega)) (uQ _ λq hq=>by
    obtain⟨p,hp,rfl⟩:=aC.mp hq;exact k7 d k p h.2.2 (hx'.2 p hp))
  | _=>rw[Kd.has]at hx;cases hx
noncomputable abbrev lpB:En->RS:=uw 4 5 (z9 (vE 5) (z9 (zb j5 (vE 4) (vE 5)) (zj)))
theorem Qq {a b c d:Sl}:∀(n y x:Nat),y < n->Zv (zF neC (vB 5) (cE (.int 0))) lpB n [a,b,c,d,.vl (.int (x:Int)),.vl (.int (y:Int))]= .nx [a,b,c,d,.vl (.int ((d5 x y:Nat):Int)),.vl (.int 0)]
 | 0,y,x,h=>by omega
 | n+1,0,x,h=>by
  rw[u7 (show zF neC (vB 5) (cE (.int 0)) [a,b,c,d,.vl (.int (x:Int)),.vl (.int ((0:Nat):Int))]= .ok false from vZ),fK];rfl
 | n+1,y+1,x,h=>by
  have e:lpB [a,b,c,d,.vl (.int (x:Int)),.vl (.int ((y+1:Nat):Int))]= .nx [a,b,c,d,.vl (.int ((y+1:Nat):Int)),.vl (.int ((x % (y+1):Nat):Int))]:=by
   show uw 4 5 _ _=_;unfold uw;rw[V2 (x:= .int ((y+1:Nat):Int)) (y:= .int ((x % (y+1):Nat):Int)) rfl (by rw[zt,v4',bOk,v5',bOk,modn (by omega)])];rfl
  have hlt:x % (y+1) < n:=by have:=fJ x (show y+1 > 0 by omega);omega
  rw[UN (show zF neC (vB 5) (cE (.int 0)) [a,b,c,d,.vl (.int (x:Int)),.vl (.int ((y+1:Nat):Int))]= .ok true from vZ) e,Qq n (x % (y+1)) (y+1) hlt,dq (y+1),← Nat.gcd_rec,dq]
theorem V3 {p q:Rat}{m n:Nat}(h:Bd p m)(k:Bd q n)(hm:m+n < 8000)(hp:0<=p)(hq:0<=q):z0t [frT p,frT q]= .ok (frT (p+q)):=by
 have hp' :=Qp.mp hp;have hq' :=Qp.mp hq;obtain⟨u,hu⟩:=bZ (show 0<=p.num*(q.den:Int)+q.num*(p.den:Int) from Int.add_nonneg (Int.mul_nonneg hp' (by omega)) (Int.mul_nonneg hq' (by omega)))
 have hd:1<=p.den*q.den:=bT (QD p) (QD q);have h9:p.den*q.den < 2 ^ 9000:=lt9 (m:=m+n) (by rw[cT];exact aW h.den k.den) (by omega)
 have g1:1<=d5 u (p.den*q.den):=dZ _ hd;have g9:d5 u (p.den*q.den) < 2 ^ 9000:=bf (ie _ hd) h9;obtain⟨m1,m2⟩:=XQ (u:Int) (p.den*q.den) hd;rw[cg]at m1 m2;have hs:p+q=mkRat (u:Int) (p.den*q.den):=by rw[← hu];exact f_ p q
 show zu (z0s [.vl (frT p),.vl (frT q),.un,.un,.un,.un])=_;have e0:∀{a b c d:Sl},vE 0 [.vl (frT p),.vl (frT q),a,b,c,d]= .ok (.tup [.int p.num,.int p.den]):=rfl;have e1:∀{a b c d:Sl},vE 1 [.vl (frT p),.vl (frT q),a,b,c,d]= .ok (.tup [.int q.num,.int q.den]):=rfl;have r1:uw 2 3 (z9 (zb zD (zb mlT (zb ixT (vE 0) (cE (.int 0))) (zb ixT (vE 1) (cE (.int 1)))) (zb mlT (zb ixT (vE 1) (cE (.int 0))) (zb ixT (vE 0) (cE (.int 1))))) (z9 (zb mlT (zb ixT (vE 0) (cE (.int 1))) (zb ixT (vE 1) (cE (.int 1)))) (zj))) [.vl (frT p),.vl (frT q),.un,.un,.un,.un]= .nx [.vl (frT p),.vl (frT q),.vl (.int (u:Int)),.vl (.int ((p.den*q.den:Nat):Int)),.un,.un]:=by
  unfold uw;rw[V2 (x:= .int (u:Int)) (y:= .int ((p.den*q.den:Nat):Int)) (by
   rw[Gy (u8 (ix0 e0) (ix1 e1) h.num (nd _ k.den) (by omega) (by omega)) (u8 (ix0 e1) (ix1 e0) k.num (nd _ h.den) (by omega) (by omega)),hu]) (by
   rw[u8 (ix1 e0) (ix1 e1) (nd _ h.den) (nd _ k.den) (by omega) (by omega),← ck])];rfl
 unfold z0s;rw[zd r1,zd (show uw 4 5 (z9 (vE 2) (z9 (vE 3) (zj))) [.vl (frT p),.vl (frT q),.vl (.int (u:Int)),.vl (.int ((p.den*q.den:Nat):Int)),.un,.un]= .nx [.vl (frT p),.vl (frT q),.vl (.int (u:Int)),.vl (.int ((p.den*q.den:Nat):Int)),.vl (.int (u:Int)),.vl (.int ((p.den*q.den:Nat):Int))] from rfl),zd (Qq _ _ _ h9),zr (t:=frT (p+q))]
 ·rfl
 ·rw[hs];unfold frT;rw[m1,m2];exact uh (UO g1 g9) (UO g1 g9)
theorem k8 (ns:List Int)(a:Int)(ha:0<=a):∃(b:Bool) (r:Ru),jv 2 r/\ko [scr ns,.int a]= .ok (stp b r):=by
 obtain⟨p,hp,p0,p2⟩:=zU ns a 2 ha (by decide)
 obtain⟨r,hr,ok⟩:=W7 ns 8 2 (by omega) (by omega) (4*a+30) (by omega)
 refine⟨decide (p=0),r,ok, ?_⟩;show zu (z0c f_2 (f_m 8) (en2 (scr ns) (.int a)))=_;unfold z0c;rw[zr (t:=stp (decide (p=0)) r)]
 ·rfl
 ·show Zh _ (en2 (scr ns) (.int a))=_;refine uh ?_ ?_
  ·rw[zt];show (za 3 f_2 _ (en2 (scr ns) (.int a))).bind (ixT (.lst [.str "keep",.str "bar"]))=_;rw[show za 3 f_2 (z9 (vE 0) (z9 (vE 1) (z9 (cE (.int 2)) zj))) (en2 (scr ns) (.int a))=f_2 [scr ns,.int a,.int 2] from rfl,hp,bOk];have:p=0\/p=1:=by omega
   rcases this with rfl | rfl <;> rfl
  ·rw[Zq,v0,bOk,zt,zt,Z0,bOk,v1,bOk,uG _ _ (.inl ⟨by decide,by decide⟩),bOk,Z0,bOk]
   show (R.ok _).bind _=_;rw[bOk];exact hr
theorem k9:∀(d:Nat) (k:Kd),k.Ok d->Pl (2*d+2) k.t
 | 0,_,h=>h.elim
 | d+1,.whole lo hi,h=>λx hx=>by
  rw[show 2*(d+1)+1=(2*d+2)+1 by omega]
  simp only[ah,aM,or_false]at hx;rcases hx with rfl | rfl | rfl <;> trivial
 | d+1,.pick cs,h=>λx hx=>by
  simp only[ah,aM,or_false]at hx;rcases hx with rfl | rfl
  ·trivial
  ·intro y hy;obtain⟨c,_,rfl⟩:=aC.mp hy;rw[show 2*(d+1)=2*d+1+1 by omega]
   intro z hz;simp only[ah,aM,or_false]at hz;rcases hz with rfl | rfl <;> trivial
 | d+1,.row ks,h=>λx hx=>by
  have hx:x= .str "row"\/x= .tup (Kd.ts ks):=by simpa using hx
  rcases hx with rfl | rfl
  ·trivial
  ·intro y hy;rw[Kd.ts_map]at hy;obtain⟨q,hq,rfl⟩:=aC.mp hy;exact(k9 d q (h.2.2 q hq)).le (by omega)
 | d+1,.many k lo hi,h=>λx hx=>by
  have hx:x= .str "many"\/x=k.t\/x= .int lo\/x= .int hi:=by simpa using hx
  rcases hx with rfl | rfl | rfl | rfl
  ·trivial
  ·exact(k9 d k h.2.2).le (by omega)
  ·trivial
  ·trivial
theorem z2q {d:Nat}{r:Ru}(h:jv d r):Pl (d+1) r.t:=by
 induction h with
 | sum _ _=>intro x hx;simp only[ah,aM,or_false]at hx;rcases hx with rfl | rfl | rfl <;> trivial
 | size _ _=>intro x hx;simp only[ah,aM,or_false]at hx;rcases hx with rfl | rfl | rfl <;> trivial
 | word _=>intro x hx;simp only[ah,aM,or_false]at hx;rcases hx with rfl | rfl <;> trivial
 | rising=>intro x hx;simp only[ah,aM,or_false]at hx;subst hx;trivial
 | unlike=>intro x hx;simp only[ah,aM,or_false]at hx;subst hx;trivial
 | no _ ih=>intro x hx;simp only[ah,aM,or_false]at hx;rcases hx with rfl | rfl;trivial;exact ih
 | all _ _ i1 i2=>intro x hx;simp only[ah,aM,or_false]at hx;rcases hx with rfl | rfl | rfl;trivial;exact i1;exact i2
 | some _ _ i1 i2=>intro x hx;simp only[ah,aM,or_false]at hx;rcases hx with rfl | rfl | rfl;trivial;exact i1;exact i2
theorem GI {b:Bool}{r:Ru}(h:jv 2 r):Pl 29 (stp b r):=λx hx=>by
 simp only[ah,aM,or_false]at hx;rcases hx with rfl | rfl
 ·trivial
 ·exact(z2q h).le (show 2+1<=28 by decide)
theorem GJ (q:Rat):Pl 30 (frT q):=λx hx=>by
 simp only[ah,aM,or_false]at hx;rcases hx with rfl | rfl <;> trivial
noncomputable abbrev ls (ns:List Int)(t:T)(ws ds:List T)(a b c d e:Sl)(fs:List (Str×Fd)):En:=[.vl (scr ns),.vl t,.ob 101 0,.vl (.lst ws),.vl (.lst ds),a,b,c,d,e,.un,.st [(101,fs)]]
section
variable {ns:List Int}{t:T}{ws ds:List T}{a b c d e:Sl}{fs fs' :List (Str×Fd)}
theorem obl:obD 101 2 11 (ls ns t ws ds a b c d e fs)=some (0,fs,[(101,fs)]):=rfl
theorem uR {m:Str}{g:List (Str×Fd)->List T->R (T×List (Str×Fd))}{f:En->R T}{x:T}(hm:fs.lookup m=none)(hg:g fs []= .ok (x,fs))(hf:f (ls ns t ws ds a b c d e fs)= .ok x)(hx:Pl 30 x):Jc neC (j4 101 2 11 m 0 g zj) f (ls ns t ws ds a b c d e fs)= .ok (false,ls ns t ws ds a b c d e fs):=by
 unfold Jc;rw[uc (nn:=0) (ts:=[]) (ga:=zj) obl hm rfl rfl hg,bOk];show (f (ls ns t ws ds a b c d e fs)).bind _=_;rw[hf,bOk,XI hx];rfl
theorem V4 {f g:En->R (Bool×En)}{ρ ρ' :En}{r:R (Bool×En)}(h:f ρ= .ok (false,ρ'))(h' :g ρ' =r):PV.orM f g ρ=r:=by
 unfold PV.orM;rw[h,bOk];exact h'
theorem UT {ga:En->R (Bool×En)}{f:En->RS}{ρ ρ' :En}(h:ga ρ= .ok (false,ρ')):ifM ga f nxS ρ= .nx ρ' :=by
 unfold ifM;rw[h,Zs];rfl
end
structure St (k:Kd) (j:Nat) (ws ds:List T) (rs:List T):Prop where
 has:∀x∈ws,k.has x=true
 len:ws.length<=60
 rl:rs.length<=j
 dl:ds.length<=j
 dp:∀x∈ds,Pl 29 x
theorem St.w {k:Kd}(hk:k.Ok 3){j:Nat}{ws ds rs:List T}(h:St k j ws ds rs):∀x∈ws,W 2 x:=λx hx=>z2d 2 k x hk (h.has x hx)
theorem St.pl {k:Kd}(hk:k.Ok 3){j:Nat}{ws ds rs:List T}(h:St k j ws ds rs):Pl 30 (.lst ws):=λx hx=>(h.w hk x hx).pl.le (show 2+1<=29 by decide)
theorem St.on {k:Kd}{j:Nat}{ws ds rs:List T}(h:St k j ws ds rs)(b:Bool){r:Ru}(hr:jv 2 r):St k (j+1) (Jv b r ws) (ds++[stp b r]) (rs++[.lst ws]) where
 has:=λx hx=>h.has x (eW.mp hx).1
 len:=aq (List.length_filter_le _ _) h.len
 rl:=by rw[av,aF];have:=h.rl;omega
 dl:=by rw[av,aF];have:=h.dl;omega
 dp:=λx hx=>by
  rcases cO.mp hx with z | z
  ·exact h.dp x z
  ·rw[aG.mp z];exact GI hr
noncomputable abbrev duB:En->RS:=zJ 8 (za 2 z0t (z9 (vE 8) (z9 (za 2 f_5 (z9 (vE 1) (z9 (vE 9) (zj)))) (zj))))
theorem UU {k:Kd}(hk:k.Ok 3){ns:List Int}{ws ds:List T}{a b c:Sl}{fs:List (Str×Fd)}:∀(xs:List T) (p:Rat) (n:Nat) (e:Sl),(∀x∈xs,k.has x=true)->Bd p n->0<=p->n+xs.length*92 < 7900->
  ∃e',ZD (zA 9) duB xs (ls ns k.t ws ds a b c (.vl (frT p)) e fs)= .nx (ls ns k.t ws ds a b c (.vl (frT (p+ZI (xs.map k.sh)))) e' fs)
 | [],p,n,e,_,_,_,_=>⟨e,by rw[bz,ZI,g7];rfl⟩
 | x :: xs,p,n,e,hx,hp,h0,hn=>by
  have hx0:=hx x ad;have hb:=(k3 hk hx0).2;have hs:=k7 3 k x hk hx0;rw[aj]at hn;obtain⟨e',h⟩:=UU hk (ns:=ns) (ws:=ws) (ds:=ds) (a:=a) (b:=b) (c:=c) (fs:=fs) xs (p+k.sh x) (n+91+1) (.vl x) (λy hy=>hx y (a9 _ hy)) (hp.add hb) (Rat.add_nonneg h0 hs) (by omega)
  refine⟨e', ?_⟩;have e1:duB (ls ns k.t ws ds a b c (.vl (frT p)) (.vl x) fs)= .nx (ls ns k.t ws ds a b c (.vl (frT (p+k.sh x))) (.vl x) fs):=by
   show zJ 8 _ _=_;rw[zN (t:=frT (p+k.sh x))]
   ·rfl
   ·rw[zK,show vE 8 (ls ns k.t ws ds a b c (.vl (frT p)) (.vl x) fs)= .ok (frT p) from rfl,bOk,zK,v1,bOk,show vE 9 (ls ns k.t ws ds a b c (.vl (frT p)) (.vl x) fs)= .ok x from rfl,bOk,uP hk hx0,bOk,V3 hp hb (by omega) h0 hs]
  rw[ji (ρ1:=ls ns k.t ws ds a b c (.vl (frT p)) (.vl x) fs) rfl e1,h,ao,ZI,fD]
noncomputable abbrev ka:En->RS:=ifS (zF eqC (vB 5) (cE (.int 1))) (zz (zJ 8 (Zh (z9 (cE (.int 0)) (z9 (cE (.int 1)) (zj)))))
  (zz (ZV (ZJ (vE 3)) (zA 9) duB)
  (ifM (Jc neC (j4 101 2 11 "part" 0 Xn zj) (vB 8)) (zE (cE (.bl false))) (nxS)))) (nxS)
noncomputable abbrev V5:En->RS:=zz (zJ 6 (za 2 ko (z9 (vE 0) (z9 (zb zD (cE (.int 1000)) (zb zY (cE (.int 100)) (vE 5))) (zj)))))
  (zz (zJ 7 (za 2 ku (z9 (vE 3) (z9 (vE 6) (zj)))))
  (zz (ifM (PV.orM (Jc neC (vJ 101 2 11 1 vK (z9 (vE 6) (zj))) (zb jA (ap1 Zo (vB 3)) (ap1 Zo (vB 7)))) (Jc neC (j4 101 2 11 "worths" 0 f_x zj) (vB 7))) (zE (cE (.bl false))) (nxS))
  (zz (uw 3 4 (z9 (vE 7) (z9 (zb zD (vE 4) (ZT (z9 (vE 6) (zj)))) (zj))))
  (zz (ifM (PV.orM (Jc neC (j4 101 2 11 "left" 0 f_r zj) (ap1 Zo (vB 3))) (Jc neC (j4 101 2 11 "steps" 0 kx zj) (vB 4))) (zE (cE (.bl false))) (nxS))
  ka))))
theorem z2r {k i j n nn:Nat}{g:List (Str×Fd)->List T->R (T×List (Str×Fd))}{ga:En->R (List T)}{ρ:En}{fs fs' :List (Str×Fd)}{os:List Ob}{ts:List T}{t:T}(h:obD k i j ρ=some (n,fs,os))(ha:ga ρ= .ok ts)(hn:ts.length=nn)(hg:g fs ts= .ok (t,fs')):vJ k i j nn g ga ρ= .ok (t,ρ.set j (.st (os.set n (k,fs')))):=by
 unfold vJ;rw[h];dsimp only;rw[ha,bOk,if_pos hn,hg];rfl
section
variable {k:Kd}{ns:List Int}{ws ds rs us:List T}{j:Nat}{b c d e:Sl}
theorem V6 (hk:k.Ok 3)(S:St k j ws ds rs){i:Int}:∃d' e',ka (ls ns k.t ws ds (.vl (.int i)) b c d e (sv k.t (rs++[.lst ws]) ds us))= .nx (ls ns k.t ws ds (.vl (.int i)) b c d' e' (sv k.t (rs++[.lst ws]) ds us)):=by
 have et:zF eqC (vB 5) (cE (.int 1)) (ls ns k.t ws ds (.vl (.int i)) b c d e (sv k.t (rs++[.lst ws]) ds us))= .ok (i == 1):=rfl;cases hi:(i == 1) with
 | false=>rw[hi]at et;exact⟨d,e,zw et⟩
 | true=>
  rw[hi]at et;have hl:=S.len;obtain⟨e',h⟩:=UU hk (ns:=ns) (ws:=ws) (ds:=ds) (a:= .vl (.int i)) (b:=b) (c:=c) (fs:=sv k.t (rs++[.lst ws]) ds us) ws 0 0 e S.has bd0 (by decide) (by omega)
  rw[g_]at h;refine⟨.vl (frT (ZI (ws.map k.sh))),e', ?_⟩;have e1:zJ 8 (Zh (z9 (cE (.int 0)) (z9 (cE (.int 1)) (zj)))) (ls ns k.t ws ds (.vl (.int i)) b c d e (sv k.t (rs++[.lst ws]) ds us))= .nx (ls ns k.t ws ds (.vl (.int i)) b c (.vl (frT 0)) e (sv k.t (rs++[.lst ws]) ds us)):=rfl;have e2:ZV (ZJ (vE 3)) (zA 9) duB (ls ns k.t ws ds (.vl (.int i)) b c (.vl (frT 0)) e (sv k.t (rs++[.lst ws]) ds us))= .nx (ls ns k.t ws ds (.vl (.int i)) b c (.vl (frT (ZI (ws.map k.sh)))) e' (sv k.t (rs++[.lst ws]) ds us)):=by
   show ZD (zA 9) duB ws _=_;exact h
  rw[show ka _=_ from ZX et,zd e1,zd e2];exact UT (uR (jF _ (by decide+kernel)) (Qo hk rfl rfl S.has S.len) rfl (GJ _))
noncomputable abbrev L (ns:List Int)(k:Kd)(ws ds:List T)(i:Nat)(b c d e:Sl)(fs:List (Str×Fd)):En:=ls ns k.t ws ds (.vl (.int (0+(i:Int)))) b c d e fs
variable {i:Nat}{bb:Bool}{r:Ru}{fs:List (Str×Fd)}
noncomputable abbrev tA:En->RS:=zJ 6 (za 2 ko (z9 (vE 0) (z9 (zb zD (cE (.int 1000)) (zb zY (cE (.int 100)) (vE 5))) (zj))))
noncomputable abbrev tB:En->RS:=zJ 7 (za 2 ku (z9 (vE 3) (z9 (vE 6) (zj))))
noncomputable abbrev tC:En->RS:=ifM (PV.orM (Jc neC (vJ 101 2 11 1 vK (z9 (vE 6) (zj))) (zb jA (ap1 Zo (vB 3)) (ap1 Zo (vB 7)))) (Jc neC (j4 101 2 11 "worths" 0 f_x zj) (vB 7))) (zE (cE (.bl false))) (nxS)
noncomputable abbrev tD:En->RS:=uw 3 4 (z9 (vE 7) (z9 (zb zD (vE 4) (ZT (z9 (vE 6) (zj)))) (zj)))
noncomputable abbrev tE:En->RS:=ifM (PV.orM (Jc neC (j4 101 2 11 "left" 0 f_r zj) (ap1 Zo (vB 3))) (Jc neC (j4 101 2 11 "steps" 0 kx zj) (vB 4))) (zE (cE (.bl false))) (nxS)
theorem z2s {x:T}(hd:ko [scr ns,.int (1000+100*(0+(i:Int)))]= .ok x):tA (L ns k ws ds i b c d e fs)= .nx (L ns k ws ds i (.vl x) c d e fs):=by
 rw[show tA=zJ 6 _ from rfl,zN (t:=x)]
 ·rfl
 ·rw[zK,v0,bOk,zt,Z0,bOk,zt,Z0,bOk,v5',bOk,uG _ _ (.inl ⟨by decide,by decide⟩),bOk]
  exact hd
theorem z2t {x y:T}(h:ku [.lst ws,x]= .ok y):tB (L ns k ws ds i (.vl x) c d e fs)= .nx (L ns k ws ds i (.vl x) (.vl y) d e fs):=by
 rw[show tB=zJ 7 _ from rfl,zN (t:=y)]
 ·rfl
 ·rw[zK];exact h
theorem z2u {x:T}{vs:List T}{fs' :List (Str×Fd)}(h:vK fs [x]= .ok (.int ((ws.length:Int) - (vs.length:Int)),fs'))(hn:fs'.lookup ("worths":Str)=none)(hw:f_x fs' []= .ok (.lst vs,fs'))(hp:Pl 30 (.lst vs)):tC (L ns k ws ds i (.vl x) (.vl (.lst vs)) d e fs)= .nx (L ns k ws ds i (.vl x) (.vl (.lst vs)) d e fs'):=by
 have m0:vJ 101 2 11 1 vK (z9 (vE 6) zj) (L ns k ws ds i (.vl x) (.vl (.lst vs)) d e fs)= .ok (.int ((ws.length:Int) - (vs.length:Int)),L ns k ws ds i (.vl x) (.vl (.lst vs)) d e fs'):=z2r obl (XX rfl) rfl h;have e3a:Jc neC (vJ 101 2 11 1 vK (z9 (vE 6) (zj))) (zb jA (ap1 Zo (vB 3)) (ap1 Zo (vB 7))) (L ns k ws ds i (.vl x) (.vl (.lst vs)) d e fs)= .ok (false,L ns k ws ds i (.vl x) (.vl (.lst vs)) d e fs'):=by
  unfold Jc;rw[m0,bOk];show ((neC (.int ((ws.length:Int) - (vs.length:Int))) (.int ((ws.length:Int) - (vs.length:Int)))).bind λb=>R.ok (b,_))=_;rw[z2c];rfl
 exact UT (V4 e3a (uR hn hw rfl hp))
theorem z2v {x:T}(h:ds.length<=1000):tD (L ns k ws ds i (.vl x) (.vl (.lst us)) d e fs)= .nx (L ns k us (ds++[x]) i (.vl x) (.vl (.lst us)) d e fs):=by
 show uw 3 4 _ _=_;unfold uw;rw[V2 (x:= .lst us) (y:= .lst (ds++[x])) rfl (by
  rw[zt,v4',bOk,QB (x:=x) rfl,bOk,VI (by rw[aF];omega)])];rfl
theorem z2w (h0:fs.lookup ("left":Str)=none)(h:f_r fs []= .ok (.int (ws.length:Int),fs))(h1:fs.lookup ("steps":Str)=none)(h' :kx fs []= .ok (.lst ds,fs))(hp:Pl 30 (.lst ds)):tE (L ns k ws ds i b c d e fs)= .nx (L ns k ws ds i b c d e fs):=
 UT (V4 (uR h0 h rfl trivial) (uR h1 h' rfl hp))
theorem kb (hk:k.Ok 3)(S:St k j ws ds rs)(hj:j<=10):∃(ws' ds' rs' :List T) (b' c' d' e' :Sl),St k (j+1) ws' ds' rs' /\V5 (L ns k ws ds i b c d e (sv k.t (rs++[.lst ws]) ds us))= .nx (L ns k ws' ds' i b' c' d' e' (sv k.t (rs' ++[.lst ws']) ds' [])):=by
 obtain⟨bb,r,hr,hd⟩:=k8 ns (1000+100*(0+(i:Int))) (by omega)
 have hw:=S.w hk;have hl:=S.len;have hrl:=S.rl;have hdl:=S.dl;have hb:bnd=16777216:=rfl;have S' :=S.on bb hr;obtain⟨d',e',e6⟩:=V6 hk S' (ns:=ns) (us:=[]) (b:= .vl (stp bb r)) (c:= .vl (.lst (Jv bb r ws))) (d:=d) (e:=e) (i:=0+(i:Int));refine⟨_,_,_,.vl (stp bb r),.vl (.lst (Jv bb r ws)),d',e',S', ?_⟩;rw[show V5 _=_ from zd (z2s hd)];rw[show _=_ from zd (z2t (Qn (by decide) hr hw (by omega)))]
 rw[show _=_ from zd (z2u (GH (b:=bb) hr.up hw (by omega) (by omega) (by omega)) (jF _ (by decide+kernel)) (ub (rs:=rs++[.lst ws]) rfl) (S'.pl hk))]
 rw[show _=_ from zd (z2v (by omega))]
 have e5:tE (L ns k (Jv bb r ws) (ds++[stp bb r]) i (.vl (stp bb r)) (.vl (.lst (Jv bb r ws))) d e (sv k.t (rs++[.lst ws]++[.lst (Jv bb r ws)]) (ds++[stp bb r]) []))= .nx (L ns k (Jv bb r ws) (ds++[stp bb r]) i (.vl (stp bb r)) (.vl (.lst (Jv bb r ws))) d e (sv k.t (rs++[.lst ws]++[.lst (Jv bb r ws)]) (ds++[stp bb r]) [])):=z2w (jF _ (by decide+kernel)) (Ql (rs:=rs++[.lst ws]) rfl) (jF _ (by decide+kernel)) V1 S'.dp
 exact(zd e5).trans e6
end
section
variable {k:Kd}{ns:List Int}
theorem GK (hk:k.Ok 3):∀(m:List Nat) (ws ds rs us:List T) (j:Nat) (a b c d e:Sl),St k j ws ds rs->j+m.length<=10->∃(ws' ds' rs' us' :List T) (a' b' c' d' e' :Sl),ZD (zA 5) V5 (m.map λ(i:Nat)=> .int (0+(i:Int))) (ls ns k.t ws ds a b c d e (sv k.t (rs++[.lst ws]) ds us))= .nx (ls ns k.t ws' ds' a' b' c' d' e' (sv k.t rs' ds' us'))
 | [],ws,ds,rs,us,j,a,b,c,d,e,_,_=>⟨ws,ds,_,us,a,b,c,d,e,rfl⟩
 | i :: m,ws,ds,rs,us,j,a,b,c,d,e,S,hj=>by
  rw[aj]at hj;obtain⟨ws',ds',rs',b',c',d',e',S',h⟩:=kb hk S (by omega) (ns:=ns) (i:=i) (b:=b) (c:=c) (d:=d) (e:=e) (us:=us)
  obtain⟨w2,d2,r2,u2,a3,b3,c3,d3,e3,h2⟩:=GK hk m ws' ds' rs' [] (j+1) (.vl (.int (0+(i:Int)))) b' c' d' e' S' (by omega)
  refine⟨w2,d2,r2,u2,a3,b3,c3,d3,e3, ?_⟩;rw[ao,ji (ρ1:=L ns k ws ds i b c d e (sv k.t (rs++[.lst ws]) ds us)) rfl h];exact h2
noncomputable abbrev lB:En->RS:=yt 2 3 4 10 (mkA 10 11 101 1 Xm (z9 (vE 1) (zj))) (z9 (za 1 (f_4 8) (z9 (vE 1) (zj))) (z9 (ZT (zj)) (zj)))
theorem z2x {fs:List (Str×Fd)}{t:T}{ws:List T}(h:Xm [] [t]= .ok (.non,fs))(ha:f_4 8 [t]= .ok (.lst ws)):lB [.vl (scr ns),.vl t,.un,.un,.un,.un,.un,.un,.un,.un,.un,.st []]= .nx (ls ns t ws [] .un .un .un .un .un fs):=by
 have e1:mkA 10 11 101 1 Xm (z9 (vE 1) (zj)) [.vl (scr ns),.vl t,.un,.un,.un,.un,.un,.un,.un,.un,.un,.st []]= .ok [.vl (scr ns),.vl t,.un,.un,.un,.un,.un,.un,.un,.un,.ob 101 0,.st [(101,fs)]]:=by
  unfold mkA;rw[XX (x:=t) rfl,bOk,if_pos ⟨rfl,by decide,show 10 < 12 by decide⟩]
  show (match Xm [] [t] with | .ok (.non,fs)=>_ | .ex c=>_ | _=>_)=_
  rw[h];rfl
 show yt 2 3 4 10 _ _ _=_;unfold yt;rw[e1,Zs,V2 (x:= .lst ws) (y:= .lst []) (by rw[zQ,v1,bOk,ha]) rfl];rfl
noncomputable abbrev lC:En->RS:=ifM (PV.orM (Jc neC (j4 101 2 11 "worths" 0 f_x zj) (vB 3)) (PV.orM (Jc neC (j4 101 2 11 "part" 0 Xn zj) (Zh (z9 (cE (.int 1)) (z9 (cE (.int 1)) (zj))))) (Jc neC (j4 101 2 11 "base" 0 Vx zj) (vB 1)))) (zE (cE (.bl false))) (nxS)
theorem z2y {fs:List (Str×Fd)}{t:T}{ws:List T}(n1:fs.lookup ("worths":Str)=none)(h1:f_x fs []= .ok (.lst ws,fs))(p1:Pl 30 (.lst ws))(n2:fs.lookup ("part":Str)=none)(h2:Xn fs []= .ok (frT 1,fs))(n3:fs.lookup ("base":Str)=none)(h3:Vx fs []= .ok (t,fs))(p3:Pl 30 t):lC (ls ns t ws [] .un .un .un .un .un fs)= .nx (ls ns t ws [] .un .un .un .un .un fs):=
 UT (V4 (uR n1 h1 rfl p1) (V4 (uR n2 h2 rfl (GJ 1)) (uR n3 h3 rfl p3)))
noncomputable abbrev lE:En->RS:=kl (cmM eqC (j4 101 2 11 "base" 0 Vx zj) (uf (vE 1)))
theorem z2z {fs:List (Str×Fd)}{t:T}{ws ds:List T}{a b c d e:Sl}(n3:fs.lookup ("base":Str)=none)(h3:Vx fs []= .ok (t,fs))(p3:Pl 30 t):lE (ls ns t ws ds a b c d e fs)= .rt (.bl true):=by
 have m0:j4 101 2 11 "base" 0 Vx zj (ls ns t ws ds a b c d e fs)= .ok (t,ls ns t ws ds a b c d e fs):=uc (nn:=0) (ts:=[]) (ga:=zj) obl n3 rfl rfl h3;show kl _ _=_;unfold kl cmM;rw[m0,bOk];show R.s ((eqC t t).bind _) _=_;rw[vW p3];rfl
end
theorem law_ok (ns:List Int)(h:ns.length<=63):f_0 [.fz (ns.map T.int)]= .ok (.bl true):=by
 obtain⟨k,hk,hl,hs⟩:=vR ns 10 (by omega) 60 (by omega)
 have ha:=qy 3 8 (by omega) (by omega) k hk (by omega)
 have e0:zJ 1 (za 3 gO (z9 (vE 0) (z9 (cE (.int 10)) (z9 (cE (.int 60)) (zj))))) [.vl (scr ns),.un,.un,.un,.un,.un,.un,.un,.un,.un,.un,.st []]= .nx [.vl (scr ns),.vl k.t,.un,.un,.un,.un,.un,.un,.un,.un,.un,.st []]:=by
  rw[zN (t:=k.t)]
  ·rfl
  ·rw[Zq,v0,bOk,Z0,bOk,Z0,bOk];exact hs
 have hh:∀x∈k.all,k.has x=true:=λx hx=>(W1 k x).mp hx;have S:St k 0 k.all [] []:=⟨hh,hl,ai _,ai _,λ_ hx=>nomatch hx⟩;have p3:Pl 30 k.t:=(k9 3 k hk).le (by decide)
 obtain⟨ws',ds',rs',us',a',b',c',d',e',hf⟩:=GK hk (ns:=ns) (aT 6) k.all [] [] [] 0 .un .un .un .un .un S (by decide)
 have e6:ZV (ZC (cE (.int 6))) (zA 5) V5 (ls ns k.t k.all [] .un .un .un .un .un (sv k.t [.lst k.all] [] []))= .nx (ls ns k.t ws' ds' a' b' c' d' e' (sv k.t rs' ds' us')):=hf;have hw:f_x (sv k.t [.lst k.all] [] []) []= .ok (.lst k.all,sv k.t [.lst k.all] [] []):=ub (rs:=[]) rfl;have hp:Xn (sv k.t [.lst k.all] [] []) []= .ok (frT 1,sv k.t [.lst k.all] [] []):=by
  rw[Qo (rs:=[]) hk rfl rfl hh hl,due 3 k hk]
 show zu (b_0 _ _ _ _ _ _ _ _ _ _ _ _ _ [.vl (scr ns),.un,.un,.un,.un,.un,.un,.un,.un,.un,.un,.st []])=_;rw[b_0,zd e0,show _=_ from zd (z2x (XW hk (by omega)) ha),show _=_ from zd (z2y (jF _ (by decide+kernel)) hw (S.pl hk) (jF _ (by decide+kernel)) hp (jF _ (by decide+kernel)) Qm p3),zd e6]
 exact congrArg zu (z2z (jF _ (by decide+kernel)) Qm p3)
end G
namespace G
open PySem PySem.Spec PyProof.Rows L2 PV
noncomputable def top (i:Nat):Stmt:=PySem.Challenge.pw_worthkinds_k81_whole_sieves.main.body.getD i (.Pass ⟨0,0,0,0⟩)
noncomputable def wf (s:Stmt)(j:Nat):Stmt:=match s with
 | .ClassDef _ _ _ b _ _ _ _ _ _ _=>b.getD j (.Pass ⟨0,0,0,0⟩)
 | s=>s
set_option genInjectivity false in
set_option genSizeOf false in
structure Tx (K:a8) (mg:Str->Option Value):Prop where
 C_1u:FE K mg "_law_cell" (top 62) ["_law_script","_law_k"]
 C_2:FE K mg "_law_pick" (top 63) ["_law_script","_law_k","_law_many"]
 C_15:FE K mg "_law_word_of" (top 64) ["_law_script","_law_at"]
 C_1a:FE K mg "_law_leaf_kind" (top 65) ["_law_script","_law_at"]
 C_h:FE K mg "_law_kind" (top 66) ["_law_script","_law_at","_law_deep"]
 C_c:FE K mg "_law_rows_of" (top 68) ["_law_lists"]
 C_4:FE K mg "_law_all" (top 67) ["_law_kind_here"]
 C_b:FE K mg "_law_size" (top 69) ["_law_kind_here"]
 C_1d:FE K mg "_law_small" (top 70) ["_law_script","_law_at","_law_most"]
 C_9:FE K mg "is_whole" (top 13) ["thing"]
 C_1w:FE K mg "is_span" (top 16) ["low","high","least","most"]
 C_f:FE K mg "is_tuple_of" (top 14) ["thing","least","most"]
 C_v:FE K mg "is_word" (top 15) ["thing"]
 C_13:FE K mg "is_choice" (top 19) ["thing"]
 C_1c:FE K mg "are_choices" (top 18) ["thing"]
 C_8:FE K mg "is_kind_within" (top 17) ["thing","levels"]
 C_1y:FE K mg "are_kinds_within" (top 20) ["thing","levels"]
 C_3:FE K mg "is_kind" (top 9) ["thing"]
 C_u:FE K mg "need_kind" (top 11) ["kind"]
 C_1:FE K mg "count_of" (top 27) ["kind"]
 C_w:FE K mg "count_of_parts" (top 28) ["kinds"]
 C_p:FE K mg "count_shorter" (top 29) ["kind","length"]
 C_q:FE K mg "words_of_pick" (top 21) ["kind"]
 C_7:FE K mg "worth_at" (top 30) ["kind","number"]
 C_1x:FE K mg "many_at" (top 31) ["kind","number"]
 C_z:FE K mg "parts_at" (top 32) ["kinds","number"]
 C_y:FE K mg "all_worths" (top 26) ["kind"]
 C_19:FE K mg "greatest_divisor" (top 36) ["one","other"]
 C_o:FE K mg "fraction" (top 35) ["up","down"]
 C_g:FE K mg "plus" (top 38) ["one","other"]
 C_i:FE K mg "together" (top 39) ["fractions"]
 C_1j:FE K mg "share_of_word" (top 42) ["kind","word"]
 C_s:FE K mg "times" (top 37) ["one","other"]
 C_6:FE K mg "share_within" (top 41) ["kind","worth"]
 C_1q:FE K mg "share_of_parts" (top 43) ["kinds","parts"]
 C_1i:FE K mg "shares_together" (top 40) ["kind","worths"]
 C_m:FE K mg "_law_rule" (top 71) ["_law_script","_law_at","_law_deep"]
 C_18:FE K mg "_law_deed" (top 74) ["_law_script","_law_at"]
 C_l:FE K mg "_law_leaves" (top 72) ["_law_worth"]
 C_d:FE K mg "_law_keeps" (top 73) ["_law_rule_here","_law_worth"]
 C_16:FE K mg "_law_sifted" (top 75) ["_law_worths","_law_deed_here"]
 C_1g:FE K mg "is_bound" (top 50) ["thing"]
 C_n:FE K mg "is_rule_within" (top 49) ["thing","levels"]
 C_a:FE K mg "is_rule" (top 47) ["thing"]
 C_1f:FE K mg "need_rule" (top 48) ["rule"]
 C_j:FE K mg "leaves_of" (top 54) ["worth"]
 C_1e:FE K mg "numbers_in" (top 55) ["worth"]
 C_1v:FE K mg "parts_of" (top 53) ["worth"]
 C_1l:FE K mg "are_rising" (top 56) ["numbers"]
 C_1m:FE K mg "are_unlike" (top 57) ["parts"]
 C_1b:FE K mg "is_single_kept" (top 52) ["rule","worth"]
 C_k:FE K mg "is_kept" (top 51) ["rule","worth"]
 C_1h:FE K mg "left_by" (top 60) ["step","worths"]
 C__law_did:FE K mg "_law_did" (top 76) ["_law_sieve","_law_deed_here"]
 C_1o:FE K mg "_law_plus" (top 77) ["_law_one","_law_other"]
 C_e:FE K mg "has_worth" (top 22) ["kind","thing"]
 C_1s:FE K mg "have_parts" (top 23) ["kinds","parts"]
 C_1p:FE K mg "is_worth" (top 10) ["kind","thing"]
 C_1n:FE K mg "need_worth" (top 12) ["kind","worth"]
 C_5:FE K mg "share_of" (top 34) ["kind","worth"]
 C_0:FE K mg "law" (top 78) ["_law_script"]
 z:∀x,(["abs","all","any","bool","dict","enumerate","int","isinstance","len","list","min","range","reversed","set","sorted","str","sum","tuple","zip"]:List Str).contains x=true->mg x=none
 c_DEEPEST:∃u,mg "DEEPEST"=some u/\∃t,u=Value.int 3 t
 c_DEEPEST_RULE:∃u,mg "DEEPEST_RULE"=some u/\∃t,u=Value.int 3 t
 c_FARTHEST_BOUND:∃u,mg "FARTHEST_BOUND"=some u/\∃t,u=Value.int 50 t
 c_MOST_TOLD:∃u,mg "MOST_TOLD"=some u/\∃t,u=Value.int 500 t
structure To (K:a8) (mg:Str->Option Value) (cl:Nat->Value):Prop where
 A_Sieve:CA 101 ["kind","remaining","done","undone"] K cl
 M_Sieve_init:FI K mg cl 101 "Sieve" (wf (top 59) 0) ["self","kind"]
 M_Sieve_worths:FM K cl 101 "worths" (wf (top 59) 4) ["self"]
 M_Sieve_part:FM K cl 101 "part" (wf (top 59) 5) ["self"]
 M_Sieve_base:FM K cl 101 "base" (wf (top 59) 6) ["self"]
 M_Sieve_left:FM K cl 101 "left" (wf (top 59) 3) ["self"]
 M_Sieve_do_step:FM K cl 101 "do_step" (wf (top 59) 13) ["self","step"]
 M_Sieve_new_step:FM K cl 101 "new_step" (wf (top 59) 12) ["self","word","rule"]
 M_Sieve_keep:FM K cl 101 "keep" (wf (top 59) 1) ["self","rule"]
 M_Sieve_bar:FM K cl 101 "bar" (wf (top 59) 2) ["self","rule"]
 M_Sieve_steps:FM K cl 101 "steps" (wf (top 59) 7) ["self"]
section
variable {Z:Zz}(tx:Tx Z.K Z.mg)(tc:To Z.K Z.mg Z.cl)
include tx tc
set_option hygiene false
local macro_rules | `(tactic| gp_on)=> `(tactic| first
  | (show We _ _ _ _;first
   | refine Ka ?_ ?_
   | exact z12)
  | (show Snd _ _ (.Name ..) _;first
   | exact z0Z _ (pv _)
   | exact tx.c_FARTHEST_BOUND.elim λ_ h=>wR (by rfl) h.1 h.2
   | exact tx.c_DEEPEST.elim λ_ h=>wR (by rfl) h.1 h.2
   | exact tx.c_MOST_TOLD.elim λ_ h=>wR (by rfl) h.1 h.2
   | exact tx.c_DEEPEST_RULE.elim λ_ h=>wR (by rfl) h.1 h.2)
  | (show Snd _ _ (.Constant ..) _;first
   | exact z10
   | exact z11
   | exact s_bl)
  | (show Wg _ _ _ _;first
   | refine Ko ?_ ?_
   | exact z1q
   | refine z1r ?_)
  | (show jz _ _ _ _;first
   | exact K9 _ (pv _)
   | refine Snd.b ?_)
  | (show jO _ _ _ _;first
   | refine z1s ?_
   | refine z1t ?_ ?_ ?_
   | refine Kp nd (by rfl) (.inl (by rfl)) ?_
   | refine Ky f6 (by rfl) ?_ ?_ ?_
   | refine Kq nd (by rfl) (.inl (by rfl)) ?_
   | refine KF (cr1 hy (by kernel_rfl) (by kernel_rfl) (by rfl) ?_ (λ_ hy _ _ _ _ _ _=> ?_) (λ_ hy _ _ _ _ _ _ _ hp=> ?_)) nd (by rfl) (.inl (by rfl)) (by rfl)
   | exact z1D
   | refine Kr ?_
   | refine CA.go tc.A_Sieve λ_ e c n=>gC (pv _) (by rw[hy];exact e) c (n _ (by kernel_rfl)) ?_
   | refine z1A (by rfl) nd (by rfl) (by rfl) (by decide) (by rfl) (by rfl) ?_ (by rfl)
   | refine z1Z ?_ ?_ ?_
   | refine Kp nd (by rfl) (.inr (by rfl)) ?_
   | refine z1v (pv _) ?_
   | refine z1u (pv _) ?_
   | refine Yt (n:=_ ^ _) f6 ?_ ?_
   | refine CA.go tc.A_Sieve λ_ e c n=>gD (pv _) (by rw[hy];exact e) c (n _ (by kernel_rfl)) ?_
   | refine Ky PassesOwn.leaving (by rfl) ?_ ?_ ?_
   | exact s_mv (pv _) nd (by rfl) (.inl (by rfl))
   | refine Yt (n:=_) f6 ?_ ?_
   | refine KT (cr1 hy (by kernel_rfl) (by kernel_rfl) (by rfl) ?_ (λ_ hy _ _ _ _ _ _=> ?_) (λ_ hy _ _ _ _ _ _ _ hp=> ?_))
   | refine CA.go tc.A_Sieve λ_ e c n=>z1U (pv _) (by rw[hy];exact e) c (n _ (by kernel_rfl)) ?_
   | refine z1W nd (by rfl) (.inl (by rfl)) ?_
   | refine z1V ?_
   | refine gL ?_)
  | (show Snd _ _ (.Call ..) _;first
   | refine z1l (by rfl) (tx.z _ (by kernel_rfl)) ?_
   | refine vb (n:="tuple") (Yo _) (by rfl) (tx.z _ (by kernel_rfl)) (by rfl) (tx.z _ (by kernel_rfl)) PyProof.Rows.Boot.«tuple» ?_
   | refine z1o hr.hd (by rfl) (tx.z _ (by kernel_rfl)) ?_
   | refine KR (by rfl) (tx.z _ (by kernel_rfl)) ?_
   | refine Kn (by rfl) (by rfl) (tx.z _ (by kernel_rfl)) ?_ ?_
   | refine xD (by rfl) (tx.z _ (by kernel_rfl)) ?_
   | refine vb (n:="int") (xE _) (by rfl) (tx.z _ (by kernel_rfl)) (by rfl) (tx.z _ (by kernel_rfl)) PyProof.Rows.Boot.«int» ?_
   | refine z1E hr.hd (by rfl) (tx.z _ (by kernel_rfl)) ?_
   | refine KJ ?_
   | refine X0 hr.hd (by rfl) (tx.z _ (by kernel_rfl)) (by rfl) (tx.z _ (by kernel_rfl)) ?_ ?_
   | refine vb (n:="bool") (va _) (by rfl) (tx.z _ (by kernel_rfl)) (by rfl) (tx.z _ (by kernel_rfl)) PyProof.Rows.Boot.«bool» ?_
   | refine vb (n:="str") (xF _) (by rfl) (tx.z _ (by kernel_rfl)) (by rfl) (tx.z _ (by kernel_rfl)) PyProof.Rows.Boot.«str» ?_
   | refine KK hr.hd (by rfl) (tx.z _ (by kernel_rfl)) (by rfl) (tx.z _ (by kernel_rfl)) ?_
   | refine gr hr.hd (by rfl) (tx.z _ (by kernel_rfl)) (by rfl) (tx.z _ (by kernel_rfl)) ?_
   | refine z22 (by rfl) (tx.z _ (by kernel_rfl)) ?_
   | refine z1N (by rfl) (tx.z _ (by kernel_rfl)) ?_
   | refine gu (by rfl) (tx.z _ (by kernel_rfl)) ?_
   | refine z1K hr.hd (by rfl) (tx.z _ (by kernel_rfl)) ?_
   | exact CA.go tc.A_Sieve λ_ e c n=>gF (pv _) (by rw[hy];exact e) c (n _ (by kernel_rfl)) (by rfl) (tx.z _ (by kernel_rfl))
   | refine cZ hy (by assumption) hr ?_)
  | (show Snd _ _ (.Subscript ..) _;first
   | refine s_ix ?_ ?_
   | refine CA.go tc.A_Sieve λ_ e c n=>z1X (pv _) (by rw[hy];exact e) c (n _ (by kernel_rfl)) ?_
   | refine xI ?_ ?_ ?_)
  | (show Snd _ _ (.BinOp ..) _;first
   | refine z15 ?_ ?_
   | refine z18 ?_ ?_
   | refine z16 ?_ ?_
   | refine z17 ?_ ?_
   | refine s_ml ?_ ?_
   | refine z1O ?_ ?_
   | refine Ke ?_ ?_)
  | (show Wd _ _ _ _;first
   | refine ur xw (Yi hr.units) ?_ ?_ (j9 _)
   | refine z1i ?_
   | refine ur z1b Kg ?_ ?_ (j9 _)
   | refine ur z1a Kf ?_ ?_ (j9 _)
   | refine ur wL jJ ?_ ?_ (j9 _)
   | refine ur v7 (Vg hr.units) ?_ ?_ (by rfl)
   | refine ur xx (Yj hr.units) ?_ ?_ (j9 _)
   | refine ur Ki (xz hr.units) ?_ ?_ (by rfl)
   | refine xB wL wL jJ jJ ?_ ?_ ?_
   | refine z1j ?_
   | refine yH.t ?_)
  | (show Snd _ _ (.BoolOp ..) _;first
   | refine z1e ?_ ?_
   | refine s_or ?_ ?_
   | refine z1d ?_)
  | (show uu _ _ _ _ _;first
   | refine Kv (by rfl) (tx.z _ (by kernel_rfl)) ?_
   | refine z1B (by rfl) (tx.z _ (by kernel_rfl)) ?_ ?_
   | refine Kw (by rfl) (tx.z _ (by kernel_rfl)) ?_ ?_
   | refine KH (by rfl) (tx.z _ (by kernel_rfl)) ?_
   | refine z1I (by rfl) (tx.z _ (by kernel_rfl)) ?_
   | refine X5 (by rfl) (tx.z _ (by kernel_rfl)) ?_
   | refine z1z ?_)
  | (show Snd _ _ (.Compare ..) _;first
   | refine Yh xw (Yi hr.units) ?_ ?_ (j9 _)
   | refine xA wL wL jJ jJ ?_ ?_ ?_
   | refine Yh wL jJ ?_ ?_ (j9 _)
   | refine Yh v7 (Vg hr.units) ?_ ?_ (by rfl)
   | refine v8 wL wL wL jJ jJ jJ ?_ ?_ ?_ ?_
   | refine Yh z1c Kh ?_ ?_ (j9 _)
   | refine Yh xx (Yj hr.units) ?_ ?_ (j9 _))
  | (show Snd _ _ (.Tuple ..) _;first
   | refine z13 ?_)
  | (show wP _ _ _ _;first
   | exact KC
   | refine KD ?_)
  | (show vI _ _ _ _;first
   | refine gB ?_ ?_
   | refine z1R ?_
   | exact z1T)
  | (show Snd _ _ (.List ..) _;first
   | refine z14 ?_)
  | (show Snd _ _ (.ListComp ..) _;first
   | refine Vn (cr1 hy (by kernel_rfl) (by kernel_rfl) (by rfl) ?_ (λ_ hy _ _ _ _ _ _=> ?_) (λ_ hy _ _ _ _ _ _ _ hp=> ?_))
   | refine Vn (cr2 hy (by kernel_rfl) (by kernel_rfl) (by rfl) ?_ (λ_ hy _ _ _ _ _ _=> ?_) (λ_ hy _ _ _ _ _ _ _ hp=> ?_)))
  | (show yH _ _ _ _;first
   | refine w_or ?_ ?_
   | refine z1h ?_ ?_
   | refine z1g ?_
   | refine Kk ?_)
  | (show JK _ _ (.Call ..) _;first
   | exact QM.go (by assumption) λ_ _ _ _ _ _ e c M F=>Xh (pv _) hy e c M.m F hr (by omega) M.b hp
   | refine QM.go (by assumption) λ_ _ _ _ _ _ e c M F=>gE (pv _) hy e c M.m F hr (by omega) M.b hp ?_
   | refine QQ.go (by assumption) λ_ _ _ _ C F=>gK (pv _) hy F hr (by omega) (by rfl) C.m C.F.kp C.b hp ?_)
  | (show GS _ _ _ _;first
   | exact Vl nd (by rfl) (.inl (by rfl))
   | exact Vl nd (by rfl) (.inr (by rfl))
   | exact Kx (by rfl) nd (by rfl) (by rfl) (.inl (by rfl)) (.inl (by rfl)))
  | (show Snd _ _ (.UnaryOp ..) _;first
   | refine z19 ?_
   | refine z1f ?_)
  | (show yr _ _ _ _;first
   | refine gH xx (Yj hr.units) ?_ ?_ (j9 _)
   | refine uE.t ?_)
  | (show xG _ _ _ _;first
   | exact Kl
   | refine Km ?_)
  | (show JK _ _ _ _;first
   | refine gA ?_)
  | (show uE _ _ _ _;first
   | refine z20 ?_ ?_
   | refine gI ?_)
  | (show Snd _ _ (.IfExp ..) _;first
   | refine s_if ?_ ?_ ?_)
  | (show Snd _ _ (.Attribute ..) _;first
   | exact CA.go tc.A_Sieve λ_ e c n=>gJ (pv _) (by rw[hy];exact e) c (n _ (by kernel_rfl)))
  | (show JK _ _ (.BinOp ..) _;first
   | refine z24 Yg ?_ ?_)
  | (show JK _ _ (.IfExp ..) _;first
   | refine m_if ?_ ?_ ?_)
  | (show JK _ _ (.Compare ..) _;first
   | refine z25 xw (Yi hr.units) ?_ ?_ (j9 _))
  )
local macro_rules | `(tactic| kd_all)=> `(tactic| (intro cdv A outer s H E Y hy hE hr nd hp;repeat' gp_on))
theorem z2A:qP Z "_law_cell" 2 1 (oP 2 b_1u):=by
 refine okP tx.C_1u ["_law_script","_law_k"] λ_=> ?_
 kd_all
theorem ok_2 (_:qP Z "_law_cell" 2 1 c_1u):qP Z "_law_pick" 3 2 (oP 4 (b_2 c_1u)):=by
 refine okP tx.C_2 ["_law_script","_law_k","_law_many","_law_drawn"] λ_=> ?_
 kd_all
theorem z2B (_:qP Z "_law_pick" 3 2 c_2):qP Z "_law_word_of" 2 3 (oP 3 (GZ c_2)):=by
 refine okP tx.C_15 ["_law_script","_law_at","_law_letters"] λ_=> ?_
 kd_all
theorem z2C (_:qP Z "_law_pick" 3 2 c_2)(_:qP Z "_law_word_of" 2 3 c_15):qP Z "_law_leaf_kind" 2 4 (oP 6 (z00 c_2 c_15)):=by
 refine okP tx.C_1a ["_law_script","_law_at","_law_low","_law_words","_law_k","_law_word"] λ_=> ?_
 kd_all
theorem ok_h {j:Nat}(hj:4<=j)(_:qP Z "_law_pick" 3 2 c_2)(_:qP Z "_law_leaf_kind" 2 4 c_1a)(_:qP Z "_law_kind" 3 j c_h):qP Z "_law_kind" 3 (j+1) (oP 6 (b_h c_2 c_1a c_h)):=by
 refine okP tx.C_h ["_law_script","_law_at","_law_deep","_law_way","_law_some","_law_low"] λ_=> ?_
 kd_all
theorem ok_c:qP Z "_law_rows_of" 1 1 (oP 5 b_c):=by
 refine okP tx.C_c ["_law_lists","_law_made","_law_some","_law_longer","_law_ahead"] λ_=> ?_
 kd_all
theorem ok_4 {j:Nat}(hj:1<=j)(_:qP Z "_law_all" 1 j c_4)(_:qP Z "_law_rows_of" 1 1 c_c):qP Z "_law_all" 1 (j+1) (oP 3 (b_4 c_4 c_c)):=by
 refine okP tx.C_4 ["_law_kind_here","_law_made","_law_size_here"] λ_=> ?_
 kd_all
theorem ok_b {j:Nat}(hj:9<=j)(_:qP Z "_law_all" 1 9 c_4)(_:qP Z "_law_size" 1 j c_b):qP Z "_law_size" 1 (j+1) (oP 5 (b_b c_4 c_b)):=by
 refine okP tx.C_b ["_law_kind_here","_law_sizes","_law_made","_law_size_here","_law_inner"] λ_=> ?_
 kd_all
theorem z2D (_:qP Z "_law_kind" 3 12 c_h)(_:qP Z "_law_size" 1 17 c_b):qP Z "_law_small" 3 18 (oP 5 (z01 c_h c_b)):=by
 refine okP tx.C_1d ["_law_script","_law_at","_law_most","_law_kind_here","_law_k"] λ_=> ?_
 kd_all
theorem ok_9:qP Z "is_whole" 1 1 (oP 1 b_9):=by
 refine okP tx.C_9 ["thing"] λ_=> ?_
 kd_all
theorem z2E (_:qP Z "is_whole" 1 1 c_9):qP Z "is_span" 4 2 (oP 4 (b_1w c_9)):=by
 refine okP tx.C_1w ["low","high","least","most"] λ_=> ?_
 kd_all
theorem ok_f:qP Z "is_tuple_of" 3 1 (oP 3 b_f):=by
 refine okP tx.C_f ["thing","least","most"] λ_=> ?_
 kd_all
theorem ok_v:qP Z "is_word" 1 1 (oP 1 b_v):=by
 refine okP tx.C_v ["thing"] λ_=> ?_
 kd_all
theorem z2F (_:qP Z "is_whole" 1 1 c_9)(_:qP Z "is_tuple_of" 3 1 c_f)(_:qP Z "is_word" 1 1 c_v):qP Z "is_choice" 1 2 (oP 1 (z03 c_9 c_f c_v)):=by
 refine okP tx.C_13 ["thing"] λ_=> ?_
 kd_all
theorem z2G (_:qP Z "is_tuple_of" 3 1 c_f)(_:qP Z "is_choice" 1 2 c_13):qP Z "are_choices" 1 3 (oP 2 (z04 c_f c_13)):=by
 refine okP tx.C_1c ["thing","words"] λ_=> ?_
 kd_all
theorem ok_8 {j:Nat}(hj:3<=j)(_:qP Z "is_span" 4 2 c_1w)(_:qP Z "is_kind_within" 2 j c_8)(_:qP Z "are_choices" 1 3 c_1c)(_:qP Z "are_kinds_within" 2 j c_1y):qP Z "is_kind_within" 2 (j+1) (oP 2 (b_8 c_1w c_8 c_1c c_1y)):=by
 refine okP tx.C_8 ["thing","levels"] λ_=> ?_
 kd_all
theorem z2H {j:Nat}(hj:3<=j)(_:qP Z "is_tuple_of" 3 1 c_f)(_:qP Z "is_kind_within" 2 j c_8):qP Z "are_kinds_within" 2 (j+1) (oP 2 (z05 c_f c_8)):=by
 refine okP tx.C_1y ["thing","levels"] λ_=> ?_
 kd_all
theorem ok_3 (_:qP Z "is_kind_within" 2 23 c_8):qP Z "is_kind" 1 24 (oP 1 (b_3 c_8)):=by
 refine okP tx.C_3 ["thing"] λ_=> ?_
 kd_all
theorem ok_u (_:qP Z "is_kind" 1 24 c_3):qP Z "need_kind" 1 25 (oP 1 (b_u c_3)):=by
 refine okP tx.C_u ["kind"] λ_=> ?_
 kd_all
theorem ok_1 {j:Nat}(hj:0<=j)(_:qP Z "count_of_parts" 1 j c_w)(_:qP Z "count_shorter" 2 j c_p):qP Z "count_of" 1 (j+1) (oP 1 (b_1 c_w c_p)):=by
 refine okP tx.C_1 ["kind"] λ_=> ?_
 kd_all
theorem ok_w {j:Nat}(hj:0<=j)(_:qP Z "count_of" 1 j c_1):qP Z "count_of_parts" 1 (j+1) (oP 3 (b_w c_1)):=by
 refine okP tx.C_w ["kinds","count","kind"] λ_=> ?_
 kd_all
theorem ok_p {j:Nat}(hj:0<=j)(_:qP Z "count_of_parts" 1 j c_w):qP Z "count_shorter" 2 (j+1) (oP 2 (b_p c_w)):=by
 refine okP tx.C_p ["kind","length"] λ_=> ?_
 kd_all
theorem ok_q:qP Z "words_of_pick" 1 1 (oP 1 b_q):=by
 refine okP tx.C_q ["kind"] λ_=> ?_
 kd_all
theorem ok_7 {j:Nat}(hj:20<=j)(_:qP Z "words_of_pick" 1 1 c_q)(_:qP Z "many_at" 2 j c_1x)(_:qP Z "parts_at" 2 j c_z):qP Z "worth_at" 2 (j+1) (oP 2 (b_7 c_q c_1x c_z)):=by
 refine okP tx.C_7 ["kind","number"] λ_=> ?_
 kd_all
theorem z2I {j:Nat}(hj:20<=j)(_:qP Z "count_shorter" 2 20 c_p)(_:qP Z "parts_at" 2 j c_z):qP Z "many_at" 2 (j+1) (oP 3 (kn c_p c_z)):=by
 refine okP tx.C_1x ["kind","number","length"] λ_=> ?_
 kd_all
theorem ok_z {j:Nat}(hj:20<=j)(_:qP Z "count_of" 1 20 c_1)(_:qP Z "worth_at" 2 j c_7):qP Z "parts_at" 2 (j+1) (oP 6 (b_z c_1 c_7)):=by
 refine okP tx.C_z ["kinds","number","parts","rest","kind","count"] λ_=> ?_
 kd_all
theorem ok_y (_:qP Z "need_kind" 1 25 c_u)(_:qP Z "count_of" 1 20 c_1)(_:qP Z "worth_at" 2 40 c_7):qP Z "all_worths" 1 41 (oP 2 (b_y c_u c_1 c_7)):=by
 refine okP tx.C_y ["kind","count"] λ_=> ?_
 kd_all
theorem z2J (_:qP Z "all_worths" 1 41 c_y):qI Z 101 "Sieve" 1 42 (oM 101 2 (z06 c_y)):=by
 refine okI tc.M_Sieve_init ["self","kind","?"] λ_ _=> ?_
 kd_all
theorem ok_x:qM Z 101 "worths" 0 1 (oM 101 1 b_x):=by
 refine okM tc.A_Sieve tc.M_Sieve_worths ["self","?"] λ_ _=> ?_
 kd_all
theorem z2K:qP Z "greatest_divisor" 2 1 (oP 3 z07):=by
 refine okP tx.C_19 ["one","other","rest"] λ_=> ?_
 kd_all
theorem ok_o (_:qP Z "greatest_divisor" 2 1 c_19):qP Z "fraction" 2 2 (oP 3 (b_o c_19)):=by
 refine okP tx.C_o ["up","down","divisor"] λ_=> ?_
 kd_all
theorem ok_g (_:qP Z "fraction" 2 2 c_o):qP Z "plus" 2 3 (oP 2 (b_g c_o)):=by
 refine okP tx.C_g ["one","other"] λ_=> ?_
 kd_all
theorem ok_i (_:qP Z "plus" 2 3 c_g):qP Z "together" 1 4 (oP 3 (b_i c_g)):=by
 refine okP tx.C_i ["fractions","total","each"] λ_=> ?_
 kd_all
theorem z2L (_:qP Z "fraction" 2 2 c_o):qP Z "share_of_word" 2 3 (oP 3 (z08 c_o)):=by
 refine okP tx.C_1j ["kind","word","weights"] λ_=> ?_
 kd_all
 refine QQ.go (by assumption) λ_ _ _ _ C F=>Xd (i:=2) (j:=1) (by decide) hy F hr (by omega) (by rfl) C.m C.F.kp C.b nd (by rfl) (.inl (by rfl)) (by rfl) (tx.z _ (by kernel_rfl)) (by rfl) (tx.z _ (by kernel_rfl)) (pv 2) (pv 1) ?_ (pi' :=pv 2)
 repeat' gp_on
theorem ok_s (_:qP Z "fraction" 2 2 c_o):qP Z "times" 2 3 (oP 2 (b_s c_o)):=by
 refine okP tx.C_s ["one","other"] λ_=> ?_
 kd_all
theorem ok_6 {j:Nat}(hj:20<=j)(_:qP Z "count_of" 1 20 c_1)(_:qP Z "times" 2 3 c_s)(_:qP Z "share_of_word" 2 3 c_1j)(_:qP Z "share_of_parts" 2 j c_1q):qP Z "share_within" 2 (j+1) (oP 3 (b_6 c_1 c_s c_1j c_1q)):=by
 refine okP tx.C_6 ["kind","worth","one_length"] λ_=> ?_
 kd_all
theorem z2M {j:Nat}(hj:20<=j)(_:qP Z "times" 2 3 c_s)(_:qP Z "share_within" 2 j c_6):qP Z "share_of_parts" 2 (j+1) (oP 5 (gR c_s c_6)):=by
 refine okP tx.C_1q ["kinds","parts","share","kind","part"] λ_=> ?_
 kd_all
theorem z2N (_:qP Z "together" 1 4 c_i)(_:qP Z "share_within" 2 40 c_6):qP Z "shares_together" 2 41 (oP 2 (z0a c_i c_6)):=by
 refine okP tx.C_1i ["kind","worths"] λ_=> ?_
 kd_all
theorem z2O (_:qP Z "shares_together" 2 41 c_1i):qM Z 101 "part" 0 42 (oM 101 1 (b_17 c_1i)):=by
 refine okM tc.A_Sieve tc.M_Sieve_part ["self","?"] λ_ _=> ?_
 kd_all
theorem z2P:qM Z 101 "base" 0 1 (oM 101 1 b_10):=by
 refine okM tc.A_Sieve tc.M_Sieve_base ["self","?"] λ_ _=> ?_
 kd_all
theorem ok_m {j:Nat}(hj:2<=j)(_:qP Z "_law_pick" 3 2 c_2)(_:qP Z "_law_rule" 3 j c_m):qP Z "_law_rule" 3 (j+1) (oP 6 (b_m c_2 c_m)):=by
 refine okP tx.C_m ["_law_script","_law_at","_law_deep","_law_way","_law_one","_law_low"] λ_=> ?_
 kd_all
theorem z2Q (_:qP Z "_law_pick" 3 2 c_2)(_:qP Z "_law_rule" 3 10 c_m):qP Z "_law_deed" 2 11 (oP 2 (z0c c_2 c_m)):=by
 refine okP tx.C_18 ["_law_script","_law_at"] λ_=> ?_
 kd_all
theorem ok_l {j:Nat}(hj:0<=j)(_:qP Z "_law_leaves" 1 j c_l):qP Z "_law_leaves" 1 (j+1) (oP 3 (b_l c_l)):=by
 refine okP tx.C_l ["_law_worth","_law_made","_law_part"] λ_=> ?_
 kd_all
theorem ok_d {j:Nat}(hj:8<=j)(_:qP Z "_law_leaves" 1 8 c_l)(_:qP Z "_law_keeps" 2 j c_d):qP Z "_law_keeps" 2 (j+1) (oP 7 (b_d c_l c_d)):=by
 refine okP tx.C_d ["_law_rule_here","_law_worth","_law_numbers","_law_parts","_law_total","_law_number","_law_some"] λ_=> ?_
 kd_all
theorem z2R (_:qP Z "_law_keeps" 2 16 c_d):qP Z "_law_sifted" 2 17 (oP 2 (z0d c_d)):=by
 refine okP tx.C_16 ["_law_worths","_law_deed_here"] λ_=> ?_
 kd_all
theorem z2S (_:qP Z "is_whole" 1 1 c_9):qP Z "is_bound" 1 2 (oP 1 (z0e c_9)):=by
 refine okP tx.C_1g ["thing"] λ_=> ?_
 kd_all
theorem ok_n {j:Nat}(hj:2<=j)(_:qP Z "is_word" 1 1 c_v)(_:qP Z "is_rule_within" 2 j c_n)(_:qP Z "is_bound" 1 2 c_1g):qP Z "is_rule_within" 2 (j+1) (oP 2 (b_n c_v c_n c_1g)):=by
 refine okP tx.C_n ["thing","levels"] λ_=> ?_
 kd_all
theorem ok_a (_:qP Z "is_rule_within" 2 10 c_n):qP Z "is_rule" 1 11 (oP 1 (b_a c_n)):=by
 refine okP tx.C_a ["thing"] λ_=> ?_
 kd_all
theorem z2T (_:qP Z "is_rule" 1 11 c_a):qP Z "need_rule" 1 12 (oP 1 (z0g c_a)):=by
 refine okP tx.C_1f ["rule"] λ_=> ?_
 kd_all
theorem ok_r:qM Z 101 "left" 0 1 (oM 101 1 b_r):=by
 refine okM tc.A_Sieve tc.M_Sieve_left ["self","?"] λ_ _=> ?_
 kd_all
theorem ok_j {j:Nat}(hj:0<=j)(_:qP Z "leaves_of" 1 j c_j):qP Z "leaves_of" 1 (j+1) (oP 3 (b_j c_j)):=by
 refine okP tx.C_j ["worth","leaves","part"] λ_=> ?_
 kd_all
theorem z2U (_:qP Z "is_whole" 1 1 c_9)(_:qP Z "leaves_of" 1 8 c_j):qP Z "numbers_in" 1 9 (oP 1 (z0h c_9 c_j)):=by
 refine okP tx.C_1e ["worth"] λ_=> ?_
 kd_all
theorem z2V:qP Z "parts_of" 1 1 (oP 1 b_1v):=by
 refine okP tx.C_1v ["worth"] λ_=> ?_
 kd_all
theorem z2W:qP Z "are_rising" 1 1 (oP 1 z0k):=by
 refine okP tx.C_1l ["numbers"] λ_=> ?_
 kd_all
theorem z2X:qP Z "are_unlike" 1 1 (oP 1 z0m):=by
 refine okP tx.C_1m ["parts"] λ_=> ?_
 kd_all
theorem z2Y (_:qP Z "parts_of" 1 1 c_1v)(_:qP Z "leaves_of" 1 8 c_j)(_:qP Z "numbers_in" 1 9 c_1e)(_:qP Z "are_rising" 1 1 c_1l)(_:qP Z "are_unlike" 1 1 c_1m):qP Z "is_single_kept" 2 10 (oP 2 (z0o c_1v c_j c_1e c_1l c_1m)):=by
 refine okP tx.C_1b ["rule","worth"] λ_=> ?_
 kd_all
theorem ok_k {j:Nat}(hj:10<=j)(_:qP Z "is_kept" 2 j c_k)(_:qP Z "is_single_kept" 2 10 c_1b):qP Z "is_kept" 2 (j+1) (oP 2 (b_k c_k c_1b)):=by
 refine okP tx.C_k ["rule","worth"] λ_=> ?_
 kd_all
theorem z2Z (_:qP Z "is_kept" 2 18 c_k):qP Z "left_by" 2 19 (oP 3 (z0p c_k)):=by
 refine okP tx.C_1h ["step","worths","is_keep"] λ_=> ?_
 kd_all
theorem z30 (_:qP Z "left_by" 2 19 c_1h):qM Z 101 "do_step" 1 20 (oM 101 2 (z0q c_1h)):=by
 refine okM tc.A_Sieve tc.M_Sieve_do_step ["self","step","?"] λ_ _=> ?_
 kd_all
theorem ok_t (_:qP Z "need_rule" 1 12 c_1f)(_:qM Z 101 "left" 0 1 c_r)(_:qM Z 101 "do_step" 1 20 c_14):qM Z 101 "new_step" 2 21 (oM 101 4 (b_t c_1f c_r c_14)):=by
 refine okM tc.A_Sieve tc.M_Sieve_new_step ["self","word","rule","before","?"] λ_ _=> ?_
 kd_all
theorem z31 (_:qM Z 101 "new_step" 2 21 c_t):qM Z 101 "keep" 1 22 (oM 101 2 (b_1r c_t)):=by
 refine okM tc.A_Sieve tc.M_Sieve_keep ["self","rule","?"] λ_ _=> ?_
 kd_all
theorem z32 (_:qM Z 101 "new_step" 2 21 c_t):qM Z 101 "bar" 1 22 (oM 101 2 (b_1t c_t)):=by
 refine okM tc.A_Sieve tc.M_Sieve_bar ["self","rule","?"] λ_ _=> ?_
 kd_all
theorem z33 (_:qM Z 101 "keep" 1 22 c_1r)(_:qM Z 101 "bar" 1 22 c_1t):qFM Z 101 "_law_did" 1 23 (oM 101 2 (z0r c_1r c_1t)):=by
 refine okFM tx.C__law_did ["_law_sieve","_law_deed_here","?"] λ_=> ?_
 kd_all
theorem z34:qM Z 101 "steps" 0 1 (oM 101 1 b_1k):=by
 refine okM tc.A_Sieve tc.M_Sieve_steps ["self","?"] λ_ _=> ?_
 kd_all
theorem z35:qP Z "_law_plus" 2 1 (oP 6 z0s):=by
 refine okP tx.C_1o ["_law_one","_law_other","_law_up","_law_down","_law_high","_law_low"] λ_=> ?_
 kd_all
theorem ok_e {j:Nat}(hj:1<=j)(_:qP Z "is_whole" 1 1 c_9)(_:qP Z "is_tuple_of" 3 1 c_f)(_:qP Z "words_of_pick" 1 1 c_q)(_:qP Z "have_parts" 2 j c_1s):qP Z "has_worth" 2 (j+1) (oP 2 (b_e c_9 c_f c_q c_1s)):=by
 refine okP tx.C_e ["kind","thing"] λ_=> ?_
 kd_all
theorem z36 {j:Nat}(hj:1<=j)(_:qP Z "has_worth" 2 j c_e):qP Z "have_parts" 2 (j+1) (oP 2 (gY c_e)):=by
 refine okP tx.C_1s ["kinds","parts"] λ_=> ?_
 kd_all
theorem z37 (_:qP Z "need_kind" 1 25 c_u)(_:qP Z "has_worth" 2 21 c_e):qP Z "is_worth" 2 26 (oP 2 (z0u c_u c_e)):=by
 refine okP tx.C_1p ["kind","thing"] λ_=> ?_
 kd_all
theorem z38 (_:qP Z "is_worth" 2 26 c_1p):qP Z "need_worth" 2 27 (oP 2 (z0w c_1p)):=by
 refine okP tx.C_1n ["kind","worth"] λ_=> ?_
 kd_all
theorem ok_5 (_:qP Z "need_worth" 2 27 c_1n)(_:qP Z "share_within" 2 40 c_6):qP Z "share_of" 2 41 (oP 2 (b_5 c_1n c_6)):=by
 refine okP tx.C_5 ["kind","worth"] λ_=> ?_
 kd_all
theorem ok_0 {f:Addr}{fd:FuncData}(C:Fn Z.K Z.mg "law" (top 78) ["_law_script"] f fd)(_:qP Z "_law_all" 1 9 c_4)(_:qP Z "_law_small" 3 18 c_1d)(_:qP Z "share_of" 2 41 c_5)(_:qP Z "_law_plus" 2 1 c_1o)(_:qP Z "_law_deed" 2 11 c_18)(_:qP Z "_law_sifted" 2 17 c_16)(_:qI Z 101 "Sieve" 1 42 c_11)(_:qM Z 101 "left" 0 1 c_r)(_:qM Z 101 "worths" 0 1 c_x)(_:qM Z 101 "part" 0 42 c_17)(_:qM Z 101 "base" 0 1 c_10)(_:qM Z 101 "steps" 0 1 c_1k)(_:qFM Z 101 "_law_did" 1 23 c_12):jw Z.P Z.w Z.K Z.mg Z.base (CX1 Z.P Z.w) 44 f fd ["_law_script"] (spP Z.cl 1 (oS 12 (b_0 c_4 c_1d c_5 c_1o c_18 c_16 c_11 c_r c_x c_17 c_10 c_1k c_12))):=by
 refine okLS C ["_law_script","_law_kind_here","_law_sieve","_law_worths","_law_steps","_law_k","_law_deed_here","_law_some","_law_due","_law_worth","?q","?"] ?_
 kd_all
 refine QI.go (by assumption) λ_ _ _ _ _ _ e g M O F=>Xk (i:=2) (i2:=3) (i3:=4) (q:=10) (j:=11) (w:="?q") (by rfl) nd (by rfl) (by rfl) (by rfl) (by decide) (by decide) (by decide) (by rfl) (by rfl) (by rfl) (by rfl) (by rfl) hy e M F hr (by omega) (by rfl) g O.b hp ?_ ?_ (by rfl)
 repeat' gp_on
end
section
variable {Z:Zz}(tx:Tx Z.K Z.mg)(tc:To Z.K Z.mg Z.cl)
include tx tc
theorem GL {f:Addr}{fd:FuncData}(C:Fn Z.K Z.mg "law" (top 78) ["_law_script"] f fd):jw Z.P Z.w Z.K Z.mg Z.base (CX1 Z.P Z.w) 44 f fd ["_law_script"] (spP Z.cl 1 f_0):=by
 have O_1u:qP Z "_law_cell" 2 1 gM:=z2A tx tc;have O_2:qP Z "_law_pick" 3 2 f_2:=ok_2 tx tc O_1u;have O_15:qP Z "_law_word_of" 2 3 km:=z2B tx tc O_2;have O_1a:qP Z "_law_leaf_kind" 2 4 gN:=z2C tx tc O_2 O_15;have R_h:∀n:Nat,qP Z "_law_kind" 3 (4+n) (S_h n 0):=by
  intro n
  induction n with
  | zero=>exact okB tx.C_h
  | succ n ih=>exact ok_h tx tc (aD _ _) O_2 O_1a ih
 have O_h:qP Z "_law_kind" 3 12 (f_h 8):=(R_h 8);have O_c:qP Z "_law_rows_of" 1 1 f_c:=ok_c tx tc;have R_4:∀n:Nat,qP Z "_law_all" 1 (1+n) (S_4 n 0):=by
  intro n
  induction n with
  | zero=>exact okB tx.C_4
  | succ n ih=>exact ok_4 tx tc (aD _ _) ih O_c
 have O_4:qP Z "_law_all" 1 9 (f_4 8):=(R_4 8);have R_b:∀n:Nat,qP Z "_law_size" 1 (9+n) (S_b n 0):=by
  intro n
  induction n with
  | zero=>exact okB tx.C_b
  | succ n ih=>exact ok_b tx tc (aD _ _) O_4 ih
 have O_b:qP Z "_law_size" 1 17 (f_b 8):=(R_b 8);have O_1d:qP Z "_law_small" 3 18 gO:=z2D tx tc O_h O_b;have O_9:qP Z "is_whole" 1 1 f_9:=ok_9 tx tc;have O_1w:qP Z "is_span" 4 2 z02:=z2E tx tc O_9;have O_f:qP Z "is_tuple_of" 3 1 f_f:=ok_f tx tc;have O_v:qP Z "is_word" 1 1 f_v:=ok_v tx tc;have O_13:qP Z "is_choice" 1 2 Xl:=z2F tx tc O_9 O_f O_v;have O_1c:qP Z "are_choices" 1 3 gP:=z2G tx tc O_f O_13;have R_8:∀n:Nat,qP Z "is_kind_within" 2 (3+n) (S_8 n 0)/\qP Z "are_kinds_within" 2 (3+n) (S_8 n 1):=by
  intro n
  induction n with
  | zero=>exact⟨okB tx.C_8,okB tx.C_1y⟩
  | succ n ih=>exact⟨ok_8 tx tc (aD _ _) O_1w ih.1 O_1c ih.2,z2H tx tc (aD _ _) O_f ih.1⟩
 have O_8:qP Z "is_kind_within" 2 23 (f_8 20):=(R_8 20).1;have O_1y:qP Z "are_kinds_within" 2 23 (f_1y 20):=(R_8 20).2;have O_3:qP Z "is_kind" 1 24 f_3:=ok_3 tx tc O_8;have O_u:qP Z "need_kind" 1 25 f_u:=ok_u tx tc O_3;have R_1:∀n:Nat,qP Z "count_of" 1 (0+n) (S_1 n 0)/\qP Z "count_of_parts" 1 (0+n) (S_1 n 1)/\qP Z "count_shorter" 2 (0+n) (S_1 n 2):=by
  intro n
  induction n with
  | zero=>exact⟨okB tx.C_1,okB tx.C_w,okB tx.C_p⟩
  | succ n ih=>exact⟨ok_1 tx tc (aD _ _) ih.2.1 ih.2.2,ok_w tx tc (aD _ _) ih.1,ok_p tx tc (aD _ _) ih.2.1⟩
 have O_1:qP Z "count_of" 1 20 (f_1 20):=(R_1 20).1;have O_w:qP Z "count_of_parts" 1 20 (f_w 20):=(R_1 20).2.1;have O_p:qP Z "count_shorter" 2 20 (f_p 20):=(R_1 20).2.2;have O_q:qP Z "words_of_pick" 1 1 f_q:=ok_q tx tc;have R_7:∀n:Nat,qP Z "worth_at" 2 (20+n) (S_7 n 0)/\qP Z "many_at" 2 (20+n) (S_7 n 1)/\qP Z "parts_at" 2 (20+n) (S_7 n 2):=by
  intro n
  induction n with
  | zero=>exact⟨okB tx.C_7,okB tx.C_1x,okB tx.C_z⟩
  | succ n ih=>exact⟨ok_7 tx tc (aD _ _) O_q ih.2.1 ih.2.2,z2I tx tc (aD _ _) O_p ih.2.2,ok_z tx tc (aD _ _) O_1 ih.1⟩
 have O_7:qP Z "worth_at" 2 40 (f_7 20):=(R_7 20).1;have O_1x:qP Z "many_at" 2 40 (f_1x 20):=(R_7 20).2.1;have O_z:qP Z "parts_at" 2 40 (f_z 20):=(R_7 20).2.2;have O_y:qP Z "all_worths" 1 41 f_y:=ok_y tx tc O_u O_1 O_7;have O_11:qI Z 101 "Sieve" 1 42 Xm:=z2J tx tc O_y;have O_x:qM Z 101 "worths" 0 1 f_x:=ok_x tx tc;have O_19:qP Z "greatest_divisor" 2 1 gQ:=z2K tx tc;have O_o:qP Z "fraction" 2 2 f_o:=ok_o tx tc O_19;have O_g:qP Z "plus" 2 3 f_g:=ok_g tx tc O_o;have O_i:qP Z "together" 1 4 f_i:=ok_i tx tc O_g;have O_1j:qP Z "share_of_word" 2 3 z09:=z2L tx tc O_o;have O_s:qP Z "times" 2 3 f_s:=ok_s tx tc O_o;have R_6:∀n:Nat,qP Z "share_within" 2 (20+n) (S_6 n 0)/\qP Z "share_of_parts" 2 (20+n) (S_6 n 1):=by
  intro n
  induction n with
  | zero=>exact⟨okB tx.C_6,okB tx.C_1q⟩
  | succ n ih=>exact⟨ok_6 tx tc (aD _ _) O_1 O_s O_1j ih.2,z2M tx tc (aD _ _) O_s ih.1⟩
 have O_6:qP Z "share_within" 2 40 (f_6 20):=(R_6 20).1;have O_1q:qP Z "share_of_parts" 2 40 (f_1q 20):=(R_6 20).2;have O_1i:qP Z "shares_together" 2 41 z0b:=z2N tx tc O_i O_6;have O_17:qM Z 101 "part" 0 42 Xn:=z2O tx tc O_1i;have O_10:qM Z 101 "base" 0 1 Vx:=z2P tx tc;have R_m:∀n:Nat,qP Z "_law_rule" 3 (2+n) (S_m n 0):=by
  intro n
  induction n with
  | zero=>exact okB tx.C_m
  | succ n ih=>exact ok_m tx tc (aD _ _) O_2 ih
 have O_m:qP Z "_law_rule" 3 10 (f_m 8):=(R_m 8);have O_18:qP Z "_law_deed" 2 11 ko:=z2Q tx tc O_2 O_m;have R_l:∀n:Nat,qP Z "_law_leaves" 1 (0+n) (S_l n 0):=by
  intro n
  induction n with
  | zero=>exact okB tx.C_l
  | succ n ih=>exact ok_l tx tc (aD _ _) ih
 have O_l:qP Z "_law_leaves" 1 8 (f_l 8):=(R_l 8);have R_d:∀n:Nat,qP Z "_law_keeps" 2 (8+n) (S_d n 0):=by
  intro n
  induction n with
  | zero=>exact okB tx.C_d
  | succ n ih=>exact ok_d tx tc (aD _ _) O_l ih
 have O_d:qP Z "_law_keeps" 2 16 (f_d 8):=(R_d 8);have O_16:qP Z "_law_sifted" 2 17 ku:=z2R tx tc O_d;have O_1g:qP Z "is_bound" 1 2 z0f:=z2S tx tc O_9;have R_n:∀n:Nat,qP Z "is_rule_within" 2 (2+n) (S_n n 0):=by
  intro n
  induction n with
  | zero=>exact okB tx.C_n
  | succ n ih=>exact ok_n tx tc (aD _ _) O_v ih O_1g
 have O_n:qP Z "is_rule_within" 2 10 (f_n 8):=(R_n 8);have O_a:qP Z "is_rule" 1 11 f_a:=ok_a tx tc O_n;have O_1f:qP Z "need_rule" 1 12 gS:=z2T tx tc O_a;have O_r:qM Z 101 "left" 0 1 f_r:=ok_r tx tc;have R_j:∀n:Nat,qP Z "leaves_of" 1 (0+n) (S_j n 0):=by
  intro n
  induction n with
  | zero=>exact okB tx.C_j
  | succ n ih=>exact ok_j tx tc (aD _ _) ih
 have O_j:qP Z "leaves_of" 1 8 (f_j 8):=(R_j 8);have O_1e:qP Z "numbers_in" 1 9 z0i:=z2U tx tc O_9 O_j;have O_1v:qP Z "parts_of" 1 1 z0j:=z2V tx tc;have O_1l:qP Z "are_rising" 1 1 z0l:=z2W tx tc;have O_1m:qP Z "are_unlike" 1 1 z0n:=z2X tx tc;have O_1b:qP Z "is_single_kept" 2 10 gT:=z2Y tx tc O_1v O_j O_1e O_1l O_1m;have R_k:∀n:Nat,qP Z "is_kept" 2 (10+n) (S_k n 0):=by
  intro n
  induction n with
  | zero=>exact okB tx.C_k
  | succ n ih=>exact ok_k tx tc (aD _ _) ih O_1b
 have O_k:qP Z "is_kept" 2 18 (f_k 8):=(R_k 8);have O_1h:qP Z "left_by" 2 19 gU:=z2Z tx tc O_k;have O_14:qM Z 101 "do_step" 1 20 kv:=z30 tx tc O_1h;have O_t:qM Z 101 "new_step" 2 21 f_t:=ok_t tx tc O_1f O_r O_14;have O_1r:qM Z 101 "keep" 1 22 gW:=z31 tx tc O_t;have O_1t:qM Z 101 "bar" 1 22 gX:=z32 tx tc O_t;have O_12:qFM Z 101 "_law_did" 1 23 vK:=z33 tx tc O_1r O_1t;have O_1k:qM Z 101 "steps" 0 1 kx:=z34 tx tc;have O_1o:qP Z "_law_plus" 2 1 z0t:=z35 tx tc;have R_e:∀n:Nat,qP Z "has_worth" 2 (1+n) (S_e n 0)/\qP Z "have_parts" 2 (1+n) (S_e n 1):=by
  intro n
  induction n with
  | zero=>exact⟨okB tx.C_e,okB tx.C_1s⟩
  | succ n ih=>exact⟨ok_e tx tc (aD _ _) O_9 O_f O_q ih.2,z36 tx tc (aD _ _) ih.1⟩
 have O_e:qP Z "has_worth" 2 21 (f_e 20):=(R_e 20).1;have O_1s:qP Z "have_parts" 2 21 (f_1s 20):=(R_e 20).2;have O_1p:qP Z "is_worth" 2 26 z0v:=z37 tx tc O_u O_e;have O_1n:qP Z "need_worth" 2 27 z0x:=z38 tx tc O_1p;have O_5:qP Z "share_of" 2 41 f_5:=ok_5 tx tc O_1n O_6;exact ok_0 tx tc C O_4 O_1d O_5 O_1o O_18 O_16 O_11 O_r O_x O_17 O_10 O_1k O_12
end
noncomputable def VP:List Str:=["NoKind","NoWorth","NoRule","TooMany","Ended","NoText","NoBack"]
noncomputable def clK (K:a8)(c:Nat):Value:=match eV K mainGlobals (if c=101 then ("Sieve":Str) else if c=102 then "Finder" else VP.getD c "") with
 | some (some v)=>v
 | _=> .none
theorem clK_at {K:a8}{c:Nat}{x:Str}{q:Addr}(hx:(if c=101 then ("Sieve":Str) else if c=102 then "Finder" else VP.getD c "")=x)(h:eV K mainGlobals x=some (some (.ref q))):clK K c= .ref q:=by unfold clK;rw[hx,h]
theorem lz1 {fd:FuncData}{p0:Str}(us:List Value)(hl:us.length=1)(h:∀a0,bindArgs fd ⟨[a0],[]⟩=pure ([p0].zip [a0])):bindArgs fd ⟨us,[]⟩=pure ([p0].zip us):=match us,hl with | [a0],_=>h a0
theorem lz2 {fd:FuncData}{p0 p1:Str}(us:List Value)(hl:us.length=2)(h:∀a0 a1,bindArgs fd ⟨[a0,a1],[]⟩=pure ([p0,p1].zip [a0,a1])):bindArgs fd ⟨us,[]⟩=pure ([p0,p1].zip us):=match us,hl with | [a0,a1],_=>h a0 a1
theorem lz3 {fd:FuncData}{p0 p1 p2:Str}(us:List Value)(hl:us.length=3)(h:∀a0 a1 a2,bindArgs fd ⟨[a0,a1,a2],[]⟩=pure ([p0,p1,p2].zip [a0,a1,a2])):bindArgs fd ⟨us,[]⟩=pure ([p0,p1,p2].zip us):=match us,hl with | [a0,a1,a2],_=>h a0 a1 a2
theorem lz4 {fd:FuncData}{p0 p1 p2 p3:Str}(us:List Value)(hl:us.length=4)(h:∀a0 a1 a2 a3,bindArgs fd ⟨[a0,a1,a2,a3],[]⟩=pure ([p0,p1,p2,p3].zip [a0,a1,a2,a3])):bindArgs fd ⟨us,[]⟩=pure ([p0,p1,p2,p3].zip us):=match us,hl with | [a0,a1,a2,a3],_=>h a0 a1 a2 a3
theorem fn1 {K:a8}{h:Heap}{mg:Str->Option Value}{f:Addr}{od an:Option Addr}{sl:Array (Option Value)}{oc kV dc pm cd ct:Value}{x:Str}{st:Stmt}{ps:List Str}(X:K.In h)(G:h.Ns mainGlobals mg)(e:eV K mainGlobals x=some (some (.ref f)))(l:K.lookup f=some ⟨oc,od,.func (bq x x (Zy st) (zT st) (zx st) .none kV dc pm an cd ct),sl⟩)(g:cV K cd x=true)(k:bu K (.ref f)=true)
  (hb:∀F:Fun K x x st f (bq x x (Zy st) (zT st) (zx st) .none kV dc pm an cd ct),L2.Binds K (bq x x (Zy st) (zT st) (zx st) .none kV dc pm an cd ct) ps []):Fn K mg x st ps f (bq x x (Zy st) (zT st) (zx st) .none kV dc pm an cd ct):=
 have F:=Vf (st:=st) l g k
 ⟨F,hb F,PySem.W.mg_of X G e⟩
theorem zs_of {K:a8}{h:Heap}{mg:Str->Option Value}{zs:List Str}(X:K.In h)(G:h.Ns mainGlobals mg)(hz:(zs.all λx=>eV K mainGlobals x == some none)=true):∀x,zs.contains x=true->mg x=none:=λx hx=>PySem.W.mg_none_of X G (beq_iff_eq.mp (aL.mp hz x (f8.mp hx)))
theorem fo1 {K:a8}{f C:Addr}{od an:Option Addr}{sl:Array (Option Value)}{oc kV dc pm cd ct:Value}{x qual:Str}{st:Stmt}{ps:List Str}(i:bj K (.ref C) x=some (some (.ref f)))(l:K.lookup f=some ⟨oc,od,.func (bq x qual (Zy st) (zT st) (zx st) .none kV dc pm an cd ct),sl⟩)(g:cV K cd qual=true)(k:bu K (.ref f)=true)(fn:eM K (.ref f)=true)
  (hb:∀F:Fun K x qual st f (bq x qual (Zy st) (zT st) (zx st) .none kV dc pm an cd ct),L2.Binds K (bq x qual (Zy st) (zT st) (zx st) .none kV dc pm an cd ct) ps []):FnO K x qual st ps f (bq x qual (Zy st) (zT st) (zx st) .none kV dc pm an cd ct) C:=
 have F:=Vf (st:=st) l g k
 ⟨F,hb F,⟨i,fn,k⟩⟩
theorem no_of {K:a8}{C:Addr}{as:List Str}(hz:(as.all λx=>bj K (.ref C) x == some none)=true):∀x,as.contains x=true->L2.NoAttr K C x:=λx hx=>beq_iff_eq.mp (aL.mp hz x (f8.mp hx))
noncomputable abbrev Tx' {K:a8}{h:Heap}(_:K.In h)(mg:Str->Option Value):Prop:=Tx K mg
noncomputable abbrev To' {K:a8}{h:Heap}(_:K.In h)(mg:Str->Option Value):Prop:=To K mg (clK K)
theorem fin_ {l:PySem.W.OpenLaw}{w:World}{K:a8}{h:Heap}{mg:Str->Option Value}{fa:Addr}(X:K.In h)(G:h.Ns mainGlobals mg)(hfa:mg "law"=some (.ref fa))(tx:Tx K mg)(tc:To K mg (clK K)):∃fd:FuncData,(∀(s:Shared) (v:Value),BindsTo s fd ⟨[v],[]⟩ [("_law_script",v)])/\∀base:Heap,K.In base->base.Ns mainGlobals mg->jw l.prog w K mg base (CX1 l.prog w) 44 fa fd ["_law_script"] (spP (clK K) 1 f_0):=by
 obtain⟨f,fd,C⟩:=tx.C_0;have e:=hfa.symm.trans C.m;cases e;obtain⟨oc,od,kV,doc,pm,an,cdv,ct,osl,rfl,lk,hcd⟩:=C.F.ex;exact⟨_,λs v=> .of_eq rfl,λbase KB _=>GL (Z:=⟨l.prog,w,K,mg,base,(clK K)⟩) tx tc C⟩
noncomputable def uS (K:a8):Bool:=K.all λp=> !(p.2.cls == Value.type "list")
theorem kd {K:a8}(h:uS K=true){a:Addr}{o:Obj}(e:K.lookup a=some o)(c:o.cls=Value.type "list"):False:=by
 have hm:(a,o)∈K:=by
  clear h
  induction K with
  | nil=>cases e
  | cons p r ih=>
   obtain⟨b,u⟩:=p
   by_cases hb:a=b
   ·subst hb;have e' :some u=some o:=by simpa[aA] using e
    cases e';exact ad
   ·have e' :r.lookup a=some o:=by rw[aA,(beq_eq_false_iff_ne.mpr hb)]at e;exact e
    exact a9 _ (ih e')
 have:=aL.mp h _ hm;rw[c]at this;simp at this
theorem GM {cl:Nat->Value}{K:a8}{H:Hp}{a:Addr}{ns:List Int}(hL:f_0 [.fz (ns.map T.int)]= .ok (.bl true))(hK:uS K=true)(hO:GP H)(hS:SqL K H a (ns.map V.int)):spP cl 1 f_0 [.ref a] H (λv _=>v= .bl true) λ_ _ _=>False:=by
 have scrR:∀ns:List Int,zI H (ns.map V.int) (ns.map T.int):=λns=>by
  induction ns with
  | nil=>exact .nil
  | cons n r ih=>exact .cons (.int n) ih
 rcases hS with (h | ⟨o,h⟩) | ⟨o,its,n,e,c,_⟩
 ·rcases hO a with z | ⟨ob,xs,z⟩ <;> (rw[h]at z;cases z)
 ·refine⟨H,[.fz (ns.map T.int)],rfl,zy.refl H,.cons (.fz h (scrR ns)) .nil, ?_⟩;rw[hL];intro v H' _ r;cases r;rfl
 ·exact(kd hK e c).elim
theorem walk {l:PySem.W.OpenLaw}{q:Program}{loose:List Str}{XP:(Str->Option Value)->Heap->Prop}{YP:World->Heap->Prop}{d:DefRec}{K:Params->a8}(hn:l.most=some 63)(hdf:d.params.defaults=[])
  (hL:∀ns:List Int,ns.length<=63->f_0 [.fz (ns.map T.int)]= .ok (.bl true)) (hK:∀p,uS (K p)=true)
  (hY:∀(w:World) (h:Heap),YP w h->(K w.params).In h)
  (F:∀(w:World) (mg:Str->Option Value) (fa:Addr) (h:Heap),(K w.params).In h->h.Ns mainGlobals mg->mg d.name=some (.ref fa)->
   ∃fd:FuncData,(∀(s:Shared) (u:Value),BindsTo s fd ⟨[u],[]⟩ [("_law_script",u)])/\∀base:Heap,(K w.params).In base->base.Ns mainGlobals mg->jw l.prog w (K w.params) mg base (CX1 l.prog w) 44 fa fd ["_law_script"] (spP (clK (K w.params)) 1 f_0)):
  PySem.W.WalkO q loose XP YP l.row.toRowW d [] (λf vs=>iC f vs):=
 L2.walk_of (n:=63) (k:=44) (x:="_law_script") (CX:=λw=>(CX1 l.prog w)) (sp:=λw=>spP (clK (K w.params)) 1 f_0) hn (by decide) hdf ⟨rfl,by decide,by decide,rfl⟩ hY F (λw H a ns hl hO hS=>GM (hL ns hl) (hK w.params) hO hS) λ_ _ _ _ _ ⟨_,_,_,_,_,_,_,z⟩=>z
end G
namespace PySem.W.Fast
noncomputable def tw13371206935460739143:=0
noncomputable def tw6079058344509103502:=0
noncomputable def tw13969742761069488699:=0
noncomputable def tw14946850449083881422:=0
noncomputable def tw16301547374364356736:=0
noncomputable def tw17509106270503235383:=0
noncomputable def tw15334031152243944819:=0
noncomputable def tw4612268165313300272:=0
noncomputable def tw2500326910874103949:=0
noncomputable def tw82281727991955971:=0
noncomputable def tw15993414459550026369:=0
noncomputable def tw13913156279283110266:=0
noncomputable def tw10656344245398770926:=0
noncomputable def tw17426278284167613175:=0
noncomputable def tw17878773327473865886:=0
noncomputable def tw14995713441585040744:=0
noncomputable def tw5697721977937282946:=0
noncomputable def tw11739917481561068627:=0
noncomputable def tw16077159280833233646:=0
noncomputable def tw18047009895827078544:=0
noncomputable def tw16165877124455165928:=0
noncomputable def tw11254103112851919908:=0
noncomputable def tw11931069656101542837:=0
noncomputable def tw15226701129448926654:=0
noncomputable def tw15784671869290375324:=0
noncomputable def tw17233823504660910892:=0
noncomputable def tw15015992478454975079:=0
noncomputable def tw18372763205526021543:=0
noncomputable def tw14616070262344328947:=0
noncomputable def tw17237143673041994919:=0
noncomputable def tw12070557323031623859:=0
noncomputable def tw10297803842010033620:=0
noncomputable def tw5658721122590296551:=0
noncomputable def tw13383821346199592231:=0
noncomputable def tw14837289235644131189:=0
noncomputable def tw2381123116521577936:=0
noncomputable def tw11782105563233466957:=0
noncomputable def tw8649738128476558079:=0
noncomputable def tw4455615517559661406:=0
noncomputable def tw309571808828229448:=0
noncomputable def tw7494363370693698842:=0
noncomputable def tw6097241360487268123:=0
noncomputable def tw2122325513262012061:=0
noncomputable def tw15784871041141279104:=0
noncomputable def tw11896602193090573004:=0
noncomputable def tw10549354009193847316:=0
noncomputable def tw3428357082473289481:=0
noncomputable def tw15891267076805951111:=0
noncomputable def tw8628702560348541071:=0
noncomputable def tw1226361531154405133:=0
noncomputable def tw16965074478146317949:=0
noncomputable def tw7845248074759484707:=0
noncomputable def tw660672281002889009:=0
noncomputable def tw17299920830663411295:=0
noncomputable def tw8752733367538455110:=0
noncomputable def tw5969444773599369131:=0
noncomputable def tw7277507242322336212:=0
noncomputable def tw10749094291481155857:=0
noncomputable def tw4122065040507743377:=0
noncomputable def tw10151269924006281290:=0
noncomputable def tw15623850772707947773:=0
noncomputable def tw3823307545254841450:=0
noncomputable def tw17988994230824540196:=0
noncomputable def tw4323782763915225306:=0
noncomputable def tw3365737041659775099:=0
noncomputable def tw10520581889249823301:=0
noncomputable def tw9080115077711799986:=0
noncomputable def tw236206452093842526:=0
noncomputable def tw1909321991879456263:=0
noncomputable def tw4574013053956788840:=0
noncomputable def tw8270926471235066462:=0
noncomputable def tw3659972568635108943:=0
noncomputable def tw3750259340272694527:=0
noncomputable def tw1276770039007031919:=0
noncomputable def tw15959675902788290405:=0
noncomputable def tw15981418036490908649:=0
noncomputable def tw16327289479751724457:=0
noncomputable def tw13483725801879378124:=0
noncomputable def tw17802502287013863954:=0
noncomputable def tw4535113855630755459:=0
noncomputable def tw14545756504238698872:=0
noncomputable def tw14762250477115344080:=0
noncomputable def tw5607167093654271829:=0
noncomputable def tw4450892151086020228:=0
noncomputable def tw18147602249852309551:=0
noncomputable def tw10615594244773053739:=0
noncomputable def tw5606215433039623014:=0
noncomputable def tw12552662787938729265:=0
noncomputable def tw11377790277129152080:=0
noncomputable def tw14835787348458290132:=0
noncomputable def tw10239642553960309114:=0
noncomputable def tw7761819654754140465:=0
noncomputable def tw2513153250784934292:=0
noncomputable def tw478423968544303885:=0
noncomputable def tw892019981421270202:=0
noncomputable def tw7964290892164144685:=0
noncomputable def tw7645181250353527402:=0
noncomputable def tw1735213810193729921:=0
noncomputable def tw6709783709370179489:=0
noncomputable def tw6528725782163529251:=0
noncomputable def tw14224395565514703303:=0
noncomputable def tw4380059590713364080:=0
noncomputable def tw10177879500532440541:=0
noncomputable def tw7892962207777342334:=0
noncomputable def tw5072727848028960861:=0
noncomputable def tw3173625992145624195:=0
noncomputable def tw9801713558225257876:=0
noncomputable def tw18295437576714646563:=0
noncomputable def tw5035838035028776113:=0
noncomputable def tw1753738231231422030:=0
noncomputable def tw15477486264241412956:=0
noncomputable def tw4713825970315652681:=0
noncomputable def tw7213251395398678911:=0
noncomputable def tw11122332728702677819:=0
noncomputable def tw8465861103092111849:=0
noncomputable def tw9653500047085737615:=0
noncomputable def tw15105596469365606532:=0
noncomputable def tw8940113443046628402:=0
noncomputable def tw6885232075470192568:=0
noncomputable def tw12549562460194768226:=0
noncomputable def tw9399570629757944451:=0
noncomputable def tw4534157770662491767:=0
noncomputable def tw9139681302811493539:=0
noncomputable def tw17582170423649478052:=0
noncomputable def tw7424544571626343718:=0
noncomputable def tw7098356736520473660:=0
noncomputable def tw18443893579522348625:=0
noncomputable def tw13056310204809463819:=0
noncomputable def tw11225627229799773722:=0
noncomputable def tw14626769145085948730:=0
noncomputable def tw12333518142001189967:=0
noncomputable def tw170198066733465507:=0
noncomputable def tw4368639303105103298:=0
noncomputable def tw10564035000466014528:=0
noncomputable def tw18318578785134480820:=0
noncomputable def tw6965825763706473969:=0
noncomputable def tw4151582810862569505:=0
noncomputable def tw15417158143129680410:=0
noncomputable def tw5125902664295113273:=0
noncomputable def tw10860478712918299872:=0
noncomputable def tw4189950172913408251:=0
noncomputable def tw9081624703484270843:=0
noncomputable def tw9976500641182197019:=0
noncomputable def tw15691563004339893933:=0
noncomputable def tw14714905941200567680:=0
noncomputable def tw16095974407772500657:=0
noncomputable def tw10477676584017321843:=0
noncomputable def tw831342447935882686:=0
noncomputable def tw7013985662166849859:=0
noncomputable def tw10634326347907122024:=0
noncomputable def tw5876959087769469017:=0
noncomputable def tw15400184048693137779:=0
noncomputable def tw4758895992869448666:=0
noncomputable def tw231141913942873292:=0
noncomputable def tw1009124854498778233:=0
noncomputable def tw5424986112765007636:=0
noncomputable def tw109158169261034474:=0
noncomputable def tw14522936326859764736:=0
noncomputable def tw10638922735863580341:=0
noncomputable def tw13576832178274547800:=0
noncomputable def tw11806055112859735898:=0
noncomputable def tw10088271194055236505:=0
noncomputable def tw5293969769987691087:=0
noncomputable def tw4400588453461056550:=0
noncomputable def tw8034589193230969654:=0
noncomputable def tw12998698195983583543:=0
noncomputable def tw8666405142187139964:=0
noncomputable def tw5902155916273151518:=0
noncomputable def tw4544691064729446322:=0
noncomputable def tw1042971423197573298:=0
noncomputable def tw1547122291130187234:=0
noncomputable def tw9694406580107467764:=0
noncomputable def tw7512513934667417665:=0
noncomputable def tw3350383275291420309:=0
noncomputable def tw11901359094940539910:=0
noncomputable def tw14209887293553499634:=0
noncomputable def tw2885822906093621199:=0
end PySem.W.Fast
open PySem PySem.W PyProof.Rows
set_option maxRecDepth 100000 in
set_option maxHeartbeats 0 in
theorem PySem.Challenge.cw_worthkinds_k81_whole_sieves_holds : PySem.Challenge.rw_worthkinds_k81_whole_sieves.Holds := by
 w_on; o_law; k_head; (case hw=>w_witness2)
 k_fill
 refine G.walk (l:=PySem.Challenge.rw_worthkinds_k81_whole_sieves) rfl rfl G.law_ok ?nl (fun w h Y=>PySem.W.kIn_of Y) ?F
 case nl=>intro p; kernel_rfl
 case F=>
  intro w mg fa h KX G0 hmg
  have tx:G.Tx' KX mg:=by
   constructor
   all_goals first
    | (refine' ⟨_,_,G.fn1 KX G0 ?e ?l ?g ?k (fun F=>F.binds fun _ _ _ _ _ _ us hl=>by first | exact G.lz1 us hl fun _=>rfl | exact G.lz2 us hl fun _ _=>rfl | exact G.lz3 us hl fun _ _ _=>rfl | exact G.lz4 us hl fun _ _ _ _=>rfl)⟩; (case e | l | g | k=>k_is))
    | exact ⟨_,PySem.W.mg_of KX G0 (by k_is),_,rfl⟩
    | exact G.zs_of KX G0 (by kernel_rfl)
  have tc:G.To' KX mg:=by
   constructor
   ·refine' ⟨_,G.clK_at (x:="Sieve") rfl ?ze,⟨?zp, ?zh, ?zo, ?zs⟩,G.no_of ?zn⟩; (case ze=>k_is); (case zp | zh | zo | zs | zn=>kernel_rfl)
   all_goals first
    | (refine' ⟨_,_,_,_,G.clK_at (x:="Sieve") rfl ?ze,G.fo1 ?zi ?zl ?zg ?zk ?zf (fun F=>F.binds fun _ _ _ _ _ _ us hl=>by first | exact G.lz1 us hl fun _=>rfl | exact G.lz2 us hl fun _ _=>rfl | exact G.lz3 us hl fun _ _ _=>rfl | exact G.lz4 us hl fun _ _ _ _=>rfl)⟩; (case ze | zi | zl | zg | zk=>k_is); (case zf=>kernel_rfl))
    | (refine' ⟨_,_,_,_,G.clK_at (x:="Sieve") rfl ?ze,PySem.W.mg_of KX G0 ?ze,⟨?zm, ?zi, ?zf, ?zc⟩,G.fo1 ?zi ?zl ?zg ?zk ?zf (fun F=>F.binds fun _ _ _ _ _ _ us hl=>by first | exact G.lz1 us hl fun _=>rfl | exact G.lz2 us hl fun _ _=>rfl | exact G.lz3 us hl fun _ _ _=>rfl | exact G.lz4 us hl fun _ _ _ _=>rfl)⟩; (case ze | zi | zl | zg | zk | zc=>k_is); (case zf | zm=>kernel_rfl))
  refine' G.fin_ KX G0 hmg tx tc
